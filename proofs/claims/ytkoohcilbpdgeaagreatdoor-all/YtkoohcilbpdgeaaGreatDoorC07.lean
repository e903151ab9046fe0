import Derived.Shelf.Strconv.Itoa4
import Derived.Test.YtkoohcilbpdgeaaGreatDoorProg
import Derived.WalkKit
import Derived.Test.YtkoohcilbpdgeaaGreatDoorC06
set_option linter.all false
set_option linter.unusedVariables false
set_option linter.unusedSimpArgs false
set_option linter.unnecessarySimpa false
set_option linter.constructorNameAsVariable false
set_option linter.deprecated false
set_option maxRecDepth 100000
set_option maxHeartbeats 6400000
namespace Go.Proofs.YtkoohcilbpdgeaaGreatDoor
open Go Go.RowKit
attribute [local go_sem] wrap64_byte
def paM (s:zeV):Nat→Nat→Bool→List (zeV×zeV)→Nat×Bool×List (zeV×zeV)
 |0,a,d,l=>(a,d,l)
 |n+1,a,d,l=>if pk s a d==59 then
   let v:=je s (a+1) d
   paM s n v.1 (v.2.1||(zr v.2.2.1 l 0 != -1)) (l++[(v.2.2.1,v.2.2.2)])
  else(a,d,l)
def raM (s:zeV):List (zeV×zeV)×Bool:=
 if s.size=0 then([],false) else
 let v:=je s 0 false
 let p:=paM s (s.size+1) v.1 v.2.1 [(v.2.2.1,v.2.2.2)]
 (p.2.2,z1n s p.1 p.2.1)
def zdq (s:zeV)(w:World)(e:Ending)(w':World):Prop:= ∃v,e= .returned (.tuple #[v,.bool (raM s).2])∧w'.ownsRow w.heap.size 123 2 v (raM s).1.length (((raM s).1.map zu).flatten)∧Below w.heap.size w w'
theorem info123:(Tryz.prog.info? 123).map (fun i=>(i.zero,i.size,i.bytes))=some (some (.agg #[.string ⟨#[]⟩,.string ⟨#[]⟩]),2,32):=by kernel_rfl
theorem z10 {s:zeV}{d:Bool}{c:UInt8}{a:Nat}(h:pk s a d=(c.toNat:Int)):zy s d [c] a=(a+1,d):=by rw [jf h];rfl
theorem zaz {s:zeV}{a:Nat}{d:Bool}(h:a≤s.size):a≤(je s a d).1:=by
 unfold je
 simp only
 have h1:=z3p (p:=zp) (by decide) (m:=8) (d:=d) h
 have h2:=z0f s (zo s a d).2.1 [61] (zo s a d).1 h1.2
 have h3:=z36 zD (by decide) s (zy s (zo s a d).2.1 [61] (zo s a d).1).2 20 _ h2.2
 unfold zo at*
 omega
theorem z2d (s:zeV)(w:World)(hs:s.size≤600):
  Calls Tryz.prog 41 #[.string s] w fun e w'=>zdq s w e w':=by
 have hmade:=World.ownsRow_made (base:=w.heap.size) (e:=123) (size:=2) w #[] 0 (zeK _) (by decide) (by simp)
 have HM:=z8 hmade
 by_cases h0:s.size=0
 ·have hs0:s=⟨#[]⟩:=by cases s;simp_all [ByteArray.size]
  subst hs0
  have hra:Hid (raM ⟨#[]⟩=([],false)):=z8 rfl
  have hB0:=z8 ((zeU w.heap.size w).alloc (zeK _) (.cells #[] 123))
  clear hmade
  go_enter Tryz.func41,Tryz.ntmps41
  go_wp2_with fail
  go_ret2
  exact⟨_,by rw [hra.out];rfl,by rw [hra.out];exact HM.out,hB0.out⟩
 ·have hs0:(s.toList==([]:List UInt8))=false:=by
   rw [zeJ]
   cases hq:(s.data.toList==([]:List UInt8)) with
   |false=>rfl
   |true=>simp at hq;exact absurd (show s.size=0 by simp [ByteArray.size,hq]) h0
  clear hmade
  have hrd0:Rd ((w.alloc (.cells #[] 123)).alloc (.cells #[.string s,.int .i64 0,.bool false,.slice none 0 0,.slice none 0 0,.slice none 0 0,.slice none 0 0] 66)) (w.heap.size+1) s 0 false:=by
   have hg:=heap_alloc_new (w.alloc (.cells #[] 123)) (.cells #[.string s,.int .i64 0,.bool false,.slice none 0 0,.slice none 0 0,.slice none 0 0,.slice none 0 0] 66)
   rw [show(w.alloc (.cells #[] 123)).heap.size=w.heap.size+1 by simp] at hg
   obtain⟨q0,q1,q2,_,_,_,_,qf⟩:=z92 hg
   exact⟨q0,q1,q2,qf _,qf _,zeR _,hs⟩
  have hB0:Below w.heap.size w ((w.alloc (.cells #[] 123)).alloc (.cells #[.string s,.int .i64 0,.bool false,.slice none 0 0,.slice none 0 0,.slice none 0 0,.slice none 0 0] 66)):=((zeU w.heap.size w).alloc (zeK _) _).alloc (by simp) _
  have hM1:=HM.out.alloc (.cells #[.string s,.int .i64 0,.bool false,.slice none 0 0,.slice none 0 0,.slice none 0 0,.slice none 0 0] 66)
  have hz0:((w.alloc (.cells #[] 123)).alloc (.cells #[.string s,.int .i64 0,.bool false,.slice none 0 0,.slice none 0 0,.slice none 0 0,.slice none 0 0] 66)).heap.size=w.heap.size+2:=by simp
  have H0:=z8 (zeL hrd0 (zeL hB0 (zeL hM1 hz0)))
  clear hrd0 hB0 hM1 hz0
  go_enter Tryz.func41,Tryz.ntmps41
  go_wp2_with fail
  obtain⟨hrd0,hB0,hM1,hz0⟩:=H0.out
  clear H0
  generalize ((w.alloc (.cells #[] 123)).alloc (.cells #[.string s,.int .i64 0,.bool false,.slice none 0 0,.slice none 0 0,.slice none 0 0,.slice none 0 0] 66))=W0 at*
  refine(z2v _ _ _ _ _ hrd0).mono ?_
  rintro e w1 ⟨rfl,hr1,hs1⟩
  have hra:Hid (raM s=((paM s (s.size+1) (je s 0 false).1 (je s 0 false).2.1 [((je s 0 false).2.2.1,(je s 0 false).2.2.2)]).2.2,z1n s (paM s (s.size+1) (je s 0 false).1 (je s 0 false).2.1 [((je s 0 false).2.2.1,(je s 0 false).2.2.2)]).1 (paM s (s.size+1) (je s 0 false).1 (je s 0 false).2.1 [((je s 0 false).2.2.1,(je s 0 false).2.2.2)]).2.1)):=z8 (by unfold raM;rw [if_neg h0])
  generalize je s 0 false=v0 at*
  obtain⟨a1,d1,nm1,vl1⟩:=v0
  simp only at*
  generalize hP0:paM s (s.size+1) a1 d1 [(nm1,vl1)]=P0 at*
  have HP0:=z8 hP0
  clear hP0
  obtain⟨i0,hi,hz0',hz1,hz2⟩:=info_parts info123
  have hBw:w.heap.size+2≤w1.heap.size:=by have:=hs1.size;omega
  have hM2:w1.ownsRow w.heap.size 123 2 (.slice (some ⟨w.heap.size,0,none⟩) 0 0) 0 []:=zb hM1 fun k e=>hs1.block k (hM1.lt k e).2 (by simp [Value.ownBlock] at e;omega)
  have hB1:Below w.heap.size w w1:=⟨hs1.os.trans hB0.os,hs1.tape.trans hB0.tape,hs1.output.trans hB0.output,by omega,fun k hk=>(hs1.block k (by omega) (by omega)).trans (hB0.block k hk)⟩
  have H1:=z8 (zeL hr1 (zeL hM2 hB1))
  clear hr1 hM2 hB1 hM1 hB0 hrd0 hs1 HM
  go_wp2_with (at_builtin;go_must (refine wpList_append_lies _ rfl (.tmp 14) (.tmp 16) 55 rfl w.heap.size 123 i0 _ 2 32 Tryz.underlying55 hi hz0' hz1 hz2 rfl (by omega) _ 0 _ rfl ((H1.out.2.1.alloc _).alloc _) ⟨w1.heap.size+1,0,none⟩ 1 1 (zu (nm1,vl1)) rfl rfl ?news ?one (by omega) ?mm ?bys ?base (w1.heap.size+2) (by simp) ?rest))
  case news=>exact z43 _ _ (by simp) #[.string nm1,.string vl1] 123
  case one=>intro u hu;simp [zu] at hu;rcases hu with rfl|rfl<;>rfl
  case mm=>unfold maxLen;omega
  case bys=>omega
  case base=>simp;omega
  case rest=>
   intro gb cap w2 hown2 hgrow hat hlt2
   obtain⟨hr1,hM2,hB1⟩:=H1.out
   clear H1
   have hgb:gb≠w.heap.size+1∧gb≠w1.heap.size:=by
    rcases hat with e|e
    ·simp [Value.ownBlock] at e;omega
    ·omega
   have hold: ∀k,k<w1.heap.size→k≠w.heap.size→w2.heap[k]?=w1.heap[k]?:=fun k hk hn=>(hgrow.block k (by simp;omega) (fun e=>by simp [Value.ownBlock] at e;omega)).trans ((zeM _ _ _ (by simp;omega)).trans (zeM _ _ _ hk))
   have hr2:Rd w2 (w.heap.size+1) s a1 d1:=hr1.other (hold _ (by omega) (by omega))
   have hG2:w2.heap[w1.heap.size]?=some (.cells #[.string nm1,.string vl1] 123):=(hgrow.block _ (by simp<;>omega) (fun e=>by simp [Value.ownBlock] at e;omega)).trans ((zeM _ _ _ (by simp)).trans (heap_alloc_new w1 _))
   have hB2:Below w.heap.size w w2:=Below.grown ((hB1.alloc (by omega) _).alloc (by simp;omega) _) hgrow (by simp;omega) fun k e=>by simp [Value.ownBlock] at e;omega
   have hz2':w1.heap.size<w2.heap.size:=by have:=hgrow.size;simp at this;omega
   have ha1:=hr2.le
   have H2:=z8 (zeL hr2 (zeL hG2 (zeL hB2 hown2)))
   clear hr2 hG2 hB2 hown2 hold hgrow hat hr1 hM2 hB1
   go_wp2_with fail
   go_loopg [4] (s.size+1) (fun k v wr=> ∃(a:Nat) (d:Bool) (l:List (zeV×zeV)) (x y:zeV) (g2 cap2:Nat),v= .slice (some ⟨g2,0,none⟩) l.length cap2∧g2≠w.heap.size+1∧g2≠w1.heap.size∧s.size+1≤k+a∧k+l.length≤s.size+2∧w1.heap.size<wr.heap.size∧Hid (Rd wr (w.heap.size+1) s a d)∧Hid (wr.heap[w1.heap.size]?=some (.cells #[.string x,.string y] 123))∧Hid (wr.ownsRow w.heap.size 123 2 (.slice (some ⟨g2,0,none⟩) l.length cap2) l.length ((l.map zu).flatten))∧Hid (Below w.heap.size w wr)∧Hid (paM s k a d l=P0))
   case atStart=>
    obtain⟨hr2,hG2,hB2,hown2⟩:=H2.out
    exact⟨a1,d1,[(nm1,vl1)],nm1,vl1,gb,cap,rfl,hgb.1,hgb.2,by omega,by simp,hz2',z8 hr2,z8 hG2,z8 hown2,z8 hB2,HP0⟩
   case round=>
    clear H2
    obtain⟨a,d,l,x,y,g2,cap2,rfl,hn1,hn2,hka,hkl,hzr,HR,HG,HO,HB,HPk⟩:=hrel
    have ha:=HR.out.le
    cases hb:(pk s a d==59)
    ·have hst:Hid ((a,d,l)=P0):=z8 (by
      rw [←HPk.out]
      cases gk with
      |zero=>rfl
      |succ k=>unfold paM;rw [hb];rfl)
     have he:=z8 (z2H _ _ _ _ _ (HR.out.drewN 0))
     go_wp2_with (go_at_call 78;refine(zm _ _ _ _ _ HR.out).mono ?_;rintro e w3 ⟨rfl,n3,rfl⟩)
     refine(z2H _ _ _ _ _ (HR.out.drewN n3)).mono ?_
     rintro e w4 ⟨rfl,hr4,hs4⟩
     have q2:=hr4.c2
     go_wp2_with fail
     go_quiet (fail)
     go_wp2_with fail
     go_ret2
     have hst':=hst.out
     subst hst'
     have hB4:Below w.heap.size w w4:=⟨hs4.os.trans HB.out.os,hs4.tape.trans HB.out.tape,hs4.output.trans HB.out.output,by have:=hs4.size;have:=HB.out.size;simp at*;omega,fun k hk=>(hs4.block k (by omega)).trans (HB.out.block k hk)⟩
     have hO4:w4.ownsRow w.heap.size 123 2 (.slice (some ⟨g2,0,none⟩) l.length cap2) l.length ((l.map zu).flatten):=zb HO.out fun k e=>hs4.block k (by simp [Value.ownBlock] at e;omega)
     refine⟨.slice (some ⟨g2,0,none⟩) l.length cap2,by rw [hra.out];rfl,by rw [hra.out];exact zb hO4 fun k e=>rfl,?_⟩
     exact⟨hB4.os,hB4.tape,hB4.output,hB4.size,hB4.block⟩
    ·have hpk:pk s a d=59:=by simpa using hb
     have hlt:=(z06 (s:=s) (a:=a) (d:=d) (by omega)).2
     obtain⟨k,rfl⟩: ∃k,gk=k+1:=⟨gk - 1,by omega⟩
     have hst:Hid (paM s k (je s (a+1) d).1 ((je s (a+1) d).2.1||(zr (je s (a+1) d).2.2.1 l 0 != -1)) (l++[((je s (a+1) d).2.2.1,(je s (a+1) d).2.2.2)])=P0):=z8 (by
      rw [←HPk.out]
      conv=>rhs;unfold paM
      rw [hb];rfl)
     have hW1:=z10 (s:=s) (d:=d) (c:=59) (a:=a) hpk
     have HW:=z8 (fun W h=>jX (w.heap.size+1) a s ⟨#[59]⟩ d W h (by decide))
     rw [show(ByteArray.mk #[59]).data.toList=[59] from rfl,hW1] at HW
     have HA:=z8 (fun W h=>z2v (w.heap.size+1) (a+1) s d W h)
     have HAM:=z8 (zaz (s:=s) (a:=a+1) (d:=d) (by omega))
     generalize je s (a+1) d=v0 at*
     obtain⟨a5,d5,nm5,vl5⟩:=v0
     simp only at*
     clear hW1 hpk
     go_wp2_with (go_at_call 78;refine(zm _ _ _ _ _ HR.out).mono ?_;rintro e w3 ⟨rfl,n3,rfl⟩)
     refine(HW.out _ (HR.out.drewN n3)).mono ?_
     rintro e w4 ⟨rfl,hr4,hs4⟩
     go_wp2_with fail
     refine(HA.out _ hr4).mono ?_
     rintro e w5 ⟨rfl,hr5,hs5⟩
     have hz4:wr.heap.size=w4.heap.size:=by have:=hs4.size;simp at this;omega
     have hz5:wr.heap.size≤w5.heap.size:=by have:=hs5.size;omega
     have hold: ∀k,k<wr.heap.size→k≠w.heap.size+1→w5.heap[k]?=wr.heap[k]?:=fun k hk hn=>(hs5.block k (by omega) hn).trans (hs4.block k hn)
     have hG5:w5.heap[w1.heap.size]?=some (.cells #[.string x,.string y] 123):=(hold _ hzr (by omega)).trans HG.out
     have hO5:w5.ownsRow w.heap.size 123 2 (.slice (some ⟨g2,0,none⟩) l.length cap2) l.length ((l.map zu).flatten):=zb HO.out fun k e=>hold k (HO.out.lt k e).2 (by simp [Value.ownBlock] at e;omega)
     have hB5:Below w.heap.size w w5:=⟨hs5.os.trans (hs4.os.trans HB.out.os),hs5.tape.trans (hs4.tape.trans HB.out.tape),hs5.output.trans (hs4.output.trans HB.out.output),by have:=HB.out.size;omega,fun k hk=>(hold k (by have:=HB.out.size;omega) (by omega)).trans (HB.out.block k hk)⟩
     clear hold hs5 hs4 hr4
     have hw6:((w5.setCell ⟨w1.heap.size,0,none⟩ (.string nm5)).setCell ⟨w1.heap.size,1,none⟩ (.string vl5)).heap[w1.heap.size]?=some (.cells #[.string nm5,.string vl5] 123):=by simp [World.setCell,Array.getElem?_modify,hG5]
     have hz6:((w5.setCell ⟨w1.heap.size,0,none⟩ (.string nm5)).setCell ⟨w1.heap.size,1,none⟩ (.string vl5)).heap.size=w5.heap.size:=by simp [World.setCell]
     have hold6: ∀k,k≠w1.heap.size→((w5.setCell ⟨w1.heap.size,0,none⟩ (.string nm5)).setCell ⟨w1.heap.size,1,none⟩ (.string vl5)).heap[k]?=w5.heap[k]?:=fun k hn=>(zeT _ _ _ _ hn).trans (zeT _ _ _ _ hn)
     have hr6:=hr5.other (hold6 _ (by omega))
     have hO6:=zb hO5 fun k e=>hold6 k (by simp [Value.ownBlock] at e;omega)
     have hB6:=(hB5.setCell (show w.heap.size≤(⟨w1.heap.size,0,none⟩:Addr).block by show w.heap.size≤w1.heap.size;omega) (.string nm5)).setCell (show w.heap.size≤(⟨w1.heap.size,1,none⟩:Addr).block by show w.heap.size≤w1.heap.size;omega) (.string vl5)
     have y0:w5.cell? ⟨w1.heap.size,0,none⟩=some (.string x):=by simp [World.cell?,hG5]
     have y1:w5.cell? ⟨w1.heap.size,1,none⟩=some (.string y):=by simp [World.cell?,hG5]
     have y2:w5.frozen? ⟨w1.heap.size,0,none⟩=false:=by simp [World.frozen?,hG5]
     have y3:w5.frozen? ⟨w1.heap.size,1,none⟩=false:=by simp [World.frozen?,hG5]
     have z0:((w5.setCell ⟨w1.heap.size,0,none⟩ (.string nm5)).setCell ⟨w1.heap.size,1,none⟩ (.string vl5)).cell? ⟨w1.heap.size,0,none⟩=some (.string nm5):=by simp [World.cell?,hw6]
     have H6:=z8 (zeL hw6 (zeL hz6 (zeL hr6 (zeL hO6 (zeL hB6 z0)))))
     clear hw6 hz6 hr6 hO6 hB6 hold6 hG5 hO5 hB5 hr5 z0
     go_wp2_with fail
     obtain⟨hw6,hz6,hr6,hO6,hB6,z0⟩:=H6.out
     clear H6 y0 y1 y2 y3
     generalize ((w5.setCell ⟨w1.heap.size,0,none⟩ (.string nm5)).setCell ⟨w1.heap.size,1,none⟩ (.string vl5))=W6 at*
     refine(z2i w.heap.size l _ nm5 W6 hO6 (by omega)).mono ?_
     rintro e W7 ⟨rfl,rfl⟩
     have z1:W7.cell? ⟨w1.heap.size,1,none⟩=some (.string vl5):=by simp [World.cell?,hw6]
     have hzz:a+1≤a5:=HAM.out
     have hwz:w1.heap.size<W7.heap.size:=by omega
     have HZ6:=z8 hz6
     clear hz6
     cases hdup:(zr nm5 l 0 != -1)
     ·rw [hdup,Bool.or_false] at hst
      have H7:=z8 (zeL hr6 (zeL hw6 (zeL hO6 hB6)))
      have hW7:w1.heap.size<W7.heap.size:=by omega
      clear hr6 hw6 hO6 hB6
      go_wp2_with (at_builtin;go_must (refine wpList_append_lies _ rfl (.tmp 28) (.tmp 30) 55 rfl w.heap.size 123 i0 _ 2 32 Tryz.underlying55 hi hz0' hz1 hz2 rfl (by omega) _ l.length _ rfl (H7.out.2.2.1.alloc _) ⟨W7.heap.size,0,none⟩ 1 1 (zu (nm5,vl5)) rfl rfl ?news ?one (by omega) ?mm ?bys ?base (W7.heap.size+1) (by simp) ?rest))
      case news=>exact z43 _ _ (by simp) #[.string nm5,.string vl5] 123
      case one=>intro u hu;simp [zu] at hu;rcases hu with rfl|rfl<;>rfl
      case mm=>unfold maxLen;omega
      case bys=>omega
      case base=>simp;omega
      case rest=>
       intro gc cap8 w8 hown8 hgrow hat hlt8
       obtain⟨hr7,hG7,hO7,hB7⟩:=H7.out
       clear H7
       have hgc:gc≠w.heap.size+1∧gc≠w1.heap.size:=by
        rcases hat with e|e
        ·simp [Value.ownBlock] at e;omega
        ·omega
       have hold8: ∀k,k<W7.heap.size→k≠g2→w8.heap[k]?=W7.heap[k]?:=fun k hk hn=>(hgrow.block k (by simp;omega) (fun e=>by simp [Value.ownBlock] at e;omega)).trans (zeM _ _ _ hk)
       have hr8:=z8 (hr7.other (hold8 _ (by omega) (by omega)))
       have hG8:=z8 ((hold8 _ (by omega) (by omega)).trans hG7)
       have hB8:=z8 (Below.grown (hB7.alloc hB7.size _) hgrow (by simp;have:=hB7.size;omega) fun k e=>by simp [Value.ownBlock] at e;have:=(hO7.lt g2 rfl).1;omega)
       have hz8:w1.heap.size<w8.heap.size:=by have:=hgrow.size;simp at this;omega
       have ha8:=hr7.le
       have hown9:Hid (w8.ownsRow w.heap.size 123 2 (.slice (some ⟨gc,0,none⟩) (l++[(nm5,vl5)]).length cap8) (l++[(nm5,vl5)]).length (((l++[(nm5,vl5)]).map zu).flatten)):=z8 (by simpa using hown8)
       clear hown8 hgrow hat hold8 hr7 hG7 hO7 hB7
       go_wp2_with fail
       go_roundg k
       case measure=>omega
       case rel=>exact⟨a5,_,l++[(nm5,vl5)],nm5,vl5,gc,cap8,by simp,hgc.1,hgc.2,by omega,by simp;omega,hz8,hr8,hG8,hown9,hB8,hst⟩
     ·rw [hdup,Bool.or_true] at hst
      have hF:=z8 (z0r _ _ _ _ _ hr6)
      have HC:=z8 (zeL hr6 (zeL hw6 (zeL hO6 hB6)))
      have hW6:w1.heap.size<W7.heap.size:=by omega
      clear hr6 hw6 hO6 hB6
      go_wp2_with fail
      refine hF.out.mono ?_
      rintro e W8 ⟨rfl,hr8',hs8⟩
      obtain⟨hr6,hw6,hO6,hB6⟩:=HC.out
      clear HC hF
      have hw8:=(hs8.block w1.heap.size (by omega)).trans hw6
      have z2:W8.cell? ⟨w1.heap.size,0,none⟩=some (.string nm5):=by simp [World.cell?,hw8]
      have z3:W8.cell? ⟨w1.heap.size,1,none⟩=some (.string vl5):=by simp [World.cell?,hw8]
      have hO8:W8.ownsRow w.heap.size 123 2 (.slice (some ⟨g2,0,none⟩) l.length cap2) l.length ((l.map zu).flatten):=zb hO6 fun k e=>hs8.block k (by simp [Value.ownBlock] at e;omega)
      have hB8':Below w.heap.size w W8:=⟨hs8.os.trans hB6.os,hs8.tape.trans hB6.tape,hs8.output.trans hB6.output,by have:=hs8.size;have:=hB6.size;omega,fun k hk=>(hs8.block k (by omega)).trans (hB6.block k hk)⟩
      have hW8:w1.heap.size<W8.heap.size:=by have:=hs8.size;omega
      have H7:=z8 (zeL hr8' (zeL hw8 (zeL hO8 hB8')))
      clear hr8' hw8 hO8 hB8' hr6 hw6 hO6 hB6 hs8 z0 z1
      go_wp2_with (at_builtin;go_must (refine wpList_append_lies _ rfl (.tmp 28) (.tmp 30) 55 rfl w.heap.size 123 i0 _ 2 32 Tryz.underlying55 hi hz0' hz1 hz2 rfl (by omega) _ l.length _ rfl (H7.out.2.2.1.alloc _) ⟨W8.heap.size,0,none⟩ 1 1 (zu (nm5,vl5)) rfl rfl ?news ?one (by omega) ?mm ?bys ?base (W8.heap.size+1) (by simp) ?rest))
      case news=>exact z43 _ _ (by simp) #[.string nm5,.string vl5] 123
      case one=>intro u hu;simp [zu] at hu;rcases hu with rfl|rfl<;>rfl
      case mm=>unfold maxLen;omega
      case bys=>omega
      case base=>simp;omega
      case rest=>
       intro gc cap8 w8 hown8 hgrow hat hlt8
       obtain⟨hr7,hG7,hO7,hB7⟩:=H7.out
       clear H7
       have hgc:gc≠w.heap.size+1∧gc≠w1.heap.size:=by
        rcases hat with e|e
        ·simp [Value.ownBlock] at e;omega
        ·omega
       have hold8: ∀k,k<W8.heap.size→k≠g2→w8.heap[k]?=W8.heap[k]?:=fun k hk hn=>(hgrow.block k (by simp;omega) (fun e=>by simp [Value.ownBlock] at e;omega)).trans (zeM _ _ _ hk)
       have hr8:=z8 (hr7.other (hold8 _ (by omega) (by omega)))
       have hG8:=z8 ((hold8 _ (by omega) (by omega)).trans hG7)
       have hB8:=z8 (Below.grown (hB7.alloc hB7.size _) hgrow (by simp;have:=hB7.size;omega) fun k e=>by simp [Value.ownBlock] at e;have:=(hO7.lt g2 rfl).1;omega)
       have hz8:w1.heap.size<w8.heap.size:=by have:=hgrow.size;simp at this;omega
       have ha8:=hr7.le
       have hown9:Hid (w8.ownsRow w.heap.size 123 2 (.slice (some ⟨gc,0,none⟩) (l++[(nm5,vl5)]).length cap8) (l++[(nm5,vl5)]).length (((l++[(nm5,vl5)]).map zu).flatten)):=z8 (by simpa using hown8)
       clear hown8 hgrow hat hold8 hr7 hG7 hO7 hB7
       go_wp2_with fail
       go_roundg k
       case measure=>omega
       case rel=>exact⟨a5,_,l++[(nm5,vl5)],nm5,vl5,gc,cap8,by simp,hgc.1,hgc.2,by omega,by simp;omega,hz8,hr8,hG8,hown9,hB8,hst⟩
structure Wt where
 kind:Int
 truth:Bool
 num:Int
 text:zeV
def Wt.v (x:Wt):Value:= .agg #[.int .i64 x.kind,.bool x.truth,.int .i64 x.num,.string x.text]
def Wt.cells (x:Wt):List Value:=[.int .i64 x.kind,.bool x.truth,.int .i64 x.num,.string x.text]
theorem Wt.cells_len (x:Wt):x.cells.length=4:=rfl
def z0K:Wt:=⟨0,false,0,⟨#[]⟩⟩
def z0u (b:Bool):Wt:=⟨1,b,0,⟨#[]⟩⟩
def z4A (t:zeV):Wt:=⟨3,false,0,t⟩
def jU (n:Int):Wt:=if 999999999<n∨n< -999999999 then z0K else⟨2,false,n,⟨#[]⟩⟩
def z2D (x:Wt)(w:World)(e:Ending)(w':World):Prop:=e= .returned (.agg #[.int .i64 x.kind,.bool x.truth,.int .i64 x.num,.string x.text])∧Below w.heap.size w w'
theorem zZ {w:World}{g:Nat}{a b c d:Value}{t:TypeId}(hh:w.heap[g]?=some (.cells #[a,b,c,d] t)):
  w.cell? ⟨g,0,none⟩=some a∧w.cell? ⟨g,1,none⟩=some b∧w.cell? ⟨g,2,none⟩=some c∧w.cell? ⟨g,3,none⟩=some d∧w.frozen? ⟨g,0,none⟩=false∧w.frozen? ⟨g,1,none⟩=false∧w.frozen? ⟨g,2,none⟩=false∧w.frozen? ⟨g,3,none⟩=false:=by
 simp [World.cell?,World.frozen?,hh]
theorem zn {w:World}{g:Nat}{a b c d:Value}{t:TypeId}(hh:w.heap[g]?=some (.cells #[a,b,c,d] t))(p q r u:Value):
  let W:=(((w.setCell ⟨g,0,none⟩ p).setCell ⟨g,1,none⟩ q).setCell ⟨g,2,none⟩ r).setCell ⟨g,3,none⟩ u
  W.cell? ⟨g,0,none⟩=some p∧W.cell? ⟨g,1,none⟩=some q∧W.cell? ⟨g,2,none⟩=some r∧W.cell? ⟨g,3,none⟩=some u:=by
 obtain⟨h0,h1,h2,h3,_⟩:=zZ (zcQ hh p q r u)
 exact⟨h0,h1,h2,h3⟩
theorem zv {B g:Nat}{w w1:World}(h:Below B w w1)(hg:B≤g)(p q r u:Value):Below B w ((((w1.setCell ⟨g,0,none⟩ p).setCell ⟨g,1,none⟩ q).setCell ⟨g,2,none⟩ r).setCell ⟨g,3,none⟩ u):=
 (((h.setCell (p:=⟨g,0,none⟩) hg _).setCell (p:=⟨g,1,none⟩) hg _).setCell (p:=⟨g,2,none⟩) hg _).setCell (p:=⟨g,3,none⟩) hg _
theorem j9 (n:Int)(w:World):Calls Tryz.prog 151 #[.int .i64 n] w fun e w'=>z2D (jU n) w e w':=by
 have hB:=z8 fun o:Obj=>(zeU w.heap.size w).alloc (zeK _) o
 by_cases h1:999999999<n
 ·have hx:Hid (jU n=z0K):=z8 (by unfold jU;rw [if_pos (.inl h1)])
  go_enter Tryz.func151,Tryz.ntmps151
  go_wp2_with fail
  refine bodyPost_ret (v:=z0K.v) (by simp [results,Tryz.results151,go_sem,Wt.v,z0K]) rfl ?_
  exact⟨by rw [hx.out];rfl,hB.out _⟩
 ·by_cases h2:n< -999999999
  ·have hx:Hid (jU n=z0K):=z8 (by unfold jU;rw [if_pos (.inr h2)])
   go_enter Tryz.func151,Tryz.ntmps151
   go_wp2_with fail
   refine bodyPost_ret (v:=z0K.v) (by simp [results,Tryz.results151,go_sem,Wt.v,z0K]) rfl ?_
   exact⟨by rw [hx.out];rfl,hB.out _⟩
  ·have hx:Hid (jU n=⟨2,false,n,⟨#[]⟩⟩):=z8 (by unfold jU;rw [if_neg (by omega)])
   go_enter Tryz.func151,Tryz.ntmps151
   go_wp2_with fail
   refine bodyPost_ret (v:=(Wt.mk 2 false n ⟨#[]⟩).v) (by simp [results,Tryz.results151,go_sem,Wt.v,z0K]) rfl ?_
   exact⟨by rw [hx.out];rfl,hB.out _⟩
theorem z0D (t:zeV)(w:World):Calls Tryz.prog 121 #[.string t] w fun e w'=>z2D (z4A t) w e w':=by
 have hB:=z8 fun o:Obj=>(zeU w.heap.size w).alloc (zeK _) o
 go_enter Tryz.func121,Tryz.ntmps121
 go_wp2_with fail
 refine bodyPost_ret (v:=(z4A t).v) (by simp [results,Tryz.results121,go_sem,Wt.v,z4A]) rfl ?_
 exact⟨rfl,hB.out _⟩
theorem z17 (t:Bool)(w:World):Calls Tryz.prog 122 #[.bool t] w fun e w'=>z2D (z0u t) w e w':=by
 have hB:=z8 fun o:Obj=>(zeU w.heap.size w).alloc (zeK _) o
 go_enter Tryz.func122,Tryz.ntmps122
 go_wp2_with fail
 refine bodyPost_ret (v:=(z0u t).v) (by simp [results,Tryz.results122,go_sem,Wt.v,z0u]) rfl ?_
 exact⟨rfl,hB.out _⟩
theorem jG (x:Wt)(w:World):Calls Tryz.prog 152 #[.agg #[.int .i64 x.kind,.bool x.truth,.int .i64 x.num,.string x.text]] w fun e w'=>e= .returned (.bool (x.kind==0))∧Below w.heap.size w w':=by
 have hB:=z8 fun o:Obj=>(zeU w.heap.size w).alloc (zeK _) o
 go_enter Tryz.func152,Tryz.ntmps152
 go_wp2_with fail
 go_ret
 exact⟨rfl,hB.out _⟩
end Go.Proofs.YtkoohcilbpdgeaaGreatDoor
namespace Go.Proofs
open Go.Shelf
def Tryz.lays173_ren:Go.Shelf.Ren:=⟨fun|173=>83|246=>126|283=>155|284=>156|285=>157|286=>158|129=>172|317=>171|318=>173|319=>174|320=>175|337=>182|338=>183|n=>n,fun|2=>2|3=>3|9=>9|4=>4|171=>185|0=>0|53=>186|37=>142|5=>5|173=>189|212=>195|51=>196|20=>20|213=>197|46=>199|232=>205|233=>206|n=>n,fun|17=>0|18=>1|19=>2|n=>n⟩
theorem Tryz.lays173:Go.Proofs.LaysM.n173 Tryz.prog Tryz.lays173_ren:={
 mixed:=by kernel_rfl
 f129:=Tryz.func172.trans (congrArg some (by kernel_rfl))
 f173:=Tryz.func83.trans (congrArg some (by kernel_rfl))
 f246:=Tryz.func126.trans (congrArg some (by kernel_rfl))
 f283:=Tryz.func155.trans (congrArg some (by kernel_rfl))
 f284:=Tryz.func156.trans (congrArg some (by kernel_rfl))
 f285:=Tryz.func157.trans (congrArg some (by kernel_rfl))
 f286:=Tryz.func158.trans (congrArg some (by kernel_rfl))
 f317:=Tryz.func171.trans (congrArg some (by kernel_rfl))
 f318:=Tryz.func173.trans (congrArg some (by kernel_rfl))
 f319:=Tryz.func174.trans (congrArg some (by kernel_rfl))
 f320:=Tryz.func175.trans (congrArg some (by kernel_rfl))
 f337:=Tryz.func182.trans (congrArg some (by kernel_rfl))
 f338:=Tryz.func183.trans (congrArg some (by kernel_rfl))
 t0:=Tryz.underlying0
 a0:=Tryz.isAgg0
 z0:=Tryz.sizeOf0
 v0:=Tryz.zeroValue0
 t2:=Tryz.underlying2
 a2:=Tryz.isAgg2
 z2:=Tryz.sizeOf2
 v2:=Tryz.zeroValue2
 t3:=Tryz.underlying3
 a3:=Tryz.isAgg3
 z3:=Tryz.sizeOf3
 v3:=Tryz.zeroValue3
 t4:=Tryz.underlying4
 a4:=Tryz.isAgg4
 z4:=Tryz.sizeOf4
 v4:=Tryz.zeroValue4
 t5:=Tryz.underlying5
 a5:=Tryz.isAgg5
 z5:=Tryz.sizeOf5
 v5:=Tryz.zeroValue5
 t9:=Tryz.underlying9
 a9:=Tryz.isAgg9
 z9:=Tryz.sizeOf9
 v9:=Tryz.zeroValue9
 t20:=Tryz.underlying20
 a20:=Tryz.isAgg20
 z20:=Tryz.sizeOf20
 v20:=Tryz.zeroValue20
 t37:=Tryz.underlying142
 a37:=Tryz.isAgg142
 z37:=Tryz.sizeOf142
 v37:=Tryz.zeroValue142
 t46:=Tryz.underlying199
 a46:=Tryz.isAgg199
 z46:=Tryz.sizeOf199
 v46:=Tryz.zeroValue199
 t51:=Tryz.underlying196
 a51:=Tryz.isAgg196
 z51:=Tryz.sizeOf196
 v51:=Tryz.zeroValue196
 t53:=Tryz.underlying186
 a53:=Tryz.isAgg186
 z53:=Tryz.sizeOf186
 v53:=Tryz.zeroValue186
 t171:=Tryz.underlying185
 a171:=Tryz.isAgg185
 z171:=Tryz.sizeOf185
 v171:=Tryz.zeroValue185
 t173:=Tryz.underlying189
 a173:=Tryz.isAgg189
 z173:=Tryz.sizeOf189
 v173:=Tryz.zeroValue189
 t212:=Tryz.underlying195
 a212:=Tryz.isAgg195
 z212:=Tryz.sizeOf195
 v212:=Tryz.zeroValue195
 t213:=Tryz.underlying197
 a213:=Tryz.isAgg197
 z213:=Tryz.sizeOf197
 t232:=Tryz.underlying205
 a232:=Tryz.isAgg205
 z232:=Tryz.sizeOf205
 v232:=Tryz.zeroValue205
 t233:=Tryz.underlying206
 a233:=Tryz.isAgg206
 z233:=Tryz.sizeOf206
 v233:=Tryz.zeroValue206
 g17:=by kernel_rfl
 g18:=by kernel_rfl
 g19:=by kernel_rfl
 i0:=by kernel_rfl
 i2:=by kernel_rfl
 i3:=by kernel_rfl
 i4:=by kernel_rfl
 i5:=by kernel_rfl
 i9:=by kernel_rfl
 i20:=by kernel_rfl
 i37:=by kernel_rfl
 i46:=by kernel_rfl
 i51:=by kernel_rfl
 i53:=by kernel_rfl
 i171:=by kernel_rfl
 i173:=by kernel_rfl
 i212:=by kernel_rfl
 i232:=by kernel_rfl
 i233:=by kernel_rfl
 m17:=by kernel_rfl
 m18:=by kernel_rfl
 m19:=by kernel_rfl}
end Go.Proofs
namespace Go.Proofs.YtkoohcilbpdgeaaGreatDoor
open Go Go.RowKit
def Tab (w:World):Prop:=Lib.TabIs Tryz.prog w "internal/strconv.uint64pow10" .u64 Lib.pow10Tab
theorem Tab.below {w w':World}(h:Tab w)(hB:Below w.heap.size w w'):Tab w':=by
 unfold Tab Lib.TabIs World.var? at*
 rw [show Tryz.prog.globalNamed "internal/strconv.uint64pow10" =some 0 by kernel_rfl] at*
 simp only [Option.bind_some] at*
 cases hq:w.heap[0]? with
 |none=>rw [hq] at h;cases h
 |some o=>rw [hB.block 0 (Array.getElem?_eq_some_iff.1 hq).1];exact h
theorem za2 (n:Int)(h0: -9223372036854775808≤n)(h1:n≤9223372036854775807)(w:World)(ht:Tab w):
  Calls Tryz.prog 83 #[.int .i64 n,.int .i64 10] w fun e w'=>e= .returned (.string ⟨(Lib.itoa n).toArray⟩)∧Below w.heap.size w w':=
 (Any.strconv_FormatInt_10 Tryz.lays173 n h0 h1 w ht).mono fun e w' ⟨h,k,os,hw⟩=>⟨h,by
  subst hw
  exact⟨rfl,rfl,rfl,by simp [Sort.grow],fun i hi=>by simp only [Sort.grow];rw [Array.getElem?_append_left (by simpa using hi)];rfl⟩⟩
end Go.Proofs.YtkoohcilbpdgeaaGreatDoor
namespace Go.Proofs.YtkoohcilbpdgeaaGreatDoor
open Go Go.RowKit
attribute [local go_sem] wrap64_byte
def ju (t:zeV)(l r:Int):Wt:=
 if t.toList==[43] then jU (wrap64 (l+r)) else if t.toList==[45] then jU (wrap64 (l - r)) else if t.toList==[42] then jU (wrap64 (l*r))
 else if r==0 then z0K else if t.toList==[47] then jU (wrap64 (l.tdiv r)) else jU (l.tmod r)
theorem jV (t:zeV)(l r:Int)(w:World):Calls Tryz.prog 153 #[.string t,.int .i64 l,.int .i64 r] w fun e w'=>z2D (ju t l r) w e w':=by
 have HB0:Hid (Below w.heap.size w (w.alloc (.cells #[.int .i64 0,.bool false,.int .i64 0,.string ⟨#[]⟩] 75))):=z8 ((zeU w.heap.size w).alloc (zeK _) (.cells #[.int .i64 0,.bool false,.int .i64 0,.string ⟨#[]⟩] 75))
 have HX:Hid ((w.alloc (.cells #[.int .i64 0,.bool false,.int .i64 0,.string ⟨#[]⟩] 75)).heap[w.heap.size]?=some (.cells #[.int .i64 0,.bool false,.int .i64 0,.string ⟨#[]⟩] 75)):=z8 (heap_alloc_new w _)
 have HZ:Hid (w.heap.size<(w.alloc (.cells #[.int .i64 0,.bool false,.int .i64 0,.string ⟨#[]⟩] 75)).heap.size):=z8 (by simp)
 have HZ1:Hid (w.heap.size≤(w.alloc (.cells #[.int .i64 0,.bool false,.int .i64 0,.string ⟨#[]⟩] 75)).heap.size):=z8 (by simp<;>omega)
 have HG:Hid (w.heap.size≤w.heap.size):=z8 (by omega)
 cases h1:(t.toList==[43])
 case true=>
  have hres:Hid (ju t l r=jU (wrap64 (l+r))):=z8 (by unfold ju;rw [h1];rfl)
  have HC:=z8 (j9 (wrap64 (l+r)) (w.alloc (.cells #[.int .i64 0,.bool false,.int .i64 0,.string ⟨#[]⟩] 75)))
  generalize hX:jU (wrap64 (l+r))=X at*
  have HXX:=z8 hX
  clear hX
  go_enter Tryz.func153,Tryz.ntmps153
  go_wp2_with fail
  refine HC.out.mono ?_
  rintro e w1 ⟨rfl,hB1⟩
  have hbx:=(hB1.block _ HZ.out).trans HX.out
  obtain⟨y0,y1,y2,y3,g0,g1,g2,g3⟩:=zZ hbx
  obtain⟨z0,z1,z2,z3⟩:=zn hbx (.int .i64 X.kind) (.bool X.truth) (.int .i64 X.num) (.string X.text)
  have HB2:=z8 (zv (HB0.out.trans (hB1.mono HZ1.out)) HG.out (.int .i64 X.kind) (.bool X.truth) (.int .i64 X.num) (.string X.text))
  clear hbx hB1
  go_wp2_with fail
  refine bodyPost_ret (v:= .agg #[.int .i64 X.kind,.bool X.truth,.int .i64 X.num,.string X.text]) (by simp [results,Tryz.results153,go_sem,z0,z1,z2,z3]) rfl ?_
  exact⟨by rw [hres.out],HB2.out⟩
 cases h2:(t.toList==[45])
 case true=>
  have hres:Hid (ju t l r=jU (wrap64 (l - r))):=z8 (by unfold ju;rw [h1,h2];rfl)
  have HC:=z8 (j9 (wrap64 (l - r)) (w.alloc (.cells #[.int .i64 0,.bool false,.int .i64 0,.string ⟨#[]⟩] 75)))
  generalize hX:jU (wrap64 (l - r))=X at*
  have HXX:=z8 hX
  clear hX
  go_enter Tryz.func153,Tryz.ntmps153
  go_wp2_with fail
  refine HC.out.mono ?_
  rintro e w1 ⟨rfl,hB1⟩
  have hbx:=(hB1.block _ HZ.out).trans HX.out
  obtain⟨y0,y1,y2,y3,g0,g1,g2,g3⟩:=zZ hbx
  obtain⟨z0,z1,z2,z3⟩:=zn hbx (.int .i64 X.kind) (.bool X.truth) (.int .i64 X.num) (.string X.text)
  have HB2:=z8 (zv (HB0.out.trans (hB1.mono HZ1.out)) HG.out (.int .i64 X.kind) (.bool X.truth) (.int .i64 X.num) (.string X.text))
  clear hbx hB1
  go_wp2_with fail
  refine bodyPost_ret (v:= .agg #[.int .i64 X.kind,.bool X.truth,.int .i64 X.num,.string X.text]) (by simp [results,Tryz.results153,go_sem,z0,z1,z2,z3]) rfl ?_
  exact⟨by rw [hres.out],HB2.out⟩
 cases h3:(t.toList==[42])
 case true=>
  have hres:Hid (ju t l r=jU (wrap64 (l*r))):=z8 (by unfold ju;rw [h1,h2,h3];rfl)
  have HC:=z8 (j9 (wrap64 (l*r)) (w.alloc (.cells #[.int .i64 0,.bool false,.int .i64 0,.string ⟨#[]⟩] 75)))
  generalize hX:jU (wrap64 (l*r))=X at*
  have HXX:=z8 hX
  clear hX
  go_enter Tryz.func153,Tryz.ntmps153
  go_wp2_with fail
  refine HC.out.mono ?_
  rintro e w1 ⟨rfl,hB1⟩
  have hbx:=(hB1.block _ HZ.out).trans HX.out
  obtain⟨y0,y1,y2,y3,g0,g1,g2,g3⟩:=zZ hbx
  obtain⟨z0,z1,z2,z3⟩:=zn hbx (.int .i64 X.kind) (.bool X.truth) (.int .i64 X.num) (.string X.text)
  have HB2:=z8 (zv (HB0.out.trans (hB1.mono HZ1.out)) HG.out (.int .i64 X.kind) (.bool X.truth) (.int .i64 X.num) (.string X.text))
  clear hbx hB1
  go_wp2_with fail
  refine bodyPost_ret (v:= .agg #[.int .i64 X.kind,.bool X.truth,.int .i64 X.num,.string X.text]) (by simp [results,Tryz.results153,go_sem,z0,z1,z2,z3]) rfl ?_
  exact⟨by rw [hres.out],HB2.out⟩
 cases h4:(r==0)
 case true=>
  have hres:Hid (ju t l r=z0K):=z8 (by unfold ju;rw [h1,h2,h3,h4];rfl)
  go_enter Tryz.func153,Tryz.ntmps153
  go_wp2_with fail
  refine bodyPost_ret (v:= .agg #[.int .i64 z0K.kind,.bool z0K.truth,.int .i64 z0K.num,.string z0K.text]) (by simp [results,Tryz.results153,go_sem,z0K]) rfl ?_
  exact⟨by rw [hres.out],HB0.out⟩
 have h4': ¬r=0:=by simpa using h4
 cases h5:(t.toList==[47])
 case true=>
  have hres:Hid (ju t l r=jU (wrap64 (l.tdiv r))):=z8 (by unfold ju;rw [h1,h2,h3,h4,h5];rfl)
  have HC:=z8 (j9 (wrap64 (l.tdiv r)) (w.alloc (.cells #[.int .i64 0,.bool false,.int .i64 0,.string ⟨#[]⟩] 75)))
  generalize hX:jU (wrap64 (l.tdiv r))=X at*
  have HXX:=z8 hX
  clear hX
  go_enter Tryz.func153,Tryz.ntmps153
  go_wp2_with fail
  refine HC.out.mono ?_
  rintro e w1 ⟨rfl,hB1⟩
  have hbx:=(hB1.block _ HZ.out).trans HX.out
  obtain⟨y0,y1,y2,y3,g0,g1,g2,g3⟩:=zZ hbx
  obtain⟨z0,z1,z2,z3⟩:=zn hbx (.int .i64 X.kind) (.bool X.truth) (.int .i64 X.num) (.string X.text)
  have HB2:=z8 (zv (HB0.out.trans (hB1.mono HZ1.out)) HG.out (.int .i64 X.kind) (.bool X.truth) (.int .i64 X.num) (.string X.text))
  clear hbx hB1
  go_wp2_with fail
  refine bodyPost_ret (v:= .agg #[.int .i64 X.kind,.bool X.truth,.int .i64 X.num,.string X.text]) (by simp [results,Tryz.results153,go_sem,z0,z1,z2,z3]) rfl ?_
  exact⟨by rw [hres.out],HB2.out⟩
 have hres:Hid (ju t l r=jU (l.tmod r)):=z8 (by unfold ju;rw [h1,h2,h3,h4,h5];rfl)
 have HC:=z8 (j9 (l.tmod r) (w.alloc (.cells #[.int .i64 0,.bool false,.int .i64 0,.string ⟨#[]⟩] 75)))
 generalize hX:jU (l.tmod r)=X at*
 have HXX:=z8 hX
 clear hX
 go_enter Tryz.func153,Tryz.ntmps153
 go_wp2_with fail
 refine HC.out.mono ?_
 rintro e w1 ⟨rfl,hB1⟩
 have hbx:=(hB1.block _ HZ.out).trans HX.out
 obtain⟨y0,y1,y2,y3,g0,g1,g2,g3⟩:=zZ hbx
 obtain⟨z0,z1,z2,z3⟩:=zn hbx (.int .i64 X.kind) (.bool X.truth) (.int .i64 X.num) (.string X.text)
 have HB2:=z8 (zv (HB0.out.trans (hB1.mono HZ1.out)) HG.out (.int .i64 X.kind) (.bool X.truth) (.int .i64 X.num) (.string X.text))
 clear hbx hB1
 go_wp2_with fail
 refine bodyPost_ret (v:= .agg #[.int .i64 X.kind,.bool X.truth,.int .i64 X.num,.string X.text]) (by simp [results,Tryz.results153,go_sem,z0,z1,z2,z3]) rfl ?_
 exact⟨by rw [hres.out],HB2.out⟩
def z0n (t:zeV)(x:Wt):Wt:=if x.kind==0 then x else if t.toList==[33] then z0u (!x.truth) else jU (wrap64 (-x.num))
theorem z40 (t:zeV)(x:Wt)(w:World):Calls Tryz.prog 124 #[.string t,.agg #[.int .i64 x.kind,.bool x.truth,.int .i64 x.num,.string x.text]] w fun e w'=>z2D (z0n t x) w e w':=by
 have HB0:Hid (Below w.heap.size w ((w.alloc (.cells #[.int .i64 x.kind,.bool x.truth,.int .i64 x.num,.string x.text] 75)).alloc (.cells #[.int .i64 0,.bool false,.int .i64 0,.string ⟨#[]⟩] 75))):=z8 (((zeU w.heap.size w).alloc (zeK _) (.cells #[.int .i64 x.kind,.bool x.truth,.int .i64 x.num,.string x.text] 75)).alloc (by simp<;>omega) (.cells #[.int .i64 0,.bool false,.int .i64 0,.string ⟨#[]⟩] 75))
 have HX:Hid (((w.alloc (.cells #[.int .i64 x.kind,.bool x.truth,.int .i64 x.num,.string x.text] 75)).alloc (.cells #[.int .i64 0,.bool false,.int .i64 0,.string ⟨#[]⟩] 75)).heap[w.heap.size+1]?=some (.cells #[.int .i64 0,.bool false,.int .i64 0,.string ⟨#[]⟩] 75)):=z8 (by have q:=heap_alloc_new (w.alloc (.cells #[.int .i64 x.kind,.bool x.truth,.int .i64 x.num,.string x.text] 75)) (.cells #[.int .i64 0,.bool false,.int .i64 0,.string ⟨#[]⟩] 75);rw [show(w.alloc (.cells #[.int .i64 x.kind,.bool x.truth,.int .i64 x.num,.string x.text] 75)).heap.size=w.heap.size+1 by simp] at q;exact q)
 have HZ:Hid (w.heap.size+1<((w.alloc (.cells #[.int .i64 x.kind,.bool x.truth,.int .i64 x.num,.string x.text] 75)).alloc (.cells #[.int .i64 0,.bool false,.int .i64 0,.string ⟨#[]⟩] 75)).heap.size):=z8 (by simp)
 have HZ1:Hid (w.heap.size≤((w.alloc (.cells #[.int .i64 x.kind,.bool x.truth,.int .i64 x.num,.string x.text] 75)).alloc (.cells #[.int .i64 0,.bool false,.int .i64 0,.string ⟨#[]⟩] 75)).heap.size):=z8 (by simp<;>omega)
 have HG:Hid (w.heap.size≤w.heap.size+1):=z8 (by omega)
 have HX0:Hid (((w.alloc (.cells #[.int .i64 x.kind,.bool x.truth,.int .i64 x.num,.string x.text] 75)).alloc (.cells #[.int .i64 0,.bool false,.int .i64 0,.string ⟨#[]⟩] 75)).heap[w.heap.size]?=some (.cells #[.int .i64 x.kind,.bool x.truth,.int .i64 x.num,.string x.text] 75)):=z8 ((zeM _ _ _ (by simp)).trans (heap_alloc_new w _))
 have HF:=z8 (jG x ((w.alloc (.cells #[.int .i64 x.kind,.bool x.truth,.int .i64 x.num,.string x.text] 75)).alloc (.cells #[.int .i64 0,.bool false,.int .i64 0,.string ⟨#[]⟩] 75)))
 cases h1:(x.kind==0)
 case true=>
  have hres:Hid (z0n t x=x):=z8 (by unfold z0n;rw [h1];rfl)
  rw [h1] at HF
  clear h1
  generalize hX:x=X at*
  clear hX
  go_enter Tryz.func124,Tryz.ntmps124
  go_wp2_with fail
  refine HF.out.mono ?_
  rintro e w1 ⟨rfl,hB1⟩
  obtain⟨c0,c1,c2,c3,d0,d1,d2,d3⟩:=zZ ((hB1.block _ (by simp<;>omega)).trans HX0.out)
  have hbx:=(hB1.block _ HZ.out).trans HX.out
  obtain⟨y0,y1,y2,y3,g0,g1,g2,g3⟩:=zZ hbx
  obtain⟨z0,z1,z2,z3⟩:=zn hbx (.int .i64 X.kind) (.bool X.truth) (.int .i64 X.num) (.string X.text)
  have HB2:=z8 (zv (HB0.out.trans (hB1.mono HZ1.out)) HG.out (.int .i64 X.kind) (.bool X.truth) (.int .i64 X.num) (.string X.text))
  clear hbx hB1
  go_wp2_with fail
  refine bodyPost_ret (v:= .agg #[.int .i64 X.kind,.bool X.truth,.int .i64 X.num,.string X.text]) (by simp [results,Tryz.results124,go_sem,z0,z1,z2,z3]) rfl ?_
  exact⟨by rw [hres.out],HB2.out⟩
 rw [h1] at HF
 cases h2:(t.toList==[33])
 case true=>
  have hres:Hid (z0n t x=z0u (!x.truth)):=z8 (by unfold z0n;rw [h1,h2];rfl)
  go_enter Tryz.func124,Tryz.ntmps124
  go_wp2_with fail
  refine HF.out.mono ?_
  rintro e w0 ⟨rfl,hB0⟩
  obtain⟨c0,c1,c2,c3,d0,d1,d2,d3⟩:=zZ ((hB0.block _ (by simp<;>omega)).trans HX0.out)
  have HX:=z8 ((hB0.block _ HZ.out).trans HX.out)
  have HZ:=z8 (zeQ HZ.out hB0.size)
  have HB0:=z8 (HB0.out.trans (hB0.mono HZ1.out))
  have HZ1:=z8 HB0.out.size
  clear hB0
  have HC:=z8 (z17 (!x.truth) w0)
  generalize hX:z0u (!x.truth)=X at*
  have HXX:=z8 hX
  clear hX
  go_wp2_with fail
  refine HC.out.mono ?_
  rintro e w1 ⟨rfl,hB1⟩
  have hbx:=(hB1.block _ HZ.out).trans HX.out
  obtain⟨y0,y1,y2,y3,g0,g1,g2,g3⟩:=zZ hbx
  obtain⟨z0,z1,z2,z3⟩:=zn hbx (.int .i64 X.kind) (.bool X.truth) (.int .i64 X.num) (.string X.text)
  have HB2:=z8 (zv (HB0.out.trans (hB1.mono HZ1.out)) HG.out (.int .i64 X.kind) (.bool X.truth) (.int .i64 X.num) (.string X.text))
  clear hbx hB1
  go_wp2_with fail
  refine bodyPost_ret (v:= .agg #[.int .i64 X.kind,.bool X.truth,.int .i64 X.num,.string X.text]) (by simp [results,Tryz.results124,go_sem,z0,z1,z2,z3]) rfl ?_
  exact⟨by rw [hres.out],HB2.out⟩
 have hres:Hid (z0n t x=jU (wrap64 (-x.num))):=z8 (by unfold z0n;rw [h1,h2];rfl)
 go_enter Tryz.func124,Tryz.ntmps124
 go_wp2_with fail
 refine HF.out.mono ?_
 rintro e w0 ⟨rfl,hB0⟩
 obtain⟨c0,c1,c2,c3,d0,d1,d2,d3⟩:=zZ ((hB0.block _ (by simp<;>omega)).trans HX0.out)
 have HX:=z8 ((hB0.block _ HZ.out).trans HX.out)
 have HZ:=z8 (zeQ HZ.out hB0.size)
 have HB0:=z8 (HB0.out.trans (hB0.mono HZ1.out))
 have HZ1:=z8 HB0.out.size
 clear hB0
 have HC:=z8 (j9 (wrap64 (-x.num)) w0)
 generalize hX:jU (wrap64 (-x.num))=X at*
 have HXX:=z8 hX
 clear hX
 go_wp2_with fail
 refine HC.out.mono ?_
 rintro e w1 ⟨rfl,hB1⟩
 have hbx:=(hB1.block _ HZ.out).trans HX.out
 obtain⟨y0,y1,y2,y3,g0,g1,g2,g3⟩:=zZ hbx
 obtain⟨z0,z1,z2,z3⟩:=zn hbx (.int .i64 X.kind) (.bool X.truth) (.int .i64 X.num) (.string X.text)
 have HB2:=z8 (zv (HB0.out.trans (hB1.mono HZ1.out)) HG.out (.int .i64 X.kind) (.bool X.truth) (.int .i64 X.num) (.string X.text))
 clear hbx hB1
 go_wp2_with fail
 refine bodyPost_ret (v:= .agg #[.int .i64 X.kind,.bool X.truth,.int .i64 X.num,.string X.text]) (by simp [results,Tryz.results124,go_sem,z0,z1,z2,z3]) rfl ?_
 exact⟨by rw [hres.out],HB2.out⟩
def z0V (l:List UInt8):Int:=l.foldl (fun n c=>n*10+((c.toNat:Int)- 48)) 0
theorem z1t (l:List UInt8)(c:UInt8):z0V (l++[c])=z0V l*10+((c.toNat:Int)- 48):=by simp [z0V]
def zbE (l:List UInt8):Prop:= ∀c∈l,48≤c.toNat∧c.toNat≤57
theorem z8H: ∀(k:Nat) (l:List UInt8),zbE l→l.length=k→0≤z0V l∧z0V l<(10:Int)^k:=by
 intro k
 induction k with
 |zero=>intro l _ hl;rw [List.length_eq_zero_iff.1 hl];decide
 |succ k ih=>
  intro l hd hl
  obtain⟨l',c,rfl⟩: ∃l' c,l=l'++[c]:=⟨l.dropLast,l.getLast (by intro e;rw [e] at hl;cases hl),(List.dropLast_concat_getLast _).symm⟩
  have h1:=ih l' (fun x hx=>hd x (by simp [hx])) (by simp at hl;exact hl)
  have h2:=hd c (by simp)
  rw [z1t,Int.pow_succ]
  omega
theorem z0m (l:List UInt8)(hd:zbE l)(hl:l.length≤9):0≤z0V l∧z0V l≤999999999:=by
 have h:=z8H l.length l hd rfl
 have:(10:Int)^l.length≤10^9:=by
  have h9: ∀k,k≤9→(10:Int)^k≤10^9:=by decide
  exact h9 _ hl
 have e:(10:Int)^9=1000000000:=by decide
 omega
def z7P (t:zeV):Bool:=pk t 0 false==45
def zJ (t:zeV):Nat:=if z7P t then 1 else 0
def nsM (t:zeV):Wt:=
 let v:=zA t (zJ t) false
 if z1n t v.1 v.2.1||(z7P t&&v.2.2.toList==[48]) then z0K else jU (if z7P t then - z0V v.2.2.toList else z0V v.2.2.toList)
theorem z9J (p:Int→Bool)(s:zeV)(d:Bool): ∀k a,run p s d k a≤a+k:=by
 intro k
 induction k with
 |zero=>intro a;exact zeK _
 |succ k ih=>
  intro a
  unfold run
  split
  ·have:=ih (a+1);omega
  ·omega
theorem z6I (p:Int→Bool)(s:zeV)(d:Bool): ∀k a j,a≤j→j<run p s d k a→p (pk s j d)=true:=by
 intro k
 induction k with
 |zero=>intro a j h1 h2;simp [run] at h2;omega
 |succ k ih=>
  intro a j h1 h2
  unfold run at h2
  by_cases hc:p (pk s a d)=true
  ·rw [if_pos hc] at h2
   by_cases hj:j=a
   ·rw [hj];exact hc
   ·exact ih (a+1) j (by omega) h2
  ·rw [if_neg hc] at h2;omega
theorem zbr {s:zeV}{j:Nat}(h:zg (pk s j false)=true): ∃hj:j<s.size,48≤s[j].toNat∧s[j].toNat≤57:=by
 have hne:pk s j false≠ -1:=fun e=>by rw [e] at h;exact absurd h (by decide)
 have hj:=(z06 hne).2
 refine⟨hj,?_⟩
 simp [pk,hj,zg] at h
 omega
theorem z2U (s:zeV)(a r:Nat):(s.extract a r).toList=(s.data.toList.drop a).take (r - a):=by
 rw [zeJ]
 rw [ByteArray.data_extract]
 simp [Array.toList_extract,List.extract]
theorem z5Q {s:zeV}{a r:Nat}(h: ∀j,a≤j→j<r→zg (pk s j false)=true):zbE (s.extract a r).toList:=by
 intro c hc
 rw [z2U] at hc
 obtain⟨i,hi,rfl⟩:=List.getElem_of_mem hc
 simp at hi
 have hl:a+i<s.size:=by omega
 obtain⟨hj,h1⟩:=zbr (h (a+i) (by omega) (by omega))
 rw [List.getElem_take,List.getElem_drop]
 exact h1
theorem z3x {s:zeV}{a:Nat}(h:(zA s a false).2.1=false):zbE (zA s a false).2.2.toList∧(zA s a false).2.2.toList.length≤9∧(zA s a false).2.2.toList.length=(zA s a false).2.2.size:=by
 unfold zA at*
 generalize hm:(if pk s a false==48 then 1 else 9)=m at*
 have hm9:m≤9:=by rw [←hm];split<;>omega
 unfold jR at*
 simp only at*
 have hup:=z9J zg s false m a
 split
 ·rename_i hq;rw [if_pos hq] at h;cases h
 ·refine⟨z5Q fun j h1 h2=>z6I zg s false m a j h1 h2,?_,?_⟩
  ·rw [z2U];simp;omega
  ·rw [zeJ];rfl
theorem z1Q (t:zeV)(w:World)(hs:t.size≤600):Calls Tryz.prog 120 #[.string t] w fun e w'=>z2D (nsM t) w e w':=by
 have hrd0:Rd ((w.alloc (.cells #[.int .i64 0,.bool false,.int .i64 0,.string ⟨#[]⟩] 75)).alloc (.cells #[.string t,.int .i64 0,.bool false,.slice none 0 0,.slice none 0 0,.slice none 0 0,.slice none 0 0] 66)) (w.heap.size+1) t 0 false:=by
  have hg:=heap_alloc_new (w.alloc (.cells #[.int .i64 0,.bool false,.int .i64 0,.string ⟨#[]⟩] 75)) (.cells #[.string t,.int .i64 0,.bool false,.slice none 0 0,.slice none 0 0,.slice none 0 0,.slice none 0 0] 66)
  rw [show(w.alloc (.cells #[.int .i64 0,.bool false,.int .i64 0,.string ⟨#[]⟩] 75)).heap.size=w.heap.size+1 by simp] at hg
  obtain⟨q0,q1,q2,_,_,_,_,qf⟩:=z92 hg
  exact⟨q0,q1,q2,qf _,qf _,zeR _,hs⟩
 have hB0:Below w.heap.size w ((w.alloc (.cells #[.int .i64 0,.bool false,.int .i64 0,.string ⟨#[]⟩] 75)).alloc (.cells #[.string t,.int .i64 0,.bool false,.slice none 0 0,.slice none 0 0,.slice none 0 0,.slice none 0 0] 66)):=((zeU w.heap.size w).alloc (zeK _) _).alloc (by simp) _
 have hX0:((w.alloc (.cells #[.int .i64 0,.bool false,.int .i64 0,.string ⟨#[]⟩] 75)).alloc (.cells #[.string t,.int .i64 0,.bool false,.slice none 0 0,.slice none 0 0,.slice none 0 0,.slice none 0 0] 66)).heap[w.heap.size]?=some (.cells #[.int .i64 0,.bool false,.int .i64 0,.string ⟨#[]⟩] 75):=(zeM _ _ _ (by simp)).trans (heap_alloc_new w _)
 have hz0:((w.alloc (.cells #[.int .i64 0,.bool false,.int .i64 0,.string ⟨#[]⟩] 75)).alloc (.cells #[.string t,.int .i64 0,.bool false,.slice none 0 0,.slice none 0 0,.slice none 0 0,.slice none 0 0] 66)).heap.size=w.heap.size+2:=by simp
 have H0:=z8 (zeL hrd0 (zeL hB0 (zeL hX0 hz0)))
 clear hrd0 hB0 hX0 hz0
 have HBN:=z8 (fun a W h=>z1R (w.heap.size+1) a t false W h)
 have HPK:=z8 (fun W h=>zm (w.heap.size+1) 0 t false W h)
 have hfin:Hid (nsM t=if z1n t (zA t (zJ t) false).1 (zA t (zJ t) false).2.1||(z7P t&&(zA t (zJ t) false).2.2.toList==[48]) then z0K else jU (if z7P t then - z0V (zA t (zJ t) false).2.2.toList else z0V (zA t (zJ t) false).2.2.toList)):=z8 rfl
 have hdig:=z3x (s:=t) (a:=zJ t)
 cases hn:z7P t
 case true=>
  have hf:zJ t=1:=by unfold zJ;rw [hn];rfl
  rw [hf] at hfin hdig
  rw [hn] at hfin
  have hpk:(pk t 0 false==45)=true:=hn
  have hbn:=z8 (HBN.out 1)
  generalize zA t 1 false=v at*
  obtain⟨av,dv,tv⟩:=v
  simp only at*
  go_enter Tryz.func120,Tryz.ntmps120
  go_wp2_with fail
  obtain⟨hrd0,hB0,hX0,hz0⟩:=H0.out
  clear H0
  generalize ((w.alloc (.cells #[.int .i64 0,.bool false,.int .i64 0,.string ⟨#[]⟩] 75)).alloc (.cells #[.string t,.int .i64 0,.bool false,.slice none 0 0,.slice none 0 0,.slice none 0 0,.slice none 0 0] 66))=W at*
  refine(HPK.out W hrd0).mono ?_
  rintro e w1 ⟨rfl,n1,rfl⟩
  go_wp2_with fail
  have hpk1:pk t 0 false=((45:UInt8).toNat:Int):=by simpa using hpk
  have hW:=jX (w.heap.size+1) 0 t ⟨#[45]⟩ false _ (hrd0.drewN n1) (by decide)
  rw [show(ByteArray.mk #[45]).data.toList=[45] from rfl,z10 hpk1] at hW
  refine hW.mono ?_
  rintro e wA ⟨rfl,hrA,hsA⟩
  have hXA:=(hsA.block w.heap.size (by omega)).trans hX0
  have hBA:Below w.heap.size w wA:=⟨hsA.os.trans hB0.os,hsA.tape.trans hB0.tape,hsA.output.trans hB0.output,by have:=hsA.size;simp at this;omega,fun k hk=>(hsA.block k (by omega)).trans (hB0.block k hk)⟩
  have hzA:wA.heap.size=w.heap.size+2:=by have:=hsA.size;simp at this;omega
  clear hW hsA hpk1
  have hrA:Rd wA (w.heap.size+1) t 1 false:=hrA
  clear hrd0 hB0 hX0 hz0 HPK
  go_wp2_with fail
  refine(hbn.out wA hrA).mono ?_
  rintro e w2 ⟨rfl,hr2,hs2⟩
  have hE:=z2H _ _ _ _ _ hr2
  have hz2:w2.heap.size=w.heap.size+2:=by have:=hs2.size;omega
  have hX2:=(hs2.block w.heap.size (by omega)).trans hXA
  have hB2:Below w.heap.size w w2:=⟨hs2.os.trans hBA.os,hs2.tape.trans hBA.tape,hs2.output.trans hBA.output,by omega,fun k hk=>(hs2.block k (by omega)).trans (hBA.block k hk)⟩
  clear hs2 hXA hBA hrA hzA hbn HBN
  go_wp2_with fail
  refine hE.mono ?_
  rintro e w3 ⟨rfl,hr3,hs3⟩
  have hz3:w3.heap.size=w.heap.size+2:=by have:=hs3.size;omega
  have hX3:=(hs3.block w.heap.size (by omega)).trans hX2
  have hB3:Below w.heap.size w w3:=⟨hs3.os.trans hB2.os,hs3.tape.trans hB2.tape,hs3.output.trans hB2.output,by omega,fun k hk=>(hs3.block k (by omega)).trans (hB2.block k hk)⟩
  clear hs3 hX2 hB2 hE hr2 hz2
  have hbad:=hr3.c2
  obtain⟨y0,y1,y2,y3,g0,g1,g2,g3⟩:=zZ hX3
  have HB3:=z8 hB3
  have HX3:=z8 hX3
  have HR3:=z8 hr3
  clear hB3 hX3 hr3
  cases hen:z1n t av dv
  case true=>
   rw [hen] at hbad
   have hres:Hid (nsM t=z0K):=z8 (by rw [hfin.out,hen];rfl)
   go_wp2_with fail
   obtain⟨z0,z1,z2,z3⟩:=zn HX3.out (.int .i64 0) (.bool false) (.int .i64 0) (.string ⟨#[]⟩)
   refine bodyPost_ret (v:= .agg #[.int .i64 0,.bool false,.int .i64 0,.string ⟨#[]⟩]) (by simp [results,Tryz.results120,go_sem,z0,z1,z2,z3]) rfl ?_
   exact⟨by rw [hres.out];rfl,zv HB3.out (zeK _) _ _ _ _⟩
  rw [hen] at hbad
  cases h48:(tv.toList==[48])
  case true=>
   have hres:Hid (nsM t=z0K):=z8 (by rw [hfin.out,hen,h48];rfl)
   go_wp2_with fail
   obtain⟨z0,z1,z2,z3⟩:=zn HX3.out (.int .i64 0) (.bool false) (.int .i64 0) (.string ⟨#[]⟩)
   refine bodyPost_ret (v:= .agg #[.int .i64 0,.bool false,.int .i64 0,.string ⟨#[]⟩]) (by simp [results,Tryz.results120,go_sem,z0,z1,z2,z3]) rfl ?_
   exact⟨by rw [hres.out];rfl,zv HB3.out (zeK _) _ _ _ _⟩
  have hres:Hid (nsM t=jU (- z0V tv.toList)):=z8 (by rw [hfin.out,hen,h48];rfl)
  have hdv:dv=false:=by cases hd:dv with|false=>rfl|true=>rw [hd] at hen;cases hen
  have hdig:=z8 (hdig hdv)
  obtain⟨n0,hn0⟩: ∃n0,n0=tv.size:=⟨_,rfl⟩
  have hN:Hid (tv.size=n0):=z8 hn0.symm
  have h9:n0≤9:=by rw [hn0,←hdig.out.2.2];exact hdig.out.2.1
  clear hn0
  have hlen:tv.size≤9:=by rw [hN.out];exact h9
  clear hfin
  go_wp2_with fail
  go_loopg [6,7] (tv.size+1) (fun k nv iv wr=> ∃i:Nat,k+i=tv.size+1∧i≤tv.size∧iv= .int .i64 i∧nv= .int .i64 (z0V (tv.toList.take i))∧wr=w3)
  case atStart=>exact⟨0,rfl,zeR _,rfl,rfl,rfl⟩
  case round=>
   obtain⟨i,hk,hil,rfl,rfl,rfl⟩:=hrel
   have HK:=z8 hk
   clear hk
   by_cases hlt:i<tv.size
   ·have hlt':(i:Int)<tv.size:=by omega
    have hget:tv.toList[i]?=some tv[i]:=by rw [zeJ,zeH (show i<tv.data.toList.length from hlt)];rfl
    have hc:=hdig.out.1 tv[i] (zeP hget)
    have hr1:=z0m (tv.toList.take i) (fun c hc=>hdig.out.1 c (List.mem_of_mem_take hc)) (by rw [List.length_take];omega)
    have hst:Hid (z0V (tv.toList.take (i+1))=z0V (tv.toList.take i)*10+((tv[i].toNat:Int)- 48)):=z8 (by rw [List.take_add_one,hget];exact z1t _ _)
    have hr2:=z0m (tv.toList.take (i+1)) (fun c hc=>hdig.out.1 c (List.mem_of_mem_take hc)) (by rw [List.length_take];omega)
    rw [hst.out] at hr2
    generalize z0V (tv.toList.take i)=n at*
    have hc1:48≤(tv[i].toNat:Int):=by omega
    have hc2:(tv[i].toNat:Int)≤57:=by omega
    go_wp2_with fail
    have hk:=HK.out
    go_roundg (tv.size - i)
    case measure=>omega
    case rel=>exact⟨i+1,by omega,by omega,by go_num,by rw [hst.out],rfl⟩
   ·have hlt': ¬(i:Int)<tv.size:=by omega
    have hall:tv.toList.take i=tv.toList:=List.take_of_length_le (by rw [hdig.out.2.2];omega)
    rw [hall]
    have hr1:=z0m tv.toList hdig.out.1 hdig.out.2.1
    generalize z0V tv.toList=n at*
    have HC:=z8 (j9 (-n) wr)
    generalize hX:jU (-n)=X at*
    clear hX
    go_wp2_with fail
    refine HC.out.mono ?_
    rintro e w5 ⟨rfl,hB5⟩
    have hbx:=(hB5.block w.heap.size (by omega)).trans HX3.out
    obtain⟨y0',y1',y2',y3',g0',g1',g2',g3'⟩:=zZ hbx
    obtain⟨z0,z1,z2,z3⟩:=zn hbx (.int .i64 X.kind) (.bool X.truth) (.int .i64 X.num) (.string X.text)
    have HB5:=z8 (zv (HB3.out.trans (hB5.mono (by omega))) (zeK w.heap.size) (.int .i64 X.kind) (.bool X.truth) (.int .i64 X.num) (.string X.text))
    clear hbx hB5
    go_wp2_with fail
    refine bodyPost_ret (v:= .agg #[.int .i64 X.kind,.bool X.truth,.int .i64 X.num,.string X.text]) (by simp [results,Tryz.results120,go_sem,z0,z1,z2,z3]) rfl ?_
    exact⟨by rw [hres.out],HB5.out⟩
 case false=>
  have hf:zJ t=0:=by unfold zJ;rw [hn];rfl
  rw [hf] at hfin hdig
  rw [hn] at hfin
  have hpk:(pk t 0 false==45)=false:=hn
  have hbn:=z8 (HBN.out 0)
  generalize zA t 0 false=v at*
  obtain⟨av,dv,tv⟩:=v
  simp only at*
  go_enter Tryz.func120,Tryz.ntmps120
  go_wp2_with fail
  obtain⟨hrd0,hB0,hX0,hz0⟩:=H0.out
  clear H0
  generalize ((w.alloc (.cells #[.int .i64 0,.bool false,.int .i64 0,.string ⟨#[]⟩] 75)).alloc (.cells #[.string t,.int .i64 0,.bool false,.slice none 0 0,.slice none 0 0,.slice none 0 0,.slice none 0 0] 66))=W at*
  refine(HPK.out W hrd0).mono ?_
  rintro e w1 ⟨rfl,n1,rfl⟩
  have hrA:=hrd0.drewN n1
  have hXA:(W.drewN n1).heap[w.heap.size]?=_:=hX0
  have hBA:Below w.heap.size w (W.drewN n1):=⟨hB0.os,hB0.tape,hB0.output,hB0.size,hB0.block⟩
  have hzA:(W.drewN n1).heap.size=w.heap.size+2:=hz0
  generalize (W.drewN n1)=wA at*
  clear hrd0 hB0 hX0 hz0 HPK
  go_wp2_with fail
  refine(hbn.out wA hrA).mono ?_
  rintro e w2 ⟨rfl,hr2,hs2⟩
  have hE:=z2H _ _ _ _ _ hr2
  have hz2:w2.heap.size=w.heap.size+2:=by have:=hs2.size;omega
  have hX2:=(hs2.block w.heap.size (by omega)).trans hXA
  have hB2:Below w.heap.size w w2:=⟨hs2.os.trans hBA.os,hs2.tape.trans hBA.tape,hs2.output.trans hBA.output,by omega,fun k hk=>(hs2.block k (by omega)).trans (hBA.block k hk)⟩
  clear hs2 hXA hBA hrA hzA hbn HBN
  go_wp2_with fail
  refine hE.mono ?_
  rintro e w3 ⟨rfl,hr3,hs3⟩
  have hz3:w3.heap.size=w.heap.size+2:=by have:=hs3.size;omega
  have hX3:=(hs3.block w.heap.size (by omega)).trans hX2
  have hB3:Below w.heap.size w w3:=⟨hs3.os.trans hB2.os,hs3.tape.trans hB2.tape,hs3.output.trans hB2.output,by omega,fun k hk=>(hs3.block k (by omega)).trans (hB2.block k hk)⟩
  clear hs3 hX2 hB2 hE hr2 hz2
  have hbad:=hr3.c2
  obtain⟨y0,y1,y2,y3,g0,g1,g2,g3⟩:=zZ hX3
  have HB3:=z8 hB3
  have HX3:=z8 hX3
  have HR3:=z8 hr3
  clear hB3 hX3 hr3
  cases hen:z1n t av dv
  case true=>
   rw [hen] at hbad
   have hres:Hid (nsM t=z0K):=z8 (by rw [hfin.out,hen];rfl)
   go_wp2_with fail
   obtain⟨z0,z1,z2,z3⟩:=zn HX3.out (.int .i64 0) (.bool false) (.int .i64 0) (.string ⟨#[]⟩)
   refine bodyPost_ret (v:= .agg #[.int .i64 0,.bool false,.int .i64 0,.string ⟨#[]⟩]) (by simp [results,Tryz.results120,go_sem,z0,z1,z2,z3]) rfl ?_
   exact⟨by rw [hres.out];rfl,zv HB3.out (zeK _) _ _ _ _⟩
  rw [hen] at hbad
  have hres:Hid (nsM t=jU (z0V tv.toList)):=z8 (by rw [hfin.out,hen];rfl)
  have hdv:dv=false:=by cases hd:dv with|false=>rfl|true=>rw [hd] at hen;cases hen
  have hdig:=z8 (hdig hdv)
  obtain⟨n0,hn0⟩: ∃n0,n0=tv.size:=⟨_,rfl⟩
  have hN:Hid (tv.size=n0):=z8 hn0.symm
  have h9:n0≤9:=by rw [hn0,←hdig.out.2.2];exact hdig.out.2.1
  clear hn0
  have hlen:tv.size≤9:=by rw [hN.out];exact h9
  clear hfin
  go_wp2_with fail
  go_loopg [6,7] (tv.size+1) (fun k nv iv wr=> ∃i:Nat,k+i=tv.size+1∧i≤tv.size∧iv= .int .i64 i∧nv= .int .i64 (z0V (tv.toList.take i))∧wr=w3)
  case atStart=>exact⟨0,rfl,zeR _,rfl,rfl,rfl⟩
  case round=>
   obtain⟨i,hk,hil,rfl,rfl,rfl⟩:=hrel
   have HK:=z8 hk
   clear hk
   by_cases hlt:i<tv.size
   ·have hlt':(i:Int)<tv.size:=by omega
    have hget:tv.toList[i]?=some tv[i]:=by rw [zeJ,zeH (show i<tv.data.toList.length from hlt)];rfl
    have hc:=hdig.out.1 tv[i] (zeP hget)
    have hr1:=z0m (tv.toList.take i) (fun c hc=>hdig.out.1 c (List.mem_of_mem_take hc)) (by rw [List.length_take];omega)
    have hst:Hid (z0V (tv.toList.take (i+1))=z0V (tv.toList.take i)*10+((tv[i].toNat:Int)- 48)):=z8 (by rw [List.take_add_one,hget];exact z1t _ _)
    have hr2:=z0m (tv.toList.take (i+1)) (fun c hc=>hdig.out.1 c (List.mem_of_mem_take hc)) (by rw [List.length_take];omega)
    rw [hst.out] at hr2
    generalize z0V (tv.toList.take i)=n at*
    have hc1:48≤(tv[i].toNat:Int):=by omega
    have hc2:(tv[i].toNat:Int)≤57:=by omega
    go_wp2_with fail
    have hk:=HK.out
    go_roundg (tv.size - i)
    case measure=>omega
    case rel=>exact⟨i+1,by omega,by omega,by go_num,by rw [hst.out],rfl⟩
   ·have hlt': ¬(i:Int)<tv.size:=by omega
    have hall:tv.toList.take i=tv.toList:=List.take_of_length_le (by rw [hdig.out.2.2];omega)
    rw [hall]
    have hr1:=z0m tv.toList hdig.out.1 hdig.out.2.1
    generalize z0V tv.toList=n at*
    have HC:=z8 (j9 n wr)
    generalize hX:jU n=X at*
    clear hX
    go_wp2_with fail
    refine HC.out.mono ?_
    rintro e w5 ⟨rfl,hB5⟩
    have hbx:=(hB5.block w.heap.size (by omega)).trans HX3.out
    obtain⟨y0',y1',y2',y3',g0',g1',g2',g3'⟩:=zZ hbx
    obtain⟨z0,z1,z2,z3⟩:=zn hbx (.int .i64 X.kind) (.bool X.truth) (.int .i64 X.num) (.string X.text)
    have HB5:=z8 (zv (HB3.out.trans (hB5.mono (by omega))) (zeK w.heap.size) (.int .i64 X.kind) (.bool X.truth) (.int .i64 X.num) (.string X.text))
    clear hbx hB5
    go_wp2_with fail
    refine bodyPost_ret (v:= .agg #[.int .i64 X.kind,.bool X.truth,.int .i64 X.num,.string X.text]) (by simp [results,Tryz.results120,go_sem,z0,z1,z2,z3]) rfl ?_
    exact⟨by rw [hres.out],HB5.out⟩
def wAt (ws:List Wt)(i:Int):Wt:=if i<0 then z0K else ws.getD i.toNat z0K
theorem z3V (nm:zeV)(m:Nat): ∀l:List (zeV×zeV),(∀p∈l,p.2.size≤m)→(z1L nm l).size≤m:=by
 intro l
 induction l with
 |nil=>intro _;exact zeR _
 |cons y ys ih=>
  intro h
  unfold z1L
  split
  ·exact h y (by simp)
  ·exact ih fun p hp=>h p (by simp [hp])
theorem z0C (base:Nat)(ts:List Wt)(v:Value)(i:Int)(w:World)(h:w.ownsRow base 75 4 v ts.length ((ts.map Wt.cells).flatten))(hlen:ts.length≤100000):
  Calls Tryz.prog 43 #[v,.int .i64 i] w fun e w'=>z2D (wAt ts i) w e w':=by
 have hB:=z8 fun o:Obj=>(zeU w.heap.size w).alloc (zeK _) o
 obtain⟨a0,c0,rfl⟩:=za h
 by_cases h0:i<0
 ·have hfin:Hid (wAt ts i=z0K):=z8 (by unfold wAt;rw [if_pos h0])
  go_enter Tryz.func43,Tryz.ntmps43
  go_wp2_with fail
  refine bodyPost_ret (v:= .agg #[.int .i64 0,.bool false,.int .i64 0,.string ⟨#[]⟩]) (by simp [results,Tryz.results43,go_sem]) rfl ?_
  exact⟨by rw [hfin.out];rfl,hB.out _⟩
 ·obtain⟨j,rfl⟩:=Int.eq_ofNat_of_zero_le (show 0≤i by omega)
  by_cases h1:j<ts.length
  ·obtain⟨g,cap,hv,hb,hg⟩:=h.form (by omega)
   injection hv with e1 e2 e3
   subst e1 e3
   obtain⟨z,hz⟩: ∃z,ts[j]?=some z:=⟨ts[j],zeH h1⟩
   have hcell: ∀k u,z.cells[k]?=some u→k<4→w.cell? ⟨g,j*4+k,none⟩=some u:=fun k u hu hk=>zf h _ _ ((zI Wt.cells 4 Wt.cells_len ts j k z hz hk).trans hu)
   have q0:w.cell? ⟨g,j*4,none⟩=some (.int .i64 z.kind):=hcell 0 _ rfl (by omega)
   have q1:=hcell 1 _ rfl (by omega)
   have q2:=hcell 2 _ rfl (by omega)
   have q3:=hcell 3 _ rfl (by omega)
   have hfin:Hid (wAt ts j=z):=z8 (by unfold wAt;rw [if_neg (by omega)];simp [List.getD,hz])
   have h1':(j:Int)<ts.length:=by omega
   have hgg:g≠w.heap.size:=by omega
   clear hcell hz
   go_enter Tryz.func43,Tryz.ntmps43
   go_wp2_with fail
   refine bodyPost_ret (v:= .agg #[.int .i64 z.kind,.bool z.truth,.int .i64 z.num,.string z.text]) (by simp [results,Tryz.results43,go_sem]) rfl ?_
   exact⟨by rw [hfin.out],hB.out _⟩
  ·have hfin:Hid (wAt ts j=z0K):=z8 (by unfold wAt;rw [if_neg (by omega)];simp [List.getElem?_eq_none (Nat.le_of_not_lt h1)])
   have h1': ¬(j:Int)<ts.length:=by omega
   go_enter Tryz.func43,Tryz.ntmps43
   go_wp2_with fail
   refine bodyPost_ret (v:= .agg #[.int .i64 0,.bool false,.int .i64 0,.string ⟨#[]⟩]) (by simp [results,Tryz.results43,go_sem]) rfl ?_
   exact⟨by rw [hfin.out];rfl,hB.out _⟩
def z1M (x y:Wt):Bool:=(x.num==y.num)&&(x.text.toList==y.text.toList)
def z1N (x y:Wt):Bool:=decide (x.num<y.num)||Op.bytesLess x.text.toList y.text.toList
def z22 (t:zeV)(x y:Wt):Bool:=
 if t.toList==[61,61] then z1M x y else if t.toList==[33,61] then !z1M x y else if t.toList==[60] then z1N x y
 else if t.toList==[60,61] then z1N x y||z1M x y else if t.toList==[62] then !z1N x y&& !z1M x y else !z1N x y
theorem z1H {b c:Bool}{w:World}{e:Ending}{w':World}(h:z2D (z0u b) w e w')(hbc:b=c):z2D (z0u c) w e w':=hbc▸h
theorem z5r (t:zeV)(x y:Wt)(w:World):Calls Tryz.prog 154 #[.string t,.agg #[.int .i64 x.kind,.bool x.truth,.int .i64 x.num,.string x.text],.agg #[.int .i64 y.kind,.bool y.truth,.int .i64 y.num,.string y.text]] w fun e w'=>z2D (z0u (z22 t x y)) w e w':=by
 have HB0:Hid (Below w.heap.size w (((w.alloc (.cells #[.int .i64 x.kind,.bool x.truth,.int .i64 x.num,.string x.text] 75)).alloc (.cells #[.int .i64 y.kind,.bool y.truth,.int .i64 y.num,.string y.text] 75)).alloc (.cells #[.int .i64 0,.bool false,.int .i64 0,.string ⟨#[]⟩] 75))):=z8 ((((zeU w.heap.size w).alloc (zeK _) (.cells #[.int .i64 x.kind,.bool x.truth,.int .i64 x.num,.string x.text] 75)).alloc (by simp<;>omega) (.cells #[.int .i64 y.kind,.bool y.truth,.int .i64 y.num,.string y.text] 75)).alloc (by simp<;>omega) (.cells #[.int .i64 0,.bool false,.int .i64 0,.string ⟨#[]⟩] 75))
 have HX:Hid ((((w.alloc (.cells #[.int .i64 x.kind,.bool x.truth,.int .i64 x.num,.string x.text] 75)).alloc (.cells #[.int .i64 y.kind,.bool y.truth,.int .i64 y.num,.string y.text] 75)).alloc (.cells #[.int .i64 0,.bool false,.int .i64 0,.string ⟨#[]⟩] 75)).heap[w.heap.size+1+1]?=some (.cells #[.int .i64 0,.bool false,.int .i64 0,.string ⟨#[]⟩] 75)):=z8 (by have q:=heap_alloc_new ((w.alloc (.cells #[.int .i64 x.kind,.bool x.truth,.int .i64 x.num,.string x.text] 75)).alloc (.cells #[.int .i64 y.kind,.bool y.truth,.int .i64 y.num,.string y.text] 75)) (.cells #[.int .i64 0,.bool false,.int .i64 0,.string ⟨#[]⟩] 75);rw [show((w.alloc (.cells #[.int .i64 x.kind,.bool x.truth,.int .i64 x.num,.string x.text] 75)).alloc (.cells #[.int .i64 y.kind,.bool y.truth,.int .i64 y.num,.string y.text] 75)).heap.size=w.heap.size+1+1 by simp] at q;exact q)
 have HZ:Hid (w.heap.size+1+1<(((w.alloc (.cells #[.int .i64 x.kind,.bool x.truth,.int .i64 x.num,.string x.text] 75)).alloc (.cells #[.int .i64 y.kind,.bool y.truth,.int .i64 y.num,.string y.text] 75)).alloc (.cells #[.int .i64 0,.bool false,.int .i64 0,.string ⟨#[]⟩] 75)).heap.size):=z8 (by simp)
 have HZ1:Hid (w.heap.size≤(((w.alloc (.cells #[.int .i64 x.kind,.bool x.truth,.int .i64 x.num,.string x.text] 75)).alloc (.cells #[.int .i64 y.kind,.bool y.truth,.int .i64 y.num,.string y.text] 75)).alloc (.cells #[.int .i64 0,.bool false,.int .i64 0,.string ⟨#[]⟩] 75)).heap.size):=z8 (by simp<;>omega)
 have HG:Hid (w.heap.size≤w.heap.size+1+1):=z8 (by omega)
 have HC:=z8 (fun b=>z17 b (((w.alloc (.cells #[.int .i64 x.kind,.bool x.truth,.int .i64 x.num,.string x.text] 75)).alloc (.cells #[.int .i64 y.kind,.bool y.truth,.int .i64 y.num,.string y.text] 75)).alloc (.cells #[.int .i64 0,.bool false,.int .i64 0,.string ⟨#[]⟩] 75)))
 have hcase:(x.num<y.num∧(x.num==y.num)=false)∨(¬x.num<y.num∧(x.num==y.num)=true)∨(¬x.num<y.num∧(x.num==y.num)=false):=by simp only [beq_eq_false_iff_ne,beq_iff_eq,ne_eq];omega
 have hX: ∃X,X=z0u (z22 t x y):=⟨_,rfl⟩
 obtain⟨X,hX⟩:=hX
 have HXX:=z8 hX
 clear hX
 cases g1:(t.toList==[61,61])
 case true=>
  cases hl:Op.bytesLess x.text.toList y.text.toList
  all_goals rcases hcase with⟨h1,h2⟩|⟨h1,h2⟩|⟨h1,h2⟩
  all_goals
   go_enter Tryz.func154,Tryz.ntmps154
   go_wp2_with fail
   refine(HC.out _).mono ?_
   intro e w1 hq
   have hq':=z1H (c:=z22 t x y) hq (by(simp [z22,z1M,z1N,g1,h1,h2,hl]);try(intro hh;omega))
   rw [←HXX.out] at hq'
   clear hq
   obtain⟨rfl,hB1⟩:=hq'
   have hbx:=(hB1.block _ HZ.out).trans HX.out
   obtain⟨y0,y1,y2,y3,g0,g1,g2,g3⟩:=zZ hbx
   obtain⟨z0,z1,z2,z3⟩:=zn hbx (.int .i64 X.kind) (.bool X.truth) (.int .i64 X.num) (.string X.text)
   have HB2:=z8 (zv (HB0.out.trans (hB1.mono HZ1.out)) HG.out (.int .i64 X.kind) (.bool X.truth) (.int .i64 X.num) (.string X.text))
   clear hbx hB1
   go_wp2_with fail
   refine bodyPost_ret (v:= .agg #[.int .i64 X.kind,.bool X.truth,.int .i64 X.num,.string X.text]) (by simp [results,Tryz.results154,go_sem,z0,z1,z2,z3]) rfl ?_
   exact⟨by rw [←HXX.out],HB2.out⟩
 cases g2:(t.toList==[33,61])
 case true=>
  cases hl:Op.bytesLess x.text.toList y.text.toList
  all_goals rcases hcase with⟨h1,h2⟩|⟨h1,h2⟩|⟨h1,h2⟩
  all_goals
   go_enter Tryz.func154,Tryz.ntmps154
   go_wp2_with fail
   refine(HC.out _).mono ?_
   intro e w1 hq
   have hq':=z1H (c:=z22 t x y) hq (by(simp [z22,z1M,z1N,g1,g2,h1,h2,hl]);try(intro hh;omega))
   rw [←HXX.out] at hq'
   clear hq
   obtain⟨rfl,hB1⟩:=hq'
   have hbx:=(hB1.block _ HZ.out).trans HX.out
   obtain⟨y0,y1,y2,y3,g0,g1,g2,g3⟩:=zZ hbx
   obtain⟨z0,z1,z2,z3⟩:=zn hbx (.int .i64 X.kind) (.bool X.truth) (.int .i64 X.num) (.string X.text)
   have HB2:=z8 (zv (HB0.out.trans (hB1.mono HZ1.out)) HG.out (.int .i64 X.kind) (.bool X.truth) (.int .i64 X.num) (.string X.text))
   clear hbx hB1
   go_wp2_with fail
   refine bodyPost_ret (v:= .agg #[.int .i64 X.kind,.bool X.truth,.int .i64 X.num,.string X.text]) (by simp [results,Tryz.results154,go_sem,z0,z1,z2,z3]) rfl ?_
   exact⟨by rw [←HXX.out],HB2.out⟩
 cases g3:(t.toList==[60])
 case true=>
  cases hl:Op.bytesLess x.text.toList y.text.toList
  all_goals rcases hcase with⟨h1,h2⟩|⟨h1,h2⟩|⟨h1,h2⟩
  all_goals
   go_enter Tryz.func154,Tryz.ntmps154
   go_wp2_with fail
   refine(HC.out _).mono ?_
   intro e w1 hq
   have hq':=z1H (c:=z22 t x y) hq (by(simp [z22,z1M,z1N,g1,g2,g3,h1,h2,hl]);try(intro hh;omega))
   rw [←HXX.out] at hq'
   clear hq
   obtain⟨rfl,hB1⟩:=hq'
   have hbx:=(hB1.block _ HZ.out).trans HX.out
   obtain⟨y0,y1,y2,y3,g0,g1,g2,g3⟩:=zZ hbx
   obtain⟨z0,z1,z2,z3⟩:=zn hbx (.int .i64 X.kind) (.bool X.truth) (.int .i64 X.num) (.string X.text)
   have HB2:=z8 (zv (HB0.out.trans (hB1.mono HZ1.out)) HG.out (.int .i64 X.kind) (.bool X.truth) (.int .i64 X.num) (.string X.text))
   clear hbx hB1
   go_wp2_with fail
   refine bodyPost_ret (v:= .agg #[.int .i64 X.kind,.bool X.truth,.int .i64 X.num,.string X.text]) (by simp [results,Tryz.results154,go_sem,z0,z1,z2,z3]) rfl ?_
   exact⟨by rw [←HXX.out],HB2.out⟩
 cases g4:(t.toList==[60,61])
 case true=>
  cases hl:Op.bytesLess x.text.toList y.text.toList
  all_goals rcases hcase with⟨h1,h2⟩|⟨h1,h2⟩|⟨h1,h2⟩
  all_goals
   go_enter Tryz.func154,Tryz.ntmps154
   go_wp2_with fail
   refine(HC.out _).mono ?_
   intro e w1 hq
   have hq':=z1H (c:=z22 t x y) hq (by(simp [z22,z1M,z1N,g1,g2,g3,g4,h1,h2,hl]);try(intro hh;omega))
   rw [←HXX.out] at hq'
   clear hq
   obtain⟨rfl,hB1⟩:=hq'
   have hbx:=(hB1.block _ HZ.out).trans HX.out
   obtain⟨y0,y1,y2,y3,g0,g1,g2,g3⟩:=zZ hbx
   obtain⟨z0,z1,z2,z3⟩:=zn hbx (.int .i64 X.kind) (.bool X.truth) (.int .i64 X.num) (.string X.text)
   have HB2:=z8 (zv (HB0.out.trans (hB1.mono HZ1.out)) HG.out (.int .i64 X.kind) (.bool X.truth) (.int .i64 X.num) (.string X.text))
   clear hbx hB1
   go_wp2_with fail
   refine bodyPost_ret (v:= .agg #[.int .i64 X.kind,.bool X.truth,.int .i64 X.num,.string X.text]) (by simp [results,Tryz.results154,go_sem,z0,z1,z2,z3]) rfl ?_
   exact⟨by rw [←HXX.out],HB2.out⟩
 cases g5:(t.toList==[62])
 case true=>
  cases hl:Op.bytesLess x.text.toList y.text.toList
  all_goals rcases hcase with⟨h1,h2⟩|⟨h1,h2⟩|⟨h1,h2⟩
  all_goals
   go_enter Tryz.func154,Tryz.ntmps154
   go_wp2_with fail
   refine(HC.out _).mono ?_
   intro e w1 hq
   have hq':=z1H (c:=z22 t x y) hq (by(simp [z22,z1M,z1N,g1,g2,g3,g4,g5,h1,h2,hl]);try(intro hh;omega))
   rw [←HXX.out] at hq'
   clear hq
   obtain⟨rfl,hB1⟩:=hq'
   have hbx:=(hB1.block _ HZ.out).trans HX.out
   obtain⟨y0,y1,y2,y3,g0,g1,g2,g3⟩:=zZ hbx
   obtain⟨z0,z1,z2,z3⟩:=zn hbx (.int .i64 X.kind) (.bool X.truth) (.int .i64 X.num) (.string X.text)
   have HB2:=z8 (zv (HB0.out.trans (hB1.mono HZ1.out)) HG.out (.int .i64 X.kind) (.bool X.truth) (.int .i64 X.num) (.string X.text))
   clear hbx hB1
   go_wp2_with fail
   refine bodyPost_ret (v:= .agg #[.int .i64 X.kind,.bool X.truth,.int .i64 X.num,.string X.text]) (by simp [results,Tryz.results154,go_sem,z0,z1,z2,z3]) rfl ?_
   exact⟨by rw [←HXX.out],HB2.out⟩
 cases hl:Op.bytesLess x.text.toList y.text.toList
 all_goals rcases hcase with⟨h1,h2⟩|⟨h1,h2⟩|⟨h1,h2⟩
 all_goals
  go_enter Tryz.func154,Tryz.ntmps154
  go_wp2_with fail
  refine(HC.out _).mono ?_
  intro e w1 hq
  have hq':=z1H (c:=z22 t x y) hq (by(simp [z22,z1M,z1N,g1,g2,g3,g4,g5,h1,h2,hl]);try(intro hh;omega))
  rw [←HXX.out] at hq'
  clear hq
  obtain⟨rfl,hB1⟩:=hq'
  have hbx:=(hB1.block _ HZ.out).trans HX.out
  obtain⟨y0,y1,y2,y3,g0,g1,g2,g3⟩:=zZ hbx
  obtain⟨z0,z1,z2,z3⟩:=zn hbx (.int .i64 X.kind) (.bool X.truth) (.int .i64 X.num) (.string X.text)
  have HB2:=z8 (zv (HB0.out.trans (hB1.mono HZ1.out)) HG.out (.int .i64 X.kind) (.bool X.truth) (.int .i64 X.num) (.string X.text))
  clear hbx hB1
  go_wp2_with fail
  refine bodyPost_ret (v:= .agg #[.int .i64 X.kind,.bool X.truth,.int .i64 X.num,.string X.text]) (by simp [results,Tryz.results154,go_sem,z0,z1,z2,z3]) rfl ?_
  exact⟨by rw [←HXX.out],HB2.out⟩
def j7 (t:zeV):Bool:=t.toList==[43]||t.toList==[45]||t.toList==[42]||t.toList==[47]||t.toList==[37]
def zW (t:zeV)(x y:Wt):Wt:=
 if x.kind==0 then x else if t.toList==[38,38] then(if !x.truth then x else y) else if t.toList==[124,124] then(if x.truth then x else y)
 else if y.kind==0 then y else if j7 t then ju t x.num y.num else if t.toList==[46] then z4A (x.text++y.text) else z0u (z22 t x y)
theorem z6o (t:zeV)(xk:Int)(xb:Bool)(xn:Int)(xt:zeV)(yk:Int)(yb:Bool)(yn:Int)(yt:zeV)(w:World)(hx:xt.size≤400000000)(hy:yt.size≤400000000):Calls Tryz.prog 125 #[.string t,.agg #[.int .i64 xk,.bool xb,.int .i64 xn,.string xt],.agg #[.int .i64 yk,.bool yb,.int .i64 yn,.string yt]] w fun e w'=>z2D (zW t ⟨xk,xb,xn,xt⟩ ⟨yk,yb,yn,yt⟩) w e w':=by
 have HB0:Hid (Below w.heap.size w (((w.alloc (.cells #[.int .i64 xk,.bool xb,.int .i64 xn,.string xt] 75)).alloc (.cells #[.int .i64 yk,.bool yb,.int .i64 yn,.string yt] 75)).alloc (.cells #[.int .i64 0,.bool false,.int .i64 0,.string ⟨#[]⟩] 75))):=z8 ((((zeU w.heap.size w).alloc (zeK _) (.cells #[.int .i64 xk,.bool xb,.int .i64 xn,.string xt] 75)).alloc (by simp<;>omega) (.cells #[.int .i64 yk,.bool yb,.int .i64 yn,.string yt] 75)).alloc (by simp<;>omega) (.cells #[.int .i64 0,.bool false,.int .i64 0,.string ⟨#[]⟩] 75))
 have HX:Hid ((((w.alloc (.cells #[.int .i64 xk,.bool xb,.int .i64 xn,.string xt] 75)).alloc (.cells #[.int .i64 yk,.bool yb,.int .i64 yn,.string yt] 75)).alloc (.cells #[.int .i64 0,.bool false,.int .i64 0,.string ⟨#[]⟩] 75)).heap[w.heap.size+1+1]?=some (.cells #[.int .i64 0,.bool false,.int .i64 0,.string ⟨#[]⟩] 75)):=z8 (by have q:=heap_alloc_new ((w.alloc (.cells #[.int .i64 xk,.bool xb,.int .i64 xn,.string xt] 75)).alloc (.cells #[.int .i64 yk,.bool yb,.int .i64 yn,.string yt] 75)) (.cells #[.int .i64 0,.bool false,.int .i64 0,.string ⟨#[]⟩] 75);rw [show((w.alloc (.cells #[.int .i64 xk,.bool xb,.int .i64 xn,.string xt] 75)).alloc (.cells #[.int .i64 yk,.bool yb,.int .i64 yn,.string yt] 75)).heap.size=w.heap.size+1+1 by simp] at q;exact q)
 have HZ:Hid (w.heap.size+1+1<(((w.alloc (.cells #[.int .i64 xk,.bool xb,.int .i64 xn,.string xt] 75)).alloc (.cells #[.int .i64 yk,.bool yb,.int .i64 yn,.string yt] 75)).alloc (.cells #[.int .i64 0,.bool false,.int .i64 0,.string ⟨#[]⟩] 75)).heap.size):=z8 (by simp)
 have HZ1:Hid (w.heap.size≤(((w.alloc (.cells #[.int .i64 xk,.bool xb,.int .i64 xn,.string xt] 75)).alloc (.cells #[.int .i64 yk,.bool yb,.int .i64 yn,.string yt] 75)).alloc (.cells #[.int .i64 0,.bool false,.int .i64 0,.string ⟨#[]⟩] 75)).heap.size):=z8 (by simp<;>omega)
 have HG:Hid (w.heap.size≤w.heap.size+1+1):=z8 (by omega)
 have HX0:Hid ((((w.alloc (.cells #[.int .i64 xk,.bool xb,.int .i64 xn,.string xt] 75)).alloc (.cells #[.int .i64 yk,.bool yb,.int .i64 yn,.string yt] 75)).alloc (.cells #[.int .i64 0,.bool false,.int .i64 0,.string ⟨#[]⟩] 75)).heap[w.heap.size]?=some (.cells #[.int .i64 xk,.bool xb,.int .i64 xn,.string xt] 75)):=z8 ((zeM _ _ _ (by simp<;>omega)).trans ((zeM _ _ _ (by simp<;>omega)).trans (heap_alloc_new w _)))
 have HY0:Hid ((((w.alloc (.cells #[.int .i64 xk,.bool xb,.int .i64 xn,.string xt] 75)).alloc (.cells #[.int .i64 yk,.bool yb,.int .i64 yn,.string yt] 75)).alloc (.cells #[.int .i64 0,.bool false,.int .i64 0,.string ⟨#[]⟩] 75)).heap[w.heap.size+1]?=some (.cells #[.int .i64 yk,.bool yb,.int .i64 yn,.string yt] 75)):=z8 ((zeM _ _ _ (by simp<;>omega)).trans (by have q:=heap_alloc_new (w.alloc (.cells #[.int .i64 xk,.bool xb,.int .i64 xn,.string xt] 75)) (.cells #[.int .i64 yk,.bool yb,.int .i64 yn,.string yt] 75);rw [show(w.alloc (.cells #[.int .i64 xk,.bool xb,.int .i64 xn,.string xt] 75)).heap.size=w.heap.size+1 by simp] at q;exact q))
 have HZx:Hid (w.heap.size<(((w.alloc (.cells #[.int .i64 xk,.bool xb,.int .i64 xn,.string xt] 75)).alloc (.cells #[.int .i64 yk,.bool yb,.int .i64 yn,.string yt] 75)).alloc (.cells #[.int .i64 0,.bool false,.int .i64 0,.string ⟨#[]⟩] 75)).heap.size):=z8 (by simp<;>omega)
 have HZy:Hid (w.heap.size+1<(((w.alloc (.cells #[.int .i64 xk,.bool xb,.int .i64 xn,.string xt] 75)).alloc (.cells #[.int .i64 yk,.bool yb,.int .i64 yn,.string yt] 75)).alloc (.cells #[.int .i64 0,.bool false,.int .i64 0,.string ⟨#[]⟩] 75)).heap.size):=z8 (by simp<;>omega)
 have HF:=z8 (jG ⟨xk,xb,xn,xt⟩ (((w.alloc (.cells #[.int .i64 xk,.bool xb,.int .i64 xn,.string xt] 75)).alloc (.cells #[.int .i64 yk,.bool yb,.int .i64 yn,.string yt] 75)).alloc (.cells #[.int .i64 0,.bool false,.int .i64 0,.string ⟨#[]⟩] 75)))
 cases h1:(xk==0)
 case true=>
  rw [h1] at HF
  have hres:Hid (zW t ⟨xk,xb,xn,xt⟩ ⟨yk,yb,yn,yt⟩=⟨xk,xb,xn,xt⟩):=z8 (by unfold zW;rw [h1];rfl)
  go_enter Tryz.func125,Tryz.ntmps125
  go_wp2_with fail
  refine HF.out.mono ?_
  rintro e w0 ⟨rfl,hB0⟩
  obtain⟨c0,c1,c2,c3,d0,d1,d2,d3⟩:=zZ ((hB0.block _ HZx.out).trans HX0.out)
  obtain⟨e0,e1,e2,e3,k0,k1,k2,k3⟩:=zZ ((hB0.block _ HZy.out).trans HY0.out)
  have hB1:=hB0
  have hbx:=(hB1.block _ HZ.out).trans HX.out
  obtain⟨y0,y1,y2,y3,g0,g1,g2,g3⟩:=zZ hbx
  obtain⟨z0,z1,z2,z3⟩:=zn hbx (.int .i64 xk) (.bool xb) (.int .i64 xn) (.string xt)
  have HB2:=z8 (zv (HB0.out.trans (hB1.mono HZ1.out)) HG.out (.int .i64 xk) (.bool xb) (.int .i64 xn) (.string xt))
  clear hbx hB1
  go_wp2_with fail
  refine bodyPost_ret (v:= .agg #[.int .i64 xk,.bool xb,.int .i64 xn,.string xt]) (by simp [results,Tryz.results125,go_sem,z0,z1,z2,z3]) rfl ?_
  exact⟨by rw [hres.out],HB2.out⟩
 rw [h1] at HF
 cases h2:(t.toList==[38,38])
 case true=>
  cases xb
  case false=>
   have hres:Hid (zW t ⟨xk,false,xn,xt⟩ ⟨yk,yb,yn,yt⟩=⟨xk,false,xn,xt⟩):=z8 (by unfold zW;rw [h1];rw [h2];rfl)
   go_enter Tryz.func125,Tryz.ntmps125
   go_wp2_with fail
   refine HF.out.mono ?_
   rintro e w0 ⟨rfl,hB0⟩
   obtain⟨c0,c1,c2,c3,d0,d1,d2,d3⟩:=zZ ((hB0.block _ HZx.out).trans HX0.out)
   obtain⟨e0,e1,e2,e3,k0,k1,k2,k3⟩:=zZ ((hB0.block _ HZy.out).trans HY0.out)
   have hB1:=hB0
   have hbx:=(hB1.block _ HZ.out).trans HX.out
   obtain⟨y0,y1,y2,y3,g0,g1,g2,g3⟩:=zZ hbx
   obtain⟨z0,z1,z2,z3⟩:=zn hbx (.int .i64 xk) (.bool false) (.int .i64 xn) (.string xt)
   have HB2:=z8 (zv (HB0.out.trans (hB1.mono HZ1.out)) HG.out (.int .i64 xk) (.bool false) (.int .i64 xn) (.string xt))
   clear hbx hB1
   go_wp2_with fail
   refine bodyPost_ret (v:= .agg #[.int .i64 xk,.bool false,.int .i64 xn,.string xt]) (by simp [results,Tryz.results125,go_sem,z0,z1,z2,z3]) rfl ?_
   exact⟨by rw [hres.out],HB2.out⟩
  case true=>
   have hres:Hid (zW t ⟨xk,true,xn,xt⟩ ⟨yk,yb,yn,yt⟩=⟨yk,yb,yn,yt⟩):=z8 (by unfold zW;rw [h1];rw [h2];rfl)
   go_enter Tryz.func125,Tryz.ntmps125
   go_wp2_with fail
   refine HF.out.mono ?_
   rintro e w0 ⟨rfl,hB0⟩
   obtain⟨c0,c1,c2,c3,d0,d1,d2,d3⟩:=zZ ((hB0.block _ HZx.out).trans HX0.out)
   obtain⟨e0,e1,e2,e3,k0,k1,k2,k3⟩:=zZ ((hB0.block _ HZy.out).trans HY0.out)
   have hB1:=hB0
   have hbx:=(hB1.block _ HZ.out).trans HX.out
   obtain⟨y0,y1,y2,y3,g0,g1,g2,g3⟩:=zZ hbx
   obtain⟨z0,z1,z2,z3⟩:=zn hbx (.int .i64 yk) (.bool yb) (.int .i64 yn) (.string yt)
   have HB2:=z8 (zv (HB0.out.trans (hB1.mono HZ1.out)) HG.out (.int .i64 yk) (.bool yb) (.int .i64 yn) (.string yt))
   clear hbx hB1
   go_wp2_with fail
   refine bodyPost_ret (v:= .agg #[.int .i64 yk,.bool yb,.int .i64 yn,.string yt]) (by simp [results,Tryz.results125,go_sem,z0,z1,z2,z3]) rfl ?_
   exact⟨by rw [hres.out],HB2.out⟩
 cases h3:(t.toList==[124,124])
 case true=>
  cases xb
  case true=>
   have hres:Hid (zW t ⟨xk,true,xn,xt⟩ ⟨yk,yb,yn,yt⟩=⟨xk,true,xn,xt⟩):=z8 (by unfold zW;rw [h1];rw [h2];rw [h3];rfl)
   go_enter Tryz.func125,Tryz.ntmps125
   go_wp2_with fail
   refine HF.out.mono ?_
   rintro e w0 ⟨rfl,hB0⟩
   obtain⟨c0,c1,c2,c3,d0,d1,d2,d3⟩:=zZ ((hB0.block _ HZx.out).trans HX0.out)
   obtain⟨e0,e1,e2,e3,k0,k1,k2,k3⟩:=zZ ((hB0.block _ HZy.out).trans HY0.out)
   have hB1:=hB0
   have hbx:=(hB1.block _ HZ.out).trans HX.out
   obtain⟨y0,y1,y2,y3,g0,g1,g2,g3⟩:=zZ hbx
   obtain⟨z0,z1,z2,z3⟩:=zn hbx (.int .i64 xk) (.bool true) (.int .i64 xn) (.string xt)
   have HB2:=z8 (zv (HB0.out.trans (hB1.mono HZ1.out)) HG.out (.int .i64 xk) (.bool true) (.int .i64 xn) (.string xt))
   clear hbx hB1
   go_wp2_with fail
   refine bodyPost_ret (v:= .agg #[.int .i64 xk,.bool true,.int .i64 xn,.string xt]) (by simp [results,Tryz.results125,go_sem,z0,z1,z2,z3]) rfl ?_
   exact⟨by rw [hres.out],HB2.out⟩
  case false=>
   have hres:Hid (zW t ⟨xk,false,xn,xt⟩ ⟨yk,yb,yn,yt⟩=⟨yk,yb,yn,yt⟩):=z8 (by unfold zW;rw [h1];rw [h2];rw [h3];rfl)
   go_enter Tryz.func125,Tryz.ntmps125
   go_wp2_with fail
   refine HF.out.mono ?_
   rintro e w0 ⟨rfl,hB0⟩
   obtain⟨c0,c1,c2,c3,d0,d1,d2,d3⟩:=zZ ((hB0.block _ HZx.out).trans HX0.out)
   obtain⟨e0,e1,e2,e3,k0,k1,k2,k3⟩:=zZ ((hB0.block _ HZy.out).trans HY0.out)
   have hB1:=hB0
   have hbx:=(hB1.block _ HZ.out).trans HX.out
   obtain⟨y0,y1,y2,y3,g0,g1,g2,g3⟩:=zZ hbx
   obtain⟨z0,z1,z2,z3⟩:=zn hbx (.int .i64 yk) (.bool yb) (.int .i64 yn) (.string yt)
   have HB2:=z8 (zv (HB0.out.trans (hB1.mono HZ1.out)) HG.out (.int .i64 yk) (.bool yb) (.int .i64 yn) (.string yt))
   clear hbx hB1
   go_wp2_with fail
   refine bodyPost_ret (v:= .agg #[.int .i64 yk,.bool yb,.int .i64 yn,.string yt]) (by simp [results,Tryz.results125,go_sem,z0,z1,z2,z3]) rfl ?_
   exact⟨by rw [hres.out],HB2.out⟩
 cases h4:(yk==0)
 case true=>
  have hres:Hid (zW t ⟨xk,xb,xn,xt⟩ ⟨yk,yb,yn,yt⟩=⟨yk,yb,yn,yt⟩):=z8 (by unfold zW;rw [h1];rw [h2];rw [h3];rw [h4];rfl)
  go_enter Tryz.func125,Tryz.ntmps125
  go_wp2_with fail
  refine HF.out.mono ?_
  rintro e w0 ⟨rfl,hB0⟩
  obtain⟨c0,c1,c2,c3,d0,d1,d2,d3⟩:=zZ ((hB0.block _ HZx.out).trans HX0.out)
  obtain⟨e0,e1,e2,e3,k0,k1,k2,k3⟩:=zZ ((hB0.block _ HZy.out).trans HY0.out)
  have HX:=z8 ((hB0.block _ HZ.out).trans HX.out)
  have HX0:=z8 ((hB0.block _ HZx.out).trans HX0.out)
  have HY0:=z8 ((hB0.block _ HZy.out).trans HY0.out)
  have HZ:=z8 (zeQ HZ.out hB0.size)
  have HZx:=z8 (zeQ HZx.out hB0.size)
  have HZy:=z8 (zeQ HZy.out hB0.size)
  have HB0:=z8 (HB0.out.trans (hB0.mono HZ1.out))
  have HZ1:=z8 HB0.out.size
  clear hB0
  go_wp2_with fail
  refine(jG ⟨yk,yb,yn,yt⟩ _).mono ?_
  rintro e w2 ⟨rfl,hB0⟩
  obtain⟨c0,c1,c2,c3,d0,d1,d2,d3⟩:=zZ ((hB0.block _ HZx.out).trans HX0.out)
  obtain⟨e0,e1,e2,e3,k0,k1,k2,k3⟩:=zZ ((hB0.block _ HZy.out).trans HY0.out)
  have hB1:=hB0
  have hbx:=(hB1.block _ HZ.out).trans HX.out
  obtain⟨y0,y1,y2,y3,g0,g1,g2,g3⟩:=zZ hbx
  obtain⟨z0,z1,z2,z3⟩:=zn hbx (.int .i64 yk) (.bool yb) (.int .i64 yn) (.string yt)
  have HB2:=z8 (zv (HB0.out.trans (hB1.mono HZ1.out)) HG.out (.int .i64 yk) (.bool yb) (.int .i64 yn) (.string yt))
  clear hbx hB1
  go_wp2_with fail
  refine bodyPost_ret (v:= .agg #[.int .i64 yk,.bool yb,.int .i64 yn,.string yt]) (by simp [results,Tryz.results125,go_sem,z0,z1,z2,z3]) rfl ?_
  exact⟨by rw [hres.out],HB2.out⟩
 cases q1:(t.toList==[43])
 case true=>
  have hc:j7 t=true:=by unfold j7;simp [q1]
  have hres:Hid (zW t ⟨xk,xb,xn,xt⟩ ⟨yk,yb,yn,yt⟩=ju t xn yn):=z8 (by unfold zW;rw [h1];rw [h2];rw [h3];rw [h4];rw [hc];rfl)
  go_enter Tryz.func125,Tryz.ntmps125
  go_wp2_with fail
  refine HF.out.mono ?_
  rintro e w0 ⟨rfl,hB0⟩
  obtain⟨c0,c1,c2,c3,d0,d1,d2,d3⟩:=zZ ((hB0.block _ HZx.out).trans HX0.out)
  obtain⟨e0,e1,e2,e3,k0,k1,k2,k3⟩:=zZ ((hB0.block _ HZy.out).trans HY0.out)
  have HX:=z8 ((hB0.block _ HZ.out).trans HX.out)
  have HX0:=z8 ((hB0.block _ HZx.out).trans HX0.out)
  have HY0:=z8 ((hB0.block _ HZy.out).trans HY0.out)
  have HZ:=z8 (zeQ HZ.out hB0.size)
  have HZx:=z8 (zeQ HZx.out hB0.size)
  have HZy:=z8 (zeQ HZy.out hB0.size)
  have HB0:=z8 (HB0.out.trans (hB0.mono HZ1.out))
  have HZ1:=z8 HB0.out.size
  clear hB0
  go_wp2_with fail
  refine(jG ⟨yk,yb,yn,yt⟩ _).mono ?_
  rintro e w2 ⟨rfl,hB0⟩
  obtain⟨c0,c1,c2,c3,d0,d1,d2,d3⟩:=zZ ((hB0.block _ HZx.out).trans HX0.out)
  obtain⟨e0,e1,e2,e3,k0,k1,k2,k3⟩:=zZ ((hB0.block _ HZy.out).trans HY0.out)
  have HX:=z8 ((hB0.block _ HZ.out).trans HX.out)
  have HX0:=z8 ((hB0.block _ HZx.out).trans HX0.out)
  have HY0:=z8 ((hB0.block _ HZy.out).trans HY0.out)
  have HZ:=z8 (zeQ HZ.out hB0.size)
  have HZx:=z8 (zeQ HZx.out hB0.size)
  have HZy:=z8 (zeQ HZy.out hB0.size)
  have HB0:=z8 (HB0.out.trans (hB0.mono HZ1.out))
  have HZ1:=z8 HB0.out.size
  clear hB0
  have HC:=z8 (jV t xn yn w2)
  generalize hX:ju t xn yn=X at*
  have HXX:=z8 hX
  clear hX
  go_wp2_with fail
  refine HC.out.mono ?_
  rintro e w1 ⟨rfl,hB1⟩
  have hbx:=(hB1.block _ HZ.out).trans HX.out
  obtain⟨y0,y1,y2,y3,g0,g1,g2,g3⟩:=zZ hbx
  obtain⟨z0,z1,z2,z3⟩:=zn hbx (.int .i64 X.kind) (.bool X.truth) (.int .i64 X.num) (.string X.text)
  have HB2:=z8 (zv (HB0.out.trans (hB1.mono HZ1.out)) HG.out (.int .i64 X.kind) (.bool X.truth) (.int .i64 X.num) (.string X.text))
  clear hbx hB1
  go_wp2_with fail
  refine bodyPost_ret (v:= .agg #[.int .i64 X.kind,.bool X.truth,.int .i64 X.num,.string X.text]) (by simp [results,Tryz.results125,go_sem,z0,z1,z2,z3]) rfl ?_
  exact⟨by rw [hres.out],HB2.out⟩
 cases q2:(t.toList==[45])
 case true=>
  have hc:j7 t=true:=by unfold j7;simp [q2]
  have hres:Hid (zW t ⟨xk,xb,xn,xt⟩ ⟨yk,yb,yn,yt⟩=ju t xn yn):=z8 (by unfold zW;rw [h1];rw [h2];rw [h3];rw [h4];rw [hc];rfl)
  go_enter Tryz.func125,Tryz.ntmps125
  go_wp2_with fail
  refine HF.out.mono ?_
  rintro e w0 ⟨rfl,hB0⟩
  obtain⟨c0,c1,c2,c3,d0,d1,d2,d3⟩:=zZ ((hB0.block _ HZx.out).trans HX0.out)
  obtain⟨e0,e1,e2,e3,k0,k1,k2,k3⟩:=zZ ((hB0.block _ HZy.out).trans HY0.out)
  have HX:=z8 ((hB0.block _ HZ.out).trans HX.out)
  have HX0:=z8 ((hB0.block _ HZx.out).trans HX0.out)
  have HY0:=z8 ((hB0.block _ HZy.out).trans HY0.out)
  have HZ:=z8 (zeQ HZ.out hB0.size)
  have HZx:=z8 (zeQ HZx.out hB0.size)
  have HZy:=z8 (zeQ HZy.out hB0.size)
  have HB0:=z8 (HB0.out.trans (hB0.mono HZ1.out))
  have HZ1:=z8 HB0.out.size
  clear hB0
  go_wp2_with fail
  refine(jG ⟨yk,yb,yn,yt⟩ _).mono ?_
  rintro e w2 ⟨rfl,hB0⟩
  obtain⟨c0,c1,c2,c3,d0,d1,d2,d3⟩:=zZ ((hB0.block _ HZx.out).trans HX0.out)
  obtain⟨e0,e1,e2,e3,k0,k1,k2,k3⟩:=zZ ((hB0.block _ HZy.out).trans HY0.out)
  have HX:=z8 ((hB0.block _ HZ.out).trans HX.out)
  have HX0:=z8 ((hB0.block _ HZx.out).trans HX0.out)
  have HY0:=z8 ((hB0.block _ HZy.out).trans HY0.out)
  have HZ:=z8 (zeQ HZ.out hB0.size)
  have HZx:=z8 (zeQ HZx.out hB0.size)
  have HZy:=z8 (zeQ HZy.out hB0.size)
  have HB0:=z8 (HB0.out.trans (hB0.mono HZ1.out))
  have HZ1:=z8 HB0.out.size
  clear hB0
  have HC:=z8 (jV t xn yn w2)
  generalize hX:ju t xn yn=X at*
  have HXX:=z8 hX
  clear hX
  go_wp2_with fail
  refine HC.out.mono ?_
  rintro e w1 ⟨rfl,hB1⟩
  have hbx:=(hB1.block _ HZ.out).trans HX.out
  obtain⟨y0,y1,y2,y3,g0,g1,g2,g3⟩:=zZ hbx
  obtain⟨z0,z1,z2,z3⟩:=zn hbx (.int .i64 X.kind) (.bool X.truth) (.int .i64 X.num) (.string X.text)
  have HB2:=z8 (zv (HB0.out.trans (hB1.mono HZ1.out)) HG.out (.int .i64 X.kind) (.bool X.truth) (.int .i64 X.num) (.string X.text))
  clear hbx hB1
  go_wp2_with fail
  refine bodyPost_ret (v:= .agg #[.int .i64 X.kind,.bool X.truth,.int .i64 X.num,.string X.text]) (by simp [results,Tryz.results125,go_sem,z0,z1,z2,z3]) rfl ?_
  exact⟨by rw [hres.out],HB2.out⟩
 cases q3:(t.toList==[42])
 case true=>
  have hc:j7 t=true:=by unfold j7;simp [q3]
  have hres:Hid (zW t ⟨xk,xb,xn,xt⟩ ⟨yk,yb,yn,yt⟩=ju t xn yn):=z8 (by unfold zW;rw [h1];rw [h2];rw [h3];rw [h4];rw [hc];rfl)
  go_enter Tryz.func125,Tryz.ntmps125
  go_wp2_with fail
  refine HF.out.mono ?_
  rintro e w0 ⟨rfl,hB0⟩
  obtain⟨c0,c1,c2,c3,d0,d1,d2,d3⟩:=zZ ((hB0.block _ HZx.out).trans HX0.out)
  obtain⟨e0,e1,e2,e3,k0,k1,k2,k3⟩:=zZ ((hB0.block _ HZy.out).trans HY0.out)
  have HX:=z8 ((hB0.block _ HZ.out).trans HX.out)
  have HX0:=z8 ((hB0.block _ HZx.out).trans HX0.out)
  have HY0:=z8 ((hB0.block _ HZy.out).trans HY0.out)
  have HZ:=z8 (zeQ HZ.out hB0.size)
  have HZx:=z8 (zeQ HZx.out hB0.size)
  have HZy:=z8 (zeQ HZy.out hB0.size)
  have HB0:=z8 (HB0.out.trans (hB0.mono HZ1.out))
  have HZ1:=z8 HB0.out.size
  clear hB0
  go_wp2_with fail
  refine(jG ⟨yk,yb,yn,yt⟩ _).mono ?_
  rintro e w2 ⟨rfl,hB0⟩
  obtain⟨c0,c1,c2,c3,d0,d1,d2,d3⟩:=zZ ((hB0.block _ HZx.out).trans HX0.out)
  obtain⟨e0,e1,e2,e3,k0,k1,k2,k3⟩:=zZ ((hB0.block _ HZy.out).trans HY0.out)
  have HX:=z8 ((hB0.block _ HZ.out).trans HX.out)
  have HX0:=z8 ((hB0.block _ HZx.out).trans HX0.out)
  have HY0:=z8 ((hB0.block _ HZy.out).trans HY0.out)
  have HZ:=z8 (zeQ HZ.out hB0.size)
  have HZx:=z8 (zeQ HZx.out hB0.size)
  have HZy:=z8 (zeQ HZy.out hB0.size)
  have HB0:=z8 (HB0.out.trans (hB0.mono HZ1.out))
  have HZ1:=z8 HB0.out.size
  clear hB0
  have HC:=z8 (jV t xn yn w2)
  generalize hX:ju t xn yn=X at*
  have HXX:=z8 hX
  clear hX
  go_wp2_with fail
  refine HC.out.mono ?_
  rintro e w1 ⟨rfl,hB1⟩
  have hbx:=(hB1.block _ HZ.out).trans HX.out
  obtain⟨y0,y1,y2,y3,g0,g1,g2,g3⟩:=zZ hbx
  obtain⟨z0,z1,z2,z3⟩:=zn hbx (.int .i64 X.kind) (.bool X.truth) (.int .i64 X.num) (.string X.text)
  have HB2:=z8 (zv (HB0.out.trans (hB1.mono HZ1.out)) HG.out (.int .i64 X.kind) (.bool X.truth) (.int .i64 X.num) (.string X.text))
  clear hbx hB1
  go_wp2_with fail
  refine bodyPost_ret (v:= .agg #[.int .i64 X.kind,.bool X.truth,.int .i64 X.num,.string X.text]) (by simp [results,Tryz.results125,go_sem,z0,z1,z2,z3]) rfl ?_
  exact⟨by rw [hres.out],HB2.out⟩
 cases q4:(t.toList==[47])
 case true=>
  have hc:j7 t=true:=by unfold j7;simp [q4]
  have hres:Hid (zW t ⟨xk,xb,xn,xt⟩ ⟨yk,yb,yn,yt⟩=ju t xn yn):=z8 (by unfold zW;rw [h1];rw [h2];rw [h3];rw [h4];rw [hc];rfl)
  go_enter Tryz.func125,Tryz.ntmps125
  go_wp2_with fail
  refine HF.out.mono ?_
  rintro e w0 ⟨rfl,hB0⟩
  obtain⟨c0,c1,c2,c3,d0,d1,d2,d3⟩:=zZ ((hB0.block _ HZx.out).trans HX0.out)
  obtain⟨e0,e1,e2,e3,k0,k1,k2,k3⟩:=zZ ((hB0.block _ HZy.out).trans HY0.out)
  have HX:=z8 ((hB0.block _ HZ.out).trans HX.out)
  have HX0:=z8 ((hB0.block _ HZx.out).trans HX0.out)
  have HY0:=z8 ((hB0.block _ HZy.out).trans HY0.out)
  have HZ:=z8 (zeQ HZ.out hB0.size)
  have HZx:=z8 (zeQ HZx.out hB0.size)
  have HZy:=z8 (zeQ HZy.out hB0.size)
  have HB0:=z8 (HB0.out.trans (hB0.mono HZ1.out))
  have HZ1:=z8 HB0.out.size
  clear hB0
  go_wp2_with fail
  refine(jG ⟨yk,yb,yn,yt⟩ _).mono ?_
  rintro e w2 ⟨rfl,hB0⟩
  obtain⟨c0,c1,c2,c3,d0,d1,d2,d3⟩:=zZ ((hB0.block _ HZx.out).trans HX0.out)
  obtain⟨e0,e1,e2,e3,k0,k1,k2,k3⟩:=zZ ((hB0.block _ HZy.out).trans HY0.out)
  have HX:=z8 ((hB0.block _ HZ.out).trans HX.out)
  have HX0:=z8 ((hB0.block _ HZx.out).trans HX0.out)
  have HY0:=z8 ((hB0.block _ HZy.out).trans HY0.out)
  have HZ:=z8 (zeQ HZ.out hB0.size)
  have HZx:=z8 (zeQ HZx.out hB0.size)
  have HZy:=z8 (zeQ HZy.out hB0.size)
  have HB0:=z8 (HB0.out.trans (hB0.mono HZ1.out))
  have HZ1:=z8 HB0.out.size
  clear hB0
  have HC:=z8 (jV t xn yn w2)
  generalize hX:ju t xn yn=X at*
  have HXX:=z8 hX
  clear hX
  go_wp2_with fail
  refine HC.out.mono ?_
  rintro e w1 ⟨rfl,hB1⟩
  have hbx:=(hB1.block _ HZ.out).trans HX.out
  obtain⟨y0,y1,y2,y3,g0,g1,g2,g3⟩:=zZ hbx
  obtain⟨z0,z1,z2,z3⟩:=zn hbx (.int .i64 X.kind) (.bool X.truth) (.int .i64 X.num) (.string X.text)
  have HB2:=z8 (zv (HB0.out.trans (hB1.mono HZ1.out)) HG.out (.int .i64 X.kind) (.bool X.truth) (.int .i64 X.num) (.string X.text))
  clear hbx hB1
  go_wp2_with fail
  refine bodyPost_ret (v:= .agg #[.int .i64 X.kind,.bool X.truth,.int .i64 X.num,.string X.text]) (by simp [results,Tryz.results125,go_sem,z0,z1,z2,z3]) rfl ?_
  exact⟨by rw [hres.out],HB2.out⟩
 cases q5:(t.toList==[37])
 case true=>
  have hc:j7 t=true:=by unfold j7;simp [q5]
  have hres:Hid (zW t ⟨xk,xb,xn,xt⟩ ⟨yk,yb,yn,yt⟩=ju t xn yn):=z8 (by unfold zW;rw [h1];rw [h2];rw [h3];rw [h4];rw [hc];rfl)
  go_enter Tryz.func125,Tryz.ntmps125
  go_wp2_with fail
  refine HF.out.mono ?_
  rintro e w0 ⟨rfl,hB0⟩
  obtain⟨c0,c1,c2,c3,d0,d1,d2,d3⟩:=zZ ((hB0.block _ HZx.out).trans HX0.out)
  obtain⟨e0,e1,e2,e3,k0,k1,k2,k3⟩:=zZ ((hB0.block _ HZy.out).trans HY0.out)
  have HX:=z8 ((hB0.block _ HZ.out).trans HX.out)
  have HX0:=z8 ((hB0.block _ HZx.out).trans HX0.out)
  have HY0:=z8 ((hB0.block _ HZy.out).trans HY0.out)
  have HZ:=z8 (zeQ HZ.out hB0.size)
  have HZx:=z8 (zeQ HZx.out hB0.size)
  have HZy:=z8 (zeQ HZy.out hB0.size)
  have HB0:=z8 (HB0.out.trans (hB0.mono HZ1.out))
  have HZ1:=z8 HB0.out.size
  clear hB0
  go_wp2_with fail
  refine(jG ⟨yk,yb,yn,yt⟩ _).mono ?_
  rintro e w2 ⟨rfl,hB0⟩
  obtain⟨c0,c1,c2,c3,d0,d1,d2,d3⟩:=zZ ((hB0.block _ HZx.out).trans HX0.out)
  obtain⟨e0,e1,e2,e3,k0,k1,k2,k3⟩:=zZ ((hB0.block _ HZy.out).trans HY0.out)
  have HX:=z8 ((hB0.block _ HZ.out).trans HX.out)
  have HX0:=z8 ((hB0.block _ HZx.out).trans HX0.out)
  have HY0:=z8 ((hB0.block _ HZy.out).trans HY0.out)
  have HZ:=z8 (zeQ HZ.out hB0.size)
  have HZx:=z8 (zeQ HZx.out hB0.size)
  have HZy:=z8 (zeQ HZy.out hB0.size)
  have HB0:=z8 (HB0.out.trans (hB0.mono HZ1.out))
  have HZ1:=z8 HB0.out.size
  clear hB0
  have HC:=z8 (jV t xn yn w2)
  generalize hX:ju t xn yn=X at*
  have HXX:=z8 hX
  clear hX
  go_wp2_with fail
  refine HC.out.mono ?_
  rintro e w1 ⟨rfl,hB1⟩
  have hbx:=(hB1.block _ HZ.out).trans HX.out
  obtain⟨y0,y1,y2,y3,g0,g1,g2,g3⟩:=zZ hbx
  obtain⟨z0,z1,z2,z3⟩:=zn hbx (.int .i64 X.kind) (.bool X.truth) (.int .i64 X.num) (.string X.text)
  have HB2:=z8 (zv (HB0.out.trans (hB1.mono HZ1.out)) HG.out (.int .i64 X.kind) (.bool X.truth) (.int .i64 X.num) (.string X.text))
  clear hbx hB1
  go_wp2_with fail
  refine bodyPost_ret (v:= .agg #[.int .i64 X.kind,.bool X.truth,.int .i64 X.num,.string X.text]) (by simp [results,Tryz.results125,go_sem,z0,z1,z2,z3]) rfl ?_
  exact⟨by rw [hres.out],HB2.out⟩
 have hc:j7 t=false:=by unfold j7;rw [q1,q2,q3,q4,q5];rfl
 cases h5:(t.toList==[46])
 case true=>
  have hres:Hid (zW t ⟨xk,xb,xn,xt⟩ ⟨yk,yb,yn,yt⟩=z4A (xt++yt)):=z8 (by unfold zW;rw [h1];rw [h2];rw [h3];rw [h4];rw [hc];rw [h5];rfl)
  go_enter Tryz.func125,Tryz.ntmps125
  go_wp2_with fail
  refine HF.out.mono ?_
  rintro e w0 ⟨rfl,hB0⟩
  obtain⟨c0,c1,c2,c3,d0,d1,d2,d3⟩:=zZ ((hB0.block _ HZx.out).trans HX0.out)
  obtain⟨e0,e1,e2,e3,k0,k1,k2,k3⟩:=zZ ((hB0.block _ HZy.out).trans HY0.out)
  have HX:=z8 ((hB0.block _ HZ.out).trans HX.out)
  have HX0:=z8 ((hB0.block _ HZx.out).trans HX0.out)
  have HY0:=z8 ((hB0.block _ HZy.out).trans HY0.out)
  have HZ:=z8 (zeQ HZ.out hB0.size)
  have HZx:=z8 (zeQ HZx.out hB0.size)
  have HZy:=z8 (zeQ HZy.out hB0.size)
  have HB0:=z8 (HB0.out.trans (hB0.mono HZ1.out))
  have HZ1:=z8 HB0.out.size
  clear hB0
  go_wp2_with fail
  refine(jG ⟨yk,yb,yn,yt⟩ _).mono ?_
  rintro e w2 ⟨rfl,hB0⟩
  obtain⟨c0,c1,c2,c3,d0,d1,d2,d3⟩:=zZ ((hB0.block _ HZx.out).trans HX0.out)
  obtain⟨e0,e1,e2,e3,k0,k1,k2,k3⟩:=zZ ((hB0.block _ HZy.out).trans HY0.out)
  have HX:=z8 ((hB0.block _ HZ.out).trans HX.out)
  have HX0:=z8 ((hB0.block _ HZx.out).trans HX0.out)
  have HY0:=z8 ((hB0.block _ HZy.out).trans HY0.out)
  have HZ:=z8 (zeQ HZ.out hB0.size)
  have HZx:=z8 (zeQ HZx.out hB0.size)
  have HZy:=z8 (zeQ HZy.out hB0.size)
  have HB0:=z8 (HB0.out.trans (hB0.mono HZ1.out))
  have HZ1:=z8 HB0.out.size
  clear hB0
  have HC:=z8 (z0D (xt++yt) w2)
  generalize hX:z4A (xt++yt)=X at*
  have HXX:=z8 hX
  clear hX
  go_wp2_with fail
  refine HC.out.mono ?_
  rintro e w1 ⟨rfl,hB1⟩
  have hbx:=(hB1.block _ HZ.out).trans HX.out
  obtain⟨y0,y1,y2,y3,g0,g1,g2,g3⟩:=zZ hbx
  obtain⟨z0,z1,z2,z3⟩:=zn hbx (.int .i64 X.kind) (.bool X.truth) (.int .i64 X.num) (.string X.text)
  have HB2:=z8 (zv (HB0.out.trans (hB1.mono HZ1.out)) HG.out (.int .i64 X.kind) (.bool X.truth) (.int .i64 X.num) (.string X.text))
  clear hbx hB1
  go_wp2_with fail
  refine bodyPost_ret (v:= .agg #[.int .i64 X.kind,.bool X.truth,.int .i64 X.num,.string X.text]) (by simp [results,Tryz.results125,go_sem,z0,z1,z2,z3]) rfl ?_
  exact⟨by rw [hres.out],HB2.out⟩
 have hres:Hid (zW t ⟨xk,xb,xn,xt⟩ ⟨yk,yb,yn,yt⟩=z0u (z22 t ⟨xk,xb,xn,xt⟩ ⟨yk,yb,yn,yt⟩)):=z8 (by unfold zW;rw [h1];rw [h2];rw [h3];rw [h4];rw [hc];rw [h5];rfl)
 go_enter Tryz.func125,Tryz.ntmps125
 go_wp2_with fail
 refine HF.out.mono ?_
 rintro e w0 ⟨rfl,hB0⟩
 obtain⟨c0,c1,c2,c3,d0,d1,d2,d3⟩:=zZ ((hB0.block _ HZx.out).trans HX0.out)
 obtain⟨e0,e1,e2,e3,k0,k1,k2,k3⟩:=zZ ((hB0.block _ HZy.out).trans HY0.out)
 have HX:=z8 ((hB0.block _ HZ.out).trans HX.out)
 have HX0:=z8 ((hB0.block _ HZx.out).trans HX0.out)
 have HY0:=z8 ((hB0.block _ HZy.out).trans HY0.out)
 have HZ:=z8 (zeQ HZ.out hB0.size)
 have HZx:=z8 (zeQ HZx.out hB0.size)
 have HZy:=z8 (zeQ HZy.out hB0.size)
 have HB0:=z8 (HB0.out.trans (hB0.mono HZ1.out))
 have HZ1:=z8 HB0.out.size
 clear hB0
 go_wp2_with fail
 refine(jG ⟨yk,yb,yn,yt⟩ _).mono ?_
 rintro e w2 ⟨rfl,hB0⟩
 obtain⟨c0,c1,c2,c3,d0,d1,d2,d3⟩:=zZ ((hB0.block _ HZx.out).trans HX0.out)
 obtain⟨e0,e1,e2,e3,k0,k1,k2,k3⟩:=zZ ((hB0.block _ HZy.out).trans HY0.out)
 have HX:=z8 ((hB0.block _ HZ.out).trans HX.out)
 have HX0:=z8 ((hB0.block _ HZx.out).trans HX0.out)
 have HY0:=z8 ((hB0.block _ HZy.out).trans HY0.out)
 have HZ:=z8 (zeQ HZ.out hB0.size)
 have HZx:=z8 (zeQ HZx.out hB0.size)
 have HZy:=z8 (zeQ HZy.out hB0.size)
 have HB0:=z8 (HB0.out.trans (hB0.mono HZ1.out))
 have HZ1:=z8 HB0.out.size
 clear hB0
 have HC:=z8 (z5r t ⟨xk,xb,xn,xt⟩ ⟨yk,yb,yn,yt⟩ w2)
 generalize hX:z0u (z22 t ⟨xk,xb,xn,xt⟩ ⟨yk,yb,yn,yt⟩)=X at*
 have HXX:=z8 hX
 clear hX
 go_wp2_with fail
 refine HC.out.mono ?_
 rintro e w1 ⟨rfl,hB1⟩
 have hbx:=(hB1.block _ HZ.out).trans HX.out
 obtain⟨y0,y1,y2,y3,g0,g1,g2,g3⟩:=zZ hbx
 obtain⟨z0,z1,z2,z3⟩:=zn hbx (.int .i64 X.kind) (.bool X.truth) (.int .i64 X.num) (.string X.text)
 have HB2:=z8 (zv (HB0.out.trans (hB1.mono HZ1.out)) HG.out (.int .i64 X.kind) (.bool X.truth) (.int .i64 X.num) (.string X.text))
 clear hbx hB1
 go_wp2_with fail
 refine bodyPost_ret (v:= .agg #[.int .i64 X.kind,.bool X.truth,.int .i64 X.num,.string X.text]) (by simp [results,Tryz.results125,go_sem,z0,z1,z2,z3]) rfl ?_
 exact⟨by rw [hres.out],HB2.out⟩
theorem z57 (t:zeV)(x y:Wt)(w:World)(hx:x.text.size≤400000000)(hy:y.text.size≤400000000):Calls Tryz.prog 125 #[.string t,.agg #[.int .i64 x.kind,.bool x.truth,.int .i64 x.num,.string x.text],.agg #[.int .i64 y.kind,.bool y.truth,.int .i64 y.num,.string y.text]] w fun e w'=>z2D (zW t x y) w e w':=
 z6o t x.kind x.truth x.num x.text y.kind y.truth y.num y.text w hx hy
def wOf (l:List (zeV×zeV))(x:Ex)(a b:Wt):Wt:=
 if x.form==0 then nsM x.text else if x.form==1 then z4A x.text else if x.form==2 then z0u (x.text.toList==[116,114,117,101])
 else if x.form==3 then z4A (z1L x.text l) else if x.form==4 then nsM (z1L x.text l) else if x.form==5 then z0n x.text a
 else if x.form==6 then zW x.text a b else if x.form==7 then a else z0K
theorem z7g (base:Nat)(l:List (zeV×zeV))(v:Value)(x:Ex)(a b:Wt)(w:World)(hl:w.ownsRow base 123 2 v l.length ((l.map zu).flatten))(hlen:l.length≤100000)(hls: ∀p∈l,p.2.size≤600)(hx:x.text.size≤600)(ha:a.text.size≤400000000)(hb:b.text.size≤400000000):
  Calls Tryz.prog 82 #[.agg #[.int .i64 x.form,.int .i64 x.place,.string x.text,.int .i64 x.left,.int .i64 x.right],.agg #[.int .i64 a.kind,.bool a.truth,.int .i64 a.num,.string a.text],.agg #[.int .i64 b.kind,.bool b.truth,.int .i64 b.num,.string b.text],v] w fun e w'=>z2D (wOf l x a b) w e w':=by
 obtain⟨al,cl,rfl⟩:=za hl
 have HL:=z8 (((((hl.alloc (.cells #[.int .i64 x.form,.int .i64 x.place,.string x.text,.int .i64 x.left,.int .i64 x.right] 120)).alloc (.cells #[.int .i64 a.kind,.bool a.truth,.int .i64 a.num,.string a.text] 75)).alloc (.cells #[.int .i64 b.kind,.bool b.truth,.int .i64 b.num,.string b.text] 75)).alloc (.cells #[.int .i64 0,.bool false,.int .i64 0,.string ⟨#[]⟩] 75)))
 have hvs:=z8 (z3V x.text 600 l hls)
 clear hl
 have HB0:Hid (Below w.heap.size w ((((w.alloc (.cells #[.int .i64 x.form,.int .i64 x.place,.string x.text,.int .i64 x.left,.int .i64 x.right] 120)).alloc (.cells #[.int .i64 a.kind,.bool a.truth,.int .i64 a.num,.string a.text] 75)).alloc (.cells #[.int .i64 b.kind,.bool b.truth,.int .i64 b.num,.string b.text] 75)).alloc (.cells #[.int .i64 0,.bool false,.int .i64 0,.string ⟨#[]⟩] 75))):=z8 (((((zeU w.heap.size w).alloc (zeK _) _).alloc (by simp<;>omega) _).alloc (by simp<;>omega) _).alloc (by simp<;>omega) _)
 have HX:Hid (((((w.alloc (.cells #[.int .i64 x.form,.int .i64 x.place,.string x.text,.int .i64 x.left,.int .i64 x.right] 120)).alloc (.cells #[.int .i64 a.kind,.bool a.truth,.int .i64 a.num,.string a.text] 75)).alloc (.cells #[.int .i64 b.kind,.bool b.truth,.int .i64 b.num,.string b.text] 75)).alloc (.cells #[.int .i64 0,.bool false,.int .i64 0,.string ⟨#[]⟩] 75)).heap[w.heap.size+1+1+1]?=some (.cells #[.int .i64 0,.bool false,.int .i64 0,.string ⟨#[]⟩] 75)):=z8 (by have q:=heap_alloc_new (((w.alloc (.cells #[.int .i64 x.form,.int .i64 x.place,.string x.text,.int .i64 x.left,.int .i64 x.right] 120)).alloc (.cells #[.int .i64 a.kind,.bool a.truth,.int .i64 a.num,.string a.text] 75)).alloc (.cells #[.int .i64 b.kind,.bool b.truth,.int .i64 b.num,.string b.text] 75)) (.cells #[.int .i64 0,.bool false,.int .i64 0,.string ⟨#[]⟩] 75);rw [show(((w.alloc (.cells #[.int .i64 x.form,.int .i64 x.place,.string x.text,.int .i64 x.left,.int .i64 x.right] 120)).alloc (.cells #[.int .i64 a.kind,.bool a.truth,.int .i64 a.num,.string a.text] 75)).alloc (.cells #[.int .i64 b.kind,.bool b.truth,.int .i64 b.num,.string b.text] 75)).heap.size=w.heap.size+1+1+1 by simp] at q;exact q)
 have HAb:Hid (((((w.alloc (.cells #[.int .i64 x.form,.int .i64 x.place,.string x.text,.int .i64 x.left,.int .i64 x.right] 120)).alloc (.cells #[.int .i64 a.kind,.bool a.truth,.int .i64 a.num,.string a.text] 75)).alloc (.cells #[.int .i64 b.kind,.bool b.truth,.int .i64 b.num,.string b.text] 75)).alloc (.cells #[.int .i64 0,.bool false,.int .i64 0,.string ⟨#[]⟩] 75)).heap[w.heap.size+1]?=some (.cells #[.int .i64 a.kind,.bool a.truth,.int .i64 a.num,.string a.text] 75)):=z8 ((zeM _ _ _ (by simp<;>omega)).trans ((zeM _ _ _ (by simp<;>omega)).trans (by have q:=heap_alloc_new (w.alloc (.cells #[.int .i64 x.form,.int .i64 x.place,.string x.text,.int .i64 x.left,.int .i64 x.right] 120)) (.cells #[.int .i64 a.kind,.bool a.truth,.int .i64 a.num,.string a.text] 75);rw [show(w.alloc (.cells #[.int .i64 x.form,.int .i64 x.place,.string x.text,.int .i64 x.left,.int .i64 x.right] 120)).heap.size=w.heap.size+1 by simp] at q;exact q)))
 have HZ:Hid (w.heap.size+1+1+1<((((w.alloc (.cells #[.int .i64 x.form,.int .i64 x.place,.string x.text,.int .i64 x.left,.int .i64 x.right] 120)).alloc (.cells #[.int .i64 a.kind,.bool a.truth,.int .i64 a.num,.string a.text] 75)).alloc (.cells #[.int .i64 b.kind,.bool b.truth,.int .i64 b.num,.string b.text] 75)).alloc (.cells #[.int .i64 0,.bool false,.int .i64 0,.string ⟨#[]⟩] 75)).heap.size):=z8 (by simp<;>omega)
 have HZ1:Hid (w.heap.size≤((((w.alloc (.cells #[.int .i64 x.form,.int .i64 x.place,.string x.text,.int .i64 x.left,.int .i64 x.right] 120)).alloc (.cells #[.int .i64 a.kind,.bool a.truth,.int .i64 a.num,.string a.text] 75)).alloc (.cells #[.int .i64 b.kind,.bool b.truth,.int .i64 b.num,.string b.text] 75)).alloc (.cells #[.int .i64 0,.bool false,.int .i64 0,.string ⟨#[]⟩] 75)).heap.size):=z8 (by simp<;>omega)
 have HG:Hid (w.heap.size≤w.heap.size+1+1+1):=z8 (by omega)
 cases f0:(x.form==0)
 case true=>
  have hres:Hid (wOf l x a b=nsM x.text):=z8 (by unfold wOf;rw [f0];rfl)
  have HC:=z8 (z1Q x.text ((((w.alloc (.cells #[.int .i64 x.form,.int .i64 x.place,.string x.text,.int .i64 x.left,.int .i64 x.right] 120)).alloc (.cells #[.int .i64 a.kind,.bool a.truth,.int .i64 a.num,.string a.text] 75)).alloc (.cells #[.int .i64 b.kind,.bool b.truth,.int .i64 b.num,.string b.text] 75)).alloc (.cells #[.int .i64 0,.bool false,.int .i64 0,.string ⟨#[]⟩] 75)) hx)
  generalize hX:nsM x.text=X at*
  clear hX
  go_enter Tryz.func82,Tryz.ntmps82
  go_wp2_with fail
  refine HC.out.mono ?_
  rintro e w1 ⟨rfl,hB1⟩
  have hbx:=(hB1.block _ HZ.out).trans HX.out
  obtain⟨y0,y1,y2,y3,g0,g1,g2,g3⟩:=zZ hbx
  obtain⟨z0,z1,z2,z3⟩:=zn hbx (.int .i64 X.kind) (.bool X.truth) (.int .i64 X.num) (.string X.text)
  have HB2:=z8 (zv (HB0.out.trans (hB1.mono HZ1.out)) HG.out (.int .i64 X.kind) (.bool X.truth) (.int .i64 X.num) (.string X.text))
  clear hbx hB1
  go_wp2_with fail
  refine bodyPost_ret (v:= .agg #[.int .i64 X.kind,.bool X.truth,.int .i64 X.num,.string X.text]) (by simp [results,Tryz.results82,go_sem,z0,z1,z2,z3]) rfl ?_
  exact⟨by rw [hres.out],HB2.out⟩
 cases f1:(x.form==1)
 case true=>
  have hres:Hid (wOf l x a b=z4A x.text):=z8 (by unfold wOf;rw [f0,f1];rfl)
  have HC:=z8 (z0D x.text ((((w.alloc (.cells #[.int .i64 x.form,.int .i64 x.place,.string x.text,.int .i64 x.left,.int .i64 x.right] 120)).alloc (.cells #[.int .i64 a.kind,.bool a.truth,.int .i64 a.num,.string a.text] 75)).alloc (.cells #[.int .i64 b.kind,.bool b.truth,.int .i64 b.num,.string b.text] 75)).alloc (.cells #[.int .i64 0,.bool false,.int .i64 0,.string ⟨#[]⟩] 75)))
  generalize hX:z4A x.text=X at*
  clear hX
  go_enter Tryz.func82,Tryz.ntmps82
  go_wp2_with fail
  refine HC.out.mono ?_
  rintro e w1 ⟨rfl,hB1⟩
  have hbx:=(hB1.block _ HZ.out).trans HX.out
  obtain⟨y0,y1,y2,y3,g0,g1,g2,g3⟩:=zZ hbx
  obtain⟨z0,z1,z2,z3⟩:=zn hbx (.int .i64 X.kind) (.bool X.truth) (.int .i64 X.num) (.string X.text)
  have HB2:=z8 (zv (HB0.out.trans (hB1.mono HZ1.out)) HG.out (.int .i64 X.kind) (.bool X.truth) (.int .i64 X.num) (.string X.text))
  clear hbx hB1
  go_wp2_with fail
  refine bodyPost_ret (v:= .agg #[.int .i64 X.kind,.bool X.truth,.int .i64 X.num,.string X.text]) (by simp [results,Tryz.results82,go_sem,z0,z1,z2,z3]) rfl ?_
  exact⟨by rw [hres.out],HB2.out⟩
 cases f2:(x.form==2)
 case true=>
  have hres:Hid (wOf l x a b=z0u (x.text.toList==[116,114,117,101])):=z8 (by unfold wOf;rw [f0,f1,f2];rfl)
  have HC:=z8 (z17 (x.text.toList==[116,114,117,101]) ((((w.alloc (.cells #[.int .i64 x.form,.int .i64 x.place,.string x.text,.int .i64 x.left,.int .i64 x.right] 120)).alloc (.cells #[.int .i64 a.kind,.bool a.truth,.int .i64 a.num,.string a.text] 75)).alloc (.cells #[.int .i64 b.kind,.bool b.truth,.int .i64 b.num,.string b.text] 75)).alloc (.cells #[.int .i64 0,.bool false,.int .i64 0,.string ⟨#[]⟩] 75)))
  generalize hX:z0u (x.text.toList==[116,114,117,101])=X at*
  clear hX
  go_enter Tryz.func82,Tryz.ntmps82
  go_wp2_with fail
  refine HC.out.mono ?_
  rintro e w1 ⟨rfl,hB1⟩
  have hbx:=(hB1.block _ HZ.out).trans HX.out
  obtain⟨y0,y1,y2,y3,g0,g1,g2,g3⟩:=zZ hbx
  obtain⟨z0,z1,z2,z3⟩:=zn hbx (.int .i64 X.kind) (.bool X.truth) (.int .i64 X.num) (.string X.text)
  have HB2:=z8 (zv (HB0.out.trans (hB1.mono HZ1.out)) HG.out (.int .i64 X.kind) (.bool X.truth) (.int .i64 X.num) (.string X.text))
  clear hbx hB1
  go_wp2_with fail
  refine bodyPost_ret (v:= .agg #[.int .i64 X.kind,.bool X.truth,.int .i64 X.num,.string X.text]) (by simp [results,Tryz.results82,go_sem,z0,z1,z2,z3]) rfl ?_
  exact⟨by rw [hres.out],HB2.out⟩
 cases f3:(x.form==3)
 case true=>
  have hres:Hid (wOf l x a b=z4A (z1L x.text l)):=z8 (by unfold wOf;rw [f0,f1,f2,f3];rfl)
  have HV:=z8 (z3M base l _ x.text ((((w.alloc (.cells #[.int .i64 x.form,.int .i64 x.place,.string x.text,.int .i64 x.left,.int .i64 x.right] 120)).alloc (.cells #[.int .i64 a.kind,.bool a.truth,.int .i64 a.num,.string a.text] 75)).alloc (.cells #[.int .i64 b.kind,.bool b.truth,.int .i64 b.num,.string b.text] 75)).alloc (.cells #[.int .i64 0,.bool false,.int .i64 0,.string ⟨#[]⟩] 75)) HL.out hlen)
  have HC:=z8 (z0D (z1L x.text l) ((((w.alloc (.cells #[.int .i64 x.form,.int .i64 x.place,.string x.text,.int .i64 x.left,.int .i64 x.right] 120)).alloc (.cells #[.int .i64 a.kind,.bool a.truth,.int .i64 a.num,.string a.text] 75)).alloc (.cells #[.int .i64 b.kind,.bool b.truth,.int .i64 b.num,.string b.text] 75)).alloc (.cells #[.int .i64 0,.bool false,.int .i64 0,.string ⟨#[]⟩] 75)))
  generalize hX:z4A (z1L x.text l)=X at*
  clear hX
  generalize z1L x.text l=vv at*
  go_enter Tryz.func82,Tryz.ntmps82
  go_wp2_with fail
  refine HV.out.mono ?_
  rintro e w9 ⟨rfl,rfl⟩
  go_wp2_with fail
  refine HC.out.mono ?_
  rintro e w1 ⟨rfl,hB1⟩
  have hbx:=(hB1.block _ HZ.out).trans HX.out
  obtain⟨y0,y1,y2,y3,g0,g1,g2,g3⟩:=zZ hbx
  obtain⟨z0,z1,z2,z3⟩:=zn hbx (.int .i64 X.kind) (.bool X.truth) (.int .i64 X.num) (.string X.text)
  have HB2:=z8 (zv (HB0.out.trans (hB1.mono HZ1.out)) HG.out (.int .i64 X.kind) (.bool X.truth) (.int .i64 X.num) (.string X.text))
  clear hbx hB1
  go_wp2_with fail
  refine bodyPost_ret (v:= .agg #[.int .i64 X.kind,.bool X.truth,.int .i64 X.num,.string X.text]) (by simp [results,Tryz.results82,go_sem,z0,z1,z2,z3]) rfl ?_
  exact⟨by rw [hres.out],HB2.out⟩
 cases f4:(x.form==4)
 case true=>
  have hres:Hid (wOf l x a b=nsM (z1L x.text l)):=z8 (by unfold wOf;rw [f0,f1,f2,f3,f4];rfl)
  have HV:=z8 (z3M base l _ x.text ((((w.alloc (.cells #[.int .i64 x.form,.int .i64 x.place,.string x.text,.int .i64 x.left,.int .i64 x.right] 120)).alloc (.cells #[.int .i64 a.kind,.bool a.truth,.int .i64 a.num,.string a.text] 75)).alloc (.cells #[.int .i64 b.kind,.bool b.truth,.int .i64 b.num,.string b.text] 75)).alloc (.cells #[.int .i64 0,.bool false,.int .i64 0,.string ⟨#[]⟩] 75)) HL.out hlen)
  have HC:=z8 (z1Q (z1L x.text l) ((((w.alloc (.cells #[.int .i64 x.form,.int .i64 x.place,.string x.text,.int .i64 x.left,.int .i64 x.right] 120)).alloc (.cells #[.int .i64 a.kind,.bool a.truth,.int .i64 a.num,.string a.text] 75)).alloc (.cells #[.int .i64 b.kind,.bool b.truth,.int .i64 b.num,.string b.text] 75)).alloc (.cells #[.int .i64 0,.bool false,.int .i64 0,.string ⟨#[]⟩] 75)) hvs.out)
  generalize hX:nsM (z1L x.text l)=X at*
  clear hX
  generalize z1L x.text l=vv at*
  go_enter Tryz.func82,Tryz.ntmps82
  go_wp2_with fail
  refine HV.out.mono ?_
  rintro e w9 ⟨rfl,rfl⟩
  go_wp2_with fail
  refine HC.out.mono ?_
  rintro e w1 ⟨rfl,hB1⟩
  have hbx:=(hB1.block _ HZ.out).trans HX.out
  obtain⟨y0,y1,y2,y3,g0,g1,g2,g3⟩:=zZ hbx
  obtain⟨z0,z1,z2,z3⟩:=zn hbx (.int .i64 X.kind) (.bool X.truth) (.int .i64 X.num) (.string X.text)
  have HB2:=z8 (zv (HB0.out.trans (hB1.mono HZ1.out)) HG.out (.int .i64 X.kind) (.bool X.truth) (.int .i64 X.num) (.string X.text))
  clear hbx hB1
  go_wp2_with fail
  refine bodyPost_ret (v:= .agg #[.int .i64 X.kind,.bool X.truth,.int .i64 X.num,.string X.text]) (by simp [results,Tryz.results82,go_sem,z0,z1,z2,z3]) rfl ?_
  exact⟨by rw [hres.out],HB2.out⟩
 cases f5:(x.form==5)
 case true=>
  have hres:Hid (wOf l x a b=z0n x.text a):=z8 (by unfold wOf;rw [f0,f1,f2,f3,f4,f5];rfl)
  have HC:=z8 (z40 x.text a ((((w.alloc (.cells #[.int .i64 x.form,.int .i64 x.place,.string x.text,.int .i64 x.left,.int .i64 x.right] 120)).alloc (.cells #[.int .i64 a.kind,.bool a.truth,.int .i64 a.num,.string a.text] 75)).alloc (.cells #[.int .i64 b.kind,.bool b.truth,.int .i64 b.num,.string b.text] 75)).alloc (.cells #[.int .i64 0,.bool false,.int .i64 0,.string ⟨#[]⟩] 75)))
  generalize hX:z0n x.text a=X at*
  clear hX
  go_enter Tryz.func82,Tryz.ntmps82
  go_wp2_with fail
  refine HC.out.mono ?_
  rintro e w1 ⟨rfl,hB1⟩
  have hbx:=(hB1.block _ HZ.out).trans HX.out
  obtain⟨y0,y1,y2,y3,g0,g1,g2,g3⟩:=zZ hbx
  obtain⟨z0,z1,z2,z3⟩:=zn hbx (.int .i64 X.kind) (.bool X.truth) (.int .i64 X.num) (.string X.text)
  have HB2:=z8 (zv (HB0.out.trans (hB1.mono HZ1.out)) HG.out (.int .i64 X.kind) (.bool X.truth) (.int .i64 X.num) (.string X.text))
  clear hbx hB1
  go_wp2_with fail
  refine bodyPost_ret (v:= .agg #[.int .i64 X.kind,.bool X.truth,.int .i64 X.num,.string X.text]) (by simp [results,Tryz.results82,go_sem,z0,z1,z2,z3]) rfl ?_
  exact⟨by rw [hres.out],HB2.out⟩
 cases f6:(x.form==6)
 case true=>
  have hres:Hid (wOf l x a b=zW x.text a b):=z8 (by unfold wOf;rw [f0,f1,f2,f3,f4,f5,f6];rfl)
  have HC:=z8 (z57 x.text a b ((((w.alloc (.cells #[.int .i64 x.form,.int .i64 x.place,.string x.text,.int .i64 x.left,.int .i64 x.right] 120)).alloc (.cells #[.int .i64 a.kind,.bool a.truth,.int .i64 a.num,.string a.text] 75)).alloc (.cells #[.int .i64 b.kind,.bool b.truth,.int .i64 b.num,.string b.text] 75)).alloc (.cells #[.int .i64 0,.bool false,.int .i64 0,.string ⟨#[]⟩] 75)) ha hb)
  generalize hX:zW x.text a b=X at*
  clear hX
  go_enter Tryz.func82,Tryz.ntmps82
  go_wp2_with fail
  refine HC.out.mono ?_
  rintro e w1 ⟨rfl,hB1⟩
  have hbx:=(hB1.block _ HZ.out).trans HX.out
  obtain⟨y0,y1,y2,y3,g0,g1,g2,g3⟩:=zZ hbx
  obtain⟨z0,z1,z2,z3⟩:=zn hbx (.int .i64 X.kind) (.bool X.truth) (.int .i64 X.num) (.string X.text)
  have HB2:=z8 (zv (HB0.out.trans (hB1.mono HZ1.out)) HG.out (.int .i64 X.kind) (.bool X.truth) (.int .i64 X.num) (.string X.text))
  clear hbx hB1
  go_wp2_with fail
  refine bodyPost_ret (v:= .agg #[.int .i64 X.kind,.bool X.truth,.int .i64 X.num,.string X.text]) (by simp [results,Tryz.results82,go_sem,z0,z1,z2,z3]) rfl ?_
  exact⟨by rw [hres.out],HB2.out⟩
 cases f7:(x.form==7)
 case true=>
  have hres:Hid (wOf l x a b=a):=z8 (by unfold wOf;rw [f0,f1,f2,f3,f4,f5,f6,f7];rfl)
  go_enter Tryz.func82,Tryz.ntmps82
  go_wp2_with fail
  refine bodyPost_ret (v:= .agg #[.int .i64 a.kind,.bool a.truth,.int .i64 a.num,.string a.text]) (by simp [results,Tryz.results82,go_sem]) rfl ?_
  refine⟨by rw [hres.out],?_⟩
  have q:=zeU w.heap.size w
  exact(((q.alloc (zeK _) _).alloc (by simp<;>omega) _).alloc (by simp<;>omega) _).alloc (by simp<;>omega) _
 have hres:Hid (wOf l x a b=z0K):=z8 (by unfold wOf;rw [f0,f1,f2,f3,f4,f5,f6,f7];rfl)
 go_enter Tryz.func82,Tryz.ntmps82
 go_wp2_with fail
 refine bodyPost_ret (v:= .agg #[.int .i64 0,.bool false,.int .i64 0,.string ⟨#[]⟩]) (by simp [results,Tryz.results82,go_sem]) rfl ?_
 exact⟨by rw [hres.out];rfl,HB0.out⟩
def ze (l:List (zeV×zeV)):List Ex→List Wt→List Wt
 |[],ws=>ws
 |x::xs,ws=>ze l xs (ws++[wOf l x (wAt ws x.left) (wAt ws x.right)])
theorem z0T (l:List (zeV×zeV)): ∀(xs ys:List Ex) (ws:List Wt),ze l (xs++ys) ws=ze l ys (ze l xs ws):=by
 intro xs
 induction xs with
 |nil=>intro ys ws;rfl
 |cons x xs ih=>intro ys ws;exact ih ys _
theorem jw (l:List (zeV×zeV)): ∀(xs:List Ex) (ws:List Wt),(ze l xs ws).length=ws.length+xs.length:=by
 intro xs
 induction xs with
 |nil=>intro ws;rfl
 |cons x xs ih=>intro ws;unfold ze;rw [ih];simp;omega
theorem z1T (l:List (zeV×zeV)): ∀(xs:List Ex) (ws:List Wt),∃us,ze l xs ws=ws++us:=by
 intro xs
 induction xs with
 |nil=>intro ws;exact⟨[],by simp [ze]⟩
 |cons x xs ih=>
  intro ws
  obtain⟨us,h⟩:=ih (ws++[wOf l x (wAt ws x.left) (wAt ws x.right)])
  exact⟨_,by unfold ze;rw [h,List.append_assoc]⟩
theorem z3d (l:List (zeV×zeV)){E:List Ex}{i:Nat}{x:Ex}(h:E[i]?=some x):
  ze l (E.take (i+1)) []=ze l (E.take i) []++[wOf l x (wAt (ze l (E.take i) []) x.left) (wAt (ze l (E.take i) []) x.right)]:=by
 rw [List.take_add_one,h,z0T]
 rfl
theorem z7i (l:List (zeV×zeV))(E:List Ex)(i:Nat): ∀x∈ze l (E.take i) [],x∈ze l E []:=by
 intro x hx
 obtain⟨us,h⟩:=z1T l (E.drop i) (ze l (E.take i) [])
 rw [←z0T,List.take_append_drop] at h
 rw [h]
 exact List.mem_append_left _ hx
theorem z26 (ws:List Wt)(i:Int):wAt ws i=z0K∨wAt ws i∈ws:=by
 unfold wAt
 split
 ·exact .inl rfl
 ·by_cases h:i.toNat<ws.length
  ·exact .inr (by simp [List.getD,h])
  ·exact .inl (by simp [List.getElem?_eq_none (Nat.le_of_not_lt h)])
theorem z7D {ws:List Wt}{m:Nat}(h: ∀x∈ws,x.text.size≤m)(i:Int):(wAt ws i).text.size≤m:=by
 rcases z26 ws i with e|e
 ·rw [e];exact zeR _
 ·exact h _ e
theorem info75:(Tryz.prog.info? 75).map (fun i=>(i.zero,i.size,i.bytes))=some (some (.agg #[.int .i64 0,.bool false,.int .i64 0,.string ⟨#[]⟩]),4,40):=by kernel_rfl
def zbS (W:List Wt)(w:World)(e:Ending)(w':World):Prop:= ∃v,e= .returned v∧w'.ownsRow w.heap.size 75 4 v W.length ((W.map Wt.cells).flatten)∧Below w.heap.size w w'
theorem z4l (base b o lb:Nat)(E:List Ex)(v5:Value)(l:List (zeV×zeV))(lv:Value)(w:World)(hc:w.cell? ⟨b,o+2,none⟩=some v5)(how:w.ownsRow base 120 5 v5 E.length ((E.map Ex.cells).flatten))(hlen:E.length≤100000)
  (hl:w.ownsRow lb 123 2 lv l.length ((l.map zu).flatten)) (hll:l.length≤100000) (hls: ∀p∈l,p.2.size≤600) (hE: ∀x∈E,x.text.size≤600) (hW: ∀x∈ze l E [],x.text.size≤100000000):
  Calls Tryz.prog 42 #[.pointer (some ⟨b,o,none⟩),lv] w fun e w'=>zbS (ze l E []) w e w':=by
 obtain⟨a5,k5,rfl⟩:=za how
 obtain⟨al,kl,rfl⟩:=za hl
 have hblt:=zd hc
 obtain⟨i0,hi,hz0,hz1,hz2⟩:=info_parts info75
 have hmade:=World.ownsRow_made (base:=w.heap.size) (e:=75) (size:=4) w #[] 0 (zeK _) (by decide) (by simp)
 have hB0:Below w.heap.size w (w.alloc (.cells #[] 75)):=(zeU _ _).alloc (zeK _) _
 have HM:=z8 hmade
 have HB0:=z8 hB0
 have HW:=z8 how
 have HL:=z8 hl
 have HS:=z8 (zeL hE hW)
 clear hmade hB0 how hl hE hW
 go_enter Tryz.func42,Tryz.ntmps42
 go_wp2_with fail
 go_loopg [5,6] (E.length+1) (fun k tv iv wr=> ∃(i:Nat),k+i=E.length+1∧i≤E.length∧iv= .int .i64 i∧Hid (wr.ownsRow w.heap.size 75 4 tv i (((ze l (E.take i) []).map Wt.cells).flatten))∧Below w.heap.size w wr)
 case atStart=>exact⟨0,rfl,zeR _,rfl,z8 HM.out,HB0.out⟩
 case round=>
  obtain⟨i,hk,hiE,rfl,HOWN,hbel⟩:=hrel
  have hc':wr.cell? ⟨b,o+2,none⟩=some (.slice a5 E.length k5):=(hbel.cell (p:=⟨b,o+2,none⟩) hblt).trans hc
  have hHK:=z8 hk
  clear hk
  obtain⟨ag,kg,rfl⟩:=za HOWN.out
  by_cases hlt:i<E.length
  ·obtain⟨g,cap,hv,hb,hg⟩:=HW.out.form (by omega)
   injection hv with e1 e2 e3
   subst e1 e3
   obtain⟨x,hx⟩: ∃x,E[i]?=some x:=⟨E[i],zeH hlt⟩
   have hcell: ∀j u,x.cells[j]?=some u→j<5→wr.cell? ⟨g,i*5+j,none⟩=some u:=fun j u hu hj=>by
    rw [hbel.cell (p:=⟨g,i*5+j,none⟩) hg]
    exact zf HW.out _ _ ((zI Ex.cells 5 Ex.cells_len E i j x hx hj).trans hu)
   have q0:wr.cell? ⟨g,i*5,none⟩=some (.int .i64 x.form):=hcell 0 _ rfl (by omega)
   have q1:=hcell 1 _ rfl (by omega)
   have q2:=hcell 2 _ rfl (by omega)
   have q3:=hcell 3 _ rfl (by omega)
   have q4:=hcell 4 _ rfl (by omega)
   have hlt':(i:Int)<E.length:=by omega
   have hst:=z8 (z3d l hx)
   have hxs:=HS.out.1 x (zeP hx)
   have hus: ∀y∈ze l (E.take i) [],y.text.size≤100000000:=fun y hy=>HS.out.2 y (z7i l E i y hy)
   have hul:(ze l (E.take i) []).length=i:=by rw [jw];simp;omega
   have HUL:=z8 hul
   have hsl:=z7D hus x.left
   have hsr:=z7D hus x.right
   clear hul hus hx hcell
   generalize ze l (E.take i) []=U at*
   have hsz:=z8 hbel.size
   have hB1:=z8 (hbel.alloc hbel.size (.cells #[.int .i64 x.form,.int .i64 x.place,.string x.text,.int .i64 x.left,.int .i64 x.right] 120))
   have hown0:wr.ownsRow w.heap.size 75 4 (.slice ag i kg) U.length ((U.map Wt.cells).flatten):=by rw [HUL.out];exact HOWN.out
   have hown1:=z8 (hown0.alloc (.cells #[.int .i64 x.form,.int .i64 x.place,.string x.text,.int .i64 x.left,.int .i64 x.right] 120))
   have hl1:=z8 ((zb HL.out fun k e=>hbel.block k (HL.out.lt k e).2).alloc (.cells #[.int .i64 x.form,.int .i64 x.place,.string x.text,.int .i64 x.left,.int .i64 x.right] 120))
   have hwl:=z8 hbel
   clear hbel hown0
   have hbx0:=z8 (heap_alloc_new wr (.cells #[.int .i64 x.form,.int .i64 x.place,.string x.text,.int .i64 x.left,.int .i64 x.right] 120))
   go_wp2_with fail
   refine(z0C w.heap.size U _ _ _ hown1.out (by have:=HUL.out;omega)).mono ?_
   rintro e w1 ⟨rfl,hb1⟩
   generalize wAt U x.left=A at*
   have hs1:wr.heap.size+1≤w1.heap.size:=by have:=hb1.size;simpa using this
   have hbx1:=(hb1.block wr.heap.size (by simp)).trans hbx0.out
   have p3:w1.cell? ⟨wr.heap.size,3,none⟩=some (.int .i64 x.left):=by simp [World.cell?,hbx1]
   have hbx1':(w1.alloc (.cells #[.int .i64 A.kind,.bool A.truth,.int .i64 A.num,.string A.text] 75)).heap[wr.heap.size]?=_:=(zeM _ _ _ (by omega)).trans hbx1
   have p4':(w1.alloc (.cells #[.int .i64 A.kind,.bool A.truth,.int .i64 A.num,.string A.text] 75)).cell? ⟨wr.heap.size,4,none⟩=some (.int .i64 x.right):=by simp only [World.cell?,hbx1'];rfl
   have hn1:wr.heap.size≠w1.heap.size:=by omega
   have p4:w1.cell? ⟨wr.heap.size,4,none⟩=some (.int .i64 x.right):=by simp [World.cell?,hbx1]
   clear hbx1'
   have hown2:=z8 ((zb hown1.out fun k e=>hb1.block k (hown1.out.lt k e).2).alloc (.cells #[.int .i64 A.kind,.bool A.truth,.int .i64 A.num,.string A.text] 75))
   have hl2:=z8 ((zb hl1.out fun k e=>hb1.block k (hl1.out.lt k e).2).alloc (.cells #[.int .i64 A.kind,.bool A.truth,.int .i64 A.num,.string A.text] 75))
   have hB2:=z8 ((hB1.out.trans (hb1.mono (by simp;have:=hsz.out;omega))).alloc (by have:=hsz.out;omega) (.cells #[.int .i64 A.kind,.bool A.truth,.int .i64 A.num,.string A.text] 75))
   have HBX1:=z8 hbx1
   have hA2:=z8 (heap_alloc_new w1 (.cells #[.int .i64 A.kind,.bool A.truth,.int .i64 A.num,.string A.text] 75))
   clear hb1 hbx1 hbx0
   go_wp2_with fail
   refine(z0C w.heap.size U _ _ _ hown2.out (by have:=HUL.out;omega)).mono ?_
   rintro e w2 ⟨rfl,hb2⟩
   generalize wAt U x.right=B at*
   have hs2:w1.heap.size+1≤w2.heap.size:=by have:=hb2.size;simpa using this
   have hbx2:w2.heap[wr.heap.size]?=_:=(hb2.block wr.heap.size (by simp;omega)).trans ((zeM _ _ _ (by omega)).trans HBX1.out)
   have hA3:w2.heap[w1.heap.size]?=_:=(hb2.block w1.heap.size (by simp)).trans hA2.out
   have hbx2':(w2.alloc (.cells #[.int .i64 B.kind,.bool B.truth,.int .i64 B.num,.string B.text] 75)).heap[wr.heap.size]?=_:=(zeM _ _ _ (by omega)).trans hbx2
   have hA3':(w2.alloc (.cells #[.int .i64 B.kind,.bool B.truth,.int .i64 B.num,.string B.text] 75)).heap[w1.heap.size]?=_:=(zeM _ _ _ (by omega)).trans hA3
   have r0:(w2.alloc (.cells #[.int .i64 B.kind,.bool B.truth,.int .i64 B.num,.string B.text] 75)).cell? ⟨wr.heap.size,0,none⟩=some (.int .i64 x.form):=by simp only [World.cell?,hbx2'];rfl
   have r1:(w2.alloc (.cells #[.int .i64 B.kind,.bool B.truth,.int .i64 B.num,.string B.text] 75)).cell? ⟨wr.heap.size,1,none⟩=some (.int .i64 x.place):=by simp only [World.cell?,hbx2'];rfl
   have r2:(w2.alloc (.cells #[.int .i64 B.kind,.bool B.truth,.int .i64 B.num,.string B.text] 75)).cell? ⟨wr.heap.size,2,none⟩=some (.string x.text):=by simp only [World.cell?,hbx2'];rfl
   have r3:(w2.alloc (.cells #[.int .i64 B.kind,.bool B.truth,.int .i64 B.num,.string B.text] 75)).cell? ⟨wr.heap.size,3,none⟩=some (.int .i64 x.left):=by simp only [World.cell?,hbx2'];rfl
   have r4:(w2.alloc (.cells #[.int .i64 B.kind,.bool B.truth,.int .i64 B.num,.string B.text] 75)).cell? ⟨wr.heap.size,4,none⟩=some (.int .i64 x.right):=by simp only [World.cell?,hbx2'];rfl
   obtain⟨s0,s1,s2,s3,_,_,_,_⟩:=zZ hA3'
   clear hbx2' hA3'
   have hn2:wr.heap.size≠w2.heap.size:=by omega
   have hn3:w1.heap.size≠w2.heap.size:=by omega
   clear p4'
   have hown3:=z8 ((zb hown2.out fun k e=>hb2.block k (hown2.out.lt k e).2).alloc (.cells #[.int .i64 B.kind,.bool B.truth,.int .i64 B.num,.string B.text] 75))
   have hl3:=z8 ((zb hl2.out fun k e=>hb2.block k (hl2.out.lt k e).2).alloc (.cells #[.int .i64 B.kind,.bool B.truth,.int .i64 B.num,.string B.text] 75))
   have hB3:=z8 ((hB2.out.trans (hb2.mono (by simp;have:=hsz.out;omega))).alloc (by have:=hsz.out;omega) (.cells #[.int .i64 B.kind,.bool B.truth,.int .i64 B.num,.string B.text] 75))
   clear hb2 hbx2 hA3
   go_wp2_with fail
   refine(z7g lb l _ x A B _ hl3.out hll hls hxs (by omega) (by omega)).mono ?_
   rintro e w3 ⟨rfl,hb3⟩
   have hs3:w2.heap.size+1≤w3.heap.size:=by have:=hb3.size;simpa using this
   generalize wOf l x A B=O at*
   have hown4:=zb hown3.out fun k e=>hb3.block k (hown3.out.lt k e).2
   rw [HUL.out] at hown4
   have HB4:=z8 (hB3.out.trans (hb3.mono (by simp;have:=hsz.out;omega)))
   have hw4:w.heap.size≤w3.heap.size:=by have:=hsz.out;omega
   have hl100:i≤100000:=by omega
   clear hb3
   go_wp2_with (at_builtin;go_must (refine wpList_append_lies _ rfl (.tmp 41) (.tmp 43) 72 rfl w.heap.size 75 i0 _ 4 40 Tryz.underlying72 hi hz0 hz1 hz2 rfl (by omega) _ i _ rfl ((hown4.alloc _).alloc _) ⟨w3.heap.size+1,0,none⟩ 1 1 (Wt.cells O) rfl rfl ?news ?one (by omega) ?mm ?bys ?base (w3.heap.size+2) (by simp) ?rest))
   case news=>exact z43 _ _ (by simp) #[.int .i64 O.kind,.bool O.truth,.int .i64 O.num,.string O.text] 75
   case one=>intro u hu;simp [Wt.cells] at hu;rcases hu with rfl|rfl|rfl|rfl<;>rfl
   case mm=>unfold maxLen;omega
   case bys=>omega
   case base=>simp;omega
   case rest=>
    intro gb cap w4 hown5 hgrow hat hlt2
    have hB5:=z8 (Below.grown ((HB4.out.alloc hw4 _).alloc (by simp;omega) _) hgrow (by simp;omega) fun k e=>(hown4.lt k e).1)
    have hown6:Hid (w4.ownsRow w.heap.size 75 4 (.slice (some ⟨gb,0,none⟩) (i+1) cap) (i+1) (((ze l (E.take (i+1)) []).map Wt.cells).flatten)):=z8 (by rw [hst.out];simpa using hown5)
    clear hown5 hgrow hat
    go_wp2_with fail
    have hk:=hHK.out
    go_roundg (E.length - i)
    case measure=>omega
    case rel=>exact⟨i+1,by omega,by omega,by go_num,hown6,hB5.out⟩
  ·have hlt': ¬(i:Int)<E.length:=by omega
   have hiE':i=E.length:=by omega
   have hfin:wr.ownsRow w.heap.size 75 4 (.slice ag i kg) (ze l E []).length (((ze l E []).map Wt.cells).flatten):=by
    have hq:=HOWN.out
    rw [jw]
    rw [hiE',List.take_length] at hq
    simpa [hiE'] using hq
   have HF:=z8 hfin
   have HBE:=z8 hbel
   clear hfin hiE' hbel
   go_wp2_with fail
   go_ret
   exact⟨_,rfl,HF.out,HBE.out⟩
theorem z4P {n:Int}(h:0≤n):Lib.itoa n=Lib.decDigits n.toNat:=by unfold Lib.itoa;rw [if_neg (by omega)]
theorem zag {n:Int}(h:n<0):Lib.itoa n=45::Lib.itoa (-n):=by
 rw [z4P (show 0≤ -n by omega)]
 unfold Lib.itoa
 rw [if_pos h,show n.natAbs=(-n).toNat by omega]
theorem z3E {u:Nat}(h:u<10):Lib.decDigits u=[UInt8.ofNat (48+u)]:=by rw [Lib.decDigits,dif_pos h]
theorem z8P {u:Nat}(h: ¬u<10):Lib.decDigits u=Lib.decDigits (u/10)++[UInt8.ofNat (48+u%10)]:=by rw [Lib.decDigits,dif_neg h]
theorem za9: ∀(k u:Nat),u<10^(k+1)→(Lib.decDigits u).length≤k+1:=by
 intro k
 induction k with
 |zero=>intro u h;rw [z3E (by simpa using h)];simp
 |succ k ih=>
  intro u h
  by_cases hu:u<10
  ·rw [z3E hu];simp
  ·rw [z8P hu]
   have:=ih (u/10) (by rw [Nat.div_lt_iff_lt_mul (by omega)];rw [Nat.pow_succ] at h;exact h)
   simp;omega
def z3D (t:zeV)(w:World)(e:Ending)(w':World):Prop:=e= .returned (.string t)∧Below w.heap.size w w'
theorem z4C (w:World)(u:Nat):Sem.run Tryz.prog (convert 142 9 (.slice (some ⟨w.heap.size,0,none⟩) 1 1)) (w.alloc (.cells #[.int .u8 (48+(u:Int)%10)] 5))= .ok (.string ⟨#[UInt8.ofNat (48+u%10)]⟩) (w.alloc (.cells #[.int .u8 (48+(u:Int)%10)] 5)):=by
 rw [zcw _ _ (48+(u:Int)%10) ((cell_of_row _ _ 0 _ _ _ (heap_alloc_new w _)).trans rfl)]
 rw [show(48+(u:Int)%10).toNat=48+u%10 by omega]
theorem z6L: ∀(k u:Nat) (w:World),u<10^(k+1)→k≤8→Calls Tryz.prog 56 #[.int .i64 (u:Int)] w fun e w'=>z3D ⟨(Lib.decDigits u).toArray⟩ w e w':=by
 have small: ∀(u:Nat) (w:World),u<10→Calls Tryz.prog 56 #[.int .i64 (u:Int)] w fun e w'=>z3D ⟨(Lib.decDigits u).toArray⟩ w e w':=by
  intro u w hu
  have hcv:=z4C w u
  have hd:Hid (Lib.decDigits u=[UInt8.ofNat (48+u%10)]):=z8 (by rw [z3E hu,Nat.mod_eq_of_lt hu])
  have hu':(u:Int)<10:=by omega
  have hB:=z8 ((zeU w.heap.size w).alloc (zeK _) (.cells #[.int .u8 (48+(u:Int)%10)] 5))
  go_enter Tryz.func56,Tryz.ntmps56
  go_wp2_with fail
  go_ret
  exact⟨by rw [hd.out];simp,hB.out⟩
 intro k
 induction k with
 |zero=>intro u w hu _;exact small u w (by simpa using hu)
 |succ k ih=>
  intro u w hu hk
  by_cases h10:u<10
  ·exact small u w h10
  ·have hcv:=z4C w u
   have hd:Hid ((⟨(Lib.decDigits u).toArray⟩:zeV)=⟨(Lib.decDigits (u/10)).toArray⟩++⟨#[UInt8.ofNat (48+u%10)]⟩):=z8 (by
    rw [z8P h10]
    apply ByteArray.ext
    rw [ByteArray.data_append]
    simp)
   have h10': ¬(u:Int)<10:=by omega
   have hB:=z8 ((zeU w.heap.size w).alloc (zeK _) (.cells #[.int .u8 (48+(u:Int)%10)] 5))
   have hlt:u/10<10^(k+1):=by rw [Nat.div_lt_iff_lt_mul (by omega)];rw [Nat.pow_succ] at hu;exact hu
   have hu9:u<10000000000:=by
    have h9: ∀k,k+1≤8→10^(k+1+1)≤10000000000:=by
     intro k hk
     exact Nat.pow_le_pow_right (by omega) (show k+1+1≤10 by omega)
    exact zeQ hu (h9 k hk)
   have HC:=z8 (show Calls Tryz.prog 56 #[.int .i64 ((u:Int)/10)] (w.alloc (.cells #[.int .u8 (48+(u:Int)%10)] 5)) (fun e w'=>z3D ⟨(Lib.decDigits (u/10)).toArray⟩ (w.alloc (.cells #[.int .u8 (48+(u:Int)%10)] 5)) e w') from ih (u/10) (w.alloc (.cells #[.int .u8 (48+(u:Int)%10)] 5)) hlt (by omega))
   have hlen:=za9 k (u/10) hlt
   have hsz:(⟨(Lib.decDigits (u/10)).toArray⟩:zeV).size≤1000000000:=by
    show(Lib.decDigits (u/10)).toArray.size≤1000000000
    simp;omega
   generalize (⟨(Lib.decDigits (u/10)).toArray⟩:zeV)=D at*
   obtain⟨dg,hdg⟩: ∃dg:zeV,dg=⟨#[UInt8.ofNat (48+u%10)]⟩:=⟨_,rfl⟩
   rw [←hdg] at hcv hd
   have hdz:dg.size≤1000000000:=by rw [hdg];show 1≤1000000000;omega
   clear hdg
   clear hlen hlt
   go_enter Tryz.func56,Tryz.ntmps56
   go_wp2_with fail
   refine HC.out.mono ?_
   rintro e w1 ⟨rfl,hB1⟩
   go_wp2_with fail
   go_ret
   exact⟨by rw [hd.out];rfl,hB.out.trans (hB1.mono (by simp))⟩
theorem z6G (n:Int)(w:World)(h: -999999999≤n∧n≤999999999):Calls Tryz.prog 56 #[.int .i64 n] w fun e w'=>z3D ⟨(Lib.itoa n).toArray⟩ w e w':=by
 have pos: ∀(u:Nat) (w:World),u≤999999999→Calls Tryz.prog 56 #[.int .i64 (u:Int)] w fun e w'=>z3D ⟨(Lib.itoa u).toArray⟩ w e w':=fun u w hu=>by
  rw [z4P (by omega)]
  exact z6L 8 u w (by omega) (zeK _)
 by_cases h0:0≤n
 ·obtain⟨u,rfl⟩:=Int.eq_ofNat_of_zero_le h0
  exact pos u w (by omega)
 ·obtain⟨u,hu⟩:=Int.eq_ofNat_of_zero_le (show 0≤ -n by omega)
  have HC:=z8 (pos u w (by omega))
  have hd:Hid ((⟨(Lib.itoa n).toArray⟩:zeV)=⟨#[45]⟩++⟨(Lib.itoa u).toArray⟩):=z8 (by
   rw [zag (by omega),hu]
   apply ByteArray.ext
   rw [ByteArray.data_append]
   simp)
  have hsz:(⟨(Lib.itoa u).toArray⟩:zeV).size≤1000000000:=by
   rw [z4P (by omega)]
   have:=za9 8 u (by omega)
   show(Lib.decDigits u).toArray.size≤1000000000
   simp;omega
  have hn:n= -(u:Int):=by omega
  generalize (⟨(Lib.itoa u).toArray⟩:zeV)=D at*
  have hlt:n<0:=by omega
  have hneg:Hid (-n=(u:Int)):=z8 hu
  clear hn hu h0
  go_enter Tryz.func56,Tryz.ntmps56
  go_wp2_with fail
  rw [hneg.out]
  refine HC.out.mono ?_
  rintro e w1 ⟨rfl,hB1⟩
  go_wp2_with fail
  go_ret
  exact⟨by rw [hd.out];rfl,hB1⟩
def prM (x:Wt):zeV:=
 if x.kind==1 then(if x.truth then⟨#[116,114,117,101]⟩ else⟨#[102,97,108,115,101]⟩)
 else if x.kind==2 then⟨(Lib.itoa x.num).toArray⟩ else if x.kind==3 then(⟨#[34]⟩++x.text)++⟨#[34]⟩ else⟨#[101,114,114,111,114]⟩
theorem z9z (xk:Int)(xb:Bool)(xn:Int)(xt:zeV)(w:World)(ht:Tab w)(hn: -999999999≤xn∧xn≤999999999)(hsz:xt.size≤900000000):
  Calls Tryz.prog 44 #[.agg #[.int .i64 xk,.bool xb,.int .i64 xn,.string xt]] w fun e w'=>z3D (prM ⟨xk,xb,xn,xt⟩) w e w':=by
 have hB:=(zeU w.heap.size w).alloc (zeK _) (.cells #[.int .i64 xk,.bool xb,.int .i64 xn,.string xt] 75)
 have HT:=z8 (ht.below hB)
 have HB:=z8 hB
 clear hB ht
 cases h1:(xk==1)
 case true=>
  cases xb
  case true=>
   have hres:Hid (prM ⟨xk,true,xn,xt⟩=⟨#[116,114,117,101]⟩):=z8 (by unfold prM;rw [h1];rfl)
   go_enter Tryz.func44,Tryz.ntmps44
   go_wp2_with fail
   go_ret
   exact⟨by rw [hres.out];rfl,HB.out⟩
  case false=>
   have hres:Hid (prM ⟨xk,false,xn,xt⟩=⟨#[102,97,108,115,101]⟩):=z8 (by unfold prM;rw [h1];rfl)
   go_enter Tryz.func44,Tryz.ntmps44
   go_wp2_with fail
   go_ret
   exact⟨by rw [hres.out];rfl,HB.out⟩
 cases h2:(xk==2)
 case true=>
  have hres:Hid (prM ⟨xk,xb,xn,xt⟩=⟨(Lib.itoa xn).toArray⟩):=z8 (by unfold prM;rw [h1,h2];rfl)
  have HC:=z8 (za2 xn (by omega) (by omega) _ HT.out)
  go_enter Tryz.func44,Tryz.ntmps44
  go_wp2_with fail
  refine HC.out.mono ?_
  rintro e w1 ⟨rfl,hB1⟩
  generalize (⟨(Lib.itoa xn).toArray⟩:zeV)=D at*
  go_wp2_with fail
  go_ret
  exact⟨by rw [hres.out];rfl,HB.out.trans (hB1.mono (by simp))⟩
 cases h3:(xk==3)
 case true=>
  have hres:Hid (prM ⟨xk,xb,xn,xt⟩=(⟨#[34]⟩++xt)++⟨#[34]⟩):=z8 (by unfold prM;rw [h1,h2,h3];rfl)
  go_enter Tryz.func44,Tryz.ntmps44
  go_wp2_with fail
  go_ret
  exact⟨by rw [hres.out];rfl,HB.out⟩
 have hres:Hid (prM ⟨xk,xb,xn,xt⟩=⟨#[101,114,114,111,114]⟩):=z8 (by unfold prM;rw [h1,h2,h3];rfl)
 go_enter Tryz.func44,Tryz.ntmps44
 go_wp2_with fail
 go_ret
 exact⟨by rw [hres.out];rfl,HB.out⟩
theorem z6t (x:Wt)(w:World)(ht:Tab w)(hn: -999999999≤x.num∧x.num≤999999999)(hsz:x.text.size≤900000000):
  Calls Tryz.prog 44 #[.agg #[.int .i64 x.kind,.bool x.truth,.int .i64 x.num,.string x.text]] w fun e w'=>z3D (prM x) w e w':=z9z x.kind x.truth x.num x.text w ht hn hsz
end Go.Proofs.YtkoohcilbpdgeaaGreatDoor
