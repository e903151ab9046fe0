import Derived.Test.YtkoohcilbpdgeaaGreatDoorC28
set_option linter.all false
set_option linter.unusedVariables false
set_option linter.unusedSimpArgs false
set_option linter.unnecessarySimpa false
set_option linter.constructorNameAsVariable false
set_option linter.deprecated false
set_option maxRecDepth 100000
set_option maxHeartbeats 6400000
namespace Go.Proofs.YtkoohcilbpdgeaaGreatDoor
open Go Go.RowKit
theorem info9:(Tryz.prog.info? 9).map (fun i=>(i.zero,i.size,i.bytes))=some (some (.string ⟨#[]⟩),1,16):=by kernel_rfl
theorem segC_get {P:Value→Cl→Nat→Nat→Prop}: ∀(vs:List Value) (cs:List Cl) (a e k:Nat) (v:Value),SegC P vs cs a e→vs[k]?=some v→ ∃(c:Cl) (a' e':Nat),cs[k]?=some c∧P v c a' e':=by
 intro vs
 induction vs with
 |nil=>intro is a e k v _ h;simp at h
 |cons u vs ih=>
  intro is a e k v h hv
  cases is with
  |nil=>exact absurd h id
  |cons i is=>
   obtain⟨j,h2,h3⟩:=h
   cases k with
   |zero=>
    have:u=v:=by simpa using hv
    subst this
    exact⟨i,a,j,rfl,h2⟩
   |succ k=>exact ih is _ _ k v h3 (by simpa using hv)
theorem segC_len {P:Value→Cl→Nat→Nat→Prop}: ∀(vs:List Value) (cs:List Cl) (a e:Nat),SegC P vs cs a e→vs.length=cs.length:=by
 intro vs
 induction vs with
 |nil=>intro is a e h;cases is with
  |nil=>rfl
  |cons i is=>exact absurd h id
 |cons v vs ih=>
  intro is a e h
  cases is with
  |nil=>exact absurd h id
  |cons i is=>obtain⟨j,_,h3⟩:=h;simp [ih is _ _ h3]
attribute [local go_sem] wrap64_byte
def plM (nm:ByteArray):List ByteArray→Nat→Int
 |[],_=> -1
 |x::xs,i=>if x.toList==nm.toList then(i:Int) else plM nm xs (i+1)
theorem plM_range (nm:ByteArray): ∀(l:List ByteArray) (i:Nat),plM nm l i= -1∨((i:Int)≤plM nm l i∧plM nm l i<(i+l.length:Nat)):=by
 intro l
 induction l with
 |nil=>intro i;exact .inl rfl
 |cons x xs ih=>
  intro i
  unfold plM
  split
  ·exact .inr ⟨by omega,by simp;omega⟩
  ·rcases ih (i+1) with h|⟨h1,h2⟩
   ·exact .inl h
   ·exact .inr ⟨by omega,by simp at*;omega⟩
theorem placeOf_any (base:Nat)(l:List ByteArray)(v:Value)(nm:ByteArray)(w:World)(h:w.ownsRow base 9 1 v l.length (l.map Value.string))(hlen:l.length≤100000):
  Calls Tryz.prog 66 #[v,.string nm] w fun e w'=>e= .returned (.int .i64 (plM nm l 0))∧w'=w:=by
 obtain⟨a0,c0,rfl⟩:=ownsRow_slice h
 have HW:=hide h
 clear h
 go_enter Tryz.func66,Tryz.ntmps66
 go_wp2_with fail
 go_loopg [5] (l.length+1) (fun k iv wr=> ∃(i:Nat),k+i=l.length+1∧i≤l.length∧iv= .int .i64 i∧wr=w∧Hid (plM nm (l.drop i) i=plM nm l 0))
 case atStart=>exact⟨0,rfl,Nat.zero_le _,rfl,rfl,rfl⟩
 case round=>
  obtain⟨i,hk,hiE,rfl,rfl,hfin⟩:=hrel
  have hHK:=hide hk
  clear hk
  by_cases hlt:i<l.length
  ·obtain⟨g,cap,hv,hb,hg⟩:=HW.out.form (by omega)
   injection hv with e1 e2 e3
   subst e1 e3
   obtain⟨x,hx⟩: ∃x,l[i]?=some x:=⟨l[i],List.getElem?_eq_getElem hlt⟩
   have q0:wr.cell? ⟨g,i,none⟩=some (.string x):=row_cell HW.out _ _ (by simp [hx])
   have hlt':(i:Int)<l.length:=by omega
   have hst:Hid (plM nm (l.drop i) i=if x.toList==nm.toList then(i:Int) else plM nm (l.drop (i+1)) (i+1)):=hide (by
    obtain⟨hl,hx'⟩:=List.getElem?_eq_some_iff.1 hx
    rw [List.drop_eq_getElem_cons hl,hx']
    rfl)
   clear hx
   cases hq:(x.toList==nm.toList)
   ·go_wp2_with fail
    have hk:=hHK.out
    go_roundg (l.length - i)
    case measure=>omega
    case rel=>exact⟨i+1,by omega,by omega,by go_num,rfl,hide (by rw [←hfin.out,hst.out,hq];rfl)⟩
   ·go_wp2_with fail
    go_ret
    exact⟨by rw [←hfin.out,hst.out,hq];simp,rfl⟩
  ·have hlt': ¬(i:Int)<l.length:=by omega
   go_wp2_with fail
   go_ret
   exact⟨by rw [←hfin.out,List.drop_of_length_le (by omega)];simp [plM],rfl⟩
theorem placeR_any (base:Nat)(l:List ByteArray)(v:Value)(nm:ByteArray)(w:World)(h:w.ownsRow base 9 1 v l.length (l.map Value.string))(hlen:l.length≤100000):
  Calls Tryz.prog 103 #[v,.string nm] w fun e w'=>e= .returned (.int .i64 (plM nm l 0))∧w'=w:=by
 obtain⟨a0,c0,rfl⟩:=ownsRow_slice h
 have HW:=hide h
 clear h
 go_enter Tryz.func103,Tryz.ntmps103
 go_wp2_with fail
 go_loopg [5] (l.length+1) (fun k iv wr=> ∃(i:Nat),k+i=l.length+1∧i≤l.length∧iv= .int .i64 i∧wr=w∧Hid (plM nm (l.drop i) i=plM nm l 0))
 case atStart=>exact⟨0,rfl,Nat.zero_le _,rfl,rfl,rfl⟩
 case round=>
  obtain⟨i,hk,hiE,rfl,rfl,hfin⟩:=hrel
  have hHK:=hide hk
  clear hk
  by_cases hlt:i<l.length
  ·obtain⟨g,cap,hv,hb,hg⟩:=HW.out.form (by omega)
   injection hv with e1 e2 e3
   subst e1 e3
   obtain⟨x,hx⟩: ∃x,l[i]?=some x:=⟨l[i],List.getElem?_eq_getElem hlt⟩
   have q0:wr.cell? ⟨g,i,none⟩=some (.string x):=row_cell HW.out _ _ (by simp [hx])
   have hlt':(i:Int)<l.length:=by omega
   have hst:Hid (plM nm (l.drop i) i=if x.toList==nm.toList then(i:Int) else plM nm (l.drop (i+1)) (i+1)):=hide (by
    obtain⟨hl,hx'⟩:=List.getElem?_eq_some_iff.1 hx
    rw [List.drop_eq_getElem_cons hl,hx']
    rfl)
   clear hx
   cases hq:(x.toList==nm.toList)
   ·go_wp2_with fail
    have hk:=hHK.out
    go_roundg (l.length - i)
    case measure=>omega
    case rel=>exact⟨i+1,by omega,by omega,by go_num,rfl,hide (by rw [←hfin.out,hst.out,hq];rfl)⟩
   ·go_wp2_with fail
    go_ret
    exact⟨by rw [←hfin.out,hst.out,hq];simp,rfl⟩
  ·have hlt': ¬(i:Int)<l.length:=by omega
   go_wp2_with fail
   go_ret
   exact⟨by rw [←hfin.out,List.drop_of_length_le (by omega)];simp [plM],rfl⟩
theorem levelAt_any (base:Nat)(ts:List Int)(v:Value)(i:Int)(w:World)(h:w.ownsRow base 3 1 v ts.length (ts.map (Value.int .i64)))(hlen:ts.length≤100000):
  Calls Tryz.prog 48 #[v,.int .i64 i] w fun e w'=>e= .returned (.int .i64 (typeAtM ts i))∧w'=w:=by
 obtain⟨a0,c0,rfl⟩:=ownsRow_slice h
 by_cases h0:i<0
 ·go_enter Tryz.func48,Tryz.ntmps48
  go_wp2_with fail
  go_ret
  exact⟨by simp [typeAtM,h0],rfl⟩
 ·obtain⟨j,rfl⟩:=Int.eq_ofNat_of_zero_le (show 0≤i by omega)
  by_cases h1:j<ts.length
  ·obtain⟨g,cap,hv,hb,hg⟩:=h.form (by omega)
   have hc:=row_cell (hv▸h) j (.int .i64 (ts.getD j 0)) (by simp [h1,List.getD])
   injection hv with e1 e2 e3
   subst e1 e3
   have hfin:Hid (typeAtM ts j=ts.getD j 0):=hide (by unfold typeAtM;rw [if_neg (by omega)];simp)
   generalize ts.getD j 0=z at*
   have h1':(j:Int)<ts.length:=by omega
   go_enter Tryz.func48,Tryz.ntmps48
   go_wp2_with fail
   go_ret
   exact⟨by rw [hfin.out];simp,rfl⟩
  ·have hfin:Hid (typeAtM ts j=0):=hide (by unfold typeAtM;rw [if_neg (by omega)];simp [List.getElem?_eq_none (Nat.le_of_not_lt h1)])
   have h1': ¬(j:Int)<ts.length:=by omega
   go_enter Tryz.func48,Tryz.ntmps48
   go_wp2_with fail
   go_ret
   exact⟨by rw [hfin.out];simp,rfl⟩
theorem isTrue_c (xk:Int)(xb:Bool)(xn:Int)(xt:ByteArray)(w:World):Calls Tryz.prog 133 #[.agg #[.int .i64 xk,.bool xb,.int .i64 xn,.string xt]] w fun e w'=>e= .returned (.bool (xk==1&&xb))∧Below w.heap.size w w':=by
 have hB:=hide fun o:Obj=>(Below.refl w.heap.size w).alloc (Nat.le_refl _) o
 cases h:(xk==1)
 ·go_enter Tryz.func133,Tryz.ntmps133
  go_wp2_with fail
  go_ret
  exact⟨rfl,hB.out _⟩
 ·go_enter Tryz.func133,Tryz.ntmps133
  go_wp2_with fail
  go_ret
  exact⟨rfl,hB.out _⟩
def nmM (s:ByteArray):Nat→Nat→Bool→List ByteArray→Nat×Bool×List ByteArray
 |0,a,d,l=>(a,d,l)
 |n+1,a,d,l=>if pk s a d==44 then
   let v:=bareName s (a+1) d
   nmM s n v.1 v.2.1 (l++[v.2.2])
  else(a,d,l)
def rnM (s:ByteArray):List ByteArray×Bool:=
 let v:=bareName s 0 false
 let p:=nmM s (s.size+1) v.1 v.2.1 [v.2.2]
 (p.2.2,eofM s p.1 p.2.1)
def RnPost (s:ByteArray)(w:World)(e:Ending)(w':World):Prop:= ∃v,e= .returned (.tuple #[v,.bool (rnM s).2])∧w'.ownsRow w.heap.size 9 1 v (rnM s).1.length ((rnM s).1.map Value.string)∧Below w.heap.size w w'
theorem bare_ge {s:ByteArray}{a:Nat}{d:Bool}(h:a≤s.size):a≤(bareName s a d).1:=(bareM_le (p:=isLetter) (by decide) h).1
theorem readNames_any (s:ByteArray)(w:World)(hs:s.size≤600):Calls Tryz.prog 107 #[.string s] w fun e w'=>RnPost s w e w':=by
 have hM0:=World.ownsRow_made (base:=w.heap.size) (e:=9) (size:=1) (w.alloc (.cells #[.string s,.int .i64 0,.bool false,.slice none 0 0,.slice none 0 0,.slice none 0 0,.slice none 0 0] 66)) #[] 0 (by simp) (by decide) (by simp)
 rw [show(w.alloc (.cells #[.string s,.int .i64 0,.bool false,.slice none 0 0,.slice none 0 0,.slice none 0 0,.slice none 0 0] 66)).heap.size=w.heap.size+1 by simp] at hM0
 have hg0:((w.alloc (.cells #[.string s,.int .i64 0,.bool false,.slice none 0 0,.slice none 0 0,.slice none 0 0,.slice none 0 0] 66)).alloc (.cells #[] 9)).heap[w.heap.size]?=some (.cells #[.string s,.int .i64 0,.bool false,.slice none 0 0,.slice none 0 0,.slice none 0 0,.slice none 0 0] 66):=(Below.heap_alloc _ _ _ (by simp)).trans (heap_alloc_new w _)
 have hrd0:=rd_start hs hg0
 have hB0:Below w.heap.size w ((w.alloc (.cells #[.string s,.int .i64 0,.bool false,.slice none 0 0,.slice none 0 0,.slice none 0 0,.slice none 0 0] 66)).alloc (.cells #[] 9)):=((Below.refl w.heap.size w).alloc (Nat.le_refl _) _).alloc (by simp) _
 have hz0:((w.alloc (.cells #[.string s,.int .i64 0,.bool false,.slice none 0 0,.slice none 0 0,.slice none 0 0,.slice none 0 0] 66)).alloc (.cells #[] 9)).heap.size=w.heap.size+2:=by simp
 have H0:=hide (And.intro hrd0 (And.intro hB0 (And.intro hM0 hz0)))
 clear hrd0 hB0 hM0 hz0 hg0
 go_enter Tryz.func107,Tryz.ntmps107
 go_wp2_with fail
 obtain⟨hrd0,hB0,hM1,hz0⟩:=H0.out
 clear H0
 generalize ((w.alloc (.cells #[.string s,.int .i64 0,.bool false,.slice none 0 0,.slice none 0 0,.slice none 0 0,.slice none 0 0] 66)).alloc (.cells #[] 9))=W0' at*
 refine(bareName_any _ _ _ _ _ hrd0).mono ?_
 rintro e w1 ⟨rfl,hr1,hs1⟩
 have hra:Hid (rnM s=((nmM s (s.size+1) (bareName s 0 false).1 (bareName s 0 false).2.1 [(bareName s 0 false).2.2]).2.2,eofM s (nmM s (s.size+1) (bareName s 0 false).1 (bareName s 0 false).2.1 [(bareName s 0 false).2.2]).1 (nmM s (s.size+1) (bareName s 0 false).1 (bareName s 0 false).2.1 [(bareName s 0 false).2.2]).2.1)):=hide rfl
 generalize bareName s 0 false=v0 at*
 obtain⟨a1,d1,nm1⟩:=v0
 simp only at*
 generalize hP0:nmM s (s.size+1) a1 d1 [nm1]=P0 at*
 have HP0:=hide hP0
 clear hP0
 obtain⟨i0,hi,hz0',hz1,hz2⟩:=info_parts info9
 have hBw:w1.heap.size=w.heap.size+2:=by have:=hs1.size;omega
 have hM2:w1.ownsRow w.heap.size 9 1 (.slice (some ⟨w.heap.size+1,0,none⟩) 0 0) 0 []:=ownsRow_same hM1 fun k e=>hs1.block k (by simp [Value.ownBlock] at e;omega)
 have hB1:Below w.heap.size w w1:=⟨hs1.os.trans hB0.os,hs1.tape.trans hB0.tape,hs1.output.trans hB0.output,by omega,fun k hk=>(hs1.block k (by omega)).trans (hB0.block k hk)⟩
 have H1:=hide (And.intro hr1 (And.intro hM2 (And.intro hB1 hBw)))
 have hBw':w.heap.size+2≤w1.heap.size:=by omega
 clear hr1 hM2 hB1 hM1 hB0 hrd0 hs1 hBw hz0
 go_wp2_with (at_builtin;go_must (refine wpList_append_lies _ rfl (.tmp 11) (.tmp 13) 56 rfl w.heap.size 9 i0 _ 1 16 Tryz.underlying56 hi hz0' hz1 hz2 rfl (by omega) _ 0 _ rfl (H1.out.2.1.alloc _) ⟨w1.heap.size,0,none⟩ 1 1 [.string nm1] rfl rfl ?news ?one (by omega) ?mm ?bys ?base (w1.heap.size+1) (by simp) ?rest))
 case news=>exact World.news_of_block (heap_alloc_new w1 _)
 case one=>intro u hu;simp at hu;subst hu;rfl
 case mm=>unfold maxLen;omega
 case bys=>omega
 case base=>simp;omega
 case rest=>
  intro gb cap w2 hown2 hgrow hat hlt2
  obtain⟨hr1,hM2,hB1,hBw⟩:=H1.out
  clear H1
  have hgb:gb≠w.heap.size:=by
   rcases hat with e|e
   ·simp [Value.ownBlock] at e;omega
   ·omega
  have hr2:Rd w2 w.heap.size s a1 d1:=hr1.other ((hgrow.block _ (by simp;omega) (fun e=>by simp [Value.ownBlock] at e)).trans (Below.heap_alloc _ _ _ (by omega)))
  have hB2:Below w.heap.size w w2:=Below.grown (hB1.alloc (by omega) _) hgrow (by simp;omega) fun k e=>by simp [Value.ownBlock] at e;omega
  have hz2':w.heap.size<w2.heap.size:=by have:=hgrow.size;simp at this;omega
  have ha1:=hr2.le
  have H2:=hide (And.intro hr2 (And.intro hB2 hown2))
  clear hr2 hB2 hown2 hgrow hat hr1 hM2 hB1 hBw
  go_wp2_with fail
  go_loopg [5] (s.size+1) (fun k v wr=> ∃(a:Nat) (d:Bool) (l:List ByteArray) (g2 cap2:Nat),v= .slice (some ⟨g2,0,none⟩) l.length cap2∧g2≠w.heap.size∧s.size+1≤k+a∧k+l.length≤s.size+2∧w.heap.size<wr.heap.size∧Hid (Rd wr w.heap.size s a d)∧Hid (wr.ownsRow w.heap.size 9 1 (.slice (some ⟨g2,0,none⟩) l.length cap2) l.length (l.map Value.string))∧Hid (Below w.heap.size w wr)∧Hid (nmM s k a d l=P0))
  case atStart=>
   obtain⟨hr2,hB2,hown2⟩:=H2.out
   exact⟨a1,d1,[nm1],gb,cap,rfl,hgb,by omega,by simp,hz2',hide hr2,hide hown2,hide hB2,HP0⟩
  case round=>
   clear H2
   obtain⟨a,d,l,g2,cap2,rfl,hn1,hka,hkl,hzr,HR,HO,HB,HPk⟩:=hrel
   have ha:=HR.out.le
   cases hb:(pk s a d==44)
   ·have hst:Hid ((a,d,l)=P0):=hide (by
     rw [←HPk.out]
     cases gk with
     |zero=>rfl
     |succ k=>unfold nmM;rw [hb];rfl)
    go_wp2_with (go_at_call 78;refine(peek_any _ _ _ _ _ HR.out).mono ?_;rintro e w3 ⟨rfl,n3,rfl⟩)
    refine(eof_any _ _ _ _ _ (HR.out.drewN n3)).mono ?_
    rintro e w4 ⟨rfl,hr4,hs4⟩
    have q2:=hr4.c2
    go_wp2_with fail
    go_quiet (fail)
    go_wp2_with fail
    go_ret2
    have hst':=hst.out
    subst hst'
    have hB4:Below w.heap.size w w4:=⟨hs4.os.trans HB.out.os,hs4.tape.trans HB.out.tape,hs4.output.trans HB.out.output,by have:=hs4.size;have:=HB.out.size;simp at*;omega,fun k hk=>(hs4.block k (by omega)).trans (HB.out.block k hk)⟩
    have hO4:w4.ownsRow w.heap.size 9 1 (.slice (some ⟨g2,0,none⟩) l.length cap2) l.length (l.map Value.string):=ownsRow_same HO.out fun k e=>hs4.block k (by simp [Value.ownBlock] at e;omega)
    refine⟨.slice (some ⟨g2,0,none⟩) l.length cap2,by rw [hra.out];rfl,by rw [hra.out];exact ownsRow_same hO4 fun k e=>rfl,?_⟩
    exact⟨hB4.os,hB4.tape,hB4.output,hB4.size,hB4.block⟩
   ·have hpk:pk s a d=44:=by simpa using hb
    have hlt:=(pk_lt (s:=s) (a:=a) (d:=d) (by omega)).2
    obtain⟨k,rfl⟩: ∃k,gk=k+1:=⟨gk - 1,by omega⟩
    have hst:Hid (nmM s k (bareName s (a+1) d).1 (bareName s (a+1) d).2.1 (l++[(bareName s (a+1) d).2.2])=P0):=hide (by
     rw [←HPk.out]
     conv=>rhs;unfold nmM
     rw [hb];rfl)
    have hW1:=wordM_one (s:=s) (d:=d) (c:=44) (a:=a) hpk
    have HW:=hide (fun W h=>word_any w.heap.size a s ⟨#[44]⟩ d W h (by decide))
    rw [show(ByteArray.mk #[44]).data.toList=[44] from rfl,hW1] at HW
    have HA:=hide (fun W h=>bareName_any w.heap.size (a+1) s d W h)
    have HAM:=hide (bare_ge (s:=s) (a:=a+1) (d:=d) (by omega))
    generalize bareName s (a+1) d=v0 at*
    obtain⟨a5,d5,nm5⟩:=v0
    simp only at*
    clear hW1 hpk
    go_wp2_with (go_at_call 78;refine(peek_any _ _ _ _ _ HR.out).mono ?_;rintro e w3 ⟨rfl,n3,rfl⟩)
    refine(HW.out _ (HR.out.drewN n3)).mono ?_
    rintro e w4 ⟨rfl,hr4,hs4⟩
    go_wp2_with fail
    refine(HA.out _ hr4).mono ?_
    rintro e w5 ⟨rfl,hr5,hs5⟩
    have hz5:wr.heap.size=w5.heap.size:=by have:=hs4.size;have:=hs5.size;simp at*;omega
    have hold: ∀k,k≠w.heap.size→w5.heap[k]?=wr.heap[k]?:=fun k hn=>(hs5.block k hn).trans (hs4.block k hn)
    have hO5:w5.ownsRow w.heap.size 9 1 (.slice (some ⟨g2,0,none⟩) l.length cap2) l.length (l.map Value.string):=ownsRow_same HO.out fun k e=>hold k (by simp [Value.ownBlock] at e;omega)
    have hB5:Below w.heap.size w w5:=⟨hs5.os.trans (hs4.os.trans HB.out.os),hs5.tape.trans (hs4.tape.trans HB.out.tape),hs5.output.trans (hs4.output.trans HB.out.output),by have:=HB.out.size;omega,fun k hk=>(hold k (by omega)).trans (HB.out.block k hk)⟩
    have hzz:a+1≤a5:=HAM.out
    have hz5':w.heap.size<w5.heap.size:=by omega
    have H7:=hide (And.intro hr5 (And.intro hO5 hB5))
    clear hold hs5 hs4 hr4 hr5 hO5 hB5 hz5
    go_wp2_with (at_builtin;go_must (refine wpList_append_lies _ rfl (.tmp 19) (.tmp 21) 56 rfl w.heap.size 9 i0 _ 1 16 Tryz.underlying56 hi hz0' hz1 hz2 rfl (by omega) _ l.length _ rfl (H7.out.2.1.alloc _) ⟨w5.heap.size,0,none⟩ 1 1 [.string nm5] rfl rfl ?news ?one (by omega) ?mm ?bys ?base (w5.heap.size+1) (by simp) ?rest))
    case news=>exact World.news_of_block (heap_alloc_new w5 _)
    case one=>intro u hu;simp at hu;subst hu;rfl
    case mm=>unfold maxLen;omega
    case bys=>omega
    case base=>simp;omega
    case rest=>
     intro gc cap8 w8 hown8 hgrow hat hlt8
     obtain⟨hr7,hO7,hB7⟩:=H7.out
     clear H7
     have hgc:gc≠w.heap.size:=by
      rcases hat with e|e
      ·simp [Value.ownBlock] at e;omega
      ·omega
     have hr8:=hide (hr7.other ((hgrow.block _ (by simp;omega) (fun e=>by simp [Value.ownBlock] at e;omega)).trans (Below.heap_alloc _ _ _ (by omega))))
     have hB8:=hide (Below.grown (hB7.alloc hB7.size _) hgrow (by simp;have:=hB7.size;omega) fun k e=>by simp [Value.ownBlock] at e;have:=(hO7.lt g2 rfl).1;omega)
     have hz8:w.heap.size<w8.heap.size:=by have:=hgrow.size;simp at this;omega
     have ha8:=hr7.le
     have hown9:Hid (w8.ownsRow w.heap.size 9 1 (.slice (some ⟨gc,0,none⟩) (l++[nm5]).length cap8) (l++[nm5]).length ((l++[nm5]).map Value.string)):=hide (by simpa using hown8)
     clear hown8 hgrow hat hr7 hO7 hB7
     go_wp2_with fail
     go_roundg k
     case measure=>omega
     case rel=>exact⟨a5,_,l++[nm5],gc,cap8,by simp,hgc,by omega,by simp;omega,hz8,hr8,hown9,hB8,hst⟩
def dupM (l:List ByteArray):Nat→Nat→Bool
 |0,_=>false
 |n+1,i=>(plM (l.getD i ⟨#[]⟩) l 0 !=(i:Int))||dupM l n (i+1)
def vlM (s:ByteArray):List ByteArray×Bool:=
 if(rnM s).2||decide ((rnM s).1.length<2)||decide (5<(rnM s).1.length)||dupM (rnM s).1 (rnM s).1.length 0 then([],true) else((rnM s).1,false)
def RvPost (s:ByteArray)(w:World)(e:Ending)(w':World):Prop:= ∃a n k,e= .returned (.tuple #[.slice a n k,.bool (vlM s).2])∧Below w.heap.size w w'∧((vlM s).2=false→w'.ownsRow w.heap.size 9 1 (.slice a n k) (vlM s).1.length ((vlM s).1.map Value.string))
theorem readValues_any (s:ByteArray)(w:World)(hs:s.size≤600):Calls Tryz.prog 62 #[.string s] w fun e w'=>RvPost s w e w':=by
 have HR:=hide (readNames_any s w hs)
 have hv:Hid (vlM s=if(rnM s).2||decide ((rnM s).1.length<2)||decide (5<(rnM s).1.length)||dupM (rnM s).1 (rnM s).1.length 0 then([],true) else((rnM s).1,false)):=hide rfl
 go_enter Tryz.func62,Tryz.ntmps62
 go_wp2_with fail
 refine HR.out.mono ?_
 rintro e w1 ⟨v,rfl,hO1,hB1⟩
 obtain⟨al,kl,rfl⟩:=ownsRow_slice hO1
 clear HR
 generalize rnM s=P at*
 obtain⟨l,bd⟩:=P
 simp only at*
 have HO:=hide hO1
 have HB:=hide hB1
 have hz1:w.heap.size≤w1.heap.size:=hB1.size
 clear hO1
 have HBA:=hide (hB1.alloc hz1 (.cells #[] 9))
 clear hB1
 have hlen:l.length≤1000000∨1000000<l.length:=by omega
 cases bd
 case true=>
  have hres:Hid (vlM s=([],true)):=hide (by rw [hv.out];rfl)
  go_wp2_with fail
  go_ret2
  exact⟨_,_,_,by rw [hres.out];rfl,HBA.out,fun e=>by rw [hres.out] at e;cases e⟩
 by_cases h2:l.length<2
 ·have h2':(l.length:Int)<2:=by omega
  have hres:Hid (vlM s=([],true)):=hide (by rw [hv.out];simp [h2])
  go_wp2_with fail
  go_ret2
  exact⟨_,_,_,by rw [hres.out];rfl,HBA.out,fun e=>by rw [hres.out] at e;cases e⟩
 by_cases h5:5<l.length
 ·have h2': ¬(l.length:Int)<2:=by omega
  have h5':(5:Int)<l.length:=by omega
  have hres:Hid (vlM s=([],true)):=hide (by rw [hv.out];simp [h5])
  go_wp2_with fail
  go_ret2
  exact⟨_,_,_,by rw [hres.out];rfl,HBA.out,fun e=>by rw [hres.out] at e;cases e⟩
 have h2': ¬(l.length:Int)<2:=by omega
 have h5': ¬(5:Int)<l.length:=by omega
 have hv2:Hid (vlM s=if dupM l l.length 0 then([],true) else(l,false)):=hide (by rw [hv.out];simp [h2,h5])
 clear hv hlen
 go_wp2_with fail
 go_loopg [6] (l.length+1) (fun k iv wr=> ∃(i:Nat),k+i=l.length+1∧i≤l.length∧iv= .int .i64 i∧wr=w1∧Hid (dupM l (l.length - i) i=dupM l l.length 0))
 case atStart=>exact⟨0,rfl,Nat.zero_le _,rfl,rfl,rfl⟩
 case round=>
  obtain⟨i,hk,hil,rfl,rfl,hfin⟩:=hrel
  have hHK:=hide hk
  clear hk
  by_cases hlt:i<l.length
  ·obtain⟨g,cap,hvv,hb,hg⟩:=HO.out.form (by omega)
   injection hvv with e1 e2 e3
   subst e1 e3
   obtain⟨x,hx⟩: ∃x,l[i]?=some x:=⟨l[i],List.getElem?_eq_getElem hlt⟩
   have q0:wr.cell? ⟨g,i,none⟩=some (.string x):=row_cell HO.out _ _ (by simp [hx])
   have hlt':(i:Int)<l.length:=by omega
   have hst:Hid (dupM l l.length 0=((plM x l 0 !=(i:Int))||dupM l (l.length -(i+1)) (i+1))):=hide (by
    rw [←hfin.out,show l.length - i=(l.length -(i+1))+1 by omega]
    show((plM (l.getD i ⟨#[]⟩) l 0 !=(i:Int))||dupM l (l.length -(i+1)) (i+1))=_
    rw [show l.getD i ⟨#[]⟩=x by simp [List.getD,hx]])
   have HP:=hide (placeOf_any w.heap.size l _ x wr HO.out (by omega))
   clear hx
   cases hq:(plM x l 0 !=(i:Int))
   ·generalize plM x l 0=z at*
    go_wp2_with fail
    refine HP.out.mono ?_
    rintro e w2 ⟨rfl,rfl⟩
    go_wp2_with fail
    have hk:=hHK.out
    go_roundg (l.length - i)
    case measure=>omega
    case rel=>exact⟨i+1,by omega,by omega,by go_num,rfl,hide (by rw [hst.out,hq];rfl)⟩
   ·have hres:Hid (vlM s=([],true)):=hide (by rw [hv2.out,hst.out,hq];rfl)
    generalize plM x l 0=z at*
    go_wp2_with fail
    refine HP.out.mono ?_
    rintro e w2 ⟨rfl,rfl⟩
    go_wp2_with fail
    go_ret2
    exact⟨_,_,_,by rw [hres.out];rfl,HBA.out,fun e=>by rw [hres.out] at e;cases e⟩
  ·have hlt': ¬(i:Int)<l.length:=by omega
   have hres:Hid (vlM s=(l,false)):=hide (by rw [hv2.out,←hfin.out,show l.length - i=0 by omega];rfl)
   go_wp2_with fail
   go_ret2
   exact⟨_,_,_,by rw [hres.out];rfl,HB.out,fun _=>by rw [hres.out];exact HO.out⟩
def pol:ByteArray:=⟨#[80,79,76,73,67,89]⟩
def rqM (s:ByteArray):List ByteArray×Bool:=
 if s.size=0 then([],false) else if(rnM s).2||decide (4<(rnM s).1.length)||(plM pol (rnM s).1 0 != -1) then([],true) else((rnM s).1,false)
def RqPost (s:ByteArray)(w:World)(e:Ending)(w':World):Prop:= ∃a n k,e= .returned (.tuple #[.slice a n k,.bool (rqM s).2])∧Below w.heap.size w w'∧((rqM s).2=false→w'.ownsRow w.heap.size 9 1 (.slice a n k) (rqM s).1.length ((rqM s).1.map Value.string))
theorem rqM_len (s:ByteArray):(rqM s).1.length≤4:=by
 unfold rqM
 split
 ·exact Nat.zero_le _
 ·split
  ·exact Nat.zero_le _
  ·rename_i q
   simp only [Bool.or_eq_true,not_or,decide_eq_true_eq] at q
   show(rnM s).1.length≤4
   omega
theorem rqM_nil:rqM ⟨#[]⟩=([],false):=rfl
theorem readReqs_any (s:ByteArray)(w:World)(hs:s.size≤600):Calls Tryz.prog 63 #[.string s] w fun e w'=>RqPost s w e w':=by
 by_cases h0:s.size=0
 ·have e0:s=⟨#[]⟩:=by
   cases s with
   |mk d=>have:d.size=0:=h0;simp [Array.size_eq_zero_iff.1 this]
  subst e0
  have hB:=hide ((Below.refl w.heap.size w).alloc (Nat.le_refl _) (.cells #[] 9))
  have hM:=hide (World.ownsRow_made (base:=w.heap.size) (e:=9) (size:=1) w #[] 0 (Nat.le_refl _) (by decide) (by simp))
  go_enter Tryz.func63,Tryz.ntmps63
  go_wp2_with fail
  go_ret2
  exact⟨_,_,_,rfl,hB.out,fun _=>hM.out⟩
 have hne:(s.toList==([]:List UInt8))=false:=by
  rw [ByteArray.toList_eq]
  cases hq:(s.data.toList==([]:List UInt8)) with
  |false=>rfl
  |true=>simp at hq;exact absurd (show s.size=0 by simp [ByteArray.size,hq]) h0
 have hnl: ¬s.toList=[]:=by simpa using hne
 have HR:=hide (readNames_any s w hs)
 have hv:Hid (rqM s=if(rnM s).2||decide (4<(rnM s).1.length)||(plM pol (rnM s).1 0 != -1) then([],true) else((rnM s).1,false)):=hide (by unfold rqM;rw [if_neg h0])
 go_enter Tryz.func63,Tryz.ntmps63
 go_wp2_with fail
 refine HR.out.mono ?_
 rintro e w1 ⟨v,rfl,hO1,hB1⟩
 obtain⟨al,kl,rfl⟩:=ownsRow_slice hO1
 clear HR
 generalize rnM s=P at*
 obtain⟨l,bd⟩:=P
 simp only at*
 have HO:=hide hO1
 have HB:=hide hB1
 have hz1:w.heap.size≤w1.heap.size:=hB1.size
 clear hO1
 have HBA:=hide (hB1.alloc hz1 (.cells #[] 9))
 clear hB1
 cases bd
 case true=>
  have hres:Hid (rqM s=([],true)):=hide (by rw [hv.out];rfl)
  go_wp2_with fail
  go_ret2
  exact⟨_,_,_,by rw [hres.out];rfl,HBA.out,fun e=>by rw [hres.out] at e;cases e⟩
 by_cases h5:4<l.length
 ·have h5':(4:Int)<l.length:=by omega
  have hres:Hid (rqM s=([],true)):=hide (by rw [hv.out];simp [h5])
  go_wp2_with fail
  go_ret2
  exact⟨_,_,_,by rw [hres.out];rfl,HBA.out,fun e=>by rw [hres.out] at e;cases e⟩
 have h5': ¬(4:Int)<l.length:=by omega
 have hv2:Hid (rqM s=if plM pol l 0 != -1 then([],true) else(l,false)):=hide (by rw [hv.out];simp [h5])
 have HP:=hide (placeOf_any _ l _ pol w1 HO.out (by omega))
 unfold pol at HP hv2
 clear hv
 generalize plM ⟨#[80,79,76,73,67,89]⟩ l 0=z at*
 go_wp2_with fail
 refine HP.out.mono ?_
 rintro e w2 ⟨rfl,rfl⟩
 cases hz:(z != -1)
 case true=>
  have hres:Hid (rqM s=([],true)):=hide (by rw [hv2.out,hz];rfl)
  go_wp2_with fail
  go_ret2
  exact⟨_,_,_,by rw [hres.out];rfl,HBA.out,fun e=>by rw [hres.out] at e;cases e⟩
 case false=>
  have hres:Hid (rqM s=(l,false)):=hide (by rw [hv2.out,hz];rfl)
  go_wp2_with fail
  go_ret2
  exact⟨_,_,_,by rw [hres.out];rfl,HB.out,fun _=>by rw [hres.out];exact HO.out⟩
end Go.Proofs.YtkoohcilbpdgeaaGreatDoor
