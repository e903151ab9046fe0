import Derived.RegionTactic
import Derived.ChangeAlike
import Derived.Shelf.Strconv.Itoa4
import Derived.Test.YtkoohcilbpdgeaaGreatDoorProg
import Derived.WalkKit
import Derived.Test.YtkoohcilbpdgeaaGreatDoorC15
set_option linter.all false
set_option linter.unusedVariables false
set_option linter.unusedSimpArgs false
set_option linter.unnecessarySimpa false
set_option linter.constructorNameAsVariable false
set_option linter.deprecated false
set_option maxRecDepth 100000
set_option maxHeartbeats 6400000
namespace Go.Proofs.YtkoohcilbpdgeaaGreatDoor
open Go Go.RowKit
attribute [local go_sem] wrap64_byte
def isValue (c:Int):Bool:=(c != -1)&&(c !=59)&&(c !=34)
def eofM (s:ByteArray)(a:Nat)(d:Bool):Bool:=d||decide (a<s.size)
theorem eof_any (b a:Nat)(s:ByteArray)(d:Bool)(w:World)(h:Rd w b s a d):
  Calls Tryz.prog 74 #[.pointer (some ⟨b,0,none⟩)] w fun e w'=>e= .returned (.tuple #[])∧Rd w' b s a (eofM s a d)∧Sc b w w':=by
 have h':=h
 obtain⟨h0,h1,h2,f1,f2,ha,hs⟩:=h
 by_cases hlt:a<s.size
 ·have hlt':(a:Int)<s.size:=by omega
  have he:Hid (eofM s a d=true):=hide (by simp [eofM,hlt])
  go_enter Tryz.func74,Tryz.ntmps74
  go_wp2_with fail
  go_quiet (fail)
  go_wp2_with (go_at_call 81;refine(fail_any b a s d _ (by exact h'.drewN _)).mono ?_;rintro e w1 ⟨rfl,hr1,hs1⟩)
  go_end0
  exact⟨rfl,by rw [he.out];exact hr1,((Sc.refl _ _).drewN _).trans hs1⟩
 ·have hlt': ¬(a:Int)<s.size:=by omega
  have he:Hid (eofM s a d=d):=hide (by simp [eofM,hlt])
  go_enter Tryz.func74,Tryz.ntmps74
  go_wp2_with fail
  go_quiet (fail)
  go_wp2_with fail
  go_end0
  exact⟨rfl,by rw [he.out];exact h'.drewN _,(Sc.refl _ _).drewN _⟩
theorem atValue_any (b a:Nat)(s:ByteArray)(d:Bool)(w:World)(h:Rd w b s a d):
  Calls Tryz.prog 119 #[.pointer (some ⟨b,0,none⟩)] w fun e w'=>e= .returned (.bool (isValue (pk s a d)))∧ ∃n,w'=w.drewN n:=by
 have hr:=pk_range s a d
 generalize hp:pk s a d=c at*
 have hP:=peek_any b a s d w h
 rw [hp] at hP
 have HP:=hide hP
 clear hP hp
 cases h1:(c != -1)
 all_goals cases h2:(c !=59)
 all_goals cases h3:(c !=34)
 all_goals
  go_enter Tryz.func119,Tryz.ntmps119
  go_wp2_with (go_at_call 78;refine HP.out.mono ?_;rintro e w1 ⟨rfl,n,rfl⟩)
  go_ret
  exact⟨by simp [isValue,h1,h2,h3],_,rfl⟩
def attrM (s:ByteArray)(a:Nat)(d:Bool):Nat×Bool×ByteArray×ByteArray:=
 let v:=bareName s a d
 let u:=wordM s v.2.1 [61] v.1
 let r:=run isValue s u.2 20 u.1
 (r,u.2,v.2.2,s.extract u.1 r)
theorem Rd.alloc {w:World}{b:Nat}{s:ByteArray}{a:Nat}{d:Bool}(h:Rd w b s a d)(o:Obj):Rd (w.alloc o) b s a d:=h.other (Below.heap_alloc _ _ _ (block_lt_of_cell h.c0))
theorem attribute_any (b a:Nat)(s:ByteArray)(d:Bool)(w:World)(h:Rd w b s a d):
  Calls Tryz.prog 77 #[.pointer (some ⟨b,0,none⟩)] w fun e w'=>e= .returned (.agg #[.string (attrM s a d).2.2.1,.string (attrM s a d).2.2.2])∧Rd w' b s (attrM s a d).1 (attrM s a d).2.1∧Rf b w w':=by
 have hle:=h.le
 have hsz:=h.sz
 unfold attrM
 have HN:=hide (bareName_any b a s d _ (h.alloc (.cells #[.string ⟨#[]⟩,.string ⟨#[]⟩] 123)))
 have hblt:=block_lt_of_cell h.c0
 have HG0:=hide (heap_alloc_new w (.cells #[.string ⟨#[]⟩,.string ⟨#[]⟩] 123))
 have HR0:=hide ((Rf.refl b w).alloc (.cells #[.string ⟨#[]⟩,.string ⟨#[]⟩] 123))
 generalize bareName s a d=v at*
 obtain⟨an,dn,nm⟩:=v
 simp only at*
 have HW:=hide (fun w1 hr=>word_any b an s ⟨#[61]⟩ dn w1 hr (by decide))
 rw [show(ByteArray.mk #[61]).data.toList=[61] from rfl] at HW
 generalize wordM s dn [61] an=v at*
 obtain⟨av,dv⟩:=v
 simp only at*
 go_enter Tryz.func77,Tryz.ntmps77
 go_wp2_with fail
 refine HN.out.mono ?_
 rintro e w1 ⟨rfl,hr1,hs1⟩
 go_wp2_with fail
 refine(HW.out w1 hr1).mono ?_
 rintro e w2 ⟨rfl,hr2,hs2⟩
 have hr2:Rd w2 b s av dv:=hr2
 have hg2:=(hs2.block w.heap.size (by omega)).trans ((hs1.block w.heap.size (by omega)).trans HG0.out)
 have hs2:=(HR0.out.trans hs1.rf).trans hs2.rf
 have HG2:=hide hg2
 clear hg2
 have hav:=hr2.le
 clear hs1 hr1
 obtain⟨h0,h1,h2,f1,f2,_,_⟩:=id hr2
 go_wp2_with fail
 go_loopw [] (fun wr=> ∃k,Rd wr b s k dv∧Rf b w wr∧Hid (wr.heap[w.heap.size]?=some (.cells #[.string ⟨#[]⟩,.string ⟨#[]⟩] 123))∧av≤k∧k≤av+20∧Hid (run isValue s dv (20 -(k - av)) k=run isValue s dv 20 av)) (fun wr=>s.size - atOf wr b)
 case atStart=>exact⟨av,hr2,hs2,HG2,Nat.le_refl _,by omega,by simp [Hid]⟩
 case round=>
  obtain⟨k,hk,hsc,hgx,hak,hk8,hsk⟩:=hrel
  have hat:=hide hk.atOf
  have hk':=hk
  clear h0 h1 h2 f1 f2
  obtain⟨h0,h1,h2,f1,f2,ha,hs⟩:=hk
  by_cases hgo:k - av<20∧isValue (pk s k dv)=true
  ·obtain⟨h8,hb⟩:=hgo
   have h8':(k:Int)- av<20:=by omega
   have hne:pk s k dv≠ -1:=fun e=>by rw [e] at hb;exact absurd hb (by decide)
   have hlt:=(pk_lt hne).2
   have hset:=fun n=>(hk'.drewN n).setAt' (k+1) (k+1) (by omega) hlt
   have hst:Hid (run isValue s dv (20 -(k+1 - av)) (k+1)=run isValue s dv 20 av):=hide (by
    rw [←hsk.out,show 20 -(k - av)=(20 -(k+1 - av))+1 by omega,run_go hb])
   clear hne
   go_wp2_with (go_at_call 119;refine(atValue_any _ _ _ _ _ hk').mono ?_;rintro e w2 ⟨rfl,n,rfl⟩)
   have hset:=hset n
   go_roundw
   case rel=>exact⟨k+1,hset,hsc.trans (((Sc.refl b _).drewN n).setCell 1 (Or.inl rfl) _).rf,hide (((((Sc.refl b _).drewN n).setCell 1 (Or.inl rfl) _).block _ (by omega)).trans hgx.out),by omega,by omega,hst⟩
   case measure=>rw [hset.atOf,hat.out];omega
  ·have hrun:Hid (run isValue s dv 20 av=k):=by
    by_cases h8:k - av<20
    ·refine hide ?_
     rw [←hsk.out]
     exact run_stop (by cases hc:isValue (pk s k dv) with|false=>rfl|true=>exact absurd ⟨h8,hc⟩ hgo)
    ·exact hide (by rw [←hsk.out,show 20 -(k - av)=0 by omega];rfl)
   have hor:k - av<20∧isValue (pk s k dv)=false∨ ¬k - av<20:=by
    by_cases h8:k - av<20
    ·exact .inl ⟨h8,by cases hc:isValue (pk s k dv) with|false=>rfl|true=>exact absurd ⟨h8,hc⟩ hgo⟩
    ·exact .inr h8
   clear hgo hsk hat hk8
   rcases hor with⟨h8,hb⟩|h8
   ·have h8':(k:Int)- av<20:=by omega
    go_wp2_with (go_at_call 119;refine(atValue_any _ _ _ _ _ hk').mono ?_;rintro e w2 ⟨rfl,n,rfl⟩)
    have q0:wr.cell? ⟨w.heap.size,0,none⟩=some (.string ⟨#[]⟩):=by simp [World.cell?,hgx.out]
    have q1:wr.cell? ⟨w.heap.size,1,none⟩=some (.string ⟨#[]⟩):=by simp [World.cell?,hgx.out]
    have q2:wr.frozen? ⟨w.heap.size,0,none⟩=false:=by simp [World.frozen?,hgx.out]
    have q3:wr.frozen? ⟨w.heap.size,1,none⟩=false:=by simp [World.frozen?,hgx.out]
    go_region
    go_wp2_with fail
    have r0: ∀(W:World),W.cell? ⟨w.heap.size,0,none⟩=some (.string ⟨#[]⟩)→(W.setCell ⟨w.heap.size,0,none⟩ (.string nm)).cell? ⟨w.heap.size,0,none⟩=some (.string nm):=fun W q=>World.cell?_setCell_same _ _ _ q
    have r1: ∀(W:World) (v:Value),W.cell? ⟨w.heap.size,1,none⟩=some (.string ⟨#[]⟩)→((W.setCell ⟨w.heap.size,0,none⟩ (.string nm)).setCell ⟨w.heap.size,1,none⟩ v).cell? ⟨w.heap.size,1,none⟩=some v:=fun W v q=>World.cell?_setCell_same _ _ _ ((setCell_other _ _ _ _ _ (by omega)).trans q)
    have r2:=r0 wr q0
    have r3:=fun n=>r0 (wr.drewN n) q0
    have r4:=fun v=>r1 wr v q1
    have r5:=fun n v=>r1 (wr.drewN n) v q1
    refine bodyPost_ret (v:= .agg #[.string nm,.string (s.extract av k)]) (by simp [results,Tryz.results77,go_sem,r2,r3,r4,r5]) rfl ?_
    have hx: ∀(W:World),Rd W b s k dv→Rf b w W→Rd ((W.setCell ⟨w.heap.size,0,none⟩ (.string nm)).setCell ⟨w.heap.size,1,none⟩ (.string (s.extract av k))) b s k dv∧Rf b w ((W.setCell ⟨w.heap.size,0,none⟩ (.string nm)).setCell ⟨w.heap.size,1,none⟩ (.string (s.extract av k))):=fun W q1 q2=>⟨(q1.other (Below.heap_setCell _ _ _ _ (by simp;omega))).other (Below.heap_setCell _ _ _ _ (by simp;omega)),(q2.setCell (Nat.le_refl _) _).setCell (Nat.le_refl _) _⟩
    exact⟨by rw [hrun.out],by rw [hrun.out];exact(hx _ (hk'.drewN _) (hsc.drewN _)).1,(hx _ (hk'.drewN _) (hsc.drewN _)).2⟩
   ·have h8': ¬(k:Int)- av<20:=by omega
    go_wp2_with (go_at_call 119;refine(atValue_any _ _ _ _ _ hk').mono ?_;rintro e w2 ⟨rfl,n,rfl⟩)
    have q0:wr.cell? ⟨w.heap.size,0,none⟩=some (.string ⟨#[]⟩):=by simp [World.cell?,hgx.out]
    have q1:wr.cell? ⟨w.heap.size,1,none⟩=some (.string ⟨#[]⟩):=by simp [World.cell?,hgx.out]
    have q2:wr.frozen? ⟨w.heap.size,0,none⟩=false:=by simp [World.frozen?,hgx.out]
    have q3:wr.frozen? ⟨w.heap.size,1,none⟩=false:=by simp [World.frozen?,hgx.out]
    go_region
    go_wp2_with fail
    have r0: ∀(W:World),W.cell? ⟨w.heap.size,0,none⟩=some (.string ⟨#[]⟩)→(W.setCell ⟨w.heap.size,0,none⟩ (.string nm)).cell? ⟨w.heap.size,0,none⟩=some (.string nm):=fun W q=>World.cell?_setCell_same _ _ _ q
    have r1: ∀(W:World) (v:Value),W.cell? ⟨w.heap.size,1,none⟩=some (.string ⟨#[]⟩)→((W.setCell ⟨w.heap.size,0,none⟩ (.string nm)).setCell ⟨w.heap.size,1,none⟩ v).cell? ⟨w.heap.size,1,none⟩=some v:=fun W v q=>World.cell?_setCell_same _ _ _ ((setCell_other _ _ _ _ _ (by omega)).trans q)
    have r2:=r0 wr q0
    have r3:=fun n=>r0 (wr.drewN n) q0
    have r4:=fun v=>r1 wr v q1
    have r5:=fun n v=>r1 (wr.drewN n) v q1
    refine bodyPost_ret (v:= .agg #[.string nm,.string (s.extract av k)]) (by simp [results,Tryz.results77,go_sem,r2,r3,r4,r5]) rfl ?_
    have hx: ∀(W:World),Rd W b s k dv→Rf b w W→Rd ((W.setCell ⟨w.heap.size,0,none⟩ (.string nm)).setCell ⟨w.heap.size,1,none⟩ (.string (s.extract av k))) b s k dv∧Rf b w ((W.setCell ⟨w.heap.size,0,none⟩ (.string nm)).setCell ⟨w.heap.size,1,none⟩ (.string (s.extract av k))):=fun W q1 q2=>⟨(q1.other (Below.heap_setCell _ _ _ _ (by simp;omega))).other (Below.heap_setCell _ _ _ _ (by simp;omega)),(q2.setCell (Nat.le_refl _) _).setCell (Nat.le_refl _) _⟩
    exact⟨by rw [hrun.out],by rw [hrun.out];exact(hx _ hk' hsc).1.drewN 1,(hx _ hk' hsc).2.drewN 1⟩
def prCells (x:ByteArray×ByteArray):List Value:=[.string x.1,.string x.2]
theorem prCells_len (x:ByteArray×ByteArray):(prCells x).length=2:=rfl
def attrPlaceM (nm:ByteArray):List (ByteArray×ByteArray)→Nat→Int
 |[],_=> -1
 |x::xs,i=>if x.1.toList==nm.toList then(i:Int) else attrPlaceM nm xs (i+1)
def valM (nm:ByteArray):List (ByteArray×ByteArray)→ByteArray
 |[]=>⟨#[]⟩
 |x::xs=>if x.1.toList==nm.toList then x.2 else valM nm xs
theorem attrPlace_any (base:Nat)(l:List (ByteArray×ByteArray))(v:Value)(nm:ByteArray)(w:World)(h:w.ownsRow base 123 2 v l.length ((l.map prCells).flatten))(hlen:l.length≤100000):
  Calls Tryz.prog 80 #[v,.string nm] w fun e w'=>e= .returned (.int .i64 (attrPlaceM nm l 0))∧w'=w:=by
 obtain⟨a0,c0,rfl⟩:=ownsRow_slice h
 have HW:=hide h
 clear h
 go_enter Tryz.func80,Tryz.ntmps80
 go_wp2_with fail
 go_loopg [5] (l.length+1) (fun k iv wr=> ∃(i:Nat),k+i=l.length+1∧i≤l.length∧iv= .int .i64 i∧wr=w∧Hid (attrPlaceM nm (l.drop i) i=attrPlaceM nm l 0))
 case atStart=>exact⟨0,rfl,Nat.zero_le _,rfl,rfl,rfl⟩
 case round=>
  obtain⟨i,hk,hiE,rfl,rfl,hfin⟩:=hrel
  have hHK:=hide hk
  clear hk
  by_cases hlt:i<l.length
  ·obtain⟨g,cap,hv,hb,hg⟩:=HW.out.form (by omega)
   injection hv with e1 e2 e3
   subst e1 e3
   obtain⟨x,hx⟩: ∃x,l[i]?=some x:=⟨l[i],List.getElem?_eq_getElem hlt⟩
   have q0:wr.cell? ⟨g,i*2,none⟩=some (.string x.1):=row_cell HW.out _ _ (flat_get prCells 2 prCells_len l i 0 x hx (by omega))
   have hlt':(i:Int)<l.length:=by omega
   have hst:Hid (attrPlaceM nm (l.drop i) i=if x.1.toList==nm.toList then(i:Int) else attrPlaceM nm (l.drop (i+1)) (i+1)):=hide (by
    obtain⟨hl,hx'⟩:=List.getElem?_eq_some_iff.1 hx
    rw [List.drop_eq_getElem_cons hl,hx']
    rfl)
   cases hq:(x.1.toList==nm.toList)
   ·go_wp2_with fail
    have hk:=hHK.out
    go_roundg (l.length - i)
    case measure=>omega
    case rel=>exact⟨i+1,by omega,by omega,by go_num,rfl,hide (by rw [←hfin.out,hst.out,hq];rfl)⟩
   ·go_wp2_with fail
    go_ret
    exact⟨by rw [←hfin.out,hst.out,hq];simp,rfl⟩
  ·have hlt': ¬(i:Int)<l.length:=by omega
   go_wp2_with fail
   go_ret
   exact⟨by rw [←hfin.out,List.drop_of_length_le (by omega)];simp [attrPlaceM],rfl⟩
theorem attrPlaceM_val (nm:ByteArray): ∀(l:List (ByteArray×ByteArray)) (i:Nat),(attrPlaceM nm l i= -1∧valM nm l=⟨#[]⟩∧ ∀x∈l,(x.1.toList==nm.toList)=false)∨ ∃(j:Nat) (x:ByteArray×ByteArray),attrPlaceM nm l i=((i+j:Nat):Int)∧l[j]?=some x∧valM nm l=x.2:=by
 intro l
 induction l with
 |nil=>intro i;exact .inl ⟨rfl,rfl,fun x h=>by cases h⟩
 |cons y ys ih=>
  intro i
  cases h:(y.1.toList==nm.toList) with
  |true=>exact .inr ⟨0,y,by simp [attrPlaceM,h],rfl,by simp [valM,h]⟩
  |false=>
   rcases ih (i+1) with⟨h1,h2,h3⟩|⟨j,x,h1,h2,h3⟩
   ·exact .inl ⟨by simp [attrPlaceM,h,h1],by simp [valM,h,h2],fun x hx=>by
     rcases List.mem_cons.1 hx with rfl|hx
     ·exact h
     ·exact h3 x hx⟩
   ·exact .inr ⟨j+1,x,by simp only [attrPlaceM,h,if_false,Bool.false_eq_true];rw [h1];omega,by simpa using h2,by simp [valM,h,h3]⟩
theorem valueOf_any (base:Nat)(l:List (ByteArray×ByteArray))(v:Value)(nm:ByteArray)(w:World)(h:w.ownsRow base 123 2 v l.length ((l.map prCells).flatten))(hlen:l.length≤100000):
  Calls Tryz.prog 123 #[v,.string nm] w fun e w'=>e= .returned (.string (valM nm l))∧w'=w:=by
 have HP:=hide (attrPlace_any base l v nm w h hlen)
 obtain⟨a0,c0,rfl⟩:=ownsRow_slice h
 rcases attrPlaceM_val nm l 0 with⟨h1,h2,_⟩|⟨j,x,h1,h2,h3⟩
 ·rw [h1] at HP
  have H2:=hide h2
  clear h1 h2
  go_enter Tryz.func123,Tryz.ntmps123
  go_wp2_with fail
  refine HP.out.mono ?_
  rintro e w1 ⟨rfl,rfl⟩
  go_wp2_with fail
  go_ret
  exact⟨by rw [H2.out];rfl,rfl⟩
 ·have hl:=(List.getElem?_eq_some_iff.1 h2).1
  obtain⟨g,cap,hv,hb,hg⟩:=h.form (by omega)
  injection hv with e1 e2 e3
  subst e1 e3
  have q1:w.cell? ⟨g,j*2+1,none⟩=some (.string x.2):=row_cell h _ _ (flat_get prCells 2 prCells_len l j 1 x h2 (by omega))
  rw [h1,show((0+j:Nat):Int)=(j:Int) by omega] at HP
  have H3:=hide h3
  clear h1 h2 h3
  have hlt':(j:Int)<l.length:=by omega
  go_enter Tryz.func123,Tryz.ntmps123
  go_wp2_with fail
  refine HP.out.mono ?_
  rintro e w1 ⟨rfl,rfl⟩
  go_wp2_with fail
  go_ret
  exact⟨by rw [H3.out];rfl,rfl⟩
def paM (s:ByteArray):Nat→Nat→Bool→List (ByteArray×ByteArray)→Nat×Bool×List (ByteArray×ByteArray)
 |0,a,d,l=>(a,d,l)
 |n+1,a,d,l=>if pk s a d==59 then
   let v:=attrM s (a+1) d
   paM s n v.1 (v.2.1||(attrPlaceM v.2.2.1 l 0 != -1)) (l++[(v.2.2.1,v.2.2.2)])
  else(a,d,l)
def raM (s:ByteArray):List (ByteArray×ByteArray)×Bool:=
 if s.size=0 then([],false) else
 let v:=attrM s 0 false
 let p:=paM s (s.size+1) v.1 v.2.1 [(v.2.2.1,v.2.2.2)]
 (p.2.2,eofM s p.1 p.2.1)
def RaPost (s:ByteArray)(w:World)(e:Ending)(w':World):Prop:= ∃v,e= .returned (.tuple #[v,.bool (raM s).2])∧w'.ownsRow w.heap.size 123 2 v (raM s).1.length (((raM s).1.map prCells).flatten)∧Below w.heap.size w w'
theorem info123:(Tryz.prog.info? 123).map (fun i=>(i.zero,i.size,i.bytes))=some (some (.agg #[.string ⟨#[]⟩,.string ⟨#[]⟩]),2,32):=by kernel_rfl
theorem wordM_one {s:ByteArray}{d:Bool}{c:UInt8}{a:Nat}(h:pk s a d=(c.toNat:Int)):wordM s d [c] a=(a+1,d):=by rw [wordM_cons_yes h];rfl
theorem attrM_ge {s:ByteArray}{a:Nat}{d:Bool}(h:a≤s.size):a≤(attrM s a d).1:=by
 unfold attrM
 simp only
 have h1:=bareM_le (p:=isLetter) (by decide) (m:=8) (d:=d) h
 have h2:=wordM_le s (bareName s a d).2.1 [61] (bareName s a d).1 h1.2
 have h3:=run_le isValue (by decide) s (wordM s (bareName s a d).2.1 [61] (bareName s a d).1).2 20 _ h2.2
 unfold bareName at*
 omega
theorem readAttrs_any (s:ByteArray)(w:World)(hs:s.size≤600):
  Calls Tryz.prog 41 #[.string s] w fun e w'=>RaPost s w e w':=by
 have hmade:=World.ownsRow_made (base:=w.heap.size) (e:=123) (size:=2) w #[] 0 (Nat.le_refl _) (by decide) (by simp)
 have HM:=hide hmade
 by_cases h0:s.size=0
 ·have hs0:s=⟨#[]⟩:=by cases s;simp_all [ByteArray.size]
  subst hs0
  have hra:Hid (raM ⟨#[]⟩=([],false)):=hide rfl
  have hB0:=hide ((Below.refl w.heap.size w).alloc (Nat.le_refl _) (.cells #[] 123))
  clear hmade
  go_enter Tryz.func41,Tryz.ntmps41
  go_wp2_with fail
  go_ret2
  exact⟨_,by rw [hra.out];rfl,by rw [hra.out];exact HM.out,hB0.out⟩
 ·have hs0:(s.toList==([]:List UInt8))=false:=by
   rw [ByteArray.toList_eq]
   cases hq:(s.data.toList==([]:List UInt8)) with
   |false=>rfl
   |true=>simp at hq;exact absurd (show s.size=0 by simp [ByteArray.size,hq]) h0
  clear hmade
  have hrd0:Rd ((w.alloc (.cells #[] 123)).alloc (.cells #[.string s,.int .i64 0,.bool false,.slice none 0 0,.slice none 0 0,.slice none 0 0,.slice none 0 0] 66)) (w.heap.size+1) s 0 false:=by
   have hg:=heap_alloc_new (w.alloc (.cells #[] 123)) (.cells #[.string s,.int .i64 0,.bool false,.slice none 0 0,.slice none 0 0,.slice none 0 0,.slice none 0 0] 66)
   rw [show(w.alloc (.cells #[] 123)).heap.size=w.heap.size+1 by simp] at hg
   obtain⟨q0,q1,q2,_,_,_,_,qf⟩:=box7 hg
   exact⟨q0,q1,q2,qf _,qf _,Nat.zero_le _,hs⟩
  have hB0:Below w.heap.size w ((w.alloc (.cells #[] 123)).alloc (.cells #[.string s,.int .i64 0,.bool false,.slice none 0 0,.slice none 0 0,.slice none 0 0,.slice none 0 0] 66)):=((Below.refl w.heap.size w).alloc (Nat.le_refl _) _).alloc (by simp) _
  have hM1:=HM.out.alloc (.cells #[.string s,.int .i64 0,.bool false,.slice none 0 0,.slice none 0 0,.slice none 0 0,.slice none 0 0] 66)
  have hz0:((w.alloc (.cells #[] 123)).alloc (.cells #[.string s,.int .i64 0,.bool false,.slice none 0 0,.slice none 0 0,.slice none 0 0,.slice none 0 0] 66)).heap.size=w.heap.size+2:=by simp
  have H0:=hide (And.intro hrd0 (And.intro hB0 (And.intro hM1 hz0)))
  clear hrd0 hB0 hM1 hz0
  go_enter Tryz.func41,Tryz.ntmps41
  go_wp2_with fail
  obtain⟨hrd0,hB0,hM1,hz0⟩:=H0.out
  clear H0
  generalize ((w.alloc (.cells #[] 123)).alloc (.cells #[.string s,.int .i64 0,.bool false,.slice none 0 0,.slice none 0 0,.slice none 0 0,.slice none 0 0] 66))=W0 at*
  refine(attribute_any _ _ _ _ _ hrd0).mono ?_
  rintro e w1 ⟨rfl,hr1,hs1⟩
  have hra:Hid (raM s=((paM s (s.size+1) (attrM s 0 false).1 (attrM s 0 false).2.1 [((attrM s 0 false).2.2.1,(attrM s 0 false).2.2.2)]).2.2,eofM s (paM s (s.size+1) (attrM s 0 false).1 (attrM s 0 false).2.1 [((attrM s 0 false).2.2.1,(attrM s 0 false).2.2.2)]).1 (paM s (s.size+1) (attrM s 0 false).1 (attrM s 0 false).2.1 [((attrM s 0 false).2.2.1,(attrM s 0 false).2.2.2)]).2.1)):=hide (by unfold raM;rw [if_neg h0])
  generalize attrM s 0 false=v0 at*
  obtain⟨a1,d1,nm1,vl1⟩:=v0
  simp only at*
  generalize hP0:paM s (s.size+1) a1 d1 [(nm1,vl1)]=P0 at*
  have HP0:=hide hP0
  clear hP0
  obtain⟨i0,hi,hz0',hz1,hz2⟩:=info_parts info123
  have hBw:w.heap.size+2≤w1.heap.size:=by have:=hs1.size;omega
  have hM2:w1.ownsRow w.heap.size 123 2 (.slice (some ⟨w.heap.size,0,none⟩) 0 0) 0 []:=ownsRow_same hM1 fun k e=>hs1.block k (hM1.lt k e).2 (by simp [Value.ownBlock] at e;omega)
  have hB1:Below w.heap.size w w1:=⟨hs1.os.trans hB0.os,hs1.tape.trans hB0.tape,hs1.output.trans hB0.output,by omega,fun k hk=>(hs1.block k (by omega) (by omega)).trans (hB0.block k hk)⟩
  have H1:=hide (And.intro hr1 (And.intro hM2 hB1))
  clear hr1 hM2 hB1 hM1 hB0 hrd0 hs1 HM
  go_wp2_with (at_builtin;go_must (refine wpList_append_lies _ rfl (.tmp 14) (.tmp 16) 55 rfl w.heap.size 123 i0 _ 2 32 Tryz.underlying55 hi hz0' hz1 hz2 rfl (by omega) _ 0 _ rfl ((H1.out.2.1.alloc _).alloc _) ⟨w1.heap.size+1,0,none⟩ 1 1 (prCells (nm1,vl1)) rfl rfl ?news ?one (by omega) ?mm ?bys ?base (w1.heap.size+2) (by simp) ?rest))
  case news=>exact news_at _ _ (by simp) #[.string nm1,.string vl1] 123
  case one=>intro u hu;simp [prCells] at hu;rcases hu with rfl|rfl<;>rfl
  case mm=>unfold maxLen;omega
  case bys=>omega
  case base=>simp;omega
  case rest=>
   intro gb cap w2 hown2 hgrow hat hlt2
   obtain⟨hr1,hM2,hB1⟩:=H1.out
   clear H1
   have hgb:gb≠w.heap.size+1∧gb≠w1.heap.size:=by
    rcases hat with e|e
    ·simp [Value.ownBlock] at e;omega
    ·omega
   have hold: ∀k,k<w1.heap.size→k≠w.heap.size→w2.heap[k]?=w1.heap[k]?:=fun k hk hn=>(hgrow.block k (by simp;omega) (fun e=>by simp [Value.ownBlock] at e;omega)).trans ((Below.heap_alloc _ _ _ (by simp;omega)).trans (Below.heap_alloc _ _ _ hk))
   have hr2:Rd w2 (w.heap.size+1) s a1 d1:=hr1.other (hold _ (by omega) (by omega))
   have hG2:w2.heap[w1.heap.size]?=some (.cells #[.string nm1,.string vl1] 123):=(hgrow.block _ (by simp<;>omega) (fun e=>by simp [Value.ownBlock] at e;omega)).trans ((Below.heap_alloc _ _ _ (by simp)).trans (heap_alloc_new w1 _))
   have hB2:Below w.heap.size w w2:=Below.grown ((hB1.alloc (by omega) _).alloc (by simp;omega) _) hgrow (by simp;omega) fun k e=>by simp [Value.ownBlock] at e;omega
   have hz2':w1.heap.size<w2.heap.size:=by have:=hgrow.size;simp at this;omega
   have ha1:=hr2.le
   have H2:=hide (And.intro hr2 (And.intro hG2 (And.intro hB2 hown2)))
   clear hr2 hG2 hB2 hown2 hold hgrow hat hr1 hM2 hB1
   go_wp2_with fail
   go_loopg [4] (s.size+1) (fun k v wr=> ∃(a:Nat) (d:Bool) (l:List (ByteArray×ByteArray)) (x y:ByteArray) (g2 cap2:Nat),v= .slice (some ⟨g2,0,none⟩) l.length cap2∧g2≠w.heap.size+1∧g2≠w1.heap.size∧s.size+1≤k+a∧k+l.length≤s.size+2∧w1.heap.size<wr.heap.size∧Hid (Rd wr (w.heap.size+1) s a d)∧Hid (wr.heap[w1.heap.size]?=some (.cells #[.string x,.string y] 123))∧Hid (wr.ownsRow w.heap.size 123 2 (.slice (some ⟨g2,0,none⟩) l.length cap2) l.length ((l.map prCells).flatten))∧Hid (Below w.heap.size w wr)∧Hid (paM s k a d l=P0))
   case atStart=>
    obtain⟨hr2,hG2,hB2,hown2⟩:=H2.out
    exact⟨a1,d1,[(nm1,vl1)],nm1,vl1,gb,cap,rfl,hgb.1,hgb.2,by omega,by simp,hz2',hide hr2,hide hG2,hide hown2,hide hB2,HP0⟩
   case round=>
    clear H2
    obtain⟨a,d,l,x,y,g2,cap2,rfl,hn1,hn2,hka,hkl,hzr,HR,HG,HO,HB,HPk⟩:=hrel
    have ha:=HR.out.le
    cases hb:(pk s a d==59)
    ·have hst:Hid ((a,d,l)=P0):=hide (by
      rw [←HPk.out]
      cases gk with
      |zero=>rfl
      |succ k=>unfold paM;rw [hb];rfl)
     have he:=hide (eof_any _ _ _ _ _ (HR.out.drewN 0))
     go_wp2_with (go_at_call 78;refine(peek_any _ _ _ _ _ HR.out).mono ?_;rintro e w3 ⟨rfl,n3,rfl⟩)
     refine(eof_any _ _ _ _ _ (HR.out.drewN n3)).mono ?_
     rintro e w4 ⟨rfl,hr4,hs4⟩
     have q2:=hr4.c2
     go_wp2_with fail
     go_quiet (fail)
     go_wp2_with fail
     go_ret2
     have hst':=hst.out
     subst hst'
     have hB4:Below w.heap.size w w4:=⟨hs4.os.trans HB.out.os,hs4.tape.trans HB.out.tape,hs4.output.trans HB.out.output,by have:=hs4.size;have:=HB.out.size;simp at*;omega,fun k hk=>(hs4.block k (by omega)).trans (HB.out.block k hk)⟩
     have hO4:w4.ownsRow w.heap.size 123 2 (.slice (some ⟨g2,0,none⟩) l.length cap2) l.length ((l.map prCells).flatten):=ownsRow_same HO.out fun k e=>hs4.block k (by simp [Value.ownBlock] at e;omega)
     refine⟨.slice (some ⟨g2,0,none⟩) l.length cap2,by rw [hra.out];rfl,by rw [hra.out];exact ownsRow_same hO4 fun k e=>rfl,?_⟩
     exact⟨hB4.os,hB4.tape,hB4.output,hB4.size,hB4.block⟩
    ·have hpk:pk s a d=59:=by simpa using hb
     have hlt:=(pk_lt (s:=s) (a:=a) (d:=d) (by omega)).2
     obtain⟨k,rfl⟩: ∃k,gk=k+1:=⟨gk - 1,by omega⟩
     have hst:Hid (paM s k (attrM s (a+1) d).1 ((attrM s (a+1) d).2.1||(attrPlaceM (attrM s (a+1) d).2.2.1 l 0 != -1)) (l++[((attrM s (a+1) d).2.2.1,(attrM s (a+1) d).2.2.2)])=P0):=hide (by
      rw [←HPk.out]
      conv=>rhs;unfold paM
      rw [hb];rfl)
     have hW1:=wordM_one (s:=s) (d:=d) (c:=59) (a:=a) hpk
     have HW:=hide (fun W h=>word_any (w.heap.size+1) a s ⟨#[59]⟩ d W h (by decide))
     rw [show(ByteArray.mk #[59]).data.toList=[59] from rfl,hW1] at HW
     have HA:=hide (fun W h=>attribute_any (w.heap.size+1) (a+1) s d W h)
     have HAM:=hide (attrM_ge (s:=s) (a:=a+1) (d:=d) (by omega))
     generalize attrM s (a+1) d=v0 at*
     obtain⟨a5,d5,nm5,vl5⟩:=v0
     simp only at*
     clear hW1 hpk
     go_wp2_with (go_at_call 78;refine(peek_any _ _ _ _ _ HR.out).mono ?_;rintro e w3 ⟨rfl,n3,rfl⟩)
     refine(HW.out _ (HR.out.drewN n3)).mono ?_
     rintro e w4 ⟨rfl,hr4,hs4⟩
     go_wp2_with fail
     refine(HA.out _ hr4).mono ?_
     rintro e w5 ⟨rfl,hr5,hs5⟩
     have hz4:wr.heap.size=w4.heap.size:=by have:=hs4.size;simp at this;omega
     have hz5:wr.heap.size≤w5.heap.size:=by have:=hs5.size;omega
     have hold: ∀k,k<wr.heap.size→k≠w.heap.size+1→w5.heap[k]?=wr.heap[k]?:=fun k hk hn=>(hs5.block k (by omega) hn).trans (hs4.block k hn)
     have hG5:w5.heap[w1.heap.size]?=some (.cells #[.string x,.string y] 123):=(hold _ hzr (by omega)).trans HG.out
     have hO5:w5.ownsRow w.heap.size 123 2 (.slice (some ⟨g2,0,none⟩) l.length cap2) l.length ((l.map prCells).flatten):=ownsRow_same HO.out fun k e=>hold k (HO.out.lt k e).2 (by simp [Value.ownBlock] at e;omega)
     have hB5:Below w.heap.size w w5:=⟨hs5.os.trans (hs4.os.trans HB.out.os),hs5.tape.trans (hs4.tape.trans HB.out.tape),hs5.output.trans (hs4.output.trans HB.out.output),by have:=HB.out.size;omega,fun k hk=>(hold k (by have:=HB.out.size;omega) (by omega)).trans (HB.out.block k hk)⟩
     clear hold hs5 hs4 hr4
     have hw6:((w5.setCell ⟨w1.heap.size,0,none⟩ (.string nm5)).setCell ⟨w1.heap.size,1,none⟩ (.string vl5)).heap[w1.heap.size]?=some (.cells #[.string nm5,.string vl5] 123):=by simp [World.setCell,Array.getElem?_modify,hG5]
     have hz6:((w5.setCell ⟨w1.heap.size,0,none⟩ (.string nm5)).setCell ⟨w1.heap.size,1,none⟩ (.string vl5)).heap.size=w5.heap.size:=by simp [World.setCell]
     have hold6: ∀k,k≠w1.heap.size→((w5.setCell ⟨w1.heap.size,0,none⟩ (.string nm5)).setCell ⟨w1.heap.size,1,none⟩ (.string vl5)).heap[k]?=w5.heap[k]?:=fun k hn=>(Below.heap_setCell _ _ _ _ hn).trans (Below.heap_setCell _ _ _ _ hn)
     have hr6:=hr5.other (hold6 _ (by omega))
     have hO6:=ownsRow_same hO5 fun k e=>hold6 k (by simp [Value.ownBlock] at e;omega)
     have hB6:=(hB5.setCell (show w.heap.size≤(⟨w1.heap.size,0,none⟩:Addr).block by show w.heap.size≤w1.heap.size;omega) (.string nm5)).setCell (show w.heap.size≤(⟨w1.heap.size,1,none⟩:Addr).block by show w.heap.size≤w1.heap.size;omega) (.string vl5)
     have y0:w5.cell? ⟨w1.heap.size,0,none⟩=some (.string x):=by simp [World.cell?,hG5]
     have y1:w5.cell? ⟨w1.heap.size,1,none⟩=some (.string y):=by simp [World.cell?,hG5]
     have y2:w5.frozen? ⟨w1.heap.size,0,none⟩=false:=by simp [World.frozen?,hG5]
     have y3:w5.frozen? ⟨w1.heap.size,1,none⟩=false:=by simp [World.frozen?,hG5]
     have z0:((w5.setCell ⟨w1.heap.size,0,none⟩ (.string nm5)).setCell ⟨w1.heap.size,1,none⟩ (.string vl5)).cell? ⟨w1.heap.size,0,none⟩=some (.string nm5):=by simp [World.cell?,hw6]
     have H6:=hide (And.intro hw6 (And.intro hz6 (And.intro hr6 (And.intro hO6 (And.intro hB6 z0)))))
     clear hw6 hz6 hr6 hO6 hB6 hold6 hG5 hO5 hB5 hr5 z0
     go_wp2_with fail
     obtain⟨hw6,hz6,hr6,hO6,hB6,z0⟩:=H6.out
     clear H6 y0 y1 y2 y3
     generalize ((w5.setCell ⟨w1.heap.size,0,none⟩ (.string nm5)).setCell ⟨w1.heap.size,1,none⟩ (.string vl5))=W6 at*
     refine(attrPlace_any w.heap.size l _ nm5 W6 hO6 (by omega)).mono ?_
     rintro e W7 ⟨rfl,rfl⟩
     have z1:W7.cell? ⟨w1.heap.size,1,none⟩=some (.string vl5):=by simp [World.cell?,hw6]
     have hzz:a+1≤a5:=HAM.out
     have hwz:w1.heap.size<W7.heap.size:=by omega
     have HZ6:=hide hz6
     clear hz6
     cases hdup:(attrPlaceM nm5 l 0 != -1)
     ·rw [hdup,Bool.or_false] at hst
      have H7:=hide (And.intro hr6 (And.intro hw6 (And.intro hO6 hB6)))
      have hW7:w1.heap.size<W7.heap.size:=by omega
      clear hr6 hw6 hO6 hB6
      go_wp2_with (at_builtin;go_must (refine wpList_append_lies _ rfl (.tmp 28) (.tmp 30) 55 rfl w.heap.size 123 i0 _ 2 32 Tryz.underlying55 hi hz0' hz1 hz2 rfl (by omega) _ l.length _ rfl (H7.out.2.2.1.alloc _) ⟨W7.heap.size,0,none⟩ 1 1 (prCells (nm5,vl5)) rfl rfl ?news ?one (by omega) ?mm ?bys ?base (W7.heap.size+1) (by simp) ?rest))
      case news=>exact news_at _ _ (by simp) #[.string nm5,.string vl5] 123
      case one=>intro u hu;simp [prCells] at hu;rcases hu with rfl|rfl<;>rfl
      case mm=>unfold maxLen;omega
      case bys=>omega
      case base=>simp;omega
      case rest=>
       intro gc cap8 w8 hown8 hgrow hat hlt8
       obtain⟨hr7,hG7,hO7,hB7⟩:=H7.out
       clear H7
       have hgc:gc≠w.heap.size+1∧gc≠w1.heap.size:=by
        rcases hat with e|e
        ·simp [Value.ownBlock] at e;omega
        ·omega
       have hold8: ∀k,k<W7.heap.size→k≠g2→w8.heap[k]?=W7.heap[k]?:=fun k hk hn=>(hgrow.block k (by simp;omega) (fun e=>by simp [Value.ownBlock] at e;omega)).trans (Below.heap_alloc _ _ _ hk)
       have hr8:=hide (hr7.other (hold8 _ (by omega) (by omega)))
       have hG8:=hide ((hold8 _ (by omega) (by omega)).trans hG7)
       have hB8:=hide (Below.grown (hB7.alloc hB7.size _) hgrow (by simp;have:=hB7.size;omega) fun k e=>by simp [Value.ownBlock] at e;have:=(hO7.lt g2 rfl).1;omega)
       have hz8:w1.heap.size<w8.heap.size:=by have:=hgrow.size;simp at this;omega
       have ha8:=hr7.le
       have hown9:Hid (w8.ownsRow w.heap.size 123 2 (.slice (some ⟨gc,0,none⟩) (l++[(nm5,vl5)]).length cap8) (l++[(nm5,vl5)]).length (((l++[(nm5,vl5)]).map prCells).flatten)):=hide (by simpa using hown8)
       clear hown8 hgrow hat hold8 hr7 hG7 hO7 hB7
       go_wp2_with fail
       go_roundg k
       case measure=>omega
       case rel=>exact⟨a5,_,l++[(nm5,vl5)],nm5,vl5,gc,cap8,by simp,hgc.1,hgc.2,by omega,by simp;omega,hz8,hr8,hG8,hown9,hB8,hst⟩
     ·rw [hdup,Bool.or_true] at hst
      have hF:=hide (fail_any _ _ _ _ _ hr6)
      have HC:=hide (And.intro hr6 (And.intro hw6 (And.intro hO6 hB6)))
      have hW6:w1.heap.size<W7.heap.size:=by omega
      clear hr6 hw6 hO6 hB6
      go_wp2_with fail
      refine hF.out.mono ?_
      rintro e W8 ⟨rfl,hr8',hs8⟩
      obtain⟨hr6,hw6,hO6,hB6⟩:=HC.out
      clear HC hF
      have hw8:=(hs8.block w1.heap.size (by omega)).trans hw6
      have z2:W8.cell? ⟨w1.heap.size,0,none⟩=some (.string nm5):=by simp [World.cell?,hw8]
      have z3:W8.cell? ⟨w1.heap.size,1,none⟩=some (.string vl5):=by simp [World.cell?,hw8]
      have hO8:W8.ownsRow w.heap.size 123 2 (.slice (some ⟨g2,0,none⟩) l.length cap2) l.length ((l.map prCells).flatten):=ownsRow_same hO6 fun k e=>hs8.block k (by simp [Value.ownBlock] at e;omega)
      have hB8':Below w.heap.size w W8:=⟨hs8.os.trans hB6.os,hs8.tape.trans hB6.tape,hs8.output.trans hB6.output,by have:=hs8.size;have:=hB6.size;omega,fun k hk=>(hs8.block k (by omega)).trans (hB6.block k hk)⟩
      have hW8:w1.heap.size<W8.heap.size:=by have:=hs8.size;omega
      have H7:=hide (And.intro hr8' (And.intro hw8 (And.intro hO8 hB8')))
      clear hr8' hw8 hO8 hB8' hr6 hw6 hO6 hB6 hs8 z0 z1
      go_wp2_with (at_builtin;go_must (refine wpList_append_lies _ rfl (.tmp 28) (.tmp 30) 55 rfl w.heap.size 123 i0 _ 2 32 Tryz.underlying55 hi hz0' hz1 hz2 rfl (by omega) _ l.length _ rfl (H7.out.2.2.1.alloc _) ⟨W8.heap.size,0,none⟩ 1 1 (prCells (nm5,vl5)) rfl rfl ?news ?one (by omega) ?mm ?bys ?base (W8.heap.size+1) (by simp) ?rest))
      case news=>exact news_at _ _ (by simp) #[.string nm5,.string vl5] 123
      case one=>intro u hu;simp [prCells] at hu;rcases hu with rfl|rfl<;>rfl
      case mm=>unfold maxLen;omega
      case bys=>omega
      case base=>simp;omega
      case rest=>
       intro gc cap8 w8 hown8 hgrow hat hlt8
       obtain⟨hr7,hG7,hO7,hB7⟩:=H7.out
       clear H7
       have hgc:gc≠w.heap.size+1∧gc≠w1.heap.size:=by
        rcases hat with e|e
        ·simp [Value.ownBlock] at e;omega
        ·omega
       have hold8: ∀k,k<W8.heap.size→k≠g2→w8.heap[k]?=W8.heap[k]?:=fun k hk hn=>(hgrow.block k (by simp;omega) (fun e=>by simp [Value.ownBlock] at e;omega)).trans (Below.heap_alloc _ _ _ hk)
       have hr8:=hide (hr7.other (hold8 _ (by omega) (by omega)))
       have hG8:=hide ((hold8 _ (by omega) (by omega)).trans hG7)
       have hB8:=hide (Below.grown (hB7.alloc hB7.size _) hgrow (by simp;have:=hB7.size;omega) fun k e=>by simp [Value.ownBlock] at e;have:=(hO7.lt g2 rfl).1;omega)
       have hz8:w1.heap.size<w8.heap.size:=by have:=hgrow.size;simp at this;omega
       have ha8:=hr7.le
       have hown9:Hid (w8.ownsRow w.heap.size 123 2 (.slice (some ⟨gc,0,none⟩) (l++[(nm5,vl5)]).length cap8) (l++[(nm5,vl5)]).length (((l++[(nm5,vl5)]).map prCells).flatten)):=hide (by simpa using hown8)
       clear hown8 hgrow hat hold8 hr7 hG7 hO7 hB7
       go_wp2_with fail
       go_roundg k
       case measure=>omega
       case rel=>exact⟨a5,_,l++[(nm5,vl5)],nm5,vl5,gc,cap8,by simp,hgc.1,hgc.2,by omega,by simp;omega,hz8,hr8,hG8,hown9,hB8,hst⟩
structure Wt where
 kind:Int
 truth:Bool
 num:Int
 text:ByteArray
def Wt.v (x:Wt):Value:= .agg #[.int .i64 x.kind,.bool x.truth,.int .i64 x.num,.string x.text]
def Wt.cells (x:Wt):List Value:=[.int .i64 x.kind,.bool x.truth,.int .i64 x.num,.string x.text]
theorem Wt.cells_len (x:Wt):x.cells.length=4:=rfl
def wErr:Wt:=⟨0,false,0,⟨#[]⟩⟩
def wBool (b:Bool):Wt:=⟨1,b,0,⟨#[]⟩⟩
def wStr (t:ByteArray):Wt:=⟨3,false,0,t⟩
def wNum (n:Int):Wt:=if 999999999<n∨n< -999999999 then wErr else⟨2,false,n,⟨#[]⟩⟩
def WPost (x:Wt)(w:World)(e:Ending)(w':World):Prop:=e= .returned (.agg #[.int .i64 x.kind,.bool x.truth,.int .i64 x.num,.string x.text])∧Below w.heap.size w w'
theorem boxw {w:World}{g:Nat}{a b c d:Value}{t:TypeId}(hh:w.heap[g]?=some (.cells #[a,b,c,d] t)):
  w.cell? ⟨g,0,none⟩=some a∧w.cell? ⟨g,1,none⟩=some b∧w.cell? ⟨g,2,none⟩=some c∧w.cell? ⟨g,3,none⟩=some d∧w.frozen? ⟨g,0,none⟩=false∧w.frozen? ⟨g,1,none⟩=false∧w.frozen? ⟨g,2,none⟩=false∧w.frozen? ⟨g,3,none⟩=false:=by
 simp [World.cell?,World.frozen?,hh]
theorem stored4 {w:World}{g:Nat}{a b c d:Value}{t:TypeId}(hh:w.heap[g]?=some (.cells #[a,b,c,d] t))(p q r u:Value):
  let W:=(((w.setCell ⟨g,0,none⟩ p).setCell ⟨g,1,none⟩ q).setCell ⟨g,2,none⟩ r).setCell ⟨g,3,none⟩ u
  W.cell? ⟨g,0,none⟩=some p∧W.cell? ⟨g,1,none⟩=some q∧W.cell? ⟨g,2,none⟩=some r∧W.cell? ⟨g,3,none⟩=some u:=by
 obtain⟨h0,h1,h2,h3,_⟩:=boxw (sets4 hh p q r u)
 exact⟨h0,h1,h2,h3⟩
theorem below4 {B g:Nat}{w w1:World}(h:Below B w w1)(hg:B≤g)(p q r u:Value):Below B w ((((w1.setCell ⟨g,0,none⟩ p).setCell ⟨g,1,none⟩ q).setCell ⟨g,2,none⟩ r).setCell ⟨g,3,none⟩ u):=
 (((h.setCell (p:=⟨g,0,none⟩) hg _).setCell (p:=⟨g,1,none⟩) hg _).setCell (p:=⟨g,2,none⟩) hg _).setCell (p:=⟨g,3,none⟩) hg _
theorem numberWorth_any (n:Int)(w:World):Calls Tryz.prog 151 #[.int .i64 n] w fun e w'=>WPost (wNum n) w e w':=by
 have hB:=hide fun o:Obj=>(Below.refl w.heap.size w).alloc (Nat.le_refl _) o
 by_cases h1:999999999<n
 ·have hx:Hid (wNum n=wErr):=hide (by unfold wNum;rw [if_pos (.inl h1)])
  go_enter Tryz.func151,Tryz.ntmps151
  go_wp2_with fail
  refine bodyPost_ret (v:=wErr.v) (by simp [results,Tryz.results151,go_sem,Wt.v,wErr]) rfl ?_
  exact⟨by rw [hx.out];rfl,hB.out _⟩
 ·by_cases h2:n< -999999999
  ·have hx:Hid (wNum n=wErr):=hide (by unfold wNum;rw [if_pos (.inr h2)])
   go_enter Tryz.func151,Tryz.ntmps151
   go_wp2_with fail
   refine bodyPost_ret (v:=wErr.v) (by simp [results,Tryz.results151,go_sem,Wt.v,wErr]) rfl ?_
   exact⟨by rw [hx.out];rfl,hB.out _⟩
  ·have hx:Hid (wNum n=⟨2,false,n,⟨#[]⟩⟩):=hide (by unfold wNum;rw [if_neg (by omega)])
   go_enter Tryz.func151,Tryz.ntmps151
   go_wp2_with fail
   refine bodyPost_ret (v:=(Wt.mk 2 false n ⟨#[]⟩).v) (by simp [results,Tryz.results151,go_sem,Wt.v,wErr]) rfl ?_
   exact⟨by rw [hx.out];rfl,hB.out _⟩
theorem stringWorth_any (t:ByteArray)(w:World):Calls Tryz.prog 121 #[.string t] w fun e w'=>WPost (wStr t) w e w':=by
 have hB:=hide fun o:Obj=>(Below.refl w.heap.size w).alloc (Nat.le_refl _) o
 go_enter Tryz.func121,Tryz.ntmps121
 go_wp2_with fail
 refine bodyPost_ret (v:=(wStr t).v) (by simp [results,Tryz.results121,go_sem,Wt.v,wStr]) rfl ?_
 exact⟨rfl,hB.out _⟩
theorem boolWorth_any (t:Bool)(w:World):Calls Tryz.prog 122 #[.bool t] w fun e w'=>WPost (wBool t) w e w':=by
 have hB:=hide fun o:Obj=>(Below.refl w.heap.size w).alloc (Nat.le_refl _) o
 go_enter Tryz.func122,Tryz.ntmps122
 go_wp2_with fail
 refine bodyPost_ret (v:=(wBool t).v) (by simp [results,Tryz.results122,go_sem,Wt.v,wBool]) rfl ?_
 exact⟨rfl,hB.out _⟩
theorem failed_any (x:Wt)(w:World):Calls Tryz.prog 152 #[.agg #[.int .i64 x.kind,.bool x.truth,.int .i64 x.num,.string x.text]] w fun e w'=>e= .returned (.bool (x.kind==0))∧Below w.heap.size w w':=by
 have hB:=hide fun o:Obj=>(Below.refl w.heap.size w).alloc (Nat.le_refl _) o
 go_enter Tryz.func152,Tryz.ntmps152
 go_wp2_with fail
 go_ret
 exact⟨rfl,hB.out _⟩
end Go.Proofs.YtkoohcilbpdgeaaGreatDoor
namespace Go.Proofs
open Go.Shelf
def Tryz.lays173_ren:Go.Shelf.Ren:=⟨fun|173=>83|246=>126|283=>155|284=>156|285=>157|286=>158|129=>172|317=>171|318=>173|319=>174|320=>175|337=>182|338=>183|n=>n,fun|2=>2|3=>3|9=>9|4=>4|171=>185|0=>0|53=>186|37=>142|5=>5|173=>189|212=>195|51=>196|20=>20|213=>197|46=>199|232=>205|233=>206|n=>n,fun|17=>0|18=>1|19=>2|n=>n⟩
theorem Tryz.lays173:Go.Proofs.LaysM.n173 Tryz.prog Tryz.lays173_ren:={
 mixed:=by kernel_rfl
 f129:=Tryz.func172.trans (congrArg some (by kernel_rfl))
 f173:=Tryz.func83.trans (congrArg some (by kernel_rfl))
 f246:=Tryz.func126.trans (congrArg some (by kernel_rfl))
 f283:=Tryz.func155.trans (congrArg some (by kernel_rfl))
 f284:=Tryz.func156.trans (congrArg some (by kernel_rfl))
 f285:=Tryz.func157.trans (congrArg some (by kernel_rfl))
 f286:=Tryz.func158.trans (congrArg some (by kernel_rfl))
 f317:=Tryz.func171.trans (congrArg some (by kernel_rfl))
 f318:=Tryz.func173.trans (congrArg some (by kernel_rfl))
 f319:=Tryz.func174.trans (congrArg some (by kernel_rfl))
 f320:=Tryz.func175.trans (congrArg some (by kernel_rfl))
 f337:=Tryz.func182.trans (congrArg some (by kernel_rfl))
 f338:=Tryz.func183.trans (congrArg some (by kernel_rfl))
 t0:=Tryz.underlying0
 a0:=Tryz.isAgg0
 z0:=Tryz.sizeOf0
 v0:=Tryz.zeroValue0
 t2:=Tryz.underlying2
 a2:=Tryz.isAgg2
 z2:=Tryz.sizeOf2
 v2:=Tryz.zeroValue2
 t3:=Tryz.underlying3
 a3:=Tryz.isAgg3
 z3:=Tryz.sizeOf3
 v3:=Tryz.zeroValue3
 t4:=Tryz.underlying4
 a4:=Tryz.isAgg4
 z4:=Tryz.sizeOf4
 v4:=Tryz.zeroValue4
 t5:=Tryz.underlying5
 a5:=Tryz.isAgg5
 z5:=Tryz.sizeOf5
 v5:=Tryz.zeroValue5
 t9:=Tryz.underlying9
 a9:=Tryz.isAgg9
 z9:=Tryz.sizeOf9
 v9:=Tryz.zeroValue9
 t20:=Tryz.underlying20
 a20:=Tryz.isAgg20
 z20:=Tryz.sizeOf20
 v20:=Tryz.zeroValue20
 t37:=Tryz.underlying142
 a37:=Tryz.isAgg142
 z37:=Tryz.sizeOf142
 v37:=Tryz.zeroValue142
 t46:=Tryz.underlying199
 a46:=Tryz.isAgg199
 z46:=Tryz.sizeOf199
 v46:=Tryz.zeroValue199
 t51:=Tryz.underlying196
 a51:=Tryz.isAgg196
 z51:=Tryz.sizeOf196
 v51:=Tryz.zeroValue196
 t53:=Tryz.underlying186
 a53:=Tryz.isAgg186
 z53:=Tryz.sizeOf186
 v53:=Tryz.zeroValue186
 t171:=Tryz.underlying185
 a171:=Tryz.isAgg185
 z171:=Tryz.sizeOf185
 v171:=Tryz.zeroValue185
 t173:=Tryz.underlying189
 a173:=Tryz.isAgg189
 z173:=Tryz.sizeOf189
 v173:=Tryz.zeroValue189
 t212:=Tryz.underlying195
 a212:=Tryz.isAgg195
 z212:=Tryz.sizeOf195
 v212:=Tryz.zeroValue195
 t213:=Tryz.underlying197
 a213:=Tryz.isAgg197
 z213:=Tryz.sizeOf197
 t232:=Tryz.underlying205
 a232:=Tryz.isAgg205
 z232:=Tryz.sizeOf205
 v232:=Tryz.zeroValue205
 t233:=Tryz.underlying206
 a233:=Tryz.isAgg206
 z233:=Tryz.sizeOf206
 v233:=Tryz.zeroValue206
 g17:=by kernel_rfl
 g18:=by kernel_rfl
 g19:=by kernel_rfl
 i0:=by kernel_rfl
 i2:=by kernel_rfl
 i3:=by kernel_rfl
 i4:=by kernel_rfl
 i5:=by kernel_rfl
 i9:=by kernel_rfl
 i20:=by kernel_rfl
 i37:=by kernel_rfl
 i46:=by kernel_rfl
 i51:=by kernel_rfl
 i53:=by kernel_rfl
 i171:=by kernel_rfl
 i173:=by kernel_rfl
 i212:=by kernel_rfl
 i232:=by kernel_rfl
 i233:=by kernel_rfl
 m17:=by kernel_rfl
 m18:=by kernel_rfl
 m19:=by kernel_rfl}
end Go.Proofs
namespace Go.Proofs.YtkoohcilbpdgeaaGreatDoor
open Go Go.RowKit
def Tab (w:World):Prop:=Lib.TabIs Tryz.prog w "internal/strconv.uint64pow10" .u64 Lib.pow10Tab
theorem Tab.below {w w':World}(h:Tab w)(hB:Below w.heap.size w w'):Tab w':=by
 unfold Tab Lib.TabIs World.var? at*
 rw [show Tryz.prog.globalNamed "internal/strconv.uint64pow10" =some 0 by kernel_rfl] at*
 simp only [Option.bind_some] at*
 cases hq:w.heap[0]? with
 |none=>rw [hq] at h;cases h
 |some o=>rw [hB.block 0 (Array.getElem?_eq_some_iff.1 hq).1];exact h
theorem fmt10_any (n:Int)(h0: -9223372036854775808≤n)(h1:n≤9223372036854775807)(w:World)(ht:Tab w):
  Calls Tryz.prog 83 #[.int .i64 n,.int .i64 10] w fun e w'=>e= .returned (.string ⟨(Lib.itoa n).toArray⟩)∧Below w.heap.size w w':=
 (Any.strconv_FormatInt_10 Tryz.lays173 n h0 h1 w ht).mono fun e w' ⟨h,k,os,hw⟩=>⟨h,by
  subst hw
  exact⟨rfl,rfl,rfl,by simp [Sort.grow],fun i hi=>by simp only [Sort.grow];rw [Array.getElem?_append_left (by simpa using hi)];rfl⟩⟩
end Go.Proofs.YtkoohcilbpdgeaaGreatDoor
