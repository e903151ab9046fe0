import Derived.Shelf.Strconv.Itoa4
import Derived.Test.YtkoohcilbpdgeaaDoorProg
import Derived.WalkKit
import Derived.Test.YtkoohcilbpdgeaaDoorC02
set_option linter.all false
set_option linter.unusedVariables false
set_option linter.unusedSimpArgs false
set_option linter.unnecessarySimpa false
set_option linter.constructorNameAsVariable false
set_option linter.deprecated false
set_option maxRecDepth 100000
set_option maxHeartbeats 6400000
namespace Go.Proofs.YtkoohcilbpdgeaaDoor
open Go Go.RowKit
attribute [local go_sem] wrap64_byte
theorem z03 (t:z6P)(w:World)(hs:t.size≤600):Calls Tryd.prog 33 #[.string t] w fun e w'=>z0w (nsM t) w e w':=by
 have hrd0:Rd ((w.alloc (.cells #[.int .i64 0,.bool false,.int .i64 0,.string ⟨#[]⟩] 49)).alloc (.cells #[.string t,.int .i64 0,.bool false,.slice none 0 0,.slice none 0 0,.slice none 0 0,.slice none 0 0] 39)) (w.heap.size+1) t 0 false:=by
  have hg:=heap_alloc_new (w.alloc (.cells #[.int .i64 0,.bool false,.int .i64 0,.string ⟨#[]⟩] 49)) (.cells #[.string t,.int .i64 0,.bool false,.slice none 0 0,.slice none 0 0,.slice none 0 0,.slice none 0 0] 39)
  rw [show(w.alloc (.cells #[.int .i64 0,.bool false,.int .i64 0,.string ⟨#[]⟩] 49)).heap.size=w.heap.size+1 by simp] at hg
  obtain⟨q0,q1,q2,_,_,_,_,qf⟩:=z5q hg
  exact⟨q0,q1,q2,qf _,qf _,z6L _,hs⟩
 have hB0:Below w.heap.size w ((w.alloc (.cells #[.int .i64 0,.bool false,.int .i64 0,.string ⟨#[]⟩] 49)).alloc (.cells #[.string t,.int .i64 0,.bool false,.slice none 0 0,.slice none 0 0,.slice none 0 0,.slice none 0 0] 39)):=((z6O w.heap.size w).alloc (z6E _) _).alloc (by simp) _
 have hX0:((w.alloc (.cells #[.int .i64 0,.bool false,.int .i64 0,.string ⟨#[]⟩] 49)).alloc (.cells #[.string t,.int .i64 0,.bool false,.slice none 0 0,.slice none 0 0,.slice none 0 0,.slice none 0 0] 39)).heap[w.heap.size]?=some (.cells #[.int .i64 0,.bool false,.int .i64 0,.string ⟨#[]⟩] 49):=(z6G _ _ _ (by simp)).trans (heap_alloc_new w _)
 have hz0:((w.alloc (.cells #[.int .i64 0,.bool false,.int .i64 0,.string ⟨#[]⟩] 49)).alloc (.cells #[.string t,.int .i64 0,.bool false,.slice none 0 0,.slice none 0 0,.slice none 0 0,.slice none 0 0] 39)).heap.size=w.heap.size+2:=by simp
 have H0:=z6 (z6F hrd0 (z6F hB0 (z6F hX0 hz0)))
 clear hrd0 hB0 hX0 hz0
 have HBN:=z6 (fun a W h=>z00 (w.heap.size+1) a t false W h)
 have HPK:=z6 (fun W h=>zj (w.heap.size+1) 0 t false W h)
 have hfin:Hid (nsM t=if z1g t (zp t (zP t) false).1 (zp t (zP t) false).2.1||(z3o t&&(zp t (zP t) false).2.2.toList==[48]) then z0g else jo (if z3o t then - z0v (zp t (zP t) false).2.2.toList else z0v (zp t (zP t) false).2.2.toList)):=z6 rfl
 have hdig:=z0X (s:=t) (a:=zP t)
 cases hn:z3o t
 case true=>
  have hf:zP t=1:=by unfold zP;rw [hn];rfl
  rw [hf] at hfin hdig
  rw [hn] at hfin
  have hpk:(pk t 0 false==45)=true:=hn
  have hbn:=z6 (HBN.out 1)
  generalize zp t 1 false=v at*
  obtain⟨av,dv,tv⟩:=v
  simp only at*
  go_enter Tryd.func33,Tryd.ntmps33
  go_wp2_with fail
  obtain⟨hrd0,hB0,hX0,hz0⟩:=H0.out
  clear H0
  generalize ((w.alloc (.cells #[.int .i64 0,.bool false,.int .i64 0,.string ⟨#[]⟩] 49)).alloc (.cells #[.string t,.int .i64 0,.bool false,.slice none 0 0,.slice none 0 0,.slice none 0 0,.slice none 0 0] 39))=W at*
  refine(HPK.out W hrd0).mono ?_
  rintro e w1 ⟨rfl,n1,rfl⟩
  go_wp2_with fail
  have hpk1:pk t 0 false=((45:UInt8).toNat:Int):=by simpa using hpk
  have hW:=jE (w.heap.size+1) 0 t ⟨#[45]⟩ false _ (hrd0.drewN n1) (by decide)
  rw [show(ByteArray.mk #[45]).data.toList=[45] from rfl,z22 hpk1] at hW
  refine hW.mono ?_
  rintro e wA ⟨rfl,hrA,hsA⟩
  have hXA:=(hsA.block w.heap.size (by omega)).trans hX0
  have hBA:Below w.heap.size w wA:=⟨hsA.os.trans hB0.os,hsA.tape.trans hB0.tape,hsA.output.trans hB0.output,by have:=hsA.size;simp at this;omega,fun k hk=>(hsA.block k (by omega)).trans (hB0.block k hk)⟩
  have hzA:wA.heap.size=w.heap.size+2:=by have:=hsA.size;simp at this;omega
  clear hW hsA hpk1
  have hrA:Rd wA (w.heap.size+1) t 1 false:=hrA
  clear hrd0 hB0 hX0 hz0 HPK
  go_wp2_with fail
  refine(hbn.out wA hrA).mono ?_
  rintro e w2 ⟨rfl,hr2,hs2⟩
  have hE:=z17 _ _ _ _ _ hr2
  have hz2:w2.heap.size=w.heap.size+2:=by have:=hs2.size;omega
  have hX2:=(hs2.block w.heap.size (by omega)).trans hXA
  have hB2:Below w.heap.size w w2:=⟨hs2.os.trans hBA.os,hs2.tape.trans hBA.tape,hs2.output.trans hBA.output,by omega,fun k hk=>(hs2.block k (by omega)).trans (hBA.block k hk)⟩
  clear hs2 hXA hBA hrA hzA hbn HBN
  go_wp2_with fail
  refine hE.mono ?_
  rintro e w3 ⟨rfl,hr3,hs3⟩
  have hz3:w3.heap.size=w.heap.size+2:=by have:=hs3.size;omega
  have hX3:=(hs3.block w.heap.size (by omega)).trans hX2
  have hB3:Below w.heap.size w w3:=⟨hs3.os.trans hB2.os,hs3.tape.trans hB2.tape,hs3.output.trans hB2.output,by omega,fun k hk=>(hs3.block k (by omega)).trans (hB2.block k hk)⟩
  clear hs3 hX2 hB2 hE hr2 hz2
  have hbad:=hr3.c2
  obtain⟨y0,y1,y2,y3,g0,g1,g2,g3⟩:=zG hX3
  have HB3:=z6 hB3
  have HX3:=z6 hX3
  have HR3:=z6 hr3
  clear hB3 hX3 hr3
  cases hen:z1g t av dv
  case true=>
   rw [hen] at hbad
   have hres:Hid (nsM t=z0g):=z6 (by rw [hfin.out,hen];rfl)
   go_wp2_with fail
   obtain⟨z0,z1,z2,z3⟩:=zn HX3.out (.int .i64 0) (.bool false) (.int .i64 0) (.string ⟨#[]⟩)
   refine bodyPost_ret (v:= .agg #[.int .i64 0,.bool false,.int .i64 0,.string ⟨#[]⟩]) (by simp [results,Tryd.results33,go_sem,z0,z1,z2,z3]) rfl ?_
   exact⟨by rw [hres.out];rfl,zv HB3.out (z6E _) _ _ _ _⟩
  rw [hen] at hbad
  cases h48:(tv.toList==[48])
  case true=>
   have hres:Hid (nsM t=z0g):=z6 (by rw [hfin.out,hen,h48];rfl)
   go_wp2_with fail
   obtain⟨z0,z1,z2,z3⟩:=zn HX3.out (.int .i64 0) (.bool false) (.int .i64 0) (.string ⟨#[]⟩)
   refine bodyPost_ret (v:= .agg #[.int .i64 0,.bool false,.int .i64 0,.string ⟨#[]⟩]) (by simp [results,Tryd.results33,go_sem,z0,z1,z2,z3]) rfl ?_
   exact⟨by rw [hres.out];rfl,zv HB3.out (z6E _) _ _ _ _⟩
  have hres:Hid (nsM t=jo (- z0v tv.toList)):=z6 (by rw [hfin.out,hen,h48];rfl)
  have hdv:dv=false:=by cases hd:dv with|false=>rfl|true=>rw [hd] at hen;cases hen
  have hdig:=z6 (hdig hdv)
  obtain⟨n0,hn0⟩: ∃n0,n0=tv.size:=⟨_,rfl⟩
  have hN:Hid (tv.size=n0):=z6 hn0.symm
  have h9:n0≤9:=by rw [hn0,←hdig.out.2.2];exact hdig.out.2.1
  clear hn0
  have hlen:tv.size≤9:=by rw [hN.out];exact h9
  clear hfin
  go_wp2_with fail
  go_loopg [6,7] (tv.size+1) (fun k nv iv wr=> ∃i:Nat,k+i=tv.size+1∧i≤tv.size∧iv= .int .i64 i∧nv= .int .i64 (z0v (tv.toList.take i))∧wr=w3)
  case atStart=>exact⟨0,rfl,z6L _,rfl,rfl,rfl⟩
  case round=>
   obtain⟨i,hk,hil,rfl,rfl,rfl⟩:=hrel
   have HK:=z6 hk
   clear hk
   by_cases hlt:i<tv.size
   ·have hlt':(i:Int)<tv.size:=by omega
    have hget:tv.toList[i]?=some tv[i]:=by rw [z6D,z6B (show i<tv.data.toList.length from hlt)];rfl
    have hc:=hdig.out.1 tv[i] (z6J hget)
    have hr1:=z0x (tv.toList.take i) (fun c hc=>hdig.out.1 c (List.mem_of_mem_take hc)) (by rw [List.length_take];omega)
    have hst:Hid (z0v (tv.toList.take (i+1))=z0v (tv.toList.take i)*10+((tv[i].toNat:Int)- 48)):=z6 (by rw [List.take_add_one,hget];exact z0r _ _)
    have hr2:=z0x (tv.toList.take (i+1)) (fun c hc=>hdig.out.1 c (List.mem_of_mem_take hc)) (by rw [List.length_take];omega)
    rw [hst.out] at hr2
    generalize z0v (tv.toList.take i)=n at*
    have hc1:48≤(tv[i].toNat:Int):=by omega
    have hc2:(tv[i].toNat:Int)≤57:=by omega
    go_wp2_with fail
    have hk:=HK.out
    go_roundg (tv.size - i)
    case measure=>omega
    case rel=>exact⟨i+1,by omega,by omega,by go_num,by rw [hst.out],rfl⟩
   ·have hlt': ¬(i:Int)<tv.size:=by omega
    have hall:tv.toList.take i=tv.toList:=List.take_of_length_le (by rw [hdig.out.2.2];omega)
    rw [hall]
    have hr1:=z0x tv.toList hdig.out.1 hdig.out.2.1
    generalize z0v tv.toList=n at*
    have HC:=z6 (zz (-n) wr)
    generalize hX:jo (-n)=X at*
    clear hX
    go_wp2_with fail
    refine HC.out.mono ?_
    rintro e w5 ⟨rfl,hB5⟩
    have hbx:=(hB5.block w.heap.size (by omega)).trans HX3.out
    obtain⟨y0',y1',y2',y3',g0',g1',g2',g3'⟩:=zG hbx
    obtain⟨z0,z1,z2,z3⟩:=zn hbx (.int .i64 X.kind) (.bool X.truth) (.int .i64 X.num) (.string X.text)
    have HB5:=z6 (zv (HB3.out.trans (hB5.mono (by omega))) (z6E w.heap.size) (.int .i64 X.kind) (.bool X.truth) (.int .i64 X.num) (.string X.text))
    clear hbx hB5
    go_wp2_with fail
    refine bodyPost_ret (v:= .agg #[.int .i64 X.kind,.bool X.truth,.int .i64 X.num,.string X.text]) (by simp [results,Tryd.results33,go_sem,z0,z1,z2,z3]) rfl ?_
    exact⟨by rw [hres.out],HB5.out⟩
 case false=>
  have hf:zP t=0:=by unfold zP;rw [hn];rfl
  rw [hf] at hfin hdig
  rw [hn] at hfin
  have hpk:(pk t 0 false==45)=false:=hn
  have hbn:=z6 (HBN.out 0)
  generalize zp t 0 false=v at*
  obtain⟨av,dv,tv⟩:=v
  simp only at*
  go_enter Tryd.func33,Tryd.ntmps33
  go_wp2_with fail
  obtain⟨hrd0,hB0,hX0,hz0⟩:=H0.out
  clear H0
  generalize ((w.alloc (.cells #[.int .i64 0,.bool false,.int .i64 0,.string ⟨#[]⟩] 49)).alloc (.cells #[.string t,.int .i64 0,.bool false,.slice none 0 0,.slice none 0 0,.slice none 0 0,.slice none 0 0] 39))=W at*
  refine(HPK.out W hrd0).mono ?_
  rintro e w1 ⟨rfl,n1,rfl⟩
  have hrA:=hrd0.drewN n1
  have hXA:(W.drewN n1).heap[w.heap.size]?=_:=hX0
  have hBA:Below w.heap.size w (W.drewN n1):=⟨hB0.os,hB0.tape,hB0.output,hB0.size,hB0.block⟩
  have hzA:(W.drewN n1).heap.size=w.heap.size+2:=hz0
  generalize (W.drewN n1)=wA at*
  clear hrd0 hB0 hX0 hz0 HPK
  go_wp2_with fail
  refine(hbn.out wA hrA).mono ?_
  rintro e w2 ⟨rfl,hr2,hs2⟩
  have hE:=z17 _ _ _ _ _ hr2
  have hz2:w2.heap.size=w.heap.size+2:=by have:=hs2.size;omega
  have hX2:=(hs2.block w.heap.size (by omega)).trans hXA
  have hB2:Below w.heap.size w w2:=⟨hs2.os.trans hBA.os,hs2.tape.trans hBA.tape,hs2.output.trans hBA.output,by omega,fun k hk=>(hs2.block k (by omega)).trans (hBA.block k hk)⟩
  clear hs2 hXA hBA hrA hzA hbn HBN
  go_wp2_with fail
  refine hE.mono ?_
  rintro e w3 ⟨rfl,hr3,hs3⟩
  have hz3:w3.heap.size=w.heap.size+2:=by have:=hs3.size;omega
  have hX3:=(hs3.block w.heap.size (by omega)).trans hX2
  have hB3:Below w.heap.size w w3:=⟨hs3.os.trans hB2.os,hs3.tape.trans hB2.tape,hs3.output.trans hB2.output,by omega,fun k hk=>(hs3.block k (by omega)).trans (hB2.block k hk)⟩
  clear hs3 hX2 hB2 hE hr2 hz2
  have hbad:=hr3.c2
  obtain⟨y0,y1,y2,y3,g0,g1,g2,g3⟩:=zG hX3
  have HB3:=z6 hB3
  have HX3:=z6 hX3
  have HR3:=z6 hr3
  clear hB3 hX3 hr3
  cases hen:z1g t av dv
  case true=>
   rw [hen] at hbad
   have hres:Hid (nsM t=z0g):=z6 (by rw [hfin.out,hen];rfl)
   go_wp2_with fail
   obtain⟨z0,z1,z2,z3⟩:=zn HX3.out (.int .i64 0) (.bool false) (.int .i64 0) (.string ⟨#[]⟩)
   refine bodyPost_ret (v:= .agg #[.int .i64 0,.bool false,.int .i64 0,.string ⟨#[]⟩]) (by simp [results,Tryd.results33,go_sem,z0,z1,z2,z3]) rfl ?_
   exact⟨by rw [hres.out];rfl,zv HB3.out (z6E _) _ _ _ _⟩
  rw [hen] at hbad
  have hres:Hid (nsM t=jo (z0v tv.toList)):=z6 (by rw [hfin.out,hen];rfl)
  have hdv:dv=false:=by cases hd:dv with|false=>rfl|true=>rw [hd] at hen;cases hen
  have hdig:=z6 (hdig hdv)
  obtain⟨n0,hn0⟩: ∃n0,n0=tv.size:=⟨_,rfl⟩
  have hN:Hid (tv.size=n0):=z6 hn0.symm
  have h9:n0≤9:=by rw [hn0,←hdig.out.2.2];exact hdig.out.2.1
  clear hn0
  have hlen:tv.size≤9:=by rw [hN.out];exact h9
  clear hfin
  go_wp2_with fail
  go_loopg [6,7] (tv.size+1) (fun k nv iv wr=> ∃i:Nat,k+i=tv.size+1∧i≤tv.size∧iv= .int .i64 i∧nv= .int .i64 (z0v (tv.toList.take i))∧wr=w3)
  case atStart=>exact⟨0,rfl,z6L _,rfl,rfl,rfl⟩
  case round=>
   obtain⟨i,hk,hil,rfl,rfl,rfl⟩:=hrel
   have HK:=z6 hk
   clear hk
   by_cases hlt:i<tv.size
   ·have hlt':(i:Int)<tv.size:=by omega
    have hget:tv.toList[i]?=some tv[i]:=by rw [z6D,z6B (show i<tv.data.toList.length from hlt)];rfl
    have hc:=hdig.out.1 tv[i] (z6J hget)
    have hr1:=z0x (tv.toList.take i) (fun c hc=>hdig.out.1 c (List.mem_of_mem_take hc)) (by rw [List.length_take];omega)
    have hst:Hid (z0v (tv.toList.take (i+1))=z0v (tv.toList.take i)*10+((tv[i].toNat:Int)- 48)):=z6 (by rw [List.take_add_one,hget];exact z0r _ _)
    have hr2:=z0x (tv.toList.take (i+1)) (fun c hc=>hdig.out.1 c (List.mem_of_mem_take hc)) (by rw [List.length_take];omega)
    rw [hst.out] at hr2
    generalize z0v (tv.toList.take i)=n at*
    have hc1:48≤(tv[i].toNat:Int):=by omega
    have hc2:(tv[i].toNat:Int)≤57:=by omega
    go_wp2_with fail
    have hk:=HK.out
    go_roundg (tv.size - i)
    case measure=>omega
    case rel=>exact⟨i+1,by omega,by omega,by go_num,by rw [hst.out],rfl⟩
   ·have hlt': ¬(i:Int)<tv.size:=by omega
    have hall:tv.toList.take i=tv.toList:=List.take_of_length_le (by rw [hdig.out.2.2];omega)
    rw [hall]
    have hr1:=z0x tv.toList hdig.out.1 hdig.out.2.1
    generalize z0v tv.toList=n at*
    have HC:=z6 (zz n wr)
    generalize hX:jo n=X at*
    clear hX
    go_wp2_with fail
    refine HC.out.mono ?_
    rintro e w5 ⟨rfl,hB5⟩
    have hbx:=(hB5.block w.heap.size (by omega)).trans HX3.out
    obtain⟨y0',y1',y2',y3',g0',g1',g2',g3'⟩:=zG hbx
    obtain⟨z0,z1,z2,z3⟩:=zn hbx (.int .i64 X.kind) (.bool X.truth) (.int .i64 X.num) (.string X.text)
    have HB5:=z6 (zv (HB3.out.trans (hB5.mono (by omega))) (z6E w.heap.size) (.int .i64 X.kind) (.bool X.truth) (.int .i64 X.num) (.string X.text))
    clear hbx hB5
    go_wp2_with fail
    refine bodyPost_ret (v:= .agg #[.int .i64 X.kind,.bool X.truth,.int .i64 X.num,.string X.text]) (by simp [results,Tryd.results33,go_sem,z0,z1,z2,z3]) rfl ?_
    exact⟨by rw [hres.out],HB5.out⟩
def wAt (ws:List Wt)(i:Int):Wt:=if i<0 then z0g else ws.getD i.toNat z0g
theorem z28 (nm:z6P)(m:Nat): ∀l:List (z6P×z6P),(∀p∈l,p.2.size≤m)→(z1f nm l).size≤m:=by
 intro l
 induction l with
 |nil=>intro _;exact z6L _
 |cons y ys ih=>
  intro h
  unfold z1f
  split
  ·exact h y (by simp)
  ·exact ih fun p hp=>h p (by simp [hp])
theorem jF (base:Nat)(ts:List Wt)(v:Value)(i:Int)(w:World)(h:w.ownsRow base 49 4 v ts.length ((ts.map Wt.cells).flatten))(hlen:ts.length≤100000):
  Calls Tryd.prog 12 #[v,.int .i64 i] w fun e w'=>z0w (wAt ts i) w e w':=by
 have hB:=z6 fun o:Obj=>(z6O w.heap.size w).alloc (z6E _) o
 obtain⟨a0,c0,rfl⟩:=zk h
 by_cases h0:i<0
 ·have hfin:Hid (wAt ts i=z0g):=z6 (by unfold wAt;rw [if_pos h0])
  go_enter Tryd.func12,Tryd.ntmps12
  go_wp2_with fail
  refine bodyPost_ret (v:= .agg #[.int .i64 0,.bool false,.int .i64 0,.string ⟨#[]⟩]) (by simp [results,Tryd.results12,go_sem]) rfl ?_
  exact⟨by rw [hfin.out];rfl,hB.out _⟩
 ·obtain⟨j,rfl⟩:=Int.eq_ofNat_of_zero_le (show 0≤i by omega)
  by_cases h1:j<ts.length
  ·obtain⟨g,cap,hv,hb,hg⟩:=h.form (by omega)
   injection hv with e1 e2 e3
   subst e1 e3
   obtain⟨z,hz⟩: ∃z,ts[j]?=some z:=⟨ts[j],z6B h1⟩
   have hcell: ∀k u,z.cells[k]?=some u→k<4→w.cell? ⟨g,j*4+k,none⟩=some u:=fun k u hu hk=>jW h _ _ ((z0s Wt.cells 4 Wt.cells_len ts j k z hz hk).trans hu)
   have q0:w.cell? ⟨g,j*4,none⟩=some (.int .i64 z.kind):=hcell 0 _ rfl (by omega)
   have q1:=hcell 1 _ rfl (by omega)
   have q2:=hcell 2 _ rfl (by omega)
   have q3:=hcell 3 _ rfl (by omega)
   have hfin:Hid (wAt ts j=z):=z6 (by unfold wAt;rw [if_neg (by omega)];simp [List.getD,hz])
   have h1':(j:Int)<ts.length:=by omega
   have hgg:g≠w.heap.size:=by omega
   clear hcell hz
   go_enter Tryd.func12,Tryd.ntmps12
   go_wp2_with fail
   refine bodyPost_ret (v:= .agg #[.int .i64 z.kind,.bool z.truth,.int .i64 z.num,.string z.text]) (by simp [results,Tryd.results12,go_sem]) rfl ?_
   exact⟨by rw [hfin.out],hB.out _⟩
  ·have hfin:Hid (wAt ts j=z0g):=z6 (by unfold wAt;rw [if_neg (by omega)];simp [List.getElem?_eq_none (Nat.le_of_not_lt h1)])
   have h1': ¬(j:Int)<ts.length:=by omega
   go_enter Tryd.func12,Tryd.ntmps12
   go_wp2_with fail
   refine bodyPost_ret (v:= .agg #[.int .i64 0,.bool false,.int .i64 0,.string ⟨#[]⟩]) (by simp [results,Tryd.results12,go_sem]) rfl ?_
   exact⟨by rw [hfin.out];rfl,hB.out _⟩
def wOf (l:List (z6P×z6P))(x:Ex)(a b:Wt):Wt:=
 if x.form==0 then nsM x.text else if x.form==1 then z1A x.text else if x.form==2 then zB (x.text.toList==[116,114,117,101])
 else if x.form==3 then z1A (z1f x.text l) else if x.form==4 then nsM (z1f x.text l) else if x.form==5 then jh x.text a
 else if x.form==6 then zt x.text a b else if x.form==7 then a else z0g
theorem z2J (base:Nat)(l:List (z6P×z6P))(v:Value)(x:Ex)(a b:Wt)(w:World)(hl:w.ownsRow base 59 2 v l.length ((l.map zJ).flatten))(hlen:l.length≤100000)(hls: ∀p∈l,p.2.size≤600)(hx:x.text.size≤600)(ha:a.text.size≤400000000)(hb:b.text.size≤400000000):
  Calls Tryd.prog 24 #[.agg #[.int .i64 x.form,.int .i64 x.place,.string x.text,.int .i64 x.left,.int .i64 x.right],.agg #[.int .i64 a.kind,.bool a.truth,.int .i64 a.num,.string a.text],.agg #[.int .i64 b.kind,.bool b.truth,.int .i64 b.num,.string b.text],v] w fun e w'=>z0w (wOf l x a b) w e w':=by
 obtain⟨al,cl,rfl⟩:=zk hl
 have HL:=z6 (((((hl.alloc (.cells #[.int .i64 x.form,.int .i64 x.place,.string x.text,.int .i64 x.left,.int .i64 x.right] 55)).alloc (.cells #[.int .i64 a.kind,.bool a.truth,.int .i64 a.num,.string a.text] 49)).alloc (.cells #[.int .i64 b.kind,.bool b.truth,.int .i64 b.num,.string b.text] 49)).alloc (.cells #[.int .i64 0,.bool false,.int .i64 0,.string ⟨#[]⟩] 49)))
 have hvs:=z6 (z28 x.text 600 l hls)
 clear hl
 have HB0:Hid (Below w.heap.size w ((((w.alloc (.cells #[.int .i64 x.form,.int .i64 x.place,.string x.text,.int .i64 x.left,.int .i64 x.right] 55)).alloc (.cells #[.int .i64 a.kind,.bool a.truth,.int .i64 a.num,.string a.text] 49)).alloc (.cells #[.int .i64 b.kind,.bool b.truth,.int .i64 b.num,.string b.text] 49)).alloc (.cells #[.int .i64 0,.bool false,.int .i64 0,.string ⟨#[]⟩] 49))):=z6 (((((z6O w.heap.size w).alloc (z6E _) _).alloc (by simp<;>omega) _).alloc (by simp<;>omega) _).alloc (by simp<;>omega) _)
 have HX:Hid (((((w.alloc (.cells #[.int .i64 x.form,.int .i64 x.place,.string x.text,.int .i64 x.left,.int .i64 x.right] 55)).alloc (.cells #[.int .i64 a.kind,.bool a.truth,.int .i64 a.num,.string a.text] 49)).alloc (.cells #[.int .i64 b.kind,.bool b.truth,.int .i64 b.num,.string b.text] 49)).alloc (.cells #[.int .i64 0,.bool false,.int .i64 0,.string ⟨#[]⟩] 49)).heap[w.heap.size+1+1+1]?=some (.cells #[.int .i64 0,.bool false,.int .i64 0,.string ⟨#[]⟩] 49)):=z6 (by have q:=heap_alloc_new (((w.alloc (.cells #[.int .i64 x.form,.int .i64 x.place,.string x.text,.int .i64 x.left,.int .i64 x.right] 55)).alloc (.cells #[.int .i64 a.kind,.bool a.truth,.int .i64 a.num,.string a.text] 49)).alloc (.cells #[.int .i64 b.kind,.bool b.truth,.int .i64 b.num,.string b.text] 49)) (.cells #[.int .i64 0,.bool false,.int .i64 0,.string ⟨#[]⟩] 49);rw [show(((w.alloc (.cells #[.int .i64 x.form,.int .i64 x.place,.string x.text,.int .i64 x.left,.int .i64 x.right] 55)).alloc (.cells #[.int .i64 a.kind,.bool a.truth,.int .i64 a.num,.string a.text] 49)).alloc (.cells #[.int .i64 b.kind,.bool b.truth,.int .i64 b.num,.string b.text] 49)).heap.size=w.heap.size+1+1+1 by simp] at q;exact q)
 have HAb:Hid (((((w.alloc (.cells #[.int .i64 x.form,.int .i64 x.place,.string x.text,.int .i64 x.left,.int .i64 x.right] 55)).alloc (.cells #[.int .i64 a.kind,.bool a.truth,.int .i64 a.num,.string a.text] 49)).alloc (.cells #[.int .i64 b.kind,.bool b.truth,.int .i64 b.num,.string b.text] 49)).alloc (.cells #[.int .i64 0,.bool false,.int .i64 0,.string ⟨#[]⟩] 49)).heap[w.heap.size+1]?=some (.cells #[.int .i64 a.kind,.bool a.truth,.int .i64 a.num,.string a.text] 49)):=z6 ((z6G _ _ _ (by simp<;>omega)).trans ((z6G _ _ _ (by simp<;>omega)).trans (by have q:=heap_alloc_new (w.alloc (.cells #[.int .i64 x.form,.int .i64 x.place,.string x.text,.int .i64 x.left,.int .i64 x.right] 55)) (.cells #[.int .i64 a.kind,.bool a.truth,.int .i64 a.num,.string a.text] 49);rw [show(w.alloc (.cells #[.int .i64 x.form,.int .i64 x.place,.string x.text,.int .i64 x.left,.int .i64 x.right] 55)).heap.size=w.heap.size+1 by simp] at q;exact q)))
 have HZ:Hid (w.heap.size+1+1+1<((((w.alloc (.cells #[.int .i64 x.form,.int .i64 x.place,.string x.text,.int .i64 x.left,.int .i64 x.right] 55)).alloc (.cells #[.int .i64 a.kind,.bool a.truth,.int .i64 a.num,.string a.text] 49)).alloc (.cells #[.int .i64 b.kind,.bool b.truth,.int .i64 b.num,.string b.text] 49)).alloc (.cells #[.int .i64 0,.bool false,.int .i64 0,.string ⟨#[]⟩] 49)).heap.size):=z6 (by simp<;>omega)
 have HZ1:Hid (w.heap.size≤((((w.alloc (.cells #[.int .i64 x.form,.int .i64 x.place,.string x.text,.int .i64 x.left,.int .i64 x.right] 55)).alloc (.cells #[.int .i64 a.kind,.bool a.truth,.int .i64 a.num,.string a.text] 49)).alloc (.cells #[.int .i64 b.kind,.bool b.truth,.int .i64 b.num,.string b.text] 49)).alloc (.cells #[.int .i64 0,.bool false,.int .i64 0,.string ⟨#[]⟩] 49)).heap.size):=z6 (by simp<;>omega)
 have HG:Hid (w.heap.size≤w.heap.size+1+1+1):=z6 (by omega)
 cases f0:(x.form==0)
 case true=>
  have hres:Hid (wOf l x a b=nsM x.text):=z6 (by unfold wOf;rw [f0];rfl)
  have HC:=z6 (z03 x.text ((((w.alloc (.cells #[.int .i64 x.form,.int .i64 x.place,.string x.text,.int .i64 x.left,.int .i64 x.right] 55)).alloc (.cells #[.int .i64 a.kind,.bool a.truth,.int .i64 a.num,.string a.text] 49)).alloc (.cells #[.int .i64 b.kind,.bool b.truth,.int .i64 b.num,.string b.text] 49)).alloc (.cells #[.int .i64 0,.bool false,.int .i64 0,.string ⟨#[]⟩] 49)) hx)
  generalize hX:nsM x.text=X at*
  clear hX
  go_enter Tryd.func24,Tryd.ntmps24
  go_wp2_with fail
  refine HC.out.mono ?_
  rintro e w1 ⟨rfl,hB1⟩
  have hbx:=(hB1.block _ HZ.out).trans HX.out
  obtain⟨y0,y1,y2,y3,g0,g1,g2,g3⟩:=zG hbx
  obtain⟨z0,z1,z2,z3⟩:=zn hbx (.int .i64 X.kind) (.bool X.truth) (.int .i64 X.num) (.string X.text)
  have HB2:=z6 (zv (HB0.out.trans (hB1.mono HZ1.out)) HG.out (.int .i64 X.kind) (.bool X.truth) (.int .i64 X.num) (.string X.text))
  clear hbx hB1
  go_wp2_with fail
  refine bodyPost_ret (v:= .agg #[.int .i64 X.kind,.bool X.truth,.int .i64 X.num,.string X.text]) (by simp [results,Tryd.results24,go_sem,z0,z1,z2,z3]) rfl ?_
  exact⟨by rw [hres.out],HB2.out⟩
 cases f1:(x.form==1)
 case true=>
  have hres:Hid (wOf l x a b=z1A x.text):=z6 (by unfold wOf;rw [f0,f1];rfl)
  have HC:=z6 (jl x.text ((((w.alloc (.cells #[.int .i64 x.form,.int .i64 x.place,.string x.text,.int .i64 x.left,.int .i64 x.right] 55)).alloc (.cells #[.int .i64 a.kind,.bool a.truth,.int .i64 a.num,.string a.text] 49)).alloc (.cells #[.int .i64 b.kind,.bool b.truth,.int .i64 b.num,.string b.text] 49)).alloc (.cells #[.int .i64 0,.bool false,.int .i64 0,.string ⟨#[]⟩] 49)))
  generalize hX:z1A x.text=X at*
  clear hX
  go_enter Tryd.func24,Tryd.ntmps24
  go_wp2_with fail
  refine HC.out.mono ?_
  rintro e w1 ⟨rfl,hB1⟩
  have hbx:=(hB1.block _ HZ.out).trans HX.out
  obtain⟨y0,y1,y2,y3,g0,g1,g2,g3⟩:=zG hbx
  obtain⟨z0,z1,z2,z3⟩:=zn hbx (.int .i64 X.kind) (.bool X.truth) (.int .i64 X.num) (.string X.text)
  have HB2:=z6 (zv (HB0.out.trans (hB1.mono HZ1.out)) HG.out (.int .i64 X.kind) (.bool X.truth) (.int .i64 X.num) (.string X.text))
  clear hbx hB1
  go_wp2_with fail
  refine bodyPost_ret (v:= .agg #[.int .i64 X.kind,.bool X.truth,.int .i64 X.num,.string X.text]) (by simp [results,Tryd.results24,go_sem,z0,z1,z2,z3]) rfl ?_
  exact⟨by rw [hres.out],HB2.out⟩
 cases f2:(x.form==2)
 case true=>
  have hres:Hid (wOf l x a b=zB (x.text.toList==[116,114,117,101])):=z6 (by unfold wOf;rw [f0,f1,f2];rfl)
  have HC:=z6 (jL (x.text.toList==[116,114,117,101]) ((((w.alloc (.cells #[.int .i64 x.form,.int .i64 x.place,.string x.text,.int .i64 x.left,.int .i64 x.right] 55)).alloc (.cells #[.int .i64 a.kind,.bool a.truth,.int .i64 a.num,.string a.text] 49)).alloc (.cells #[.int .i64 b.kind,.bool b.truth,.int .i64 b.num,.string b.text] 49)).alloc (.cells #[.int .i64 0,.bool false,.int .i64 0,.string ⟨#[]⟩] 49)))
  generalize hX:zB (x.text.toList==[116,114,117,101])=X at*
  clear hX
  go_enter Tryd.func24,Tryd.ntmps24
  go_wp2_with fail
  refine HC.out.mono ?_
  rintro e w1 ⟨rfl,hB1⟩
  have hbx:=(hB1.block _ HZ.out).trans HX.out
  obtain⟨y0,y1,y2,y3,g0,g1,g2,g3⟩:=zG hbx
  obtain⟨z0,z1,z2,z3⟩:=zn hbx (.int .i64 X.kind) (.bool X.truth) (.int .i64 X.num) (.string X.text)
  have HB2:=z6 (zv (HB0.out.trans (hB1.mono HZ1.out)) HG.out (.int .i64 X.kind) (.bool X.truth) (.int .i64 X.num) (.string X.text))
  clear hbx hB1
  go_wp2_with fail
  refine bodyPost_ret (v:= .agg #[.int .i64 X.kind,.bool X.truth,.int .i64 X.num,.string X.text]) (by simp [results,Tryd.results24,go_sem,z0,z1,z2,z3]) rfl ?_
  exact⟨by rw [hres.out],HB2.out⟩
 cases f3:(x.form==3)
 case true=>
  have hres:Hid (wOf l x a b=z1A (z1f x.text l)):=z6 (by unfold wOf;rw [f0,f1,f2,f3];rfl)
  have HV:=z6 (z12 base l _ x.text ((((w.alloc (.cells #[.int .i64 x.form,.int .i64 x.place,.string x.text,.int .i64 x.left,.int .i64 x.right] 55)).alloc (.cells #[.int .i64 a.kind,.bool a.truth,.int .i64 a.num,.string a.text] 49)).alloc (.cells #[.int .i64 b.kind,.bool b.truth,.int .i64 b.num,.string b.text] 49)).alloc (.cells #[.int .i64 0,.bool false,.int .i64 0,.string ⟨#[]⟩] 49)) HL.out hlen)
  have HC:=z6 (jl (z1f x.text l) ((((w.alloc (.cells #[.int .i64 x.form,.int .i64 x.place,.string x.text,.int .i64 x.left,.int .i64 x.right] 55)).alloc (.cells #[.int .i64 a.kind,.bool a.truth,.int .i64 a.num,.string a.text] 49)).alloc (.cells #[.int .i64 b.kind,.bool b.truth,.int .i64 b.num,.string b.text] 49)).alloc (.cells #[.int .i64 0,.bool false,.int .i64 0,.string ⟨#[]⟩] 49)))
  generalize hX:z1A (z1f x.text l)=X at*
  clear hX
  generalize z1f x.text l=vv at*
  go_enter Tryd.func24,Tryd.ntmps24
  go_wp2_with fail
  refine HV.out.mono ?_
  rintro e w9 ⟨rfl,rfl⟩
  go_wp2_with fail
  refine HC.out.mono ?_
  rintro e w1 ⟨rfl,hB1⟩
  have hbx:=(hB1.block _ HZ.out).trans HX.out
  obtain⟨y0,y1,y2,y3,g0,g1,g2,g3⟩:=zG hbx
  obtain⟨z0,z1,z2,z3⟩:=zn hbx (.int .i64 X.kind) (.bool X.truth) (.int .i64 X.num) (.string X.text)
  have HB2:=z6 (zv (HB0.out.trans (hB1.mono HZ1.out)) HG.out (.int .i64 X.kind) (.bool X.truth) (.int .i64 X.num) (.string X.text))
  clear hbx hB1
  go_wp2_with fail
  refine bodyPost_ret (v:= .agg #[.int .i64 X.kind,.bool X.truth,.int .i64 X.num,.string X.text]) (by simp [results,Tryd.results24,go_sem,z0,z1,z2,z3]) rfl ?_
  exact⟨by rw [hres.out],HB2.out⟩
 cases f4:(x.form==4)
 case true=>
  have hres:Hid (wOf l x a b=nsM (z1f x.text l)):=z6 (by unfold wOf;rw [f0,f1,f2,f3,f4];rfl)
  have HV:=z6 (z12 base l _ x.text ((((w.alloc (.cells #[.int .i64 x.form,.int .i64 x.place,.string x.text,.int .i64 x.left,.int .i64 x.right] 55)).alloc (.cells #[.int .i64 a.kind,.bool a.truth,.int .i64 a.num,.string a.text] 49)).alloc (.cells #[.int .i64 b.kind,.bool b.truth,.int .i64 b.num,.string b.text] 49)).alloc (.cells #[.int .i64 0,.bool false,.int .i64 0,.string ⟨#[]⟩] 49)) HL.out hlen)
  have HC:=z6 (z03 (z1f x.text l) ((((w.alloc (.cells #[.int .i64 x.form,.int .i64 x.place,.string x.text,.int .i64 x.left,.int .i64 x.right] 55)).alloc (.cells #[.int .i64 a.kind,.bool a.truth,.int .i64 a.num,.string a.text] 49)).alloc (.cells #[.int .i64 b.kind,.bool b.truth,.int .i64 b.num,.string b.text] 49)).alloc (.cells #[.int .i64 0,.bool false,.int .i64 0,.string ⟨#[]⟩] 49)) hvs.out)
  generalize hX:nsM (z1f x.text l)=X at*
  clear hX
  generalize z1f x.text l=vv at*
  go_enter Tryd.func24,Tryd.ntmps24
  go_wp2_with fail
  refine HV.out.mono ?_
  rintro e w9 ⟨rfl,rfl⟩
  go_wp2_with fail
  refine HC.out.mono ?_
  rintro e w1 ⟨rfl,hB1⟩
  have hbx:=(hB1.block _ HZ.out).trans HX.out
  obtain⟨y0,y1,y2,y3,g0,g1,g2,g3⟩:=zG hbx
  obtain⟨z0,z1,z2,z3⟩:=zn hbx (.int .i64 X.kind) (.bool X.truth) (.int .i64 X.num) (.string X.text)
  have HB2:=z6 (zv (HB0.out.trans (hB1.mono HZ1.out)) HG.out (.int .i64 X.kind) (.bool X.truth) (.int .i64 X.num) (.string X.text))
  clear hbx hB1
  go_wp2_with fail
  refine bodyPost_ret (v:= .agg #[.int .i64 X.kind,.bool X.truth,.int .i64 X.num,.string X.text]) (by simp [results,Tryd.results24,go_sem,z0,z1,z2,z3]) rfl ?_
  exact⟨by rw [hres.out],HB2.out⟩
 cases f5:(x.form==5)
 case true=>
  have hres:Hid (wOf l x a b=jh x.text a):=z6 (by unfold wOf;rw [f0,f1,f2,f3,f4,f5];rfl)
  have HC:=z6 (z1c x.text a ((((w.alloc (.cells #[.int .i64 x.form,.int .i64 x.place,.string x.text,.int .i64 x.left,.int .i64 x.right] 55)).alloc (.cells #[.int .i64 a.kind,.bool a.truth,.int .i64 a.num,.string a.text] 49)).alloc (.cells #[.int .i64 b.kind,.bool b.truth,.int .i64 b.num,.string b.text] 49)).alloc (.cells #[.int .i64 0,.bool false,.int .i64 0,.string ⟨#[]⟩] 49)))
  generalize hX:jh x.text a=X at*
  clear hX
  go_enter Tryd.func24,Tryd.ntmps24
  go_wp2_with fail
  refine HC.out.mono ?_
  rintro e w1 ⟨rfl,hB1⟩
  have hbx:=(hB1.block _ HZ.out).trans HX.out
  obtain⟨y0,y1,y2,y3,g0,g1,g2,g3⟩:=zG hbx
  obtain⟨z0,z1,z2,z3⟩:=zn hbx (.int .i64 X.kind) (.bool X.truth) (.int .i64 X.num) (.string X.text)
  have HB2:=z6 (zv (HB0.out.trans (hB1.mono HZ1.out)) HG.out (.int .i64 X.kind) (.bool X.truth) (.int .i64 X.num) (.string X.text))
  clear hbx hB1
  go_wp2_with fail
  refine bodyPost_ret (v:= .agg #[.int .i64 X.kind,.bool X.truth,.int .i64 X.num,.string X.text]) (by simp [results,Tryd.results24,go_sem,z0,z1,z2,z3]) rfl ?_
  exact⟨by rw [hres.out],HB2.out⟩
 cases f6:(x.form==6)
 case true=>
  have hres:Hid (wOf l x a b=zt x.text a b):=z6 (by unfold wOf;rw [f0,f1,f2,f3,f4,f5,f6];rfl)
  have HC:=z6 (z1F x.text a b ((((w.alloc (.cells #[.int .i64 x.form,.int .i64 x.place,.string x.text,.int .i64 x.left,.int .i64 x.right] 55)).alloc (.cells #[.int .i64 a.kind,.bool a.truth,.int .i64 a.num,.string a.text] 49)).alloc (.cells #[.int .i64 b.kind,.bool b.truth,.int .i64 b.num,.string b.text] 49)).alloc (.cells #[.int .i64 0,.bool false,.int .i64 0,.string ⟨#[]⟩] 49)) ha hb)
  generalize hX:zt x.text a b=X at*
  clear hX
  go_enter Tryd.func24,Tryd.ntmps24
  go_wp2_with fail
  refine HC.out.mono ?_
  rintro e w1 ⟨rfl,hB1⟩
  have hbx:=(hB1.block _ HZ.out).trans HX.out
  obtain⟨y0,y1,y2,y3,g0,g1,g2,g3⟩:=zG hbx
  obtain⟨z0,z1,z2,z3⟩:=zn hbx (.int .i64 X.kind) (.bool X.truth) (.int .i64 X.num) (.string X.text)
  have HB2:=z6 (zv (HB0.out.trans (hB1.mono HZ1.out)) HG.out (.int .i64 X.kind) (.bool X.truth) (.int .i64 X.num) (.string X.text))
  clear hbx hB1
  go_wp2_with fail
  refine bodyPost_ret (v:= .agg #[.int .i64 X.kind,.bool X.truth,.int .i64 X.num,.string X.text]) (by simp [results,Tryd.results24,go_sem,z0,z1,z2,z3]) rfl ?_
  exact⟨by rw [hres.out],HB2.out⟩
 cases f7:(x.form==7)
 case true=>
  have hres:Hid (wOf l x a b=a):=z6 (by unfold wOf;rw [f0,f1,f2,f3,f4,f5,f6,f7];rfl)
  go_enter Tryd.func24,Tryd.ntmps24
  go_wp2_with fail
  refine bodyPost_ret (v:= .agg #[.int .i64 a.kind,.bool a.truth,.int .i64 a.num,.string a.text]) (by simp [results,Tryd.results24,go_sem]) rfl ?_
  refine⟨by rw [hres.out],?_⟩
  have q:=z6O w.heap.size w
  exact(((q.alloc (z6E _) _).alloc (by simp<;>omega) _).alloc (by simp<;>omega) _).alloc (by simp<;>omega) _
 have hres:Hid (wOf l x a b=z0g):=z6 (by unfold wOf;rw [f0,f1,f2,f3,f4,f5,f6,f7];rfl)
 go_enter Tryd.func24,Tryd.ntmps24
 go_wp2_with fail
 refine bodyPost_ret (v:= .agg #[.int .i64 0,.bool false,.int .i64 0,.string ⟨#[]⟩]) (by simp [results,Tryd.results24,go_sem]) rfl ?_
 exact⟨by rw [hres.out];rfl,HB0.out⟩
theorem z2a (l:List Int)(i:Nat):zf l (i:Int)=l.getD i 0:=by unfold zf;rw [if_neg (by omega)];simp
theorem z2l {l l':List Int}{i:Nat}:zf (l++l') (i:Int)=if i<l.length then zf l i else zf l' ((i - l.length:Nat):Int):=by
 rw [z2a,z2a,z2a]
 simp only [List.getD]
 split
 ·rename_i h;rw [List.getElem?_append_left h]
 ·rename_i h;rw [List.getElem?_append_right (by omega)]
theorem z4y {l:List Int}{i:Int}(h:i<0):zf l i=0:=by unfold zf;rw [if_pos h]
theorem z2E {p:Int→Bool}{s:z6P}{d:Bool}{r:Nat}(hr:p (pk s r d)=false): ∀k a,a≤r→r≤a+k→(∀j,a≤j→j<r→p (pk s j d)=true)→run p s d k a=r:=by
 intro k
 induction k with
 |zero=>
   intro a h1 h2 _;have:a=r:=by omega
   subst this;rfl
 |succ k ih=>
  intro a h1 h2 h3
  unfold run
  by_cases hc:a=r
  ·subst hc;rw [if_neg (by simp [hr])]
  ·rw [if_pos (h3 a (z6E _) (by omega))]
   exact ih (a+1) (by omega) (by omega) fun j q1 q2=>h3 j (by omega) q2
theorem z4p (t:z6P):pk t t.size false= -1:=by simp [pk]
theorem z6r {t:z6P}(h0:zP t<t.size)(h9:t.size≤zP t+9)(hd: ∀i,zP t+i<t.size→zc (pk t (zP t+i) false)=true)(hz:pk t (zP t) false=48→ ¬zP t+1<t.size∧z3o t=false):
  nsM t=jo (if z3o t then - z0v (t.extract (zP t) t.size).toList else z0v (t.extract (zP t) t.size).toList):=by
 have hdd: ∀j,zP t≤j→j<t.size→zc (pk t j false)=true:=fun j h1 h2=>by
  have:=hd (j - zP t) (by omega)
  rwa [show zP t+(j - zP t)=j by omega] at this
 have hr:run zc t false (if pk t (zP t) false==48 then 1 else 9) (zP t)=t.size:=by
  refine z2E (by rw [z4p];rfl) _ _ (by omega) ?_ hdd
  cases hq:(pk t (zP t) false==48) with
  |true=>have:=hz (by simpa using hq);simp;omega
  |false=>simp;omega
 have hb:zp t (zP t) false=(t.size,false,t.extract (zP t) t.size):=jH hr (by omega) (by rw [z4p];rfl)
 unfold nsM
 rw [hb]
 simp only
 have h1:z1g t t.size false=false:=by simp [z1g]
 have h2:(z3o t&&(t.extract (zP t) t.size).toList==[48])=false:=by
  cases hn:z3o t with
  |false=>rfl
  |true=>
   cases hq:((t.extract (zP t) t.size).toList==[48]) with
   |false=>rfl
   |true=>
    have e1:(t.extract (zP t) t.size).toList=[48]:=by simpa using hq
    have hl:t.size=zP t+1:=by
     have:=congrArg List.length e1
     rw [z31] at this
     simp at this
     have hsz:t.data.size=t.size:=rfl
     omega
    rw [hl] at hq
    rw [z6v (s:=t) (p:=zP t) 48 (by omega)] at hq
    have:=hz (by simpa using hq)
    rw [hn] at this
    cases this.2
 rw [h1,h2];rfl
def zb (l:List (z6P×z6P)):List Ex→List Wt→List Wt
 |[],ws=>ws
 |x::xs,ws=>zb l xs (ws++[wOf l x (wAt ws x.left) (wAt ws x.right)])
theorem zV (l:List (z6P×z6P)): ∀(xs ys:List Ex) (ws:List Wt),zb l (xs++ys) ws=zb l ys (zb l xs ws):=by
 intro xs
 induction xs with
 |nil=>intro ys ws;rfl
 |cons x xs ih=>intro ys ws;exact ih ys _
theorem zE (l:List (z6P×z6P)): ∀(xs:List Ex) (ws:List Wt),(zb l xs ws).length=ws.length+xs.length:=by
 intro xs
 induction xs with
 |nil=>intro ws;rfl
 |cons x xs ih=>intro ws;unfold zb;rw [ih];simp;omega
theorem jt (l:List (z6P×z6P)): ∀(xs:List Ex) (ws:List Wt),∃us,zb l xs ws=ws++us:=by
 intro xs
 induction xs with
 |nil=>intro ws;exact⟨[],by simp [zb]⟩
 |cons x xs ih=>
  intro ws
  obtain⟨us,h⟩:=ih (ws++[wOf l x (wAt ws x.left) (wAt ws x.right)])
  exact⟨_,by unfold zb;rw [h,List.append_assoc]⟩
theorem z0I (l:List (z6P×z6P)){E:List Ex}{i:Nat}{x:Ex}(h:E[i]?=some x):
  zb l (E.take (i+1)) []=zb l (E.take i) []++[wOf l x (wAt (zb l (E.take i) []) x.left) (wAt (zb l (E.take i) []) x.right)]:=by
 rw [List.take_add_one,h,zV]
 rfl
theorem z2N (l:List (z6P×z6P))(E:List Ex)(i:Nat): ∀x∈zb l (E.take i) [],x∈zb l E []:=by
 intro x hx
 obtain⟨us,h⟩:=jt l (E.drop i) (zb l (E.take i) [])
 rw [←zV,List.take_append_drop] at h
 rw [h]
 exact List.mem_append_left _ hx
theorem z21 (ws:List Wt)(i:Int):wAt ws i=z0g∨wAt ws i∈ws:=by
 unfold wAt
 split
 ·exact .inl rfl
 ·by_cases h:i.toNat<ws.length
  ·exact .inr (by simp [List.getD,h])
  ·exact .inl (by simp [List.getElem?_eq_none (Nat.le_of_not_lt h)])
theorem z2W {ws:List Wt}{m:Nat}(h: ∀x∈ws,x.text.size≤m)(i:Int):(wAt ws i).text.size≤m:=by
 rcases z21 ws i with e|e
 ·rw [e];exact z6L _
 ·exact h _ e
theorem info49:(Tryd.prog.info? 49).map (fun i=>(i.zero,i.size,i.bytes))=some (some (.agg #[.int .i64 0,.bool false,.int .i64 0,.string ⟨#[]⟩]),4,40):=by kernel_rfl
def z5L (W:List Wt)(w:World)(e:Ending)(w':World):Prop:= ∃v,e= .returned v∧w'.ownsRow w.heap.size 49 4 v W.length ((W.map Wt.cells).flatten)∧Below w.heap.size w w'
theorem z38 (base b o lb:Nat)(E:List Ex)(v5:Value)(l:List (z6P×z6P))(lv:Value)(w:World)(hc:w.cell? ⟨b,o+2,none⟩=some v5)(how:w.ownsRow base 55 5 v5 E.length ((E.map Ex.cells).flatten))(hlen:E.length≤100000)
  (hl:w.ownsRow lb 59 2 lv l.length ((l.map zJ).flatten)) (hll:l.length≤100000) (hls: ∀p∈l,p.2.size≤600) (hE: ∀x∈E,x.text.size≤600) (hW: ∀x∈zb l E [],x.text.size≤100000000):
  Calls Tryd.prog 11 #[.pointer (some ⟨b,o,none⟩),lv] w fun e w'=>z5L (zb l E []) w e w':=by
 obtain⟨a5,k5,rfl⟩:=zk how
 obtain⟨al,kl,rfl⟩:=zk hl
 have hblt:=zC hc
 obtain⟨i0,hi,hz0,hz1,hz2⟩:=info_parts info49
 have hmade:=World.ownsRow_made (base:=w.heap.size) (e:=49) (size:=4) w #[] 0 (z6E _) (by decide) (by simp)
 have hB0:Below w.heap.size w (w.alloc (.cells #[] 49)):=(z6O _ _).alloc (z6E _) _
 have HM:=z6 hmade
 have HB0:=z6 hB0
 have HW:=z6 how
 have HL:=z6 hl
 have HS:=z6 (z6F hE hW)
 clear hmade hB0 how hl hE hW
 go_enter Tryd.func11,Tryd.ntmps11
 go_wp2_with fail
 go_loopg [5,6] (E.length+1) (fun k tv iv wr=> ∃(i:Nat),k+i=E.length+1∧i≤E.length∧iv= .int .i64 i∧Hid (wr.ownsRow w.heap.size 49 4 tv i (((zb l (E.take i) []).map Wt.cells).flatten))∧Below w.heap.size w wr)
 case atStart=>exact⟨0,rfl,z6L _,rfl,z6 HM.out,HB0.out⟩
 case round=>
  obtain⟨i,hk,hiE,rfl,HOWN,hbel⟩:=hrel
  have hc':wr.cell? ⟨b,o+2,none⟩=some (.slice a5 E.length k5):=(hbel.cell (p:=⟨b,o+2,none⟩) hblt).trans hc
  have hHK:=z6 hk
  clear hk
  obtain⟨ag,kg,rfl⟩:=zk HOWN.out
  by_cases hlt:i<E.length
  ·obtain⟨g,cap,hv,hb,hg⟩:=HW.out.form (by omega)
   injection hv with e1 e2 e3
   subst e1 e3
   obtain⟨x,hx⟩: ∃x,E[i]?=some x:=⟨E[i],z6B hlt⟩
   have hcell: ∀j u,x.cells[j]?=some u→j<5→wr.cell? ⟨g,i*5+j,none⟩=some u:=fun j u hu hj=>by
    rw [hbel.cell (p:=⟨g,i*5+j,none⟩) hg]
    exact jW HW.out _ _ ((z0s Ex.cells 5 Ex.cells_len E i j x hx hj).trans hu)
   have q0:wr.cell? ⟨g,i*5,none⟩=some (.int .i64 x.form):=hcell 0 _ rfl (by omega)
   have q1:=hcell 1 _ rfl (by omega)
   have q2:=hcell 2 _ rfl (by omega)
   have q3:=hcell 3 _ rfl (by omega)
   have q4:=hcell 4 _ rfl (by omega)
   have hlt':(i:Int)<E.length:=by omega
   have hst:=z6 (z0I l hx)
   have hxs:=HS.out.1 x (z6J hx)
   have hus: ∀y∈zb l (E.take i) [],y.text.size≤100000000:=fun y hy=>HS.out.2 y (z2N l E i y hy)
   have hul:(zb l (E.take i) []).length=i:=by rw [zE];simp;omega
   have HUL:=z6 hul
   have hsl:=z2W hus x.left
   have hsr:=z2W hus x.right
   clear hul hus hx hcell
   generalize zb l (E.take i) []=U at*
   have hsz:=z6 hbel.size
   have hB1:=z6 (hbel.alloc hbel.size (.cells #[.int .i64 x.form,.int .i64 x.place,.string x.text,.int .i64 x.left,.int .i64 x.right] 55))
   have hown0:wr.ownsRow w.heap.size 49 4 (.slice ag i kg) U.length ((U.map Wt.cells).flatten):=by rw [HUL.out];exact HOWN.out
   have hown1:=z6 (hown0.alloc (.cells #[.int .i64 x.form,.int .i64 x.place,.string x.text,.int .i64 x.left,.int .i64 x.right] 55))
   have hl1:=z6 ((ze HL.out fun k e=>hbel.block k (HL.out.lt k e).2).alloc (.cells #[.int .i64 x.form,.int .i64 x.place,.string x.text,.int .i64 x.left,.int .i64 x.right] 55))
   have hwl:=z6 hbel
   clear hbel hown0
   have hbx0:=z6 (heap_alloc_new wr (.cells #[.int .i64 x.form,.int .i64 x.place,.string x.text,.int .i64 x.left,.int .i64 x.right] 55))
   go_wp2_with fail
   refine(jF w.heap.size U _ _ _ hown1.out (by have:=HUL.out;omega)).mono ?_
   rintro e w1 ⟨rfl,hb1⟩
   generalize wAt U x.left=A at*
   have hs1:wr.heap.size+1≤w1.heap.size:=by have:=hb1.size;simpa using this
   have hbx1:=(hb1.block wr.heap.size (by simp)).trans hbx0.out
   have p3:w1.cell? ⟨wr.heap.size,3,none⟩=some (.int .i64 x.left):=by simp [World.cell?,hbx1]
   have hbx1':(w1.alloc (.cells #[.int .i64 A.kind,.bool A.truth,.int .i64 A.num,.string A.text] 49)).heap[wr.heap.size]?=_:=(z6G _ _ _ (by omega)).trans hbx1
   have p4':(w1.alloc (.cells #[.int .i64 A.kind,.bool A.truth,.int .i64 A.num,.string A.text] 49)).cell? ⟨wr.heap.size,4,none⟩=some (.int .i64 x.right):=by simp only [World.cell?,hbx1'];rfl
   have hn1:wr.heap.size≠w1.heap.size:=by omega
   have p4:w1.cell? ⟨wr.heap.size,4,none⟩=some (.int .i64 x.right):=by simp [World.cell?,hbx1]
   clear hbx1'
   have hown2:=z6 ((ze hown1.out fun k e=>hb1.block k (hown1.out.lt k e).2).alloc (.cells #[.int .i64 A.kind,.bool A.truth,.int .i64 A.num,.string A.text] 49))
   have hl2:=z6 ((ze hl1.out fun k e=>hb1.block k (hl1.out.lt k e).2).alloc (.cells #[.int .i64 A.kind,.bool A.truth,.int .i64 A.num,.string A.text] 49))
   have hB2:=z6 ((hB1.out.trans (hb1.mono (by simp;have:=hsz.out;omega))).alloc (by have:=hsz.out;omega) (.cells #[.int .i64 A.kind,.bool A.truth,.int .i64 A.num,.string A.text] 49))
   have HBX1:=z6 hbx1
   have hA2:=z6 (heap_alloc_new w1 (.cells #[.int .i64 A.kind,.bool A.truth,.int .i64 A.num,.string A.text] 49))
   clear hb1 hbx1 hbx0
   go_wp2_with fail
   refine(jF w.heap.size U _ _ _ hown2.out (by have:=HUL.out;omega)).mono ?_
   rintro e w2 ⟨rfl,hb2⟩
   generalize wAt U x.right=B at*
   have hs2:w1.heap.size+1≤w2.heap.size:=by have:=hb2.size;simpa using this
   have hbx2:w2.heap[wr.heap.size]?=_:=(hb2.block wr.heap.size (by simp;omega)).trans ((z6G _ _ _ (by omega)).trans HBX1.out)
   have hA3:w2.heap[w1.heap.size]?=_:=(hb2.block w1.heap.size (by simp)).trans hA2.out
   have hbx2':(w2.alloc (.cells #[.int .i64 B.kind,.bool B.truth,.int .i64 B.num,.string B.text] 49)).heap[wr.heap.size]?=_:=(z6G _ _ _ (by omega)).trans hbx2
   have hA3':(w2.alloc (.cells #[.int .i64 B.kind,.bool B.truth,.int .i64 B.num,.string B.text] 49)).heap[w1.heap.size]?=_:=(z6G _ _ _ (by omega)).trans hA3
   have r0:(w2.alloc (.cells #[.int .i64 B.kind,.bool B.truth,.int .i64 B.num,.string B.text] 49)).cell? ⟨wr.heap.size,0,none⟩=some (.int .i64 x.form):=by simp only [World.cell?,hbx2'];rfl
   have r1:(w2.alloc (.cells #[.int .i64 B.kind,.bool B.truth,.int .i64 B.num,.string B.text] 49)).cell? ⟨wr.heap.size,1,none⟩=some (.int .i64 x.place):=by simp only [World.cell?,hbx2'];rfl
   have r2:(w2.alloc (.cells #[.int .i64 B.kind,.bool B.truth,.int .i64 B.num,.string B.text] 49)).cell? ⟨wr.heap.size,2,none⟩=some (.string x.text):=by simp only [World.cell?,hbx2'];rfl
   have r3:(w2.alloc (.cells #[.int .i64 B.kind,.bool B.truth,.int .i64 B.num,.string B.text] 49)).cell? ⟨wr.heap.size,3,none⟩=some (.int .i64 x.left):=by simp only [World.cell?,hbx2'];rfl
   have r4:(w2.alloc (.cells #[.int .i64 B.kind,.bool B.truth,.int .i64 B.num,.string B.text] 49)).cell? ⟨wr.heap.size,4,none⟩=some (.int .i64 x.right):=by simp only [World.cell?,hbx2'];rfl
   obtain⟨s0,s1,s2,s3,_,_,_,_⟩:=zG hA3'
   clear hbx2' hA3'
   have hn2:wr.heap.size≠w2.heap.size:=by omega
   have hn3:w1.heap.size≠w2.heap.size:=by omega
   clear p4'
   have hown3:=z6 ((ze hown2.out fun k e=>hb2.block k (hown2.out.lt k e).2).alloc (.cells #[.int .i64 B.kind,.bool B.truth,.int .i64 B.num,.string B.text] 49))
   have hl3:=z6 ((ze hl2.out fun k e=>hb2.block k (hl2.out.lt k e).2).alloc (.cells #[.int .i64 B.kind,.bool B.truth,.int .i64 B.num,.string B.text] 49))
   have hB3:=z6 ((hB2.out.trans (hb2.mono (by simp;have:=hsz.out;omega))).alloc (by have:=hsz.out;omega) (.cells #[.int .i64 B.kind,.bool B.truth,.int .i64 B.num,.string B.text] 49))
   clear hb2 hbx2 hA3
   go_wp2_with fail
   refine(z2J lb l _ x A B _ hl3.out hll hls hxs (by omega) (by omega)).mono ?_
   rintro e w3 ⟨rfl,hb3⟩
   have hs3:w2.heap.size+1≤w3.heap.size:=by have:=hb3.size;simpa using this
   generalize wOf l x A B=O at*
   have hown4:=ze hown3.out fun k e=>hb3.block k (hown3.out.lt k e).2
   rw [HUL.out] at hown4
   have HB4:=z6 (hB3.out.trans (hb3.mono (by simp;have:=hsz.out;omega)))
   have hw4:w.heap.size≤w3.heap.size:=by have:=hsz.out;omega
   have hl100:i≤100000:=by omega
   clear hb3
   go_wp2_with (at_builtin;go_must (refine wpList_append_lies _ rfl (.tmp 41) (.tmp 43) 46 rfl w.heap.size 49 i0 _ 4 40 Tryd.underlying46 hi hz0 hz1 hz2 rfl (by omega) _ i _ rfl ((hown4.alloc _).alloc _) ⟨w3.heap.size+1,0,none⟩ 1 1 (Wt.cells O) rfl rfl ?news ?one (by omega) ?mm ?bys ?base (w3.heap.size+2) (by simp) ?rest))
   case news=>exact z1T _ _ (by simp) #[.int .i64 O.kind,.bool O.truth,.int .i64 O.num,.string O.text] 49
   case one=>intro u hu;simp [Wt.cells] at hu;rcases hu with rfl|rfl|rfl|rfl<;>rfl
   case mm=>unfold maxLen;omega
   case bys=>omega
   case base=>simp;omega
   case rest=>
    intro gb cap w4 hown5 hgrow hat hlt2
    have hB5:=z6 (Below.grown ((HB4.out.alloc hw4 _).alloc (by simp;omega) _) hgrow (by simp;omega) fun k e=>(hown4.lt k e).1)
    have hown6:Hid (w4.ownsRow w.heap.size 49 4 (.slice (some ⟨gb,0,none⟩) (i+1) cap) (i+1) (((zb l (E.take (i+1)) []).map Wt.cells).flatten)):=z6 (by rw [hst.out];simpa using hown5)
    clear hown5 hgrow hat
    go_wp2_with fail
    have hk:=hHK.out
    go_roundg (E.length - i)
    case measure=>omega
    case rel=>exact⟨i+1,by omega,by omega,by go_num,hown6,hB5.out⟩
  ·have hlt': ¬(i:Int)<E.length:=by omega
   have hiE':i=E.length:=by omega
   have hfin:wr.ownsRow w.heap.size 49 4 (.slice ag i kg) (zb l E []).length (((zb l E []).map Wt.cells).flatten):=by
    have hq:=HOWN.out
    rw [zE]
    rw [hiE',List.take_length] at hq
    simpa [hiE'] using hq
   have HF:=z6 hfin
   have HBE:=z6 hbel
   clear hfin hiE' hbel
   go_wp2_with fail
   go_ret
   exact⟨_,rfl,HF.out,HBE.out⟩
theorem z0G (l:List (z6P×z6P))(E:List Ex)(i:Nat)(hi:i≤E.length):(zb l E []).take i=zb l (E.take i) []:=by
 obtain⟨us,h⟩:=jt l (E.drop i) (zb l (E.take i) [])
 rw [←zV,List.take_append_drop] at h
 rw [h]
 have hl:(zb l (E.take i) []).length=i:=by rw [zE];simp;omega
 rw [List.take_append_of_le_length (by omega),List.take_of_length_le (by omega)]
theorem z4O (l:List (z6P×z6P)){E:List Ex}{i:Nat}{x:Ex}(h:E[i]?=some x):
  wAt (zb l E []) i=wOf l x (wAt (zb l (E.take i) []) x.left) (wAt (zb l (E.take i) []) x.right):=by
 have hi:=(z6C.1 h).1
 have h1:=z0G l E (i+1) (by omega)
 rw [z0I l h] at h1
 have hl:(zb l (E.take i) []).length=i:=by rw [zE];simp;omega
 have h2:(zb l E [])[i]?=some (wOf l x (wAt (zb l (E.take i) []) x.left) (wAt (zb l (E.take i) []) x.right)):=by
  have h3:((zb l E []).take (i+1))[i]?=(zb l E [])[i]?:=List.getElem?_take_of_lt (by omega)
  rw [←h3,h1,List.getElem?_append_right (by omega),hl]
  simp
 generalize wOf l x (wAt (zb l (E.take i) []) x.left) (wAt (zb l (E.take i) []) x.right)=R at h2 ⊢
 unfold wAt
 rw [if_neg (by omega)]
 simp [List.getD,h2]
theorem z1N (l:List (z6P×z6P))(E:List Ex){i j:Nat}(hi:i≤E.length)(hj:j<i):wAt (zb l (E.take i) []) (j:Int)=wAt (zb l E []) (j:Int):=by
 rw [←z0G l E i hi]
 unfold wAt
 rw [if_neg (by omega),if_neg (by omega)]
 simp only [List.getD]
 rw [show((j:Int)).toNat=j by omega,List.getElem?_take_of_lt hj]
def Rng (E:List Ex):Nat→Nat→Nat→Prop
 |0,_,_=>False
 |f+1,a,i=> ∃x,E[i]?=some x∧((0≤x.form∧x.form≤4∧a=i)∨(x.form=5∧ ∃j:Nat,i=j+1∧x.left=(j:Int)∧Rng E f a j)∨
   (x.form=6∧ ∃j k:Nat,i=k+1∧x.left=(j:Int)∧x.right=(k:Int)∧Rng E f a j∧Rng E f (j+1) k))
theorem Rng.le {E:List Ex}: ∀{f a i:Nat},Rng E f a i→a≤i:=by
 intro f
 induction f with
 |zero=>intro a i h;exact absurd h id
 |succ f ih=>
  intro a i h
  obtain⟨x,hx,h⟩:=h
  rcases h with⟨_,_,h⟩|⟨_,j,h2,_,h5⟩|⟨_,j,k,h2,_,_,h6,h7⟩
  ·omega
  ·have:=ih h5;omega
  ·have:=ih h6;have:=ih h7;omega
theorem Rng.sub {E:List Ex}: ∀{f a i:Nat},Rng E f a i→ ∀p,a≤p→p≤i→ ∃f' a',Rng E f' a' p:=by
 intro f
 induction f with
 |zero=>intro a i h;exact absurd h id
 |succ f ih=>
  intro a i h p h1 h2
  by_cases hp:p=i
  ·exact⟨f+1,a,hp▸h⟩
  ·obtain⟨x,hx,h⟩:=h
   rcases h with⟨_,_,h⟩|⟨_,j,q2,_,q5⟩|⟨_,j,k,q2,_,_,q6,q7⟩
   ·omega
   ·exact ih q5 p h1 (by omega)
   ·by_cases hj:p≤j
    ·exact ih q6 p h1 hj
    ·exact ih q7 p (by omega) (by omega)
theorem z0U (n:Int):(jo n).text.size=0:=by unfold jo;split<;>rfl
theorem z2Z (t:z6P):(nsM t).text.size=0:=by
 unfold nsM
 simp only
 split
 ·rfl
 ·exact z0U _
theorem z3m (t:z6P)(a b:Int):(zF t a b).text.size=0:=by
 unfold zF
 repeat' split
 all_goals first|exact z0U _|rfl
theorem z3a (t:z6P)(x y:Wt):(zt t x y).text.size≤x.text.size+y.text.size:=by
 unfold zt
 repeat' split
 all_goals first|omega|(rw [z3m];omega)|(show(x.text++y.text).size≤_;rw [ByteArray.size_append];omega)|(show(0:Nat)≤_;omega)
theorem z39 (t:z6P)(x:Wt):(jh t x).text.size≤x.text.size:=by
 unfold jh
 repeat' split
 all_goals first|omega|(rw [z0U];omega)|(show(0:Nat)≤_;omega)
theorem Rng.size {E:List Ex}(l:List (z6P×z6P))(hls: ∀p∈l,p.2.size≤600)(hE: ∀x∈E,x.text.size≤600): ∀{f a i:Nat},Rng E f a i→(wAt (zb l E []) i).text.size≤600*(i+1 - a):=by
 intro f
 induction f with
 |zero=>intro a i h;exact absurd h id
 |succ f ih=>
  intro a i h
  obtain⟨x,hx,h⟩:=h
  have hi:=(z6C.1 hx).1
  have hxs:=hE x (z6J hx)
  have hvs:=z28 x.text 600 l hls
  rw [z4O l hx]
  rcases h with⟨h0,h4,h⟩|⟨hf,j,h2,h3,h5⟩|⟨hf,j,k,h2,h3,h4,h6,h7⟩
  ·subst h
   rw [show 600*(a+1 - a)=600 by omega]
   have hc:x.form=0∨x.form=1∨x.form=2∨x.form=3∨x.form=4:=by omega
   unfold wOf
   rcases hc with e|e|e|e|e
   ·rw [e];show(nsM x.text).text.size≤600;rw [z2Z];omega
   ·rw [e];exact hxs
   ·rw [e];exact z6L _
   ·rw [e];exact hvs
   ·rw [e];show(nsM (z1f x.text l)).text.size≤600;rw [z2Z];omega
  ·have e: ∀a b,wOf l x a b=jh x.text a:=fun a b=>by unfold wOf;rw [hf];rfl
   rw [e,h3,z1N l E (by omega) (by omega)]
   have:=z39 x.text (wAt (zb l E []) (j:Int))
   have:=ih h5
   have:=h5.le
   omega
  ·have e: ∀a b,wOf l x a b=zt x.text a b:=fun a b=>by unfold wOf;rw [hf];rfl
   have hjk:=h7.le
   rw [e,h3,h4,z1N l E (by omega) (by omega),z1N l E (by omega) (by omega)]
   have:=z3a x.text (wAt (zb l E []) (j:Int)) (wAt (zb l E []) (k:Int))
   have:=ih h6
   have:=ih h7
   have:=h6.le
   omega
def jy (x:Wt):Prop:= -999999999≤x.num∧x.num≤999999999
theorem z2C (n:Int):jy (jo n):=by
 unfold jo
 split
 ·exact⟨by decide,by decide⟩
 ·constructor<;>simp only<;>omega
theorem z1G:jy z0g:=⟨by decide,by decide⟩
theorem z1L (b:Bool):jy (zB b):=by show(-999999999:Int)≤0∧(0:Int)≤999999999;omega
theorem z2G (t:z6P):jy (z1A t):=by show(-999999999:Int)≤0∧(0:Int)≤999999999;omega
theorem z4o (t:z6P):jy (nsM t):=by
 unfold nsM
 simp only
 split
 ·exact z1G
 ·exact z2C _
theorem z49 (t:z6P)(a b:Int):jy (zF t a b):=by
 unfold zF
 repeat' split
 all_goals first|exact z2C _|exact z1G
theorem j5 {c:Prop} [Decidable c]{a b:Wt}(ha:jy a)(hb:jy b):jy (if c then a else b):=by
 split
 ·exact ha
 ·exact hb
theorem z44 (t:z6P){a b:Wt}(ha:jy a)(hb:jy b):jy (zt t a b):=
 j5 ha (j5 (j5 ha hb) (j5 (j5 ha hb) (j5 hb (j5 (z49 _ _ _) (j5 (z2G _) (z1L _))))))
theorem z47 (t:z6P){a:Wt}(ha:jy a):jy (jh t a):=j5 ha (j5 (z1L _) (z2C _))
theorem z5N (l:List (z6P×z6P))(x:Ex){a b:Wt}(ha:jy a)(hb:jy b):jy (wOf l x a b):=
 j5 (z4o _) (j5 (z2G _) (j5 (z1L _) (j5 (z2G _) (j5 (z4o _) (j5 (z47 _ ha) (j5 (z44 _ ha hb) (j5 ha z1G)))))))
theorem z3l (l:List (z6P×z6P)): ∀(xs:List Ex) (ws:List Wt),(∀y∈ws,jy y)→ ∀y∈zb l xs ws,jy y:=by
 intro xs
 induction xs with
 |nil=>intro ws h;exact h
 |cons x xs ih=>
  intro ws h
  have hat: ∀i,jy (wAt ws i):=fun i=>by
   rcases z21 ws i with q|q
   ·rw [q];exact z1G
   ·exact h _ q
  refine ih _ fun y hy=> ?_
  rcases List.mem_append.1 hy with q|q
  ·exact h y q
  ·simp at q;subst q;exact z5N l x (hat _) (hat _)
theorem z4Q {ws:List Wt}{y:Wt}(h:y∈ws): ∃p:Nat,p<ws.length∧y=wAt ws (p:Int):=by
 obtain⟨p,hp,rfl⟩:=List.getElem_of_mem h
 refine⟨p,hp,?_⟩
 unfold wAt
 rw [if_neg (by omega)]
 simp [List.getD,hp]
theorem z0F {E:List Ex}(l:List (z6P×z6P))(hls: ∀p∈l,p.2.size≤600)(hE: ∀x∈E,x.text.size≤600)(hlen:E.length≤100000)(hsz: ∀p:Nat,p<E.length→(wAt (zb l E []) (p:Int)).text.size≤600*(p+1)):
  ∀x∈zb l E [],x.text.size≤100000000∧ -999999999≤x.num∧x.num≤999999999:=by
 intro y hy
 refine⟨?_,z3l l E [] (fun y h=>by cases h) y hy⟩
 obtain⟨p,hp,rfl⟩:=z4Q hy
 rw [zE] at hp
 simp at hp
 have:=hsz p hp
 omega
def st1 (s:z6P):St:={st0 with at_:=skip s 0 false}
def z63 (s:z6P)(w:World)(r:Int)(st':St)(e:Ending)(w':World):Prop:= ∃V iv cv,e= .returned (.tuple #[.agg #[.string s,.int .i64 st'.at_,.bool (z1g s st'.at_ st'.bad),V 3,V 4,V 5,V 6],.int .i64 r])∧TreeV w' w.heap.size st' V iv cv∧Below w.heap.size w w'
theorem TreeV.re {w:World}{base:Nat}{st:St}{V:Nat→Value}{iv cv:List Value}(a:Nat)(d:Bool)(h:TreeV w base {at_:=a,bad:=d,A:=st.A,L:=st.L,E:=st.E,C:=st.C} V iv cv):TreeV w base st V iv cv:=⟨h.own,h.il,h.cl,h.items,h.clauses⟩
theorem z24 (s:z6P)(n:Nat)(r:Int)(st':St)(w:World)(hM:M s n 0 0 (st1 s)=some (r,st'))(hs:s.size≤600):
  Calls Tryd.prog 8 #[.string s] w fun e w'=>z63 s w r st' e w':=by
 have HM:=z6 hM
 clear hM
 have hg0:((w.alloc (.cells z2R 39)).alloc (.cells #[.string s,.int .i64 0,.bool false,.slice none 0 0,.slice none 0 0,.slice none 0 0,.slice none 0 0] 39)).heap[w.heap.size+1]?=some (.cells #[.string s,.int .i64 0,.bool false,.slice none 0 0,.slice none 0 0,.slice none 0 0,.slice none 0 0] 39):=by
  have h:=heap_alloc_new (w.alloc (.cells z2R 39)) (.cells #[.string s,.int .i64 0,.bool false,.slice none 0 0,.slice none 0 0,.slice none 0 0,.slice none 0 0] 39)
  simp only [World.alloc,Array.size_push] at h
  exact h
 have hI0:Inv (fun k=>k≤w.heap.size) ((w.alloc (.cells z2R 39)).alloc (.cells #[.string s,.int .i64 0,.bool false,.slice none 0 0,.slice none 0 0,.slice none 0 0,.slice none 0 0] 39)) (w.heap.size+1) s st0:=z3R hs (by omega) hg0
 have hb0:((w.alloc (.cells z2R 39)).alloc (.cells #[.string s,.int .i64 0,.bool false,.slice none 0 0,.slice none 0 0,.slice none 0 0,.slice none 0 0] 39)).heap[w.heap.size]?=some (.cells z2R 39):=by
  rw [z6G _ _ _ (by simp)]
  exact heap_alloc_new w _
 have hF0:Fr (fun k=>k<w.heap.size) w ((w.alloc (.cells z2R 39)).alloc (.cells #[.string s,.int .i64 0,.bool false,.slice none 0 0,.slice none 0 0,.slice none 0 0,.slice none 0 0] 39)):=
  ((Fr.refl _ w).alloc (fun k h=>h) _).alloc (fun k h=>by have h:k<w.heap.size:=h;simp;omega) _
 unfold z2R at hI0 hb0 hF0
 have HH:=z6 (z6F hI0 (z6F hb0 hF0))
 clear hI0 hb0 hF0 hg0
 go_enter Tryd.func8,Tryd.ntmps8
 go_wp2_with fail
 obtain⟨hI0,hb0,hF0⟩:=HH.out
 clear HH
 generalize ((w.alloc (.cells #[.string ⟨#[]⟩,.int .i64 0,.bool false,.slice none 0 0,.slice none 0 0,.slice none 0 0,.slice none 0 0] 39)).alloc (.cells #[.string s,.int .i64 0,.bool false,.slice none 0 0,.slice none 0 0,.slice none 0 0,.slice none 0 0] 39))=W0 at*
 refine(jx _ _ _ _ _ hI0.rd).mono ?_
 rintro e w1 ⟨rfl,hr1,hs1⟩
 have hI1:Inv (fun k=>k≤w.heap.size) w1 (w.heap.size+1) s (st1 s):=hI0.sc hr1 hs1
 have hF1:=hs1.fr (X:=fun k=>k≤w.heap.size) (by omega)
 clear hr1 hs1
 go_wp2_with fail
 refine((z6b s n).1 _ _ _ w1 r st' HM.out hI1 (fun j h=>by have:=hI1.lt;have h:j≤w.heap.size:=h;omega)).mono ?_
 rintro e w2 ⟨rfl,hI2,hF2⟩
 have hF3:=hF1.trans hF2
 clear hI1 hF1 hF2 hI0
 go_wp2_with fail
 refine(z17 _ _ _ _ _ hI2.rd).mono ?_
 rintro e w3 ⟨rfl,hr3,hs3⟩
 have hI3:Inv (fun k=>k≤w.heap.size) w3 (w.heap.size+1) s {st' with at_:=st'.at_,bad:=z1g s st'.at_ st'.bad}:=hI2.sc hr3 hs3
 have hf:=hF3.trans (hs3.fr (X:=fun k=>k≤w.heap.size) (by omega))
 clear hs3 hF3 hI2
 obtain⟨c0,c1,c2,f1,f2,hle,hsz⟩:=id hr3
 obtain⟨V,iv,cv,g⟩:=hI3
 have q3:=g.rows.cell 3 (by omega) (by omega)
 have q4:=g.rows.cell 4 (by omega) (by omega)
 have q5:=g.rows.cell 5 (by omega) (by omega)
 have q6:=g.rows.cell 6 (by omega) (by omega)
 obtain⟨a3,k3,e3⟩:=zk (g.rows.own 3 (by omega) (by omega))
 obtain⟨a4,k4,e4⟩:=zk (g.rows.own 4 (by omega) (by omega))
 obtain⟨a5,k5,e5⟩:=zk (g.rows.own 5 (by omega) (by omega))
 obtain⟨a6,k6,e6⟩:=zk (g.rows.own 6 (by omega) (by omega))
 rw [e3] at q3
 rw [e4] at q4
 rw [e5] at q5
 rw [e6] at q6
 obtain⟨b0,b1,b2,b3,b4,b5,b6,bf⟩:=z5q ((hf.block w.heap.size (z6E _)).trans hb0)
 have hFw:=hF0.trans (hf.mono fun k (h:k<w.heap.size)=>Nat.le_of_lt h)
 have HE:=z6 (z6F e3 (z6F e4 (z6F e5 e6)))
 have HG:=z6 (z6F g hFw)
 clear e3 e4 e5 e6 g hf hFw hF0 HM hr3
 generalize hbd:z1g s st'.at_ st'.bad=bd at*
 have HBD:=z6 hbd
 clear hbd
 go_wp2_with fail
 refine bodyPost_ret (v:= .tuple #[.agg #[.string s,.int .i64 st'.at_,.bool bd,.slice a3 (nOf {at_:=st'.at_,bad:=bd,A:=st'.A,L:=st'.L,E:=st'.E,C:=st'.C} 3) k3,.slice a4 (nOf {at_:=st'.at_,bad:=bd,A:=st'.A,L:=st'.L,E:=st'.E,C:=st'.C} 4) k4,.slice a5 (nOf {at_:=st'.at_,bad:=bd,A:=st'.A,L:=st'.L,E:=st'.E,C:=st'.C} 5) k5,.slice a6 (nOf {at_:=st'.at_,bad:=bd,A:=st'.A,L:=st'.L,E:=st'.E,C:=st'.C} 6) k6],.int .i64 r]) ?_ rfl ⟨V,iv,cv,?_,?_,?_⟩
 ·simp [results,Tryd.results8,go_sem,b0,b1,b2,b3,b4,b5,b6]
 ·rw [HE.out.1,HE.out.2.1,HE.out.2.2.1,HE.out.2.2.2,HBD.out]
 ·exact TreeV.re (st:=st') st'.at_ bd (HG.out.1.tree (by omega) fun k hk=>by
   simp only [World.setCell,Array.getElem?_modify]
   repeat rw [if_neg (by omega)])
 ·have hFw:=HG.out.2
  exact((((((Below.setCell ⟨hFw.os,hFw.tape,hFw.output,hFw.size,hFw.block⟩ (z6E _) _).setCell (z6E _) _).setCell (z6E _) _).setCell (z6E _) _).setCell (z6E _) _).setCell (z6E _) _).setCell (z6E _) _
end Go.Proofs.YtkoohcilbpdgeaaDoor
namespace Go.Proofs
open Go.Shelf
def Tryd.lays173_ren:Go.Shelf.Ren:=⟨fun|173=>25|246=>39|283=>48|284=>49|285=>50|286=>51|129=>56|317=>55|318=>57|319=>58|320=>59|337=>62|338=>63|n=>n,fun|2=>2|3=>3|9=>9|4=>4|171=>78|0=>0|53=>79|37=>82|5=>5|173=>83|212=>88|51=>89|20=>20|213=>90|46=>92|232=>96|233=>97|n=>n,fun|17=>0|18=>1|19=>2|n=>n⟩
theorem Tryd.lays173:Go.Proofs.LaysM.n173 Tryd.prog Tryd.lays173_ren:={
 mixed:=by kernel_rfl
 f129:=Tryd.func56.trans (congrArg some (by kernel_rfl))
 f173:=Tryd.func25.trans (congrArg some (by kernel_rfl))
 f246:=Tryd.func39.trans (congrArg some (by kernel_rfl))
 f283:=Tryd.func48.trans (congrArg some (by kernel_rfl))
 f284:=Tryd.func49.trans (congrArg some (by kernel_rfl))
 f285:=Tryd.func50.trans (congrArg some (by kernel_rfl))
 f286:=Tryd.func51.trans (congrArg some (by kernel_rfl))
 f317:=Tryd.func55.trans (congrArg some (by kernel_rfl))
 f318:=Tryd.func57.trans (congrArg some (by kernel_rfl))
 f319:=Tryd.func58.trans (congrArg some (by kernel_rfl))
 f320:=Tryd.func59.trans (congrArg some (by kernel_rfl))
 f337:=Tryd.func62.trans (congrArg some (by kernel_rfl))
 f338:=Tryd.func63.trans (congrArg some (by kernel_rfl))
 t0:=Tryd.underlying0
 a0:=Tryd.isAgg0
 z0:=Tryd.sizeOf0
 v0:=Tryd.zeroValue0
 t2:=Tryd.underlying2
 a2:=Tryd.isAgg2
 z2:=Tryd.sizeOf2
 v2:=Tryd.zeroValue2
 t3:=Tryd.underlying3
 a3:=Tryd.isAgg3
 z3:=Tryd.sizeOf3
 v3:=Tryd.zeroValue3
 t4:=Tryd.underlying4
 a4:=Tryd.isAgg4
 z4:=Tryd.sizeOf4
 v4:=Tryd.zeroValue4
 t5:=Tryd.underlying5
 a5:=Tryd.isAgg5
 z5:=Tryd.sizeOf5
 v5:=Tryd.zeroValue5
 t9:=Tryd.underlying9
 a9:=Tryd.isAgg9
 z9:=Tryd.sizeOf9
 v9:=Tryd.zeroValue9
 t20:=Tryd.underlying20
 a20:=Tryd.isAgg20
 z20:=Tryd.sizeOf20
 v20:=Tryd.zeroValue20
 t37:=Tryd.underlying82
 a37:=Tryd.isAgg82
 z37:=Tryd.sizeOf82
 v37:=Tryd.zeroValue82
 t46:=Tryd.underlying92
 a46:=Tryd.isAgg92
 z46:=Tryd.sizeOf92
 v46:=Tryd.zeroValue92
 t51:=Tryd.underlying89
 a51:=Tryd.isAgg89
 z51:=Tryd.sizeOf89
 v51:=Tryd.zeroValue89
 t53:=Tryd.underlying79
 a53:=Tryd.isAgg79
 z53:=Tryd.sizeOf79
 v53:=Tryd.zeroValue79
 t171:=Tryd.underlying78
 a171:=Tryd.isAgg78
 z171:=Tryd.sizeOf78
 v171:=Tryd.zeroValue78
 t173:=Tryd.underlying83
 a173:=Tryd.isAgg83
 z173:=Tryd.sizeOf83
 v173:=Tryd.zeroValue83
 t212:=Tryd.underlying88
 a212:=Tryd.isAgg88
 z212:=Tryd.sizeOf88
 v212:=Tryd.zeroValue88
 t213:=Tryd.underlying90
 a213:=Tryd.isAgg90
 z213:=Tryd.sizeOf90
 t232:=Tryd.underlying96
 a232:=Tryd.isAgg96
 z232:=Tryd.sizeOf96
 v232:=Tryd.zeroValue96
 t233:=Tryd.underlying97
 a233:=Tryd.isAgg97
 z233:=Tryd.sizeOf97
 v233:=Tryd.zeroValue97
 g17:=by kernel_rfl
 g18:=by kernel_rfl
 g19:=by kernel_rfl
 i0:=by kernel_rfl
 i2:=by kernel_rfl
 i3:=by kernel_rfl
 i4:=by kernel_rfl
 i5:=by kernel_rfl
 i9:=by kernel_rfl
 i20:=by kernel_rfl
 i37:=by kernel_rfl
 i46:=by kernel_rfl
 i51:=by kernel_rfl
 i53:=by kernel_rfl
 i171:=by kernel_rfl
 i173:=by kernel_rfl
 i212:=by kernel_rfl
 i232:=by kernel_rfl
 i233:=by kernel_rfl
 m17:=by kernel_rfl
 m18:=by kernel_rfl
 m19:=by kernel_rfl}
end Go.Proofs
namespace Go.Proofs.YtkoohcilbpdgeaaDoor
open Go Go.RowKit
def Tab (w:World):Prop:=Lib.TabIs Tryd.prog w "internal/strconv.uint64pow10" .u64 Lib.pow10Tab
theorem Tab.below {w w':World}(h:Tab w)(hB:Below w.heap.size w w'):Tab w':=by
 unfold Tab Lib.TabIs World.var? at*
 rw [show Tryd.prog.globalNamed "internal/strconv.uint64pow10" =some 0 by kernel_rfl] at*
 simp only [Option.bind_some] at*
 cases hq:w.heap[0]? with
 |none=>rw [hq] at h;cases h
 |some o=>rw [hB.block 0 (Array.getElem?_eq_some_iff.1 hq).1];exact h
theorem z3U (n:Int)(h0: -9223372036854775808≤n)(h1:n≤9223372036854775807)(w:World)(ht:Tab w):
  Calls Tryd.prog 25 #[.int .i64 n,.int .i64 10] w fun e w'=>e= .returned (.string ⟨(Lib.itoa n).toArray⟩)∧Below w.heap.size w w':=
 (Any.strconv_FormatInt_10 Tryd.lays173 n h0 h1 w ht).mono fun e w' ⟨h,k,os,hw⟩=>⟨h,by
  subst hw
  exact⟨rfl,rfl,rfl,by simp [Sort.grow],fun i hi=>by simp only [Sort.grow];rw [Array.getElem?_append_left (by simpa using hi)];rfl⟩⟩
end Go.Proofs.YtkoohcilbpdgeaaDoor
namespace Go.Proofs.YtkoohcilbpdgeaaDoor
open Go Go.RowKit
attribute [local go_sem] wrap64_byte
theorem jS {n:Int}(h:0≤n):Lib.itoa n=Lib.decDigits n.toNat:=by unfold Lib.itoa;rw [if_neg (by omega)]
theorem z1R {n:Int}(h:n<0):Lib.itoa n=45::Lib.itoa (-n):=by
 rw [jS (show 0≤ -n by omega)]
 unfold Lib.itoa
 rw [if_pos h,show n.natAbs=(-n).toNat by omega]
theorem ji {u:Nat}(h:u<10):Lib.decDigits u=[UInt8.ofNat (48+u)]:=by rw [Lib.decDigits,dif_pos h]
theorem z0S {u:Nat}(h: ¬u<10):Lib.decDigits u=Lib.decDigits (u/10)++[UInt8.ofNat (48+u%10)]:=by rw [Lib.decDigits,dif_neg h]
theorem z2H: ∀(k u:Nat),u<10^(k+1)→(Lib.decDigits u).length≤k+1:=by
 intro k
 induction k with
 |zero=>intro u h;rw [ji (by simpa using h)];simp
 |succ k ih=>
  intro u h
  by_cases hu:u<10
  ·rw [ji hu];simp
  ·rw [z0S hu]
   have:=ih (u/10) (by rw [Nat.div_lt_iff_lt_mul (by omega)];rw [Nat.pow_succ] at h;exact h)
   simp;omega
def z4x (t:z6P)(w:World)(e:Ending)(w':World):Prop:=e= .returned (.string t)∧Below w.heap.size w w'
def prM (x:Wt):z6P:=
 if x.kind==1 then(if x.truth then⟨#[116,114,117,101]⟩ else⟨#[102,97,108,115,101]⟩)
 else if x.kind==2 then⟨(Lib.itoa x.num).toArray⟩ else if x.kind==3 then(⟨#[34]⟩++x.text)++⟨#[34]⟩ else⟨#[101,114,114,111,114]⟩
theorem z3M (xk:Int)(xb:Bool)(xn:Int)(xt:z6P)(w:World)(ht:Tab w)(hn: -999999999≤xn∧xn≤999999999)(hsz:xt.size≤900000000):
  Calls Tryd.prog 13 #[.agg #[.int .i64 xk,.bool xb,.int .i64 xn,.string xt]] w fun e w'=>z4x (prM ⟨xk,xb,xn,xt⟩) w e w':=by
 have hB:=(z6O w.heap.size w).alloc (z6E _) (.cells #[.int .i64 xk,.bool xb,.int .i64 xn,.string xt] 49)
 have HT:=z6 (ht.below hB)
 have HB:=z6 hB
 clear hB ht
 cases h1:(xk==1)
 case true=>
  cases xb
  case true=>
   have hres:Hid (prM ⟨xk,true,xn,xt⟩=⟨#[116,114,117,101]⟩):=z6 (by unfold prM;rw [h1];rfl)
   go_enter Tryd.func13,Tryd.ntmps13
   go_wp2_with fail
   go_ret
   exact⟨by rw [hres.out];rfl,HB.out⟩
  case false=>
   have hres:Hid (prM ⟨xk,false,xn,xt⟩=⟨#[102,97,108,115,101]⟩):=z6 (by unfold prM;rw [h1];rfl)
   go_enter Tryd.func13,Tryd.ntmps13
   go_wp2_with fail
   go_ret
   exact⟨by rw [hres.out];rfl,HB.out⟩
 cases h2:(xk==2)
 case true=>
  have hres:Hid (prM ⟨xk,xb,xn,xt⟩=⟨(Lib.itoa xn).toArray⟩):=z6 (by unfold prM;rw [h1,h2];rfl)
  have HC:=z6 (z3U xn (by omega) (by omega) _ HT.out)
  go_enter Tryd.func13,Tryd.ntmps13
  go_wp2_with fail
  refine HC.out.mono ?_
  rintro e w1 ⟨rfl,hB1⟩
  generalize (⟨(Lib.itoa xn).toArray⟩:z6P)=D at*
  go_wp2_with fail
  go_ret
  exact⟨by rw [hres.out];rfl,HB.out.trans (hB1.mono (by simp))⟩
 cases h3:(xk==3)
 case true=>
  have hres:Hid (prM ⟨xk,xb,xn,xt⟩=(⟨#[34]⟩++xt)++⟨#[34]⟩):=z6 (by unfold prM;rw [h1,h2,h3];rfl)
  go_enter Tryd.func13,Tryd.ntmps13
  go_wp2_with fail
  go_ret
  exact⟨by rw [hres.out];rfl,HB.out⟩
 have hres:Hid (prM ⟨xk,xb,xn,xt⟩=⟨#[101,114,114,111,114]⟩):=z6 (by unfold prM;rw [h1,h2,h3];rfl)
 go_enter Tryd.func13,Tryd.ntmps13
 go_wp2_with fail
 go_ret
 exact⟨by rw [hres.out];rfl,HB.out⟩
theorem z2Q (x:Wt)(w:World)(ht:Tab w)(hn: -999999999≤x.num∧x.num≤999999999)(hsz:x.text.size≤900000000):
  Calls Tryd.prog 13 #[.agg #[.int .i64 x.kind,.bool x.truth,.int .i64 x.num,.string x.text]] w fun e w'=>z4x (prM x) w e w':=z3M x.kind x.truth x.num x.text w ht hn hsz
def zZ (t:z6P)(k:Int)(w:World)(e:Ending)(w':World):Prop:=e= .returned (.tuple #[.string t,.int .i64 k])∧Below w.heap.size w w'
theorem z1u (s a:z6P)(w:World)(hs:s.size≤maxLen)(ha:a.size≤maxLen)(h:600<s.size∨100<a.size):Calls Tryd.prog 6 #[.string s,.string a] w fun e w'=>zZ ⟨#[]⟩ 1 w e w':=by
 unfold maxLen at hs ha
 by_cases h1:600<s.size
 ·have h1':(600:Int)<s.size:=by omega
  go_enter Tryd.func6,Tryd.ntmps6
  go_wp2_with fail
  go_ret2
  exact⟨rfl,z6O _ _⟩
 ·have h1': ¬(600:Int)<s.size:=by omega
  have h2':(100:Int)<a.size:=by omega
  go_enter Tryd.func6,Tryd.ntmps6
  go_wp2_with fail
  go_ret2
  exact⟨rfl,z6O _ _⟩
def woM (s a:z6P)(r:Int)(st:St):z6P×Int:=
 if z1g s st.at_ st.bad then(⟨#[]⟩,2) else if tfM st.E [] != -1 then(⟨#[]⟩,5) else if(raM a).2 then(⟨#[]⟩,6) else(prM (wAt (zb (raM a).1 st.E []) r),0)
theorem z04 (s a:z6P)(n:Nat)(r:Int)(st:St)(w:World)(hM:M s n 0 0 (st1 s)=some (r,st))(hs:s.size≤600)(ha:a.size≤100)(hlen:st.E.length≤100000)
  (hll:(raM a).1.length≤100000) (hls: ∀p∈(raM a).1,p.2.size≤600) (hE: ∀x∈st.E,x.text.size≤600) (hW: ∀x∈zb (raM a).1 st.E [],x.text.size≤100000000∧ -999999999≤x.num∧x.num≤999999999) (ht:Tab w):
  Calls Tryd.prog 6 #[.string s,.string a] w fun e w'=>zZ (woM s a r st).1 (woM s a r st).2 w e w':=by
 have HR:=z6 (z24 s n r st w hM hs)
 have HW:=z6 (z6F hE hW)
 have hs': ¬(600:Int)<s.size:=by omega
 have ha': ¬(100:Int)<a.size:=by omega
 have HT:=z6 ht
 clear hM hE hW ht
 go_enter Tryd.func6,Tryd.ntmps6
 go_wp2_with fail
 refine HR.out.mono ?_
 rintro e w1 ⟨V,iv,cv,rfl,hT1,hB1⟩
 have hown:=hT1.own 5 (by omega) (by omega)
 obtain⟨a3,k3,e3⟩:=zk (hT1.own 3 (by omega) (by omega))
 obtain⟨a4,k4,e4⟩:=zk (hT1.own 4 (by omega) (by omega))
 obtain⟨a5,k5,e5⟩:=zk hown
 obtain⟨a6,k6,e6⟩:=zk (hT1.own 6 (by omega) (by omega))
 have hown:w1.ownsRow w.heap.size 55 5 (V 5) st.E.length ((st.E.map Ex.cells).flatten):=hown
 rw [e5] at hown
 rw [e3,e4,e5,e6]
 generalize nOf st 3=n3 at*
 generalize nOf st 4=n4 at*
 generalize hn5:nOf st 5=n5 at*
 generalize nOf st 6=n6 at*
 have hn5':Hid (n5=st.E.length):=z6 hn5.symm
 clear hn5 e3 e4 e5 e6 hT1 HR
 have hB1':=hB1
 cases hen:z1g s st.at_ st.bad
 case true=>
  have hres:Hid (woM s a r st=(⟨#[]⟩,2)):=z6 (by unfold woM;rw [hen];rfl)
  have HB:=z6 (hB1.alloc hB1.size (.cells #[.string s,.int .i64 st.at_,.bool true,.slice a3 n3 k3,.slice a4 n4 k4,.slice a5 n5 k5,.slice a6 n6 k6] 39))
  clear hB1 hB1'
  go_wp2_with fail
  go_ret2
  exact⟨by rw [hres.out];rfl,HB.out⟩
 have hB2:=hB1.alloc hB1.size (.cells #[.string s,.int .i64 st.at_,.bool false,.slice a3 n3 k3,.slice a4 n4 k4,.slice a5 n5 k5,.slice a6 n6 k6] 39)
 have hbx:=heap_alloc_new w1 (.cells #[.string s,.int .i64 st.at_,.bool false,.slice a3 n3 k3,.slice a4 n4 k4,.slice a5 n5 k5,.slice a6 n6 k6] 39)
 have hown2:=hown.alloc (.cells #[.string s,.int .i64 st.at_,.bool false,.slice a3 n3 k3,.slice a4 n4 k4,.slice a5 n5 k5,.slice a6 n6 k6] 39)
 rw [←hn5'.out] at hown2
 have hz1:w.heap.size≤w1.heap.size:=hB1.size
 have HX:=z6 (z6F hB2 (z6F hbx hown2))
 clear hB2 hbx hown2 hown hB1 hB1'
 go_wp2_with fail
 obtain⟨hB2,hbx,hown2⟩:=HX.out
 clear HX
 have hzz:(w1.alloc (.cells #[.string s,.int .i64 st.at_,.bool false,.slice a3 n3 k3,.slice a4 n4 k4,.slice a5 n5 k5,.slice a6 n6 k6] 39)).heap.size=w1.heap.size+1:=by simp
 generalize (w1.alloc (.cells #[.string s,.int .i64 st.at_,.bool false,.slice a3 n3 k3,.slice a4 n4 k4,.slice a5 n5 k5,.slice a6 n6 k6] 39))=W2 at*
 obtain⟨b0,b1,b2,b3,b4,b5,b6,bf⟩:=z5q hbx
 have hown3:W2.ownsRow w.heap.size 55 5 (.slice a5 n5 k5) st.E.length ((st.E.map Ex.cells).flatten):=by rw [←hn5'.out];exact hown2
 refine(z1D w.heap.size w1.heap.size st.E _ W2 b5 hown3 hlen).mono ?_
 rintro e w3 ⟨rfl,hB3⟩
 cases htf:(tfM st.E [] != -1)
 case true=>
  have hres:Hid (woM s a r st=(⟨#[]⟩,5)):=z6 (by unfold woM;rw [hen,htf];rfl)
  have HB:=z6 (hB2.trans (hB3.mono (by omega)))
  clear hB3 hB2
  go_wp2_with fail
  go_ret2
  exact⟨by rw [hres.out];rfl,HB.out⟩
 have hB23:=hB2.trans (hB3.mono (by omega))
 have hbx3:=(hB3.block w1.heap.size (by omega)).trans hbx
 have hown4:=ze hown3 fun k e=>hB3.block k (hown3.lt k e).2
 have hz3:w1.heap.size<w3.heap.size:=by have:=hB3.size;omega
 have HX:=z6 (z6F hB23 (z6F hbx3 hown4))
 clear hB2 hB3 hbx hown3 hown2 hB23 hbx3 hown4 b0 b1 b2 b3 b4 b5 b6 bf
 have HR6:Hid ((raM a).2=true→woM s a r st=(⟨#[]⟩,6)):=z6 (fun h=>by unfold woM;rw [hen,htf,h];rfl)
 have HR0:Hid ((raM a).2=false→woM s a r st=(prM (wAt (zb (raM a).1 st.E []) r),0)):=z6 (fun h=>by unfold woM;rw [hen,htf,h];rfl)
 generalize tfM st.E []=tf at*
 go_wp2_with fail
 refine(z1I a w3 (by omega)).mono ?_
 rintro e w4 ⟨lv,rfl,hl4,hB4⟩
 obtain⟨hB23,hbx3,hown4⟩:=HX.out
 clear HX
 obtain⟨al,kl,rfl⟩:=zk hl4
 cases hra:(raM a).2
 case true=>
  have hres:Hid (woM s a r st=(⟨#[]⟩,6)):=z6 (HR6.out hra)
  have HB:=z6 (hB23.trans (hB4.mono (by omega)))
  clear hB4 hB23
  go_wp2_with fail
  go_ret2
  exact⟨by rw [hres.out];rfl,HB.out⟩
 have hres:Hid (woM s a r st=(prM (wAt (zb (raM a).1 st.E []) r),0)):=z6 (HR0.out hra)
 clear HR6 HR0
 have hB24:=hB23.trans (hB4.mono (by omega))
 have hbx4:=(hB4.block w1.heap.size (by omega)).trans hbx3
 have hown5:=ze hown4 fun k e=>hB4.block k (hown4.lt k e).2
 have hz4:w1.heap.size<w4.heap.size:=by have:=hB4.size;omega
 have HX:=z6 (z6F hB24 (z6F hbx4 hown5))
 have HL:=z6 hl4
 clear hB4 hB23 hbx3 hown4 hB24 hbx4 hown5 hl4
 go_wp2_with fail
 obtain⟨hB24,hbx4,hown5⟩:=HX.out
 clear HX
 obtain⟨b0,b1,b2,b3,b4,b5,b6,bf⟩:=z5q hbx4
 refine(z38 w.heap.size w1.heap.size 3 w3.heap.size st.E _ (raM a).1 _ w4 b5 hown5 hlen HL.out hll hls HW.out.1 (fun x hx=>(HW.out.2 x hx).1)).mono ?_
 rintro e w5 ⟨wv,rfl,hw5,hB5⟩
 have hB25:=hB24.trans (hB5.mono (by omega))
 have hwl:(zb (raM a).1 st.E []).length≤100000:=by rw [zE];simpa using hlen
 have hbnd:(wAt (zb (raM a).1 st.E []) r).text.size≤100000000∧ -999999999≤(wAt (zb (raM a).1 st.E []) r).num∧(wAt (zb (raM a).1 st.E []) r).num≤999999999:=by
  rcases z21 (zb (raM a).1 st.E []) r with q|q
  ·rw [q];decide
  ·exact HW.out.2 _ q
 have HWA:=z6 (jF w5.heap.size (zb (raM a).1 st.E []) wv r w5)
 obtain⟨aw,kw,hwv⟩:=zk hw5
 have HW5:=z6 (jF w4.heap.size (zb (raM a).1 st.E []) wv r w5 hw5 hwl)
 clear HWA
 generalize (zb (raM a).1 st.E [])=WW at*
 subst hwv
 have HX:=z6 hB25
 clear hB25 hB24 hB5 hw5 hbx4 hown5 b0 b1 b2 b3 b4 b5 b6 bf
 go_wp2_with fail
 refine HW5.out.mono ?_
 rintro e w6 ⟨rfl,hB6⟩
 generalize wAt WW r=O at*
 have hz5:w.heap.size≤w5.heap.size:=HX.out.size
 have hz6:w5.heap.size≤w6.heap.size:=hB6.size
 have hB26:=HX.out.trans (hB6.mono hz5)
 have hB7:=hB26.alloc (by omega) (.cells #[.int .i64 O.kind,.bool O.truth,.int .i64 O.num,.string O.text] 49)
 have HC:=z6 (z2Q O _ (HT.out.below hB7) hbnd.2 (by omega))
 have HB7:=z6 hB7
 clear hB7 hB26 hB6
 go_wp2_with fail
 refine HC.out.mono ?_
 rintro e w7 ⟨rfl,hB8⟩
 have HB8:=z6 (HB7.out.trans (hB8.mono (by simp;omega)))
 generalize prM O=D at*
 clear hB8
 go_wp2_with fail
 go_ret2
 exact⟨by rw [hres.out];rfl,HB8.out⟩
def Sz (st:St):Prop:=(∀x∈st.E,x.text.size≤600)∧(∀x∈st.L,x.text.size≤600)∧(∀cls∈st.C,∀c∈cls,c.result.size≤600)∧(∀x∈st.A,x.by_.size≤600)
theorem jM {st:St}{x:Ex}{r:Int×St}(h:zX st x=some r)(hg:Sz st)(hx:x.text.size≤600):Sz r.2:=by
 obtain⟨_,rfl⟩:=zh h
 refine⟨fun y hy=> ?_,hg.2⟩
 rcases List.mem_append.1 hy with hy|hy
 ·exact hg.1 y hy
 ·have:y=x:=by simpa using hy
  rw [this];exact hx
theorem z4r (s:z6P)(a b:Nat)(h:s.size≤600):(s.extract a b).size≤600:=by
 rw [ByteArray.size_extract];omega
theorem z3C (p:Int→Bool)(m:Nat)(s:z6P)(a:Nat)(d:Bool)(h:s.size≤600):(z0b p m s a d).2.2.size≤600:=by
 unfold z0b
 simp only
 split
 ·show ByteArray.size ⟨#[]⟩≤600;decide
 ·exact z4r s _ _ h
theorem z1S (s:z6P)(a:Nat)(d:Bool)(h:s.size≤600):(zK s a d).2.2.size≤600:=z3C _ _ _ _ _ h
theorem z36 (s:z6P)(a:Nat)(d:Bool)(h:s.size≤600):(zA s a d).2.2.size≤600:=z3C _ _ _ _ _ h
theorem z35 (s:z6P)(a:Nat)(d:Bool)(h:s.size≤600):(zw s a d).2.2.size≤600:=z4r s _ _ h
theorem z0J (s x y:z6P)(a:Nat)(d:Bool)(hx:x.size≤600)(hy:y.size≤600):(zl s x y a d).2.2.size≤600:=by
 unfold zl
 simp only
 split
 ·exact hx
 ·exact hy
theorem z1O (s:z6P)(a:Nat)(d:Bool):(z7 s a d).2.2.size≤600:=by
 unfold z7
 split
 ·show ByteArray.size ⟨#[61,61]⟩≤600;decide
 ·split
  ·show ByteArray.size ⟨#[33,61]⟩≤600;decide
  ·split
   ·exact z0J _ _ _ _ _ (by decide) (by decide)
   ·split
    ·exact z0J _ _ _ _ _ (by decide) (by decide)
    ·show ByteArray.size ⟨#[]⟩≤600;decide
theorem z6t (s:z6P)(h600:s.size≤600): ∀n tag l st r,M s n tag l st=some r→Sz st→Sz r.2:=by
 intro n
 induction n with
 |zero=>intro tag l st r h;simp [M] at h
 |succ n ih=>
  intro tag l st r h hg
  have two: ∀{t1 t2:Nat} {st0:St},Sz st0→((M s n t1 0 st0).bind fun r=>M s n t2 r.1 r.2)=some r→Sz r.2:=fun hg h=>by
   obtain⟨q,h1,h2⟩:=z6A.1 h
   exact ih _ _ _ _ h2 (ih _ _ _ _ h1 hg)
  have three: ∀{t1 t2:Nat} {st0:St} {x:Int×St→Ex},Sz st0→(∀r,(x r).text.size≤600)→((M s n t1 0 st0).bind fun r=>(zX r.2 (x r)).bind fun q=>M s n t2 q.1 q.2)=some r→Sz r.2:=fun hg hx h=>by
   obtain⟨q,h1,h2⟩:=z6A.1 h
   obtain⟨q2,h3,h4⟩:=z6A.1 h2
   exact ih _ _ _ _ h4 (jM h3 (ih _ _ _ _ h1 hg) (hx q))
  match tag,h with
  |0,h=>rw [M_0] at h;exact two hg h
  |1,h=>rw [M_1] at h;exact two hg h
  |4,h=>rw [M_4] at h;exact two hg h
  |5,h=>rw [M_5] at h;exact two hg h
  |10,h=>
   rw [z2K] at h
   split at h
   ·exact three (st0:=sgn s [124,124] st) (x:=fun r=>⟨6,st.at_,⟨#[124,124]⟩,l,r.1⟩) hg (fun r=>by show ByteArray.size ⟨#[124,124]⟩≤600;decide) h
   ·cases h;exact hg
  |11,h=>
   rw [z2p] at h
   split at h
   ·exact three (st0:=sgn s [38,38] st) (x:=fun r=>⟨6,st.at_,⟨#[38,38]⟩,l,r.1⟩) hg (fun r=>by show ByteArray.size ⟨#[38,38]⟩≤600;decide) h
   ·cases h;exact hg
  |14,h=>
   rw [z2z] at h
   simp only at h
   split at h
   ·cases h;exact hg
   ·rename_i hs
    exact three (st0:=sgn s (zd s st.at_ st.bad).data.toList st) (x:=fun r=>⟨6,st.at_,zd s st.at_ st.bad,l,r.1⟩) hg (fun r=>z0e _ _ _) h
  |15,h=>
   rw [z2B] at h
   simp only at h
   split at h
   ·cases h;exact hg
   ·rename_i hs
    exact three (st0:=sgn s (z8 s st.at_ st.bad).data.toList st) (x:=fun r=>⟨6,st.at_,z8 s st.at_ st.bad,l,r.1⟩) hg (fun r=>jz _ _ _) h
  |2,h=>
   rw [M_2] at h
   split at h
   ·exact ih _ _ _ _ h hg
   ·obtain⟨q,h1,h2⟩:=z6A.1 h
    have hq:=ih _ _ _ _ h1 (show Sz (sgn s [33] st) from hg)
    exact jM h2 hq (by show ByteArray.size ⟨#[33]⟩≤600;decide)
  |6,h=>
   rw [M_6] at h
   split at h
   ·exact ih _ _ _ _ h hg
   ·obtain⟨q,h1,h2⟩:=z6A.1 h
    have hq:=ih _ _ _ _ h1 (show Sz (sgn s [45] st) from hg)
    exact jM h2 hq (by show ByteArray.size ⟨#[45]⟩≤600;decide)
  |3,h=>
   rw [M_3] at h
   obtain⟨q,h1,h2⟩:=z6A.1 h
   have k1:=ih _ _ _ _ h1 hg
   simp only at h2
   split at h2
   ·cases h2;exact k1
   ·rename_i hs
    obtain⟨q2,h3,h4⟩:=z6A.1 h2
    have hq:=ih _ _ _ _ h3 (show Sz (q.2.put3 _) from k1)
    exact jM h4 hq (z1O _ _ _)
  |7,h=>
   rw [M_7] at h
   simp only at h
   split at h
   ·exact jM h (show Sz (st.put3 _) from hg) (z36 _ _ _ h600)
   ·split at h
    ·exact jM h (show Sz (st.put3 _) from hg) (z35 _ _ _ h600)
    ·split at h
     ·exact jM h (show Sz ((wrd s [64] st).put3 _) from hg) (z1S _ _ _ h600)
     ·split at h
      ·obtain⟨q,h1,h2⟩:=z6A.1 h
       have hq:=ih _ _ _ _ h1 (show Sz (sgn s [40] st) from hg)
       cases h2
       exact hq
      ·split at h
       ·exact jM h (show Sz (st.put3 _) from hg) (z1S _ _ _ h600)
       ·exact jM h (show Sz (st.put3 _) from hg) (z1S _ _ _ h600)
  |8,h=>simp [M] at h
  |9,h=>simp [M] at h
  |12,h=>simp [M] at h
  |13,h=>simp [M] at h
  |t+16,h=>simp [M] at h
theorem z5Q {pre ls:List Int}{i:Int}(h:i<pre.length):zf (pre++ls) i=zf pre i:=by
 by_cases h0:i<0
 ·rw [z4y h0,z4y h0]
 ·obtain⟨j,rfl⟩:=Int.eq_ofNat_of_zero_le (show 0≤i by omega)
  rw [z2l,if_pos (by omega)]
theorem z5f {pre ws:List Wt}{i:Int}(h:i<pre.length):wAt (pre++ws) i=wAt pre i:=by
 unfold wAt
 by_cases h0:i<0
 ·rw [if_pos h0,if_pos h0]
 ·rw [if_neg h0,if_neg h0,List.getD_eq_getElem?_getD,List.getD_eq_getElem?_getD,List.getElem?_append_left (by omega)]
def z0y:List Ex→List Int→List Int
 |[],ts=>ts
 |x::xs,ts=>z0y xs (ts++[zg x (zf ts x.left) (zf ts x.right)])
def z1i:List Ex→List Int→Prop
 |[],_=>True
 |x::xs,ts=>zg x (zf ts x.left) (zf ts x.right)≠0∧z1i xs (ts++[zg x (zf ts x.left) (zf ts x.right)])
theorem z5r: ∀(xs:List Ex) (ts:List Int),z1i xs ts→tfM xs ts= -1:=by
 intro xs
 induction xs with
 |nil=>intro ts _;rfl
 |cons x xs ih=>intro ts ⟨h1,h2⟩;unfold tfM;rw [if_neg (by simpa using h1)];exact ih _ h2
theorem z6c: ∀(xs:List Ex) (ts:List Int),(∀x∈xs,0≤x.place)→tfM xs ts= -1→z1i xs ts:=by
 intro xs
 induction xs with
 |nil=>intro ts _ _;trivial
 |cons x xs ih=>
  intro ts hp h
  unfold tfM at h
  split at h
  ·have:=hp x List.mem_cons_self;omega
  ·rename_i q
   exact⟨by simpa using q,ih _ (fun y hy=>hp y (List.mem_cons_of_mem _ hy)) h⟩
theorem z2s: ∀(xs:List Ex) (ts:List Int),(z0y xs ts).length=ts.length+xs.length:=by
 intro xs
 induction xs with
 |nil=>intro ts;rfl
 |cons x xs ih=>intro ts;unfold z0y;rw [ih];simp;omega
theorem z2P: ∀(xs ys:List Ex) (ts:List Int),z1i (xs++ys) ts↔z1i xs ts∧z1i ys (z0y xs ts):=by
 intro xs
 induction xs with
 |nil=>intro ys ts;exact⟨fun h=>⟨trivial,h⟩,fun h=>h.2⟩
 |cons x xs ih=>
  intro ys ts
  have e:=ih ys (ts++[zg x (zf ts x.left) (zf ts x.right)])
  exact⟨fun⟨a,b⟩=>⟨⟨a,(e.1 b).1⟩,(e.1 b).2⟩,fun⟨⟨a,b⟩,c⟩=>⟨a,e.2 ⟨b,c⟩⟩⟩
abbrev TB:Type:=Std.DTreeMap.Internal.Impl (Int×List UInt8) (fun _=>Unit)
def z64:TB→Prop
 | .inner 0 _ _ l r=>l= .leaf∧r= .leaf
 | .inner 1 k _ l r=>k.1=0∧z64 l∧r= .leaf
 | .inner 2 k _ l r=>k.1=0∧z64 l∧z64 r
 |_=>False
def TE:Type:={T:TB//z64 T}
def TE.lf (f:Int)(t:List UInt8):TE:=⟨.inner 0 (f,t) () .leaf .leaf,rfl,rfl⟩
def TE.pr (t:List UInt8)(a:TE):TE:=⟨.inner 1 (0,t) () (Subtype.val a) .leaf,rfl,a.2,rfl⟩
def TE.pa (t:List UInt8)(a b:TE):TE:=⟨.inner 2 (0,t) () (Subtype.val a) (Subtype.val b),rfl,a.2,b.2⟩
theorem TE.ind {motive:TE→Prop}(lf: ∀f t,motive (TE.lf f t))(pr: ∀t a,motive a→motive (TE.pr t a))(pa: ∀t a b,motive a→motive b→motive (TE.pa t a b))(T:TE):motive T:=by
 obtain⟨T,h⟩:=T
 induction T with
 |leaf=>exact absurd h id
 |inner n k v l r ihl ihr=>
  obtain⟨f,t⟩:=k
  cases v
  match n,h with
  |0,h=>obtain⟨rfl,rfl⟩:=h;exact lf f t
  |1,h=>
   obtain⟨hk,hl,rfl⟩:=h
   have hk:f=0:=hk
   subst hk
   exact pr t ⟨l,hl⟩ (ihl hl)
  |2,h=>
   obtain⟨hk,hl,hr⟩:=h
   have hk:f=0:=hk
   subst hk
   exact pa t ⟨l,hl⟩ ⟨r,hr⟩ (ihl hl) (ihr hr)
  |n+3,h=>exact absurd h id
theorem TE.cas {motive:TE→Prop}(lf: ∀f t,motive (TE.lf f t))(pr: ∀t a,motive (TE.pr t a))(pa: ∀t a b,motive (TE.pa t a b))(T:TE):motive T:=TE.ind lf (fun t a _=>pr t a) (fun t a b _ _=>pa t a b) T
def z69 (E:List Ex):TB→Int→Prop
 | .inner 0 (f,t) _ _ _,i=> ∃(n:Nat) (x:Ex),i=(n:Int)∧E[n]?=some x∧x.form=f∧x.text.data.toList=t
 | .inner 1 (_,t) _ a _,i=> ∃(n:Nat) (x:Ex),i=(n:Int)∧E[n]?=some x∧x.form=5∧x.text.data.toList=t∧x.left<(n:Int)∧z69 E a x.left
 | .inner 2 (_,t) _ a b,i=> ∃(n:Nat) (x:Ex),i=(n:Int)∧E[n]?=some x∧x.form=6∧x.text.data.toList=t∧x.left<(n:Int)∧x.right<(n:Int)∧z69 E a x.left∧z69 E b x.right
 |_,_=>False
def IsE (E:List Ex)(T:TE)(i:Int):Prop:=z69 E (Subtype.val T) i
theorem z0N {α:Type}{E:List α}(F:List α){n:Nat}{x:α}(h:E[n]?=some x):(E++F)[n]?=some x:=by
 rw [List.getElem?_append_left (z6C.1 h).1];exact h
theorem IsE.more {E:List Ex}(F:List Ex): ∀{T:TE} {i:Int},IsE E T i→IsE (E++F) T i:=by
 intro T
 induction T using TE.ind with
 |lf f t=>intro i ⟨n,x,h1,h2,h3⟩;exact⟨n,x,h1,z0N F h2,h3⟩
 |pr t a ih=>intro i ⟨n,x,h1,h2,h3,h4,h5,h6⟩;exact⟨n,x,h1,z0N F h2,h3,h4,h5,ih h6⟩
 |pa t a b iha ihb=>intro i ⟨n,x,h1,h2,h3,h4,h5,h6,h7,h8⟩;exact⟨n,x,h1,z0N F h2,h3,h4,h5,h6,iha h7,ihb h8⟩
theorem IsE.lt {E:List Ex}{T:TE}{i:Int}(h:IsE E T i):i<(E.length:Int):=by
 cases T using TE.cas with
 |lf f t=>obtain⟨n,x,h1,h2,_⟩:=h;have:=(z6C.1 h2).1;omega
 |pr t a=>obtain⟨n,x,h1,h2,_⟩:=h;have:=(z6C.1 h2).1;omega
 |pa t a b=>obtain⟨n,x,h1,h2,_⟩:=h;have:=(z6C.1 h2).1;omega
theorem js {α:Type}(E:List α)(x:α):(E++[x])[E.length]?=some x:=by simp
theorem z1v {E:List Ex}{x:Ex}:IsE (E++[x]) (.lf x.form x.text.data.toList) (E.length:Int):=⟨E.length,x,rfl,js E x,rfl,rfl⟩
theorem z4u {E:List Ex}{T:TE}{l p r:Int}{c:z6P}(h:IsE E T l):IsE (E++[⟨5,p,c,l,r⟩]) (.pr c.data.toList T) (E.length:Int):=⟨E.length,_,rfl,js E _,rfl,rfl,h.lt,h.more _⟩
theorem z3s {E:List Ex}{T U:TE}{l p r:Int}{c:z6P}(h:IsE E T l)(k:IsE E U r):IsE (E++[⟨6,p,c,l,r⟩]) (.pa c.data.toList T U) (E.length:Int):=⟨E.length,_,rfl,js E _,rfl,rfl,h.lt,k.lt,h.more _,k.more _⟩
def orS (t:List UInt8):Prop:=t=[124,124]
def anS (t:List UInt8):Prop:=t=[38,38]
def cmS (t:List UInt8):Prop:=t=[61,61]∨t=[33,61]∨t=[60]∨t=[60,61]∨t=[62]∨t=[62,61]
def smS (t:List UInt8):Prop:=t=[43]∨t=[45]∨t=[46]
def pdS (t:List UInt8):Prop:=t=[42]∨t=[47]∨t=[37]
def z1j:List UInt8:=[116,114,117,101]
def z0p:List UInt8:=[102,97,108,115,101]
def z68:TB→Prop
 | .inner 0 (f,t) _ _ _=>(f=0∧z65 t)∨(f=1∧z4R t)∨(f=2∧(t=z1j∨t=z0p))∨(f=3∧z4i t∧t≠z1j∧t≠z0p)∨(f=4∧z4i t)
 | .inner 1 (_,t) _ a _=>(t=[33]∨t=[45])∧z68 a
 | .inner 2 (_,t) _ a b=>(orS t∨anS t∨cmS t∨smS t∨pdS t)∧z68 a∧z68 b
 |_=>False
def VlE (T:TE):Prop:=z68 (Subtype.val T)
theorem z34 {s:z6P}{a:Nat}{d:Bool}(h:((zd s a d).size==0)≠true):smS (zd s a d).data.toList:=by
 unfold zd at h ⊢
 unfold smS
 split at h
 ·exact absurd rfl h
 ·rename_i h0
  rw [if_neg h0]
  split at h
  ·rename_i h1;rw [if_pos h1];exact .inl rfl
  ·rename_i h1
   rw [if_neg h1]
   split at h
   ·rename_i h2;rw [if_pos h2];exact .inr (.inl rfl)
   ·rename_i h2
    rw [if_neg h2]
    split at h
    ·rename_i h3;rw [if_pos h3];exact .inr (.inr rfl)
    ·exact absurd rfl h
theorem z1h {s:z6P}{a:Nat}{d:Bool}(h:((z8 s a d).size==0)≠true):pdS (z8 s a d).data.toList:=by
 unfold z8 at h ⊢
 unfold pdS
 split at h
 ·rename_i h1;rw [if_pos h1];exact .inl rfl
 ·rename_i h1
  rw [if_neg h1]
  split at h
  ·rename_i h2;rw [if_pos h2];exact .inr (.inl rfl)
  ·rename_i h2
   rw [if_neg h2]
   split at h
   ·rename_i h3;rw [if_pos h3];exact .inr (.inr rfl)
   ·exact absurd rfl h
theorem z0m (s short long:z6P)(a:Nat)(d:Bool):(zl s short long a d).2.2=short∨(zl s short long a d).2.2=long:=by
 unfold zl
 simp only
 split
 ·exact .inl rfl
 ·exact .inr rfl
theorem z2i {s:z6P}{a:Nat}{d:Bool}(h:((z7 s a d).2.2.size==0)≠true):cmS (z7 s a d).2.2.data.toList:=by
 unfold z7 at h ⊢
 unfold cmS
 split at h
 ·rename_i h1;rw [if_pos h1];exact .inl rfl
 ·rename_i h1
  rw [if_neg h1]
  split at h
  ·rename_i h2;rw [if_pos h2];exact .inr (.inl rfl)
  ·rename_i h2
   rw [if_neg h2]
   split at h
   ·rename_i h3
    rw [if_pos h3]
    rcases z0m s ⟨#[60]⟩ ⟨#[60,61]⟩ a d with e|e
    ·rw [e];exact .inr (.inr (.inl rfl))
    ·rw [e];exact .inr (.inr (.inr (.inl rfl)))
   ·rename_i h3
    rw [if_neg h3]
    split at h
    ·rename_i h4
     rw [if_pos h4]
     rcases z0m s ⟨#[62]⟩ ⟨#[62,61]⟩ a d with e|e
     ·rw [e];exact .inr (.inr (.inr (.inr (.inl rfl))))
     ·rw [e];exact .inr (.inr (.inr (.inr (.inr rfl))))
    ·exact absurd rfl h
theorem z5z (s:z6P): ∀n tag l st r,M s n tag l st=some r→r.2.bad=false→(10≤tag→ ∃T,VlE T∧IsE st.E T l)→ ∃T,VlE T∧IsE r.2.E T r.1:=by
 intro n
 induction n with
 |zero=>intro tag l st r h;simp [M] at h
 |succ n ih=>
  intro tag l st r h hr hl
  have two: ∀{t1 t2:Nat} {st0:St},t1<10→((M s n t1 0 st0).bind fun r=>M s n t2 r.1 r.2)=some r→ ∃T,VlE T∧IsE r.2.E T r.1:=fun ht h=>by
   obtain⟨q,h1,h2⟩:=z6A.1 h
   exact ih _ _ _ _ h2 hr fun _=>ih _ _ _ _ h1 (z2o h2 hr) (fun e=>by omega)
  have three: ∀{t1 t2:Nat} {st0:St} {c:z6P} {p:Int},t1<10→(∃T,VlE T∧IsE st.E T l)→(orS c.data.toList∨anS c.data.toList∨cmS c.data.toList∨smS c.data.toList∨pdS c.data.toList)→((M s n t1 0 st0).bind fun r=>(zX r.2 ⟨6,p,c,l,r.1⟩).bind fun q=>M s n t2 q.1 q.2)=some r→st0.E=st.E→ ∃T,VlE T∧IsE r.2.E T r.1:=fun ht hT hc h he=>by
   obtain⟨q,h1,h2⟩:=z6A.1 h
   obtain⟨q2,h3,h4⟩:=z6A.1 h2
   obtain⟨_,rfl⟩:=zh h3
   have hb:q.2.bad=false:=by have:=z2o h4 hr;exact this
   obtain⟨T1,v1,i1⟩:=ih _ _ _ _ h1 hb (fun e=>by omega)
   obtain⟨T0,v0,i0⟩:=hT
   obtain⟨⟨F,hF⟩,_⟩:=z3W s _ _ _ _ _ h1
   rw [he] at hF
   exact ih _ _ _ _ h4 hr fun _=>⟨.pa _ T0 T1,⟨hc,v0,v1⟩,z3s (by rw [hF];exact i0.more F) i1⟩
  have one: ∀{t1:Nat} {st0:St} {c:z6P} {p:Int},t1<10→(c.data.toList=[33]∨c.data.toList=[45])→((M s n t1 0 st0).bind fun r=>zX r.2 ⟨5,p,c,r.1,-1⟩)=some r→ ∃T,VlE T∧IsE r.2.E T r.1:=fun ht hc h=>by
   obtain⟨q,h1,h2⟩:=z6A.1 h
   obtain⟨_,rfl⟩:=zh h2
   obtain⟨T1,v1,i1⟩:=ih _ _ _ _ h1 hr (fun e=>by omega)
   exact⟨.pr _ T1,⟨hc,v1⟩,z4u i1⟩
  match tag,h,hl with
  |0,h,hl=>rw [M_0] at h;exact two (by omega) h
  |1,h,hl=>rw [M_1] at h;exact two (by omega) h
  |4,h,hl=>rw [M_4] at h;exact two (by omega) h
  |5,h,hl=>rw [M_5] at h;exact two (by omega) h
  |10,h,hl=>
   rw [z2K] at h
   split at h
   ·exact three (c:=⟨#[124,124]⟩) (t1:=1) (by omega) (hl (by omega)) (.inl rfl) h rfl
   ·cases h;exact hl (by omega)
  |11,h,hl=>
   rw [z2p] at h
   split at h
   ·exact three (c:=⟨#[38,38]⟩) (t1:=2) (by omega) (hl (by omega)) (.inr (.inl rfl)) h rfl
   ·cases h;exact hl (by omega)
  |14,h,hl=>
   rw [z2z] at h
   simp only at h
   split at h
   ·cases h;exact hl (by omega)
   ·rename_i hc
    exact three (t1:=5) (by omega) (hl (by omega)) (.inr (.inr (.inr (.inl (z34 hc))))) h rfl
  |15,h,hl=>
   rw [z2B] at h
   simp only at h
   split at h
   ·cases h;exact hl (by omega)
   ·rename_i hc
    exact three (t1:=6) (by omega) (hl (by omega)) (.inr (.inr (.inr (.inr (z1h hc))))) h rfl
  |2,h,hl=>
   rw [M_2] at h
   split at h
   ·exact ih _ _ _ _ h hr (fun e=>by omega)
   ·exact one (c:=⟨#[33]⟩) (by omega) (.inl rfl) h
  |6,h,hl=>
   rw [M_6] at h
   split at h
   ·exact ih _ _ _ _ h hr (fun e=>by omega)
   ·exact one (c:=⟨#[45]⟩) (by omega) (.inr rfl) h
  |3,h,hl=>
   rw [M_3] at h
   obtain⟨q,h1,h2⟩:=z6A.1 h
   simp only at h2
   split at h2
   ·cases h2
    have hb:q.2.bad=false:=jP hr
    obtain⟨T,v,i⟩:=ih _ _ _ _ h1 hb (fun e=>by omega)
    exact⟨T,v,i⟩
   ·rename_i hc
    obtain⟨q2,h3,h4⟩:=z6A.1 h2
    obtain⟨_,rfl⟩:=zh h4
    have hb2:(q.2.put3 (z7 s q.2.at_ q.2.bad)).bad=false:=z2o h3 hr
    have hb:q.2.bad=false:=jP hb2
    obtain⟨T0,v0,i0⟩:=ih _ _ _ _ h1 hb (fun e=>by omega)
    obtain⟨T1,v1,i1⟩:=ih _ _ _ _ h3 hr (fun e=>by omega)
    obtain⟨⟨F,hF⟩,_⟩:=z3W s _ _ _ _ _ h3
    exact⟨.pa _ T0 T1,⟨.inr (.inr (.inl (z2i hc))),v0,v1⟩,z3s (by rw [hF];exact i0.more F) i1⟩
  |7,h,hl=>
   rw [M_7] at h
   split at h
   ·rename_i hd
    simp only at h
    obtain⟨_,rfl⟩:=zh h
    have hb:(zA s st.at_ st.bad).2.1=false:=hr
    have hs:st.bad=false:=by
     cases hq:st.bad with
     |false=>rfl
     |true=>unfold pkS pk at hd;rw [hq] at hd;cases hd
    rw [hs] at hb ⊢
    exact⟨.lf _ _,.inl ⟨rfl,z3F hb⟩,z1v⟩
   ·split at h
    ·rename_i hd
     simp only at h
     obtain⟨_,rfl⟩:=zh h
     have hb:(zw s st.at_ st.bad).2.1=false:=hr
     have hs:st.bad=false:=by
      cases hq:st.bad with
      |false=>rfl
      |true=>unfold pkS pk at hd;rw [hq] at hd;cases hd
     rw [hs] at hb ⊢
     exact⟨.lf _ _,.inr (.inl ⟨rfl,z3p hb⟩),z1v⟩
    ·split at h
     ·simp only at h
      obtain⟨_,rfl⟩:=zh h
      have hb:(zK s (wrd s [64] st).at_ (wrd s [64] st).bad).2.1=false:=hr
      have hs:=z2v hb
      rw [hs] at hb ⊢
      exact⟨.lf _ _,.inr (.inr (.inr (.inr ⟨rfl,z3T hb⟩))),z1v⟩
     ·split at h
      ·obtain⟨q,h1,h2⟩:=z6A.1 h
       cases h2
       have hb:q.2.bad=false:=z4J hr
       obtain⟨T,v,i⟩:=ih _ _ _ _ h1 hb (fun e=>by omega)
       exact⟨T,v,i⟩
      ·simp only at h
       split at h
       ·rename_i ht
        obtain⟨_,rfl⟩:=zh h
        refine⟨.lf _ _,.inr (.inr (.inl ⟨rfl,?_⟩)),z1v⟩
        simp only [Bool.or_eq_true,beq_iff_eq] at ht
        exact ht
       ·rename_i ht
        obtain⟨_,rfl⟩:=zh h
        have hb:(zK s st.at_ st.bad).2.1=false:=hr
        have hs:=z2v hb
        rw [hs] at hb ht ⊢
        simp only [Bool.or_eq_true,beq_iff_eq,not_or] at ht
        exact⟨.lf _ _,.inr (.inr (.inr (.inl ⟨rfl,z3T hb,ht.1,ht.2⟩))),z1v⟩
  |8,h,hl=>simp [M] at h
  |9,h,hl=>simp [M] at h
  |12,h,hl=>simp [M] at h
  |13,h,hl=>simp [M] at h
  |t+16,h,hl=>simp [M] at h
theorem z14: ∀(xs ys:List Ex) (ts:List Int),z0y (xs++ys) ts=z0y ys (z0y xs ts):=by
 intro xs
 induction xs with
 |nil=>intro ys ts;rfl
 |cons x xs ih=>intro ys ts;exact ih ys _
theorem z30: ∀(xs:List Ex) (ts:List Int),∃us,z0y xs ts=ts++us:=by
 intro xs
 induction xs with
 |nil=>intro ts;exact⟨[],by simp [z0y]⟩
 |cons x xs ih=>
  intro ts
  obtain⟨us,h⟩:=ih (ts++[zg x (zf ts x.left) (zf ts x.right)])
  exact⟨_,by unfold z0y;rw [h,List.append_assoc]⟩
theorem z2S {α:Type}{E:List α}{n:Nat}{x:α}(h:E[n]?=some x):E=E.take n++[x]++E.drop (n+1):=by
 obtain⟨hl,hx⟩:=z6C.1 h
 conv=>lhs;rw [←List.take_append_drop n E,z6I hl,hx]
 simp
theorem z2X {E:List Ex}{n:Nat}{x:Ex}(h:E[n]?=some x):zf (z0y E []) (n:Int)=zg x (zf (z0y (E.take n) []) x.left) (zf (z0y (E.take n) []) x.right)∧ ∀i:Int,i<(n:Int)→zf (z0y (E.take n) []) i=zf (z0y E []) i:=by
 have hl:=(z6C.1 h).1
 have hlen:(z0y (E.take n) []).length=n:=by rw [z2s];simp;omega
 have e:z0y E []=z0y (E.drop (n+1)) (z0y (E.take n) []++[zg x (zf (z0y (E.take n) []) x.left) (zf (z0y (E.take n) []) x.right)]):=by
  conv=>lhs;rw [z2S h,z14,z14]
  rfl
 obtain⟨us,hus⟩:=z30 (E.drop (n+1)) (z0y (E.take n) []++[zg x (zf (z0y (E.take n) []) x.left) (zf (z0y (E.take n) []) x.right)])
 rw [e,hus,List.append_assoc]
 refine⟨?_,fun i hi=>(z5Q (by omega)).symm⟩
 rw [z2l,if_neg (by omega),hlen,Nat.sub_self,z2a]
 rfl
theorem j3 {E:List Ex}{n:Nat}{x:Ex}(l:List (z6P×z6P))(h:E[n]?=some x):wAt (zb l E []) (n:Int)=wOf l x (wAt (zb l (E.take n) []) x.left) (wAt (zb l (E.take n) []) x.right)∧ ∀i:Int,i<(n:Int)→wAt (zb l (E.take n) []) i=wAt (zb l E []) i:=by
 have hl:=(z6C.1 h).1
 have hlen:(zb l (E.take n) []).length=n:=by rw [zE];simp;omega
 have e:zb l E []=zb l (E.drop (n+1)) (zb l (E.take n) []++[wOf l x (wAt (zb l (E.take n) []) x.left) (wAt (zb l (E.take n) []) x.right)]):=by
  conv=>lhs;rw [z2S h,zV,zV]
  rfl
 obtain⟨us,hus⟩:=jt l (E.drop (n+1)) (zb l (E.take n) []++[wOf l x (wAt (zb l (E.take n) []) x.left) (wAt (zb l (E.take n) []) x.right)])
 rw [e,hus,List.append_assoc]
 refine⟨?_,fun i hi=>(z5f (by omega)).symm⟩
 unfold wAt
 rw [if_neg (by omega),List.getD_eq_getElem?_getD,Int.toNat_natCast,List.getElem?_append_right (by omega),hlen,Nat.sub_self]
 rfl
def z5e:TB→Int
 | .inner 0 (f,t) _ _ _=>zg ⟨f,0,⟨t.toArray⟩,-1,-1⟩ 0 0
 | .inner 1 (_,t) _ a _=>zg ⟨5,0,⟨t.toArray⟩,-1,-1⟩ (z5e a) 0
 | .inner 2 (_,t) _ a b=>zg ⟨6,0,⟨t.toArray⟩,-1,-1⟩ (z5e a) (z5e b)
 |_=>0
def tyE (T:TE):Int:=z5e (Subtype.val T)
theorem z2T (f:Int)(t:List UInt8):tyE (.lf f t)=zg ⟨f,0,⟨t.toArray⟩,-1,-1⟩ 0 0:=rfl
theorem jk {b:z6P}{t:List UInt8}(h:b.data.toList=t):b=⟨t.toArray⟩:=z0d (by rw [h])
theorem z6j {f:Int}{t:List UInt8}(h:VlE (.lf f t))(p l r a b:Int):zg ⟨f,p,⟨t.toArray⟩,l,r⟩ a b=tyE (.lf f t):=by
 rw [z2T]
 rcases h with⟨rfl,_⟩|⟨rfl,_⟩|⟨rfl,_⟩|⟨rfl,_⟩|⟨rfl,_⟩<;>rfl
theorem z5R {E:List Ex}: ∀{T:TE} {i:Int},VlE T→IsE E T i→zf (z0y E []) i=tyE T:=by
 intro T
 induction T using TE.ind with
 |lf f t=>
  intro i hv ⟨n,x,h1,h2,h3,h4⟩
  subst h1
  obtain⟨fo,p,tx,l,r⟩:=x
  simp only at h3 h4
  subst h3
  rw [(z2X h2).1,jk h4]
  exact z6j hv _ _ _ _ _
 |pr t a ih=>
  intro i hv ⟨n,x,h1,h2,h3,h4,h5,h6⟩
  subst h1
  obtain⟨fo,p,tx,l,r⟩:=x
  simp only at h3 h4 h5 h6
  subst h3
  obtain⟨k1,k2⟩:=z2X h2
  rw [k1,jk h4]
  simp only
  rw [k2 l h5,ih hv.2 h6]
  rfl
 |pa t a b iha ihb=>
  intro i hv ⟨n,x,h1,h2,h3,h4,h5,h6,h7,h8⟩
  subst h1
  obtain⟨fo,p,tx,l,r⟩:=x
  simp only at h3 h4 h5 h6 h7 h8
  subst h3
  obtain⟨k1,k2⟩:=z2X h2
  rw [k1,jk h4]
  simp only
  rw [k2 l h5,k2 r h6,iha hv.2.1 h7,ihb hv.2.2 h8]
  rfl
def z66:TB→Prop
 | .inner 0 _ _ _ _=>True
 | .inner 1 (_,t) _ a _=>zg ⟨5,0,⟨t.toArray⟩,-1,-1⟩ (z5e a) 0≠0∧z66 a
 | .inner 2 (_,t) _ a b=>zg ⟨6,0,⟨t.toArray⟩,-1,-1⟩ (z5e a) (z5e b)≠0∧z66 a∧z66 b
 |_=>False
def WtE (T:TE):Prop:=z66 (Subtype.val T)
theorem z4V: ∀(xs:List Ex) (ts:List Int),z1i xs ts→ ∀k,ts.length≤k→k<ts.length+xs.length→(z0y xs ts).getD k 0≠0:=by
 intro xs
 induction xs with
 |nil=>intro ts _ k h1 h2;simp at h2;omega
 |cons x xs ih=>
  intro ts ⟨h1,h2⟩ k h3 h4
  by_cases e:k=ts.length
  ·obtain⟨us,hu⟩:=z30 xs (ts++[zg x (zf ts x.left) (zf ts x.right)])
   unfold z0y
   rw [hu,e,List.getD_eq_getElem?_getD,List.append_assoc,List.getElem?_append_right (by omega),Nat.sub_self]
   exact h1
  ·exact ih _ h2 k (by simp;omega) (by simp at h4 ⊢;omega)
theorem z59 {E:List Ex}(h:z1i E []){T:TE}{i:Int}(hv:VlE T)(hi:IsE E T i):tyE T≠0:=by
 rw [←z5R hv hi]
 have hlt:=hi.lt
 have h0:0≤i:=by
  cases T using TE.cas with
  |lf f t=>obtain⟨n,x,h1,_⟩:=hi;omega
  |pr t a=>obtain⟨n,x,h1,_⟩:=hi;omega
  |pa t a b=>obtain⟨n,x,h1,_⟩:=hi;omega
 obtain⟨n,rfl⟩:=Int.eq_ofNat_of_zero_le h0
 rw [z2a]
 exact z4V E [] h n (z6L _) (by simp;omega)
theorem z6o {E:List Ex}(h:z1i E []): ∀{T:TE} {i:Int},VlE T→IsE E T i→WtE T:=by
 intro T
 induction T using TE.ind with
 |lf f t=>intro i _ _;trivial
 |pr t a ih=>
  intro i hv hi
  have:=z59 h hv hi
  obtain⟨n,x,h1,h2,h3,h4,h5,h6⟩:=hi
  exact⟨this,ih hv.2 h6⟩
 |pa t a b iha ihb=>
  intro i hv hi
  have:=z59 h hv hi
  obtain⟨n,x,h1,h2,h3,h4,h5,h6,h7,h8⟩:=hi
  exact⟨this,iha hv.2.1 h7,ihb hv.2.2 h8⟩
theorem z6w {f:Int}{t:z6P}(hf:f≠5∧f≠6∧f≠7)(al:List (z6P×z6P))(p l r p' l' r':Int)(a b a' b':Wt):wOf al ⟨f,p,t,l,r⟩ a b=wOf al ⟨f,p',t,l',r'⟩ a' b':=by
 unfold wOf
 simp [hf.1,hf.2.1,hf.2.2]
theorem z4L {E E':List Ex}(al:List (z6P×z6P)): ∀{T:TE} {i i':Int},VlE T→IsE E T i→IsE E' T i'→wAt (zb al E []) i=wAt (zb al E' []) i':=by
 intro T
 induction T using TE.ind with
 |lf f t=>
  intro i i' hv ⟨n,x,h1,h2,h3,h4⟩ ⟨n',x',h1',h2',h3',h4'⟩
  subst h1 h1'
  obtain⟨fo,p,tx,l,r⟩:=x
  obtain⟨fo',p',tx',l',r'⟩:=x'
  simp only at h3 h4 h3' h4'
  subst h3 h3'
  rw [(j3 al h2).1,(j3 al h2').1,jk h4,jk h4']
  exact z6w (by rcases hv with⟨rfl,_⟩|⟨rfl,_⟩|⟨rfl,_⟩|⟨rfl,_⟩|⟨rfl,_⟩<;>decide) ..
 |pr t a ih=>
  intro i i' hv ⟨n,x,h1,h2,h3,h4,h5,h6⟩ ⟨n',x',h1',h2',h3',h4',h5',h6'⟩
  subst h1 h1'
  obtain⟨fo,p,tx,l,r⟩:=x
  obtain⟨fo',p',tx',l',r'⟩:=x'
  simp only at h3 h4 h5 h6 h3' h4' h5' h6'
  subst h3 h3'
  obtain⟨k1,k2⟩:=j3 al h2
  obtain⟨k1',k2'⟩:=j3 al h2'
  rw [k1,k1',jk h4,jk h4']
  simp only
  rw [k2 l h5,k2' l' h5',ih hv.2 h6 h6']
  rfl
 |pa t a b iha ihb=>
  intro i i' hv ⟨n,x,h1,h2,h3,h4,h5,h6,h7,h8⟩ ⟨n',x',h1',h2',h3',h4',h5',h6',h7',h8'⟩
  subst h1 h1'
  obtain⟨fo,p,tx,l,r⟩:=x
  obtain⟨fo',p',tx',l',r'⟩:=x'
  simp only at h3 h4 h5 h6 h7 h8 h3' h4' h5' h6' h7' h8'
  subst h3 h3'
  obtain⟨k1,k2⟩:=j3 al h2
  obtain⟨k1',k2'⟩:=j3 al h2'
  rw [k1,k1',jk h4,jk h4']
  simp only
  rw [k2 l h5,k2' l' h5',k2 r h6,k2' r' h6',iha hv.2.1 h7 h7',ihb hv.2.2 h8 h8']
  rfl
def z6a:TB→List UInt8
 | .inner 0 (f,t) _ _ _=>if f=1 then 34::(t++[34]) else if f=4 then 64::t else t
 | .inner 1 (_,t) _ a _=>t++z6a a
 | .inner 2 (_,t) _ a b=>40::(z6a a++(32::(t++(32::(z6a b++[41])))))
 |_=>[]
def prE (T:TE):List UInt8:=z6a (Subtype.val T)
theorem z5V (f:Int)(t:List UInt8):prE (.lf f t)=if f=1 then 34::(t++[34]) else if f=4 then 64::t else t:=rfl
theorem z5t (t:List UInt8)(a:TE):prE (.pr t a)=t++prE a:=rfl
theorem z5y (t:List UInt8)(a b:TE):prE (.pa t a b)=40::(prE a++(32::(t++(32::(prE b++[41]))))):=rfl
theorem zY (a b:z6P):(a++b).data.toList=a.data.toList++b.data.toList:=by
 rw [ByteArray.data_append,Array.toList_append]
def dlm (c:Int):Bool:=c== -1||c==32||c==41||c==59||c==10||c==125
theorem z4n {c:Int}(h:dlm c=true):zr c=false∧zc c=false:=by
 unfold dlm at h
 simp only [Bool.or_eq_true,beq_iff_eq] at h
 rcases h with((((rfl|rfl)|rfl)|rfl)|rfl)|rfl<;>decide
structure RdE (T:TE)(st:St)(a:Nat)(r:Int×St):Prop where
 bad:r.2.bad=false
 at_:r.2.at_=a
 ext:ExtE st r.2
 is:IsE r.2.E T r.1
 ty:z1i st.E []→z1i r.2.E []
def qt (s:z6P)(tag a:Nat):Prop:=(tag≤5→z8 s a false=⟨#[]⟩)∧(tag≤4→zd s a false=⟨#[]⟩)∧(tag≤3→z7 s a false=(a,false,⟨#[]⟩))∧(tag≤1→pk s a false≠38)∧(tag≤0→pk s a false≠124)
theorem qt.mono {s:z6P}{t t' a:Nat}(h:qt s t a)(ht:t≤t'):qt s t' a:=⟨fun q=>h.1 (by omega),fun q=>h.2.1 (by omega),fun q=>h.2.2.1 (by omega),fun q=>h.2.2.2.1 (by omega),fun q=>h.2.2.2.2 (by omega)⟩
def qb (tag:Nat)(c:Int):Bool:=(decide (5<tag)||(c !=42&&c !=47&&c !=37))&&(decide (4<tag)||(c !=43&&c !=45&&c !=46))&&(decide (3<tag)||(c !=61&&c !=33&&c !=60&&c !=62))&&(decide (1<tag)||c !=38)&&(decide (0<tag)||c !=124)
theorem z4S {s:z6P}{a tag:Nat}{c:Int}(h:pk s a false=c)(hb:qb tag c=true):qt s tag a:=by
 unfold qb at hb
 simp only [Bool.and_eq_true,Bool.or_eq_true,decide_eq_true_eq,bne_iff_ne] at hb
 obtain⟨⟨⟨⟨h1,h2⟩,h3⟩,h4⟩,h5⟩:=hb
 refine⟨fun q=> ?_,fun q=> ?_,fun q=> ?_,fun q=>by omega,fun q=>by omega⟩
 ·have h1:=h1.resolve_left (by omega)
  unfold z8
  simp [h,h1.1.1,h1.1.2,h1.2]
 ·have h2:=h2.resolve_left (by omega)
  unfold zd jc
  simp [h,h2.1.1,h2.1.2,h2.2]
 ·have h3:=h3.resolve_left (by omega)
  unfold z7
  simp [h,h3.1.1.1,h3.1.1.2,h3.1.2,h3.2]
section
variable {s:z6P} {T:TE} {st:St} {a:Nat}
theorem up6 (H: ∀n r,M s n 7 0 st=some r→RdE T st a r)(h:pkS s st≠45): ∀n r,M s n 6 0 st=some r→RdE T st a r:=by
 intro n r hm
 cases n with
 |zero=>simp [M] at hm
 |succ n=>rw [M_6,if_pos (by simpa using h)] at hm;exact H n r hm
theorem up5 (H: ∀n r,M s n 6 0 st=some r→RdE T st a r)(h:z8 s a false=⟨#[]⟩): ∀n r,M s n 5 0 st=some r→RdE T st a r:=by
 intro n r hm
 cases n with
 |zero=>simp [M] at hm
 |succ n=>
  rw [M_5] at hm
  obtain⟨q,h1,h2⟩:=z6A.1 hm
  have k:=H n q h1
  cases n with
  |zero=>simp [M] at h2
  |succ n=>
   rw [z2B,k.at_,k.bad,h] at h2
   have h2:some (q.1,q.2)=some r:=h2
   cases h2
   exact k
theorem up4 (H: ∀n r,M s n 5 0 st=some r→RdE T st a r)(h:zd s a false=⟨#[]⟩): ∀n r,M s n 4 0 st=some r→RdE T st a r:=by
 intro n r hm
 cases n with
 |zero=>simp [M] at hm
 |succ n=>
  rw [M_4] at hm
  obtain⟨q,h1,h2⟩:=z6A.1 hm
  have k:=H n q h1
  cases n with
  |zero=>simp [M] at h2
  |succ n=>
   rw [z2z,k.at_,k.bad,h] at h2
   have h2:some (q.1,q.2)=some r:=h2
   cases h2
   exact k
theorem up3 (H: ∀n r,M s n 4 0 st=some r→RdE T st a r)(h:z7 s a false=(a,false,⟨#[]⟩)): ∀n r,M s n 3 0 st=some r→RdE T st a r:=by
 intro n r hm
 cases n with
 |zero=>simp [M] at hm
 |succ n=>
  rw [M_3] at hm
  obtain⟨q,h1,h2⟩:=z6A.1 hm
  have k:=H n q h1
  simp only at h2
  rw [k.at_,k.bad,h] at h2
  have h2:some (q.1,q.2.put3 (a,false,⟨#[]⟩))=some r:=h2
  cases h2
  exact⟨rfl,rfl,k.ext,k.is,k.ty⟩
theorem up2 (H: ∀n r,M s n 3 0 st=some r→RdE T st a r)(h:pkS s st≠33): ∀n r,M s n 2 0 st=some r→RdE T st a r:=by
 intro n r hm
 cases n with
 |zero=>simp [M] at hm
 |succ n=>rw [M_2,if_pos (by simpa using h)] at hm;exact H n r hm
theorem up1 (H: ∀n r,M s n 2 0 st=some r→RdE T st a r)(h:pk s a false≠38): ∀n r,M s n 1 0 st=some r→RdE T st a r:=by
 intro n r hm
 cases n with
 |zero=>simp [M] at hm
 |succ n=>
  rw [M_1] at hm
  obtain⟨q,h1,h2⟩:=z6A.1 hm
  have k:=H n q h1
  cases n with
  |zero=>simp [M] at h2
  |succ n=>
   rw [z2p,if_neg (by unfold pkS;rw [k.at_,k.bad];simpa using h)] at h2
   cases h2
   exact k
theorem up0 (H: ∀n r,M s n 1 0 st=some r→RdE T st a r)(h:pk s a false≠124): ∀n r,M s n 0 0 st=some r→RdE T st a r:=by
 intro n r hm
 cases n with
 |zero=>simp [M] at hm
 |succ n=>
  rw [M_0] at hm
  obtain⟨q,h1,h2⟩:=z6A.1 hm
  have k:=H n q h1
  cases n with
  |zero=>simp [M] at h2
  |succ n=>
   rw [z2K,if_neg (by unfold pkS;rw [k.at_,k.bad];simpa using h)] at h2
   cases h2
   exact k
theorem z6h {lv:Nat}(hlv:lv≤7)(H: ∀n r,M s n lv 0 st=some r→RdE T st a r)(h45:lv=7→pkS s st≠45)(h33:3≤lv→pkS s st≠33): ∀d tag,tag+d=lv→qt s tag a→ ∀n r,M s n tag 0 st=some r→RdE T st a r:=by
 intro d
 induction d with
 |zero=>
   intro tag e _;have:tag=lv:=by omega
   subst this;exact H
 |succ d ih=>
  intro tag e q
  have k:=ih (tag+1) (by omega) (q.mono (by omega))
  match tag,q,k,e with
  |0,q,k,e=>exact up0 k (q.2.2.2.2 (by omega))
  |1,q,k,e=>exact up1 k (q.2.2.2.1 (by omega))
  |2,q,k,e=>exact up2 k (h33 (by omega))
  |3,q,k,e=>exact up3 k (q.2.2.1 (by omega))
  |4,q,k,e=>exact up4 k (q.2.1 (by omega))
  |5,q,k,e=>exact up5 k (q.1 (by omega))
  |6,q,k,e=>exact up6 k (h45 (by omega))
  |t+7,q,k,e=>omega
theorem z01 {lv tag:Nat}(hlv:lv≤7)(H: ∀n r,M s n lv 0 st=some r→RdE T st a r)(h45:lv=7→pkS s st≠45)(h33:3≤lv→pkS s st≠33)(ht:tag≤lv)(q:qt s tag a): ∀n r,M s n tag 0 st=some r→RdE T st a r:=z6h hlv H h45 h33 (lv - tag) tag (by omega) q
end
theorem z1e {E:List Ex}{x:Ex}{T:TE}(hE:z1i E [])(hv:VlE T)(hi:IsE (E++[x]) T (E.length:Int))(hz:tyE T≠0):z1i (E++[x]) []:=by
 refine(z2P _ _ _).2 ⟨hE,?_⟩
 have h1:=(z2X (js E x)).1
 rw [z5R hv hi,List.take_left] at h1
 exact⟨by rw [←h1];exact hz,trivial⟩
theorem z19 {st:St}{a:Nat}{f p:Int}{tx:z6P}{t:List UInt8}{r:Int×St}(h:zX {st with at_:=a,bad:=false} ⟨f,p,tx,-1,-1⟩=some r)(ht:tx.data.toList=t)(hv:VlE (.lf f t))(hz:tyE (.lf f t)≠0):RdE (.lf f t) st a r:=by
 obtain⟨_,rfl⟩:=zh h
 subst ht
 have hi:IsE (st.E++[⟨f,p,tx,-1,-1⟩]) (.lf f tx.data.toList) (st.E.length:Int):=z1v
 exact⟨rfl,rfl,⟨⟨_,rfl⟩,rfl,rfl,rfl⟩,hi,fun hE=>z1e hE hv hi hz⟩
def z6y:TB→Nat
 | .inner 1 (_,t) _ _ _=>if t=[33] then 2 else 6
 |_=>7
def lvE (T:TE):Nat:=z6y (Subtype.val T)
theorem z1z (t:List UInt8)(a:TE):lvE (.pr t a)=if t=[33] then 2 else 6:=rfl
theorem z4K (f:Int)(t:List UInt8):lvE (.lf f t)=7:=rfl
theorem z4G (t:List UInt8)(a b:TE):lvE (.pa t a b)=7:=rfl
theorem z3A {c:Int}(h:zr c=true):65≤c∧c≤122:=by
 unfold zr at h
 simp only [Bool.or_eq_true,Bool.and_eq_true,decide_eq_true_eq] at h
 omega
theorem z3E {c:Int}(h:zc c=true):48≤c∧c≤57:=by
 unfold zc at h
 simp only [Bool.and_eq_true,decide_eq_true_eq] at h
 omega
theorem z60 {c:Int}(h:c<48∨57<c):zc c=false:=by
 unfold zc
 simp only [Bool.and_eq_false_iff,decide_eq_false_iff_not]
 omega
theorem z1V:z4i z1j∧z4i z0p:=by
 refine⟨⟨by decide,by decide,?_⟩,⟨by decide,by decide,?_⟩⟩<;>decide
theorem jD {s:z6P}{a:Nat}{T:TE}(hv:VlE T)(h:At s a (prE T)):pk s a false≠32∧(lvE T≠2→pk s a false≠33)∧(lvE T=7→pk s a false≠45):=by
 have nm: ∀{t:List UInt8},z4i t→At s a t→65≤pk s a false:=fun{t} ht h=>by
  cases t with
  |nil=>have:=ht.1;simp at this
  |cons c cs=>rw [h.1];exact(z3A (ht.2.2 c List.mem_cons_self)).1
 cases T using TE.cas with
 |lf f t=>
  rw [z5V] at h
  rcases hv with⟨rfl,hn⟩|⟨rfl,hq⟩|⟨rfl,ht⟩|⟨rfl,hn,_⟩|⟨rfl,hn⟩
  ·have h:At s a t:=h
   cases t with
   |nil=>have:=hn.1;simp at this
   |cons c cs=>
    have:=z3E (hn.2.2.1 c List.mem_cons_self)
    rw [h.1]
    exact⟨by omega,fun _=>by omega,fun _=>by omega⟩
  ·have h:At s a (34::(t++[34])):=h
   rw [h.1]
   exact⟨by decide,fun _=>by decide,fun _=>by decide⟩
  ·have h:At s a t:=h
   have:=nm (by rcases ht with rfl|rfl;exact z1V.1;exact z1V.2) h
   exact⟨by omega,fun _=>by omega,fun _=>by omega⟩
  ·have:=nm hn h
   exact⟨by omega,fun _=>by omega,fun _=>by omega⟩
  ·have h:At s a (64::t):=h
   rw [h.1]
   exact⟨by decide,fun _=>by decide,fun _=>by decide⟩
 |pr t b=>
  rw [z5t] at h
  rcases hv.1 with rfl|rfl
  ·rw [h.1]
   exact⟨by decide,fun e=>absurd rfl e,fun e=>by simp [z1z] at e⟩
  ·rw [h.1]
   exact⟨by decide,fun e=>by decide,fun e=>by simp [z1z] at e⟩
 |pa t b c=>
  rw [z5y] at h
  rw [h.1]
  exact⟨by decide,fun _=>by decide,fun _=>by decide⟩
theorem z3S {T:TE}:lvE T≤7∧2≤lvE T:=by
 cases T using TE.cas with
 |lf f t=>rw [z4K];omega
 |pr t a=>rw [z1z];split<;>omega
 |pa t a b=>rw [z4G];omega
theorem z0o {T:TE}(h0:tyE T≠0)(h1:tyE T≠1):6≤lvE T:=by
 cases T using TE.cas with
 |lf f t=>rw [z4K];omega
 |pa t a b=>rw [z4G];omega
 |pr t b=>
  rw [z1z]
  split
  ·rename_i e
   exfalso
   subst e
   have e:tyE (.pr [33] b)=zo (tyE b==1) 1:=by
    show zg ⟨5,0,⟨#[33]⟩,-1,-1⟩ (tyE b) 0=_
    unfold zg
    simp [z6D]
   rw [e] at h0 h1
   unfold zo at h0 h1
   split at h0
   ·exact h1 (by rename_i q;rw [if_pos q])
   ·exact h0 rfl
  ·omega
theorem z2A {t:List UInt8}{a b:TE}(h:tyE (.pa t a b)≠0)(ht:cmS t∨smS t∨pdS t):tyE a≠1∧tyE b≠1:=by
 have e:tyE (.pa t a b)=za ⟨t.toArray⟩ (tyE a) (tyE b):=by
  show zg ⟨6,0,⟨t.toArray⟩,-1,-1⟩ (tyE a) (tyE b)=_
  unfold zg
  simp
 rw [e] at h
 have key: ∀l r,l=1∨r=1→za ⟨t.toArray⟩ l r=0:=by
  intro l r hlr
  unfold za
  by_cases hl:l=r
  ·subst hl
   have hl:l=1:=by omega
   subst hl
   unfold cmS smS pdS at ht
   rcases ht with(rfl|rfl|rfl|rfl|rfl|rfl)|(rfl|rfl|rfl)|(rfl|rfl|rfl)<;>simp [je,zo,z6D]
  ·rw [if_pos (by simpa using hl)]
 exact⟨fun e1=>h (key _ _ (.inl e1)),fun e1=>h (key _ _ (.inr e1))⟩
theorem z4T {b:TE}(h:tyE (.pr [45] b)≠0):tyE b≠1:=by
 intro e1
 refine h ?_
 show zg ⟨5,0,⟨#[45]⟩,-1,-1⟩ (tyE b) 0=0
 rw [e1]
 unfold zg
 simp [z6D,zo]
theorem z5K {T:TE}{st:St}{p:Nat}{q r:Int×St}{c:z6P}{pl:Int}(k:RdE T st p q)(h:zX q.2 ⟨5,pl,c,q.1,-1⟩=some r)(hv:VlE (.pr c.data.toList T))(hz:tyE (.pr c.data.toList T)≠0):RdE (.pr c.data.toList T) st p r:=by
 obtain⟨_,rfl⟩:=zh h
 have hi:IsE (q.2.E++[⟨5,pl,c,q.1,-1⟩]) (.pr c.data.toList T) (q.2.E.length:Int):=z4u k.is
 exact⟨k.bad,k.at_,k.ext.trans ⟨⟨_,rfl⟩,rfl,rfl,rfl⟩,hi,fun hE=>z1e (k.ty hE) hv hi hz⟩
theorem z3b {T U:TE}{st st2:St}{p1 p:Nat}{q q2 r:Int×St}{c:z6P}{pl:Int}(k:RdE T st p1 q)(k2:RdE U st2 p q2)(e:ExtE q.2 st2)(eE:st2.E=q.2.E)(h:zX q2.2 ⟨6,pl,c,q.1,q2.1⟩=some r)(hv:VlE (.pa c.data.toList T U))(hz:tyE (.pa c.data.toList T U)≠0):RdE (.pa c.data.toList T U) st p r:=by
 obtain⟨_,rfl⟩:=zh h
 obtain⟨⟨F,hF⟩,_⟩:=k2.ext
 have hi:IsE (q2.2.E++[⟨6,pl,c,q.1,q2.1⟩]) (.pa c.data.toList T U) (q2.2.E.length:Int):=z3s (by rw [hF,eE];exact k.is.more F) k2.is
 refine⟨k2.bad,k2.at_,(k.ext.trans (e.trans k2.ext)).trans ⟨⟨_,rfl⟩,rfl,rfl,rfl⟩,hi,fun hE=>z1e (k2.ty ?_) hv hi hz⟩
 rw [eE]
 exact k.ty hE
theorem z2Y (st:St)(a:Nat):ExtE st {st with at_:=a}:=⟨⟨[],by simp⟩,rfl,rfl,rfl⟩
def Rb (s:z6P)(T:TE):Prop:= ∀(tag:Nat),tag≤lvE T→ ∀(st:St),st.bad=false→At s st.at_ (prE T)→dlm (pk s (st.at_+(prE T).length) false)=true→qt s tag (skip s (st.at_+(prE T).length) false)→ ∀n r,M s n tag 0 st=some r→RdE T st (skip s (st.at_+(prE T).length) false) r
theorem z6q {s:z6P}{f:Int}{t:List UInt8}(hv:VlE (.lf f t))(hz:tyE (.lf f t)≠0):Rb s (.lf f t):=by
 intro tag ht st hb hat hd hq
 obtain⟨hh1,hh2,hh3⟩:=jD hv hat
 have hp:pkS s st=pk s st.at_ false:=by unfold pkS;rw [hb]
 refine z01 (lv:=7) (z6E _) ?_ (fun _=>by rw [hp];exact hh3 rfl) (fun _=>by rw [hp];exact hh2 (show(7:Nat)≠2 by decide)) ht hq
 intro n r hm
 cases n with
 |zero=>simp [M] at hm
 |succ n=>
  rw [M_7] at hm
  simp only [hp,hb] at hm
  have nm:z4i t→At s st.at_ t→zc (pk s st.at_ false)=false∧(pk s st.at_ false==34)=false∧(pk s st.at_ false==64)=false∧(pk s st.at_ false==40)=false:=fun ht h=>by
   cases t with
   |nil=>have:=ht.1;simp at this
   |cons c cs=>
    have:=(z3A (ht.2.2 c List.mem_cons_self)).1
    rw [h.1]
    refine⟨z60 (by omega),?_,?_,?_⟩<;>simp<;>omega
  have hv':=hv
  rcases hv with⟨rfl,hn⟩|⟨rfl,hn⟩|⟨rfl,hn⟩|⟨rfl,hn,n1,n2⟩|⟨rfl,hn⟩
  ·have e:prE (.lf 0 t)=t:=rfl
   rw [e] at hat hd ⊢
   have hdg:zc (pk s st.at_ false)=true:=by
    cases t with
    |nil=>have:=hn.1;simp at this
    |cons c cs=>rw [hat.1];exact hn.2.2.1 c List.mem_cons_self
   rw [if_pos hdg,z42 hat hn (z4n hd).2] at hm
   exact z19 hm (jA hat) hv' hz
  ·have e:prE (.lf 1 t)=34::(t++[34]):=rfl
   rw [e] at hat hd ⊢
   have h0:=hat.1
   rw [if_neg (by rw [h0];decide),if_pos (by rw [h0];decide),z3z hat hn] at hm
   rw [show(34::(t++[34]):List UInt8).length=t.length+2 by simp]
   exact z19 hm (jA ((ja _ _ _).1 hat.2).1) hv' hz
  ·have e:prE (.lf 2 t)=t:=rfl
   rw [e] at hat hd ⊢
   have hnm:z4i t:=by rcases hn with rfl|rfl;exact z1V.1;exact z1V.2
   obtain⟨g1,g2,g3,g4⟩:=nm hnm hat
   have hx:=jA hat
   have hc:((s.extract st.at_ (st.at_+t.length)).data.toList==[116,114,117,101]||(s.extract st.at_ (st.at_+t.length)).data.toList==[102,97,108,115,101])=true:=by
    rw [hx]
    rcases hn with rfl|rfl<;>decide
   rw [if_neg (by rw [g1];decide),if_neg (by rw [g2];decide),if_neg (by rw [g3];decide),if_neg (by rw [g4];decide),z2M hat hnm (z4n hd).1] at hm
   simp only [hc,if_true] at hm
   exact z19 hm hx hv' hz
  ·have e:prE (.lf 3 t)=t:=rfl
   rw [e] at hat hd ⊢
   obtain⟨g1,g2,g3,g4⟩:=nm hn hat
   have hx:=jA hat
   have hc:((s.extract st.at_ (st.at_+t.length)).data.toList==[116,114,117,101]||(s.extract st.at_ (st.at_+t.length)).data.toList==[102,97,108,115,101])=false:=by
    rw [hx]
    have n1:(t==[116,114,117,101])=false:=by simpa [z1j] using n1
    have n2:(t==[102,97,108,115,101])=false:=by simpa [z0p] using n2
    rw [n1,n2]
    rfl
   rw [if_neg (by rw [g1];decide),if_neg (by rw [g2];decide),if_neg (by rw [g3];decide),if_neg (by rw [g4];decide),z2M hat hn (z4n hd).1] at hm
   simp only [hc] at hm
   exact z19 hm hx hv' hz
  ·have e:prE (.lf 4 t)=64::t:=rfl
   rw [e] at hat hd ⊢
   have h0:=hat.1
   have hd:dlm (pk s (st.at_+1+t.length) false)=true:=by rw [show st.at_+1+t.length=st.at_+(64::t).length by simp;omega];exact hd
   rw [if_neg (by rw [h0];decide),if_neg (by rw [h0];decide),if_pos (by rw [h0];decide),z5x hb (l:=[64]) ⟨hat.1,trivial⟩] at hm
   have e1:st.at_+([64]:List UInt8).length=st.at_+1:=rfl
   simp only [e1,hb,z2M hat.2 hn (z4n hd).1] at hm
   rw [show st.at_+(64::t).length=st.at_+1+t.length by simp;omega]
   exact z19 (st:=st) hm (jA hat.2) hv' hz
theorem z6l {s:z6P}{t:List UInt8}{a:TE}(ih:Rb s a)(hv:VlE (.pr t a))(hz:tyE (.pr t a)≠0)(hza:tyE a≠0):Rb s (.pr t a):=by
 intro tag ht st hb hat hd hq
 have hp:pkS s st=pk s st.at_ false:=by unfold pkS;rw [hb]
 obtain⟨hh1,hh2,hh3⟩:=jD hv hat
 rcases hv.1 with rfl|rfl
 ·have e:prE (.pr [33] a)=33::prE a:=rfl
  rw [e] at hat hd hq ⊢
  obtain⟨h0,h1⟩:=hat
  have hl:st.at_+(33::prE a).length=st.at_+1+(prE a).length:=by simp;omega
  rw [hl] at hd hq ⊢
  have ht2:tag≤2:=by simpa [z1z] using ht
  refine z01 (lv:=2) (by omega) ?_ (fun e=>by omega) (fun e=>by omega) ht2 hq
  intro n r hm
  cases n with
  |zero=>simp [M] at hm
  |succ n=>
   rw [M_2,if_neg (by rw [hp,h0];decide)] at hm
   obtain⟨q,h2,h3⟩:=z6A.1 hm
   have hs:sgn s [33] st={st with at_:=st.at_+1}:=by
    rw [z16 (l:=[33]) hb ⟨h0,trivial⟩]
    show({st with at_:=skip s (st.at_+1) false}:St)=_
    rw [zx (jD hv.2 h1).1]
   rw [hs] at h2
   have k:=ih 2 z3S.2 {st with at_:=st.at_+1} hb h1 hd (hq.mono ht2) n q h2
   exact z5K (c:=⟨#[33]⟩) (st:=st) ⟨k.bad,k.at_,k.ext,k.is,k.ty⟩ h3 hv hz
 ·have e:prE (.pr [45] a)=45::prE a:=rfl
  rw [e] at hat hd hq ⊢
  obtain⟨h0,h1⟩:=hat
  have hl:st.at_+(45::prE a).length=st.at_+1+(prE a).length:=by simp;omega
  rw [hl] at hd hq ⊢
  have ht6:tag≤6:=by simpa [z1z] using ht
  refine z01 (lv:=6) (by omega) ?_ (fun e=>by omega) (fun _=>by rw [hp,h0];decide) ht6 hq
  intro n r hm
  cases n with
  |zero=>simp [M] at hm
  |succ n=>
   rw [M_6,if_neg (by rw [hp,h0];decide)] at hm
   obtain⟨q,h2,h3⟩:=z6A.1 hm
   have hs:sgn s [45] st={st with at_:=st.at_+1}:=by
    rw [z16 (l:=[45]) hb ⟨h0,trivial⟩]
    show({st with at_:=skip s (st.at_+1) false}:St)=_
    rw [zx (jD hv.2 h1).1]
   rw [hs] at h2
   have k:=ih 6 (z0o hza (z4T hz)) {st with at_:=st.at_+1} hb h1 hd (qt.mono hq ht6) n q h2
   exact z5K (c:=⟨#[45]⟩) (st:=st) ⟨k.bad,k.at_,k.ext,k.is,k.ty⟩ h3 hv hz
structure Lay (s:z6P)(t:List UInt8)(a b:TE)(x0 q0 q1 p:Nat):Prop where
 at1:At s x0 (prE a)
 sk1:skip s (x0+(prE a).length) false=q0
 d1:dlm (pk s (x0+(prE a).length) false)=true
 ats:At s q0 t
 b2:pk s (q0+t.length) false=32
 sk2:skip s (q0+t.length) false=q1
 at2:At s q1 (prE b)
 end_:q1+(prE b).length=p
 c41:pk s p false=41
theorem Lay.d2 {s:z6P}{t:List UInt8}{a b:TE}{x0 q0 q1 p:Nat}(h:Lay s t a b x0 q0 q1 p):dlm (pk s (q1+(prE b).length) false)=true:=by rw [h.end_,h.c41];rfl
theorem Lay.sk3 {s:z6P}{t:List UInt8}{a b:TE}{x0 q0 q1 p:Nat}(h:Lay s t a b x0 q0 q1 p):skip s (q1+(prE b).length) false=p:=by rw [h.end_,zx (by rw [h.c41];decide)]
section
variable {s:z6P} {t:List UInt8} {a b:TE} {st:St} {q0 q1 p:Nat}
theorem Lay.ra (L:Lay s t a b st.at_ q0 q1 p)(ih:Rb s a){tag:Nat}(ht:tag≤lvE a)(hb:st.bad=false){c:Int}(hc:pk s q0 false=c)(hq:qb tag c=true){n:Nat}{r:Int×St}(h:M s n tag 0 st=some r):RdE a st q0 r:=by
 have:=ih tag ht st hb L.at1 L.d1 (by rw [L.sk1];exact z4S hc hq) n r h
 rw [L.sk1] at this
 exact this
theorem Lay.rb (L:Lay s t a b st.at_ q0 q1 p)(ih:Rb s b){tag:Nat}(ht:tag≤lvE b){st2:St}(hb:st2.bad=false)(ha:st2.at_=q1)(hq:qb tag 41=true){n:Nat}{r:Int×St}(h:M s n tag 0 st2=some r):RdE b st2 p r:=by
 have:=ih tag ht st2 hb (by rw [ha];exact L.at2) (by rw [ha];exact L.d2) (by rw [ha,L.sk3];exact z4S L.c41 hq) n r h
 rw [ha,L.sk3] at this
 exact this
theorem Lay.sg (L:Lay s t a b st.at_ q0 q1 p){r:Int×St}(k:RdE a st q0 r):sgn s t r.2={r.2 with at_:=q1}:=by
 rw [z16 k.bad (by rw [k.at_];exact L.ats),k.at_,L.sk2]
theorem z5B (L:Lay s t a b st.at_ q0 q1 p)(iha:Rb s a)(ihb:Rb s b)(hb:st.bad=false)(hv:VlE (.pa t a b))(hz:tyE (.pa t a b)≠0)(ht:orS t)(la:1≤lvE a)(lb:1≤lvE b): ∀n r,M s n 0 0 st=some r→RdE (.pa t a b) st p r:=by
 intro n r hm
 cases n with
 |zero=>simp [M] at hm
 |succ n=>
  rw [M_0] at hm
  obtain⟨q,h1,h2⟩:=z6A.1 hm
  cases n with
  |zero=>simp [M] at h2
  |succ n=>
   obtain rfl:t=[124,124]:=ht
   have k:=L.ra iha la hb L.ats.1 (by decide) h1
   rw [z2K,if_pos (by unfold pkS;rw [k.at_,k.bad,L.ats.1];decide),L.sg k] at h2
   obtain⟨q2,h3,h4⟩:=z6A.1 h2
   obtain⟨q3,h5,h6⟩:=z6A.1 h4
   have k2:=L.rb ihb lb (st2:={q.2 with at_:=q1}) k.bad rfl (by decide) h3
   have k3:=z3b (c:=⟨#[124,124]⟩) k k2 (z2Y _ _) rfl h5 hv hz
   cases n with
   |zero=>simp [M] at h6
   |succ n=>
    rw [z2K,if_neg (by unfold pkS;rw [k3.at_,k3.bad,L.c41];decide)] at h6
    cases h6
    exact k3
theorem z5Z (L:Lay s t a b st.at_ q0 q1 p)(iha:Rb s a)(ihb:Rb s b)(hb:st.bad=false)(hv:VlE (.pa t a b))(hz:tyE (.pa t a b)≠0)(ht:anS t)(la:2≤lvE a)(lb:2≤lvE b): ∀n r,M s n 1 0 st=some r→RdE (.pa t a b) st p r:=by
 intro n r hm
 cases n with
 |zero=>simp [M] at hm
 |succ n=>
  rw [M_1] at hm
  obtain⟨q,h1,h2⟩:=z6A.1 hm
  cases n with
  |zero=>simp [M] at h2
  |succ n=>
   obtain rfl:t=[38,38]:=ht
   have k:=L.ra iha la hb L.ats.1 (by decide) h1
   rw [z2p,if_pos (by unfold pkS;rw [k.at_,k.bad,L.ats.1];decide),L.sg k] at h2
   obtain⟨q2,h3,h4⟩:=z6A.1 h2
   obtain⟨q3,h5,h6⟩:=z6A.1 h4
   have k2:=L.rb ihb lb (st2:={q.2 with at_:=q1}) k.bad rfl (by decide) h3
   have k3:=z3b (c:=⟨#[38,38]⟩) k k2 (z2Y _ _) rfl h5 hv hz
   cases n with
   |zero=>simp [M] at h6
   |succ n=>
    rw [z2p,if_neg (by unfold pkS;rw [k3.at_,k3.bad,L.c41];decide)] at h6
    cases h6
    exact k3
theorem z61 (L:Lay s t a b st.at_ q0 q1 p)(iha:Rb s a)(ihb:Rb s b)(hb:st.bad=false)(hv:VlE (.pa t a b))(hz:tyE (.pa t a b)≠0)(ht:smS t)(la:5≤lvE a)(lb:5≤lvE b): ∀n r,M s n 4 0 st=some r→RdE (.pa t a b) st p r:=by
 intro n r hm
 cases n with
 |zero=>simp [M] at hm
 |succ n=>
  rw [M_4] at hm
  obtain⟨q,h1,h2⟩:=z6A.1 hm
  cases n with
  |zero=>simp [M] at h2
  |succ n=>
   have key: ∃c:UInt8,t=[c]∧zd s q0 false=⟨#[c]⟩∧qb 5 (c.toNat:Int)=true:=by
    have hn:pk s (q0+1) false=32:=by
     rcases ht with rfl|rfl|rfl<;>exact L.b2
    rcases ht with rfl|rfl|rfl
    ·exact⟨43,rfl,by unfold zd jc;rw [L.ats.1,hn];rfl,by decide⟩
    ·exact⟨45,rfl,by unfold zd jc;rw [L.ats.1,hn];rfl,by decide⟩
    ·exact⟨46,rfl,by unfold zd jc;rw [L.ats.1,hn];rfl,by decide⟩
   obtain⟨c,rfl,hs,hqb⟩:=key
   have k:=L.ra iha la hb L.ats.1 hqb h1
   rw [z2z,k.at_,k.bad,hs] at h2
   have h2:((M s n 5 0 (sgn s [c] q.2)).bind fun r=>(zX r.2 ⟨6,(q0:Int),⟨#[c]⟩,q.1,r.1⟩).bind fun q=>M s n 14 q.1 q.2)=some r:=h2
   rw [L.sg k] at h2
   obtain⟨q2,h3,h4⟩:=z6A.1 h2
   obtain⟨q3,h5,h6⟩:=z6A.1 h4
   have k2:=L.rb ihb lb (st2:={q.2 with at_:=q1}) k.bad rfl (by decide) h3
   have k3:=z3b (c:=⟨#[c]⟩) k k2 (z2Y _ _) rfl h5 hv hz
   have hend:zd s p false=⟨#[]⟩:=(z4S (tag:=0) L.c41 (by decide)).2.1 (by omega)
   cases n with
   |zero=>simp [M] at h6
   |succ n=>
    rw [z2z,k3.at_,k3.bad,hend] at h6
    have h6:some (q3.1,q3.2)=some r:=h6
    cases h6
    exact k3
theorem z5Y (L:Lay s t a b st.at_ q0 q1 p)(iha:Rb s a)(ihb:Rb s b)(hb:st.bad=false)(hv:VlE (.pa t a b))(hz:tyE (.pa t a b)≠0)(ht:pdS t)(la:6≤lvE a)(lb:6≤lvE b): ∀n r,M s n 5 0 st=some r→RdE (.pa t a b) st p r:=by
 intro n r hm
 cases n with
 |zero=>simp [M] at hm
 |succ n=>
  rw [M_5] at hm
  obtain⟨q,h1,h2⟩:=z6A.1 hm
  cases n with
  |zero=>simp [M] at h2
  |succ n=>
   have key: ∃c:UInt8,t=[c]∧z8 s q0 false=⟨#[c]⟩∧qb 6 (c.toNat:Int)=true:=by
    rcases ht with rfl|rfl|rfl
    ·exact⟨42,rfl,by unfold z8;rw [L.ats.1];rfl,by decide⟩
    ·exact⟨47,rfl,by unfold z8;rw [L.ats.1];rfl,by decide⟩
    ·exact⟨37,rfl,by unfold z8;rw [L.ats.1];rfl,by decide⟩
   obtain⟨c,rfl,hs,hqb⟩:=key
   have k:=L.ra iha la hb L.ats.1 hqb h1
   rw [z2B,k.at_,k.bad,hs] at h2
   have h2:((M s n 6 0 (sgn s [c] q.2)).bind fun r=>(zX r.2 ⟨6,(q0:Int),⟨#[c]⟩,q.1,r.1⟩).bind fun q=>M s n 15 q.1 q.2)=some r:=h2
   rw [L.sg k] at h2
   obtain⟨q2,h3,h4⟩:=z6A.1 h2
   obtain⟨q3,h5,h6⟩:=z6A.1 h4
   have k2:=L.rb ihb lb (st2:={q.2 with at_:=q1}) k.bad rfl (by decide) h3
   have k3:=z3b (c:=⟨#[c]⟩) k k2 (z2Y _ _) rfl h5 hv hz
   have hend:z8 s p false=⟨#[]⟩:=(z4S (tag:=0) L.c41 (by decide)).1 (by omega)
   cases n with
   |zero=>simp [M] at h6
   |succ n=>
    rw [z2B,k3.at_,k3.bad,hend] at h6
    have h6:some (q3.1,q3.2)=some r:=h6
    cases h6
    exact k3
theorem z5H (L:Lay s t a b st.at_ q0 q1 p)(iha:Rb s a)(ihb:Rb s b)(hb:st.bad=false)(hv:VlE (.pa t a b))(hz:tyE (.pa t a b)≠0)(ht:cmS t)(la:4≤lvE a)(lb:4≤lvE b): ∀n r,M s n 3 0 st=some r→RdE (.pa t a b) st p r:=by
 intro n r hm
 cases n with
 |zero=>simp [M] at hm
 |succ n=>
  rw [M_3] at hm
  obtain⟨q,h1,h2⟩:=z6A.1 hm
  have key:z7 s q0 false=(q1,false,⟨t.toArray⟩)∧(∃c:Int,pk s q0 false=c∧qb 4 c=true)∧((⟨t.toArray⟩:z6P).size==0)=false:=by
   have hb2:=L.b2
   have hsk:=L.sk2
   rcases ht with rfl|rfl|rfl|rfl|rfl|rfl
   ·refine⟨?_,⟨_,L.ats.1,by decide⟩,by decide⟩
    unfold z7
    rw [if_pos (by rw [L.ats.1];decide),z05 L.ats,hsk]
   ·refine⟨?_,⟨_,L.ats.1,by decide⟩,by decide⟩
    unfold z7
    rw [if_neg (by rw [L.ats.1];decide),if_pos (by rw [L.ats.1];decide),z05 L.ats,hsk]
   ·refine⟨?_,⟨_,L.ats.1,by decide⟩,by decide⟩
    unfold z7
    rw [if_neg (by rw [L.ats.1];decide),if_neg (by rw [L.ats.1];decide),if_pos (by rw [L.ats.1];decide)]
    unfold zl
    simp only
    rw [z09 [60] q0 L.ats]
    simp only
    rw [if_pos (by rw [hb2];decide),hsk]
   ·refine⟨?_,⟨_,L.ats.1,by decide⟩,by decide⟩
    unfold z7
    rw [if_neg (by rw [L.ats.1];decide),if_neg (by rw [L.ats.1];decide),if_pos (by rw [L.ats.1];decide)]
    unfold zl
    simp only
    rw [z09 [60] q0 ⟨L.ats.1,trivial⟩]
    simp only
    rw [if_neg (by show ¬(pk s (q0+1) false !=61)=true;rw [L.ats.2.1];decide),z05 (l:=[61]) (show At s (q0+([60]:List UInt8).length) [61] from L.ats.2)]
    rw [show q0+([60]:List UInt8).length+([61]:List UInt8).length=q0+([60,61]:List UInt8).length from rfl,hsk]
   ·refine⟨?_,⟨_,L.ats.1,by decide⟩,by decide⟩
    unfold z7
    rw [if_neg (by rw [L.ats.1];decide),if_neg (by rw [L.ats.1];decide),if_neg (by rw [L.ats.1];decide),if_pos (by rw [L.ats.1];decide)]
    unfold zl
    simp only
    rw [z09 [62] q0 L.ats]
    simp only
    rw [if_pos (by rw [hb2];decide),hsk]
   ·refine⟨?_,⟨_,L.ats.1,by decide⟩,by decide⟩
    unfold z7
    rw [if_neg (by rw [L.ats.1];decide),if_neg (by rw [L.ats.1];decide),if_neg (by rw [L.ats.1];decide),if_pos (by rw [L.ats.1];decide)]
    unfold zl
    simp only
    rw [z09 [62] q0 ⟨L.ats.1,trivial⟩]
    simp only
    rw [if_neg (by show ¬(pk s (q0+1) false !=61)=true;rw [L.ats.2.1];decide),z05 (l:=[61]) (show At s (q0+([62]:List UInt8).length) [61] from L.ats.2)]
    rw [show q0+([62]:List UInt8).length+([61]:List UInt8).length=q0+([62,61]:List UInt8).length from rfl,hsk]
  obtain⟨hc,⟨c,hc1,hc2⟩,hsz⟩:=key
  have k:=L.ra iha la hb hc1 hc2 h1
  simp only at h2
  rw [k.at_,k.bad,hc] at h2
  simp only at h2
  rw [if_neg (by rw [hsz];decide)] at h2
  obtain⟨q2,h3,h4⟩:=z6A.1 h2
  have k2:=L.rb ihb lb (st2:=q.2.put3 (q1,false,⟨t.toArray⟩)) rfl rfl (by decide) h3
  exact z3b (c:=⟨t.toArray⟩) k k2 ⟨⟨[],by simp [St.put3]⟩,rfl,rfl,rfl⟩ rfl h4 hv hz
end
theorem z6d {s:z6P}{t:List UInt8}{a b:TE}(iha:Rb s a)(ihb:Rb s b)(hv:VlE (.pa t a b))(hz:tyE (.pa t a b)≠0)(hza:tyE a≠0)(hzb:tyE b≠0):Rb s (.pa t a b):=by
 intro tag ht st hb hat hd hq
 have hp:pkS s st=pk s st.at_ false:=by unfold pkS;rw [hb]
 have e:prE (.pa t a b)=40::(prE a++(32::(t++(32::(prE b++[41]))))):=rfl
 rw [e] at hat hd hq ⊢
 obtain⟨h0,h1⟩:=hat
 obtain⟨a1,h2⟩:=(ja _ _ _).1 h1
 obtain⟨b1,h3⟩:=h2
 obtain⟨a2,h4⟩:=(ja _ _ _).1 h3
 obtain⟨b2,h5⟩:=h4
 obtain⟨a3,h6⟩:=(ja _ _ _).1 h5
 have c41:=h6.1
 have hnb:pk s (st.at_+1+(prE a).length+1) false≠32:=by
  have:=hv.1
  unfold orS anS cmS smS pdS at this
  rcases this with rfl|rfl|(rfl|rfl|rfl|rfl|rfl|rfl)|(rfl|rfl|rfl)|(rfl|rfl|rfl)<;>rw [a2.1]<;>decide
 have L:Lay s t a b ({st with at_:=st.at_+1}:St).at_ (st.at_+1+(prE a).length+1) (st.at_+1+(prE a).length+1+t.length+1) (st.at_+1+(prE a).length+1+t.length+1+(prE b).length):=
  ⟨a1,z0O b1 hnb,by show dlm (pk s (st.at_+1+(prE a).length) false)=true;rw [b1];rfl,a2,b2,z0O b2 (jD hv.2.2 a3).1,a3,rfl,c41⟩
 have hl:st.at_+(40::(prE a++(32::(t++(32::(prE b++[41])))))).length=st.at_+1+(prE a).length+1+t.length+1+(prE b).length+1:=by simp;omega
 rw [hl] at hq ⊢
 have inner: ∀n r,M s n 0 0 {st with at_:=st.at_+1}=some r→RdE (.pa t a b) {st with at_:=st.at_+1} (st.at_+1+(prE a).length+1+t.length+1+(prE b).length) r:=by
  have hp1:pkS s {st with at_:=st.at_+1}=pk s (st.at_+1) false:=by unfold pkS;simp only;rw [hb]
  have q0:qt s 0 (st.at_+1+(prE a).length+1+t.length+1+(prE b).length):=z4S c41 (by decide)
  have no33:tyE a≠1→pkS s {st with at_:=st.at_+1}≠33:=fun h=>by
   rw [hp1]
   exact(jD hv.2.1 a1).2.1 (by have:=z0o hza h;omega)
  rcases hv.1 with h|h|h|h|h
  ·exact z5B L iha ihb hb hv hz h (by have:=(z3S (T:=a)).2;omega) (by have:=(z3S (T:=b)).2;omega)
  ·exact z01 (lv:=1) (by omega) (z5Z L iha ihb hb hv hz h z3S.2 z3S.2) (fun e=>by omega) (fun e=>by omega) (by omega) q0
  ·obtain⟨t1,t2⟩:=z2A hz (.inl h)
   have l1:=z0o hza t1
   have l2:=z0o hzb t2
   exact z01 (lv:=3) (by omega) (z5H L iha ihb hb hv hz h (by omega) (by omega)) (fun e=>by omega) (fun _=>no33 t1) (by omega) q0
  ·obtain⟨t1,t2⟩:=z2A hz (.inr (.inl h))
   have l1:=z0o hza t1
   have l2:=z0o hzb t2
   exact z01 (lv:=4) (by omega) (z61 L iha ihb hb hv hz h (by omega) (by omega)) (fun e=>by omega) (fun _=>no33 t1) (by omega) q0
  ·obtain⟨t1,t2⟩:=z2A hz (.inr (.inr h))
   have l1:=z0o hza t1
   have l2:=z0o hzb t2
   exact z01 (lv:=5) (by omega) (z5Y L iha ihb hb hv hz h l1 l2) (fun e=>by omega) (fun _=>no33 t1) (by omega) q0
 refine z01 (lv:=7) (z6E _) ?_ (fun _=>by rw [hp,h0];decide) (fun _=>by rw [hp,h0];decide) ht hq
 intro n r hm
 cases n with
 |zero=>simp [M] at hm
 |succ n=>
  rw [M_7,hp,h0,if_neg (by decide),if_neg (by decide),if_neg (by decide),if_pos (by decide)] at hm
  obtain⟨q,h7,h8⟩:=z6A.1 hm
  have hs:sgn s [40] st={st with at_:=st.at_+1}:=by
   rw [z16 (l:=[40]) hb ⟨h0,trivial⟩]
   show({st with at_:=skip s (st.at_+1) false}:St)=_
   rw [zx (jD hv.2.1 a1).1]
  rw [hs] at h7
  have k:=inner n q h7
  have hs2:sgn s [41] q.2={q.2 with at_:=skip s (st.at_+1+(prE a).length+1+t.length+1+(prE b).length+1) false}:=by
   rw [z16 k.bad (by rw [k.at_];exact⟨c41,trivial⟩),k.at_]
   rfl
  rw [hs2] at h8
  cases h8
  exact⟨k.bad,rfl,k.ext,k.is,k.ty⟩
theorem z4q (s:z6P): ∀(T:TE),VlE T→WtE T→tyE T≠0→Rb s T:=by
 intro T
 induction T using TE.ind with
 |lf f t=>intro hv _ hz;exact z6q hv hz
 |pr t a ih=>
  intro hv hw hz
  have hza:tyE a≠0:=by
   cases a using TE.cas with
   |lf f t'=>rcases hv.2 with⟨rfl,_⟩|⟨rfl,_⟩|⟨rfl,_⟩|⟨rfl,_⟩|⟨rfl,_⟩<;>simp [z2T,zg]
   |pr t' b=>exact hw.2.1
   |pa t' b c=>exact hw.2.1
  exact z6l (ih hv.2 hw.2 hza) hv hz hza
 |pa t a b iha ihb=>
  intro hv hw hz
  have nz: ∀{a:TE},VlE a→WtE a→tyE a≠0:=fun{a} hv hw=>by
   cases a using TE.cas with
   |lf f t'=>rcases hv with⟨rfl,_⟩|⟨rfl,_⟩|⟨rfl,_⟩|⟨rfl,_⟩|⟨rfl,_⟩<;>simp [z2T,zg]
   |pr t' b=>exact hw.1
   |pa t' b c=>exact hw.1
  have hza:=nz hv.2.1 hw.2.1
  have hzb:=nz hv.2.2 hw.2.2
  exact z6d (iha hv.2.1 hw.2.1 hza) (ihb hv.2.2 hw.2.2 hzb) hv hz hza hzb
end Go.Proofs.YtkoohcilbpdgeaaDoor
