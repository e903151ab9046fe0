import Derived.Test.YtkoohcilbpdgeaaGreatDoorC16
set_option linter.all false
set_option linter.unusedVariables false
set_option linter.unusedSimpArgs false
set_option linter.unnecessarySimpa false
set_option linter.constructorNameAsVariable false
set_option linter.deprecated false
set_option maxRecDepth 100000
set_option maxHeartbeats 6400000
namespace Go.Proofs.YtkoohcilbpdgeaaGreatDoor
open Go Go.RowKit
attribute [local go_sem] wrap64_byte
def calcM (t:ByteArray)(l r:Int):Wt:=
 if t.toList==[43] then wNum (wrap64 (l+r)) else if t.toList==[45] then wNum (wrap64 (l - r)) else if t.toList==[42] then wNum (wrap64 (l*r))
 else if r==0 then wErr else if t.toList==[47] then wNum (wrap64 (l.tdiv r)) else wNum (l.tmod r)
theorem calculated_any (t:ByteArray)(l r:Int)(w:World):Calls Tryz.prog 153 #[.string t,.int .i64 l,.int .i64 r] w fun e w'=>WPost (calcM t l r) w e w':=by
 have HB0:Hid (Below w.heap.size w (w.alloc (.cells #[.int .i64 0,.bool false,.int .i64 0,.string ⟨#[]⟩] 75))):=hide ((Below.refl w.heap.size w).alloc (Nat.le_refl _) (.cells #[.int .i64 0,.bool false,.int .i64 0,.string ⟨#[]⟩] 75))
 have HX:Hid ((w.alloc (.cells #[.int .i64 0,.bool false,.int .i64 0,.string ⟨#[]⟩] 75)).heap[w.heap.size]?=some (.cells #[.int .i64 0,.bool false,.int .i64 0,.string ⟨#[]⟩] 75)):=hide (heap_alloc_new w _)
 have HZ:Hid (w.heap.size<(w.alloc (.cells #[.int .i64 0,.bool false,.int .i64 0,.string ⟨#[]⟩] 75)).heap.size):=hide (by simp)
 have HZ1:Hid (w.heap.size≤(w.alloc (.cells #[.int .i64 0,.bool false,.int .i64 0,.string ⟨#[]⟩] 75)).heap.size):=hide (by simp<;>omega)
 have HG:Hid (w.heap.size≤w.heap.size):=hide (by omega)
 cases h1:(t.toList==[43])
 case true=>
  have hres:Hid (calcM t l r=wNum (wrap64 (l+r))):=hide (by unfold calcM;rw [h1];rfl)
  have HC:=hide (numberWorth_any (wrap64 (l+r)) (w.alloc (.cells #[.int .i64 0,.bool false,.int .i64 0,.string ⟨#[]⟩] 75)))
  generalize hX:wNum (wrap64 (l+r))=X at*
  have HXX:=hide hX
  clear hX
  go_enter Tryz.func153,Tryz.ntmps153
  go_wp2_with fail
  refine HC.out.mono ?_
  rintro e w1 ⟨rfl,hB1⟩
  have hbx:=(hB1.block _ HZ.out).trans HX.out
  obtain⟨y0,y1,y2,y3,g0,g1,g2,g3⟩:=boxw hbx
  obtain⟨z0,z1,z2,z3⟩:=stored4 hbx (.int .i64 X.kind) (.bool X.truth) (.int .i64 X.num) (.string X.text)
  have HB2:=hide (below4 (HB0.out.trans (hB1.mono HZ1.out)) HG.out (.int .i64 X.kind) (.bool X.truth) (.int .i64 X.num) (.string X.text))
  clear hbx hB1
  go_wp2_with fail
  refine bodyPost_ret (v:= .agg #[.int .i64 X.kind,.bool X.truth,.int .i64 X.num,.string X.text]) (by simp [results,Tryz.results153,go_sem,z0,z1,z2,z3]) rfl ?_
  exact⟨by rw [hres.out],HB2.out⟩
 cases h2:(t.toList==[45])
 case true=>
  have hres:Hid (calcM t l r=wNum (wrap64 (l - r))):=hide (by unfold calcM;rw [h1,h2];rfl)
  have HC:=hide (numberWorth_any (wrap64 (l - r)) (w.alloc (.cells #[.int .i64 0,.bool false,.int .i64 0,.string ⟨#[]⟩] 75)))
  generalize hX:wNum (wrap64 (l - r))=X at*
  have HXX:=hide hX
  clear hX
  go_enter Tryz.func153,Tryz.ntmps153
  go_wp2_with fail
  refine HC.out.mono ?_
  rintro e w1 ⟨rfl,hB1⟩
  have hbx:=(hB1.block _ HZ.out).trans HX.out
  obtain⟨y0,y1,y2,y3,g0,g1,g2,g3⟩:=boxw hbx
  obtain⟨z0,z1,z2,z3⟩:=stored4 hbx (.int .i64 X.kind) (.bool X.truth) (.int .i64 X.num) (.string X.text)
  have HB2:=hide (below4 (HB0.out.trans (hB1.mono HZ1.out)) HG.out (.int .i64 X.kind) (.bool X.truth) (.int .i64 X.num) (.string X.text))
  clear hbx hB1
  go_wp2_with fail
  refine bodyPost_ret (v:= .agg #[.int .i64 X.kind,.bool X.truth,.int .i64 X.num,.string X.text]) (by simp [results,Tryz.results153,go_sem,z0,z1,z2,z3]) rfl ?_
  exact⟨by rw [hres.out],HB2.out⟩
 cases h3:(t.toList==[42])
 case true=>
  have hres:Hid (calcM t l r=wNum (wrap64 (l*r))):=hide (by unfold calcM;rw [h1,h2,h3];rfl)
  have HC:=hide (numberWorth_any (wrap64 (l*r)) (w.alloc (.cells #[.int .i64 0,.bool false,.int .i64 0,.string ⟨#[]⟩] 75)))
  generalize hX:wNum (wrap64 (l*r))=X at*
  have HXX:=hide hX
  clear hX
  go_enter Tryz.func153,Tryz.ntmps153
  go_wp2_with fail
  refine HC.out.mono ?_
  rintro e w1 ⟨rfl,hB1⟩
  have hbx:=(hB1.block _ HZ.out).trans HX.out
  obtain⟨y0,y1,y2,y3,g0,g1,g2,g3⟩:=boxw hbx
  obtain⟨z0,z1,z2,z3⟩:=stored4 hbx (.int .i64 X.kind) (.bool X.truth) (.int .i64 X.num) (.string X.text)
  have HB2:=hide (below4 (HB0.out.trans (hB1.mono HZ1.out)) HG.out (.int .i64 X.kind) (.bool X.truth) (.int .i64 X.num) (.string X.text))
  clear hbx hB1
  go_wp2_with fail
  refine bodyPost_ret (v:= .agg #[.int .i64 X.kind,.bool X.truth,.int .i64 X.num,.string X.text]) (by simp [results,Tryz.results153,go_sem,z0,z1,z2,z3]) rfl ?_
  exact⟨by rw [hres.out],HB2.out⟩
 cases h4:(r==0)
 case true=>
  have hres:Hid (calcM t l r=wErr):=hide (by unfold calcM;rw [h1,h2,h3,h4];rfl)
  go_enter Tryz.func153,Tryz.ntmps153
  go_wp2_with fail
  refine bodyPost_ret (v:= .agg #[.int .i64 wErr.kind,.bool wErr.truth,.int .i64 wErr.num,.string wErr.text]) (by simp [results,Tryz.results153,go_sem,wErr]) rfl ?_
  exact⟨by rw [hres.out],HB0.out⟩
 have h4': ¬r=0:=by simpa using h4
 cases h5:(t.toList==[47])
 case true=>
  have hres:Hid (calcM t l r=wNum (wrap64 (l.tdiv r))):=hide (by unfold calcM;rw [h1,h2,h3,h4,h5];rfl)
  have HC:=hide (numberWorth_any (wrap64 (l.tdiv r)) (w.alloc (.cells #[.int .i64 0,.bool false,.int .i64 0,.string ⟨#[]⟩] 75)))
  generalize hX:wNum (wrap64 (l.tdiv r))=X at*
  have HXX:=hide hX
  clear hX
  go_enter Tryz.func153,Tryz.ntmps153
  go_wp2_with fail
  refine HC.out.mono ?_
  rintro e w1 ⟨rfl,hB1⟩
  have hbx:=(hB1.block _ HZ.out).trans HX.out
  obtain⟨y0,y1,y2,y3,g0,g1,g2,g3⟩:=boxw hbx
  obtain⟨z0,z1,z2,z3⟩:=stored4 hbx (.int .i64 X.kind) (.bool X.truth) (.int .i64 X.num) (.string X.text)
  have HB2:=hide (below4 (HB0.out.trans (hB1.mono HZ1.out)) HG.out (.int .i64 X.kind) (.bool X.truth) (.int .i64 X.num) (.string X.text))
  clear hbx hB1
  go_wp2_with fail
  refine bodyPost_ret (v:= .agg #[.int .i64 X.kind,.bool X.truth,.int .i64 X.num,.string X.text]) (by simp [results,Tryz.results153,go_sem,z0,z1,z2,z3]) rfl ?_
  exact⟨by rw [hres.out],HB2.out⟩
 have hres:Hid (calcM t l r=wNum (l.tmod r)):=hide (by unfold calcM;rw [h1,h2,h3,h4,h5];rfl)
 have HC:=hide (numberWorth_any (l.tmod r) (w.alloc (.cells #[.int .i64 0,.bool false,.int .i64 0,.string ⟨#[]⟩] 75)))
 generalize hX:wNum (l.tmod r)=X at*
 have HXX:=hide hX
 clear hX
 go_enter Tryz.func153,Tryz.ntmps153
 go_wp2_with fail
 refine HC.out.mono ?_
 rintro e w1 ⟨rfl,hB1⟩
 have hbx:=(hB1.block _ HZ.out).trans HX.out
 obtain⟨y0,y1,y2,y3,g0,g1,g2,g3⟩:=boxw hbx
 obtain⟨z0,z1,z2,z3⟩:=stored4 hbx (.int .i64 X.kind) (.bool X.truth) (.int .i64 X.num) (.string X.text)
 have HB2:=hide (below4 (HB0.out.trans (hB1.mono HZ1.out)) HG.out (.int .i64 X.kind) (.bool X.truth) (.int .i64 X.num) (.string X.text))
 clear hbx hB1
 go_wp2_with fail
 refine bodyPost_ret (v:= .agg #[.int .i64 X.kind,.bool X.truth,.int .i64 X.num,.string X.text]) (by simp [results,Tryz.results153,go_sem,z0,z1,z2,z3]) rfl ?_
 exact⟨by rw [hres.out],HB2.out⟩
def prefM (t:ByteArray)(x:Wt):Wt:=if x.kind==0 then x else if t.toList==[33] then wBool (!x.truth) else wNum (wrap64 (-x.num))
theorem prefixWorth_any (t:ByteArray)(x:Wt)(w:World):Calls Tryz.prog 124 #[.string t,.agg #[.int .i64 x.kind,.bool x.truth,.int .i64 x.num,.string x.text]] w fun e w'=>WPost (prefM t x) w e w':=by
 have HB0:Hid (Below w.heap.size w ((w.alloc (.cells #[.int .i64 x.kind,.bool x.truth,.int .i64 x.num,.string x.text] 75)).alloc (.cells #[.int .i64 0,.bool false,.int .i64 0,.string ⟨#[]⟩] 75))):=hide (((Below.refl w.heap.size w).alloc (Nat.le_refl _) (.cells #[.int .i64 x.kind,.bool x.truth,.int .i64 x.num,.string x.text] 75)).alloc (by simp<;>omega) (.cells #[.int .i64 0,.bool false,.int .i64 0,.string ⟨#[]⟩] 75))
 have HX:Hid (((w.alloc (.cells #[.int .i64 x.kind,.bool x.truth,.int .i64 x.num,.string x.text] 75)).alloc (.cells #[.int .i64 0,.bool false,.int .i64 0,.string ⟨#[]⟩] 75)).heap[w.heap.size+1]?=some (.cells #[.int .i64 0,.bool false,.int .i64 0,.string ⟨#[]⟩] 75)):=hide (by have q:=heap_alloc_new (w.alloc (.cells #[.int .i64 x.kind,.bool x.truth,.int .i64 x.num,.string x.text] 75)) (.cells #[.int .i64 0,.bool false,.int .i64 0,.string ⟨#[]⟩] 75);rw [show(w.alloc (.cells #[.int .i64 x.kind,.bool x.truth,.int .i64 x.num,.string x.text] 75)).heap.size=w.heap.size+1 by simp] at q;exact q)
 have HZ:Hid (w.heap.size+1<((w.alloc (.cells #[.int .i64 x.kind,.bool x.truth,.int .i64 x.num,.string x.text] 75)).alloc (.cells #[.int .i64 0,.bool false,.int .i64 0,.string ⟨#[]⟩] 75)).heap.size):=hide (by simp)
 have HZ1:Hid (w.heap.size≤((w.alloc (.cells #[.int .i64 x.kind,.bool x.truth,.int .i64 x.num,.string x.text] 75)).alloc (.cells #[.int .i64 0,.bool false,.int .i64 0,.string ⟨#[]⟩] 75)).heap.size):=hide (by simp<;>omega)
 have HG:Hid (w.heap.size≤w.heap.size+1):=hide (by omega)
 have HX0:Hid (((w.alloc (.cells #[.int .i64 x.kind,.bool x.truth,.int .i64 x.num,.string x.text] 75)).alloc (.cells #[.int .i64 0,.bool false,.int .i64 0,.string ⟨#[]⟩] 75)).heap[w.heap.size]?=some (.cells #[.int .i64 x.kind,.bool x.truth,.int .i64 x.num,.string x.text] 75)):=hide ((Below.heap_alloc _ _ _ (by simp)).trans (heap_alloc_new w _))
 have HF:=hide (failed_any x ((w.alloc (.cells #[.int .i64 x.kind,.bool x.truth,.int .i64 x.num,.string x.text] 75)).alloc (.cells #[.int .i64 0,.bool false,.int .i64 0,.string ⟨#[]⟩] 75)))
 cases h1:(x.kind==0)
 case true=>
  have hres:Hid (prefM t x=x):=hide (by unfold prefM;rw [h1];rfl)
  rw [h1] at HF
  clear h1
  generalize hX:x=X at*
  clear hX
  go_enter Tryz.func124,Tryz.ntmps124
  go_wp2_with fail
  refine HF.out.mono ?_
  rintro e w1 ⟨rfl,hB1⟩
  obtain⟨c0,c1,c2,c3,d0,d1,d2,d3⟩:=boxw ((hB1.block _ (by simp<;>omega)).trans HX0.out)
  have hbx:=(hB1.block _ HZ.out).trans HX.out
  obtain⟨y0,y1,y2,y3,g0,g1,g2,g3⟩:=boxw hbx
  obtain⟨z0,z1,z2,z3⟩:=stored4 hbx (.int .i64 X.kind) (.bool X.truth) (.int .i64 X.num) (.string X.text)
  have HB2:=hide (below4 (HB0.out.trans (hB1.mono HZ1.out)) HG.out (.int .i64 X.kind) (.bool X.truth) (.int .i64 X.num) (.string X.text))
  clear hbx hB1
  go_wp2_with fail
  refine bodyPost_ret (v:= .agg #[.int .i64 X.kind,.bool X.truth,.int .i64 X.num,.string X.text]) (by simp [results,Tryz.results124,go_sem,z0,z1,z2,z3]) rfl ?_
  exact⟨by rw [hres.out],HB2.out⟩
 rw [h1] at HF
 cases h2:(t.toList==[33])
 case true=>
  have hres:Hid (prefM t x=wBool (!x.truth)):=hide (by unfold prefM;rw [h1,h2];rfl)
  go_enter Tryz.func124,Tryz.ntmps124
  go_wp2_with fail
  refine HF.out.mono ?_
  rintro e w0 ⟨rfl,hB0⟩
  obtain⟨c0,c1,c2,c3,d0,d1,d2,d3⟩:=boxw ((hB0.block _ (by simp<;>omega)).trans HX0.out)
  have HX:=hide ((hB0.block _ HZ.out).trans HX.out)
  have HZ:=hide (Nat.lt_of_lt_of_le HZ.out hB0.size)
  have HB0:=hide (HB0.out.trans (hB0.mono HZ1.out))
  have HZ1:=hide HB0.out.size
  clear hB0
  have HC:=hide (boolWorth_any (!x.truth) w0)
  generalize hX:wBool (!x.truth)=X at*
  have HXX:=hide hX
  clear hX
  go_wp2_with fail
  refine HC.out.mono ?_
  rintro e w1 ⟨rfl,hB1⟩
  have hbx:=(hB1.block _ HZ.out).trans HX.out
  obtain⟨y0,y1,y2,y3,g0,g1,g2,g3⟩:=boxw hbx
  obtain⟨z0,z1,z2,z3⟩:=stored4 hbx (.int .i64 X.kind) (.bool X.truth) (.int .i64 X.num) (.string X.text)
  have HB2:=hide (below4 (HB0.out.trans (hB1.mono HZ1.out)) HG.out (.int .i64 X.kind) (.bool X.truth) (.int .i64 X.num) (.string X.text))
  clear hbx hB1
  go_wp2_with fail
  refine bodyPost_ret (v:= .agg #[.int .i64 X.kind,.bool X.truth,.int .i64 X.num,.string X.text]) (by simp [results,Tryz.results124,go_sem,z0,z1,z2,z3]) rfl ?_
  exact⟨by rw [hres.out],HB2.out⟩
 have hres:Hid (prefM t x=wNum (wrap64 (-x.num))):=hide (by unfold prefM;rw [h1,h2];rfl)
 go_enter Tryz.func124,Tryz.ntmps124
 go_wp2_with fail
 refine HF.out.mono ?_
 rintro e w0 ⟨rfl,hB0⟩
 obtain⟨c0,c1,c2,c3,d0,d1,d2,d3⟩:=boxw ((hB0.block _ (by simp<;>omega)).trans HX0.out)
 have HX:=hide ((hB0.block _ HZ.out).trans HX.out)
 have HZ:=hide (Nat.lt_of_lt_of_le HZ.out hB0.size)
 have HB0:=hide (HB0.out.trans (hB0.mono HZ1.out))
 have HZ1:=hide HB0.out.size
 clear hB0
 have HC:=hide (numberWorth_any (wrap64 (-x.num)) w0)
 generalize hX:wNum (wrap64 (-x.num))=X at*
 have HXX:=hide hX
 clear hX
 go_wp2_with fail
 refine HC.out.mono ?_
 rintro e w1 ⟨rfl,hB1⟩
 have hbx:=(hB1.block _ HZ.out).trans HX.out
 obtain⟨y0,y1,y2,y3,g0,g1,g2,g3⟩:=boxw hbx
 obtain⟨z0,z1,z2,z3⟩:=stored4 hbx (.int .i64 X.kind) (.bool X.truth) (.int .i64 X.num) (.string X.text)
 have HB2:=hide (below4 (HB0.out.trans (hB1.mono HZ1.out)) HG.out (.int .i64 X.kind) (.bool X.truth) (.int .i64 X.num) (.string X.text))
 clear hbx hB1
 go_wp2_with fail
 refine bodyPost_ret (v:= .agg #[.int .i64 X.kind,.bool X.truth,.int .i64 X.num,.string X.text]) (by simp [results,Tryz.results124,go_sem,z0,z1,z2,z3]) rfl ?_
 exact⟨by rw [hres.out],HB2.out⟩
def decM (l:List UInt8):Int:=l.foldl (fun n c=>n*10+((c.toNat:Int)- 48)) 0
theorem decM_snoc (l:List UInt8)(c:UInt8):decM (l++[c])=decM l*10+((c.toNat:Int)- 48):=by simp [decM]
def Digs (l:List UInt8):Prop:= ∀c∈l,48≤c.toNat∧c.toNat≤57
theorem decM_range: ∀(k:Nat) (l:List UInt8),Digs l→l.length=k→0≤decM l∧decM l<(10:Int)^k:=by
 intro k
 induction k with
 |zero=>intro l _ hl;rw [List.length_eq_zero_iff.1 hl];decide
 |succ k ih=>
  intro l hd hl
  obtain⟨l',c,rfl⟩: ∃l' c,l=l'++[c]:=⟨l.dropLast,l.getLast (by intro e;rw [e] at hl;cases hl),(List.dropLast_concat_getLast _).symm⟩
  have h1:=ih l' (fun x hx=>hd x (by simp [hx])) (by simp at hl;exact hl)
  have h2:=hd c (by simp)
  rw [decM_snoc,Int.pow_succ]
  omega
theorem decM_le (l:List UInt8)(hd:Digs l)(hl:l.length≤9):0≤decM l∧decM l≤999999999:=by
 have h:=decM_range l.length l hd rfl
 have:(10:Int)^l.length≤10^9:=by
  have h9: ∀k,k≤9→(10:Int)^k≤10^9:=by decide
  exact h9 _ hl
 have e:(10:Int)^9=1000000000:=by decide
 omega
def negM (t:ByteArray):Bool:=pk t 0 false==45
def fromM (t:ByteArray):Nat:=if negM t then 1 else 0
def nsM (t:ByteArray):Wt:=
 let v:=bareNumber t (fromM t) false
 if eofM t v.1 v.2.1||(negM t&&v.2.2.toList==[48]) then wErr else wNum (if negM t then - decM v.2.2.toList else decM v.2.2.toList)
theorem run_up (p:Int→Bool)(s:ByteArray)(d:Bool): ∀k a,run p s d k a≤a+k:=by
 intro k
 induction k with
 |zero=>intro a;exact Nat.le_refl _
 |succ k ih=>
  intro a
  unfold run
  split
  ·have:=ih (a+1);omega
  ·omega
theorem run_all (p:Int→Bool)(s:ByteArray)(d:Bool): ∀k a j,a≤j→j<run p s d k a→p (pk s j d)=true:=by
 intro k
 induction k with
 |zero=>intro a j h1 h2;simp [run] at h2;omega
 |succ k ih=>
  intro a j h1 h2
  unfold run at h2
  by_cases hc:p (pk s a d)=true
  ·rw [if_pos hc] at h2
   by_cases hj:j=a
   ·rw [hj];exact hc
   ·exact ih (a+1) j (by omega) h2
  ·rw [if_neg hc] at h2;omega
theorem digit_pk {s:ByteArray}{j:Nat}(h:isDigit (pk s j false)=true): ∃hj:j<s.size,48≤s[j].toNat∧s[j].toNat≤57:=by
 have hne:pk s j false≠ -1:=fun e=>by rw [e] at h;exact absurd h (by decide)
 have hj:=(pk_lt hne).2
 refine⟨hj,?_⟩
 simp [pk,hj,isDigit] at h
 omega
theorem extract_list (s:ByteArray)(a r:Nat):(s.extract a r).toList=(s.data.toList.drop a).take (r - a):=by
 rw [ByteArray.toList_eq]
 rw [ByteArray.data_extract]
 simp [Array.toList_extract,List.extract]
theorem digs_extract {s:ByteArray}{a r:Nat}(h: ∀j,a≤j→j<r→isDigit (pk s j false)=true):Digs (s.extract a r).toList:=by
 intro c hc
 rw [extract_list] at hc
 obtain⟨i,hi,rfl⟩:=List.getElem_of_mem hc
 simp at hi
 have hl:a+i<s.size:=by omega
 obtain⟨hj,h1⟩:=digit_pk (h (a+i) (by omega) (by omega))
 rw [List.getElem_take,List.getElem_drop]
 exact h1
theorem bareNumber_digs {s:ByteArray}{a:Nat}(h:(bareNumber s a false).2.1=false):Digs (bareNumber s a false).2.2.toList∧(bareNumber s a false).2.2.toList.length≤9∧(bareNumber s a false).2.2.toList.length=(bareNumber s a false).2.2.size:=by
 unfold bareNumber at*
 generalize hm:(if pk s a false==48 then 1 else 9)=m at*
 have hm9:m≤9:=by rw [←hm];split<;>omega
 unfold bareM at*
 simp only at*
 have hup:=run_up isDigit s false m a
 split
 ·rename_i hq;rw [if_pos hq] at h;cases h
 ·refine⟨digs_extract fun j h1 h2=>run_all isDigit s false m a j h1 h2,?_,?_⟩
  ·rw [extract_list];simp;omega
  ·rw [ByteArray.toList_eq];rfl
theorem pk_zero (t:ByteArray):pk t 0 false=if h:0<t.size then(t[0].toNat:Int) else -1:=by simp [pk]
theorem numberSaid_any (t:ByteArray)(w:World)(hs:t.size≤600):Calls Tryz.prog 120 #[.string t] w fun e w'=>WPost (nsM t) w e w':=by
 have hrd0:Rd ((w.alloc (.cells #[.int .i64 0,.bool false,.int .i64 0,.string ⟨#[]⟩] 75)).alloc (.cells #[.string t,.int .i64 0,.bool false,.slice none 0 0,.slice none 0 0,.slice none 0 0,.slice none 0 0] 66)) (w.heap.size+1) t 0 false:=by
  have hg:=heap_alloc_new (w.alloc (.cells #[.int .i64 0,.bool false,.int .i64 0,.string ⟨#[]⟩] 75)) (.cells #[.string t,.int .i64 0,.bool false,.slice none 0 0,.slice none 0 0,.slice none 0 0,.slice none 0 0] 66)
  rw [show(w.alloc (.cells #[.int .i64 0,.bool false,.int .i64 0,.string ⟨#[]⟩] 75)).heap.size=w.heap.size+1 by simp] at hg
  obtain⟨q0,q1,q2,_,_,_,_,qf⟩:=box7 hg
  exact⟨q0,q1,q2,qf _,qf _,Nat.zero_le _,hs⟩
 have hB0:Below w.heap.size w ((w.alloc (.cells #[.int .i64 0,.bool false,.int .i64 0,.string ⟨#[]⟩] 75)).alloc (.cells #[.string t,.int .i64 0,.bool false,.slice none 0 0,.slice none 0 0,.slice none 0 0,.slice none 0 0] 66)):=((Below.refl w.heap.size w).alloc (Nat.le_refl _) _).alloc (by simp) _
 have hX0:((w.alloc (.cells #[.int .i64 0,.bool false,.int .i64 0,.string ⟨#[]⟩] 75)).alloc (.cells #[.string t,.int .i64 0,.bool false,.slice none 0 0,.slice none 0 0,.slice none 0 0,.slice none 0 0] 66)).heap[w.heap.size]?=some (.cells #[.int .i64 0,.bool false,.int .i64 0,.string ⟨#[]⟩] 75):=(Below.heap_alloc _ _ _ (by simp)).trans (heap_alloc_new w _)
 have hz0:((w.alloc (.cells #[.int .i64 0,.bool false,.int .i64 0,.string ⟨#[]⟩] 75)).alloc (.cells #[.string t,.int .i64 0,.bool false,.slice none 0 0,.slice none 0 0,.slice none 0 0,.slice none 0 0] 66)).heap.size=w.heap.size+2:=by simp
 have H0:=hide (And.intro hrd0 (And.intro hB0 (And.intro hX0 hz0)))
 clear hrd0 hB0 hX0 hz0
 have HBN:=hide (fun a W h=>bareNumber_any (w.heap.size+1) a t false W h)
 have HPK:=hide (fun W h=>peek_any (w.heap.size+1) 0 t false W h)
 have hfin:Hid (nsM t=if eofM t (bareNumber t (fromM t) false).1 (bareNumber t (fromM t) false).2.1||(negM t&&(bareNumber t (fromM t) false).2.2.toList==[48]) then wErr else wNum (if negM t then - decM (bareNumber t (fromM t) false).2.2.toList else decM (bareNumber t (fromM t) false).2.2.toList)):=hide rfl
 have hdig:=bareNumber_digs (s:=t) (a:=fromM t)
 cases hn:negM t
 case true=>
  have hf:fromM t=1:=by unfold fromM;rw [hn];rfl
  rw [hf] at hfin hdig
  rw [hn] at hfin
  have hpk:(pk t 0 false==45)=true:=hn
  have hbn:=hide (HBN.out 1)
  generalize bareNumber t 1 false=v at*
  obtain⟨av,dv,tv⟩:=v
  simp only at*
  go_enter Tryz.func120,Tryz.ntmps120
  go_wp2_with fail
  obtain⟨hrd0,hB0,hX0,hz0⟩:=H0.out
  clear H0
  generalize ((w.alloc (.cells #[.int .i64 0,.bool false,.int .i64 0,.string ⟨#[]⟩] 75)).alloc (.cells #[.string t,.int .i64 0,.bool false,.slice none 0 0,.slice none 0 0,.slice none 0 0,.slice none 0 0] 66))=W at*
  refine(HPK.out W hrd0).mono ?_
  rintro e w1 ⟨rfl,n1,rfl⟩
  go_wp2_with fail
  have hpk1:pk t 0 false=((45:UInt8).toNat:Int):=by simpa using hpk
  have hW:=word_any (w.heap.size+1) 0 t ⟨#[45]⟩ false _ (hrd0.drewN n1) (by decide)
  rw [show(ByteArray.mk #[45]).data.toList=[45] from rfl,wordM_one hpk1] at hW
  refine hW.mono ?_
  rintro e wA ⟨rfl,hrA,hsA⟩
  have hXA:=(hsA.block w.heap.size (by omega)).trans hX0
  have hBA:Below w.heap.size w wA:=⟨hsA.os.trans hB0.os,hsA.tape.trans hB0.tape,hsA.output.trans hB0.output,by have:=hsA.size;simp at this;omega,fun k hk=>(hsA.block k (by omega)).trans (hB0.block k hk)⟩
  have hzA:wA.heap.size=w.heap.size+2:=by have:=hsA.size;simp at this;omega
  clear hW hsA hpk1
  have hrA:Rd wA (w.heap.size+1) t 1 false:=hrA
  clear hrd0 hB0 hX0 hz0 HPK
  go_wp2_with fail
  refine(hbn.out wA hrA).mono ?_
  rintro e w2 ⟨rfl,hr2,hs2⟩
  have hE:=eof_any _ _ _ _ _ hr2
  have hz2:w2.heap.size=w.heap.size+2:=by have:=hs2.size;omega
  have hX2:=(hs2.block w.heap.size (by omega)).trans hXA
  have hB2:Below w.heap.size w w2:=⟨hs2.os.trans hBA.os,hs2.tape.trans hBA.tape,hs2.output.trans hBA.output,by omega,fun k hk=>(hs2.block k (by omega)).trans (hBA.block k hk)⟩
  clear hs2 hXA hBA hrA hzA hbn HBN
  go_wp2_with fail
  refine hE.mono ?_
  rintro e w3 ⟨rfl,hr3,hs3⟩
  have hz3:w3.heap.size=w.heap.size+2:=by have:=hs3.size;omega
  have hX3:=(hs3.block w.heap.size (by omega)).trans hX2
  have hB3:Below w.heap.size w w3:=⟨hs3.os.trans hB2.os,hs3.tape.trans hB2.tape,hs3.output.trans hB2.output,by omega,fun k hk=>(hs3.block k (by omega)).trans (hB2.block k hk)⟩
  clear hs3 hX2 hB2 hE hr2 hz2
  have hbad:=hr3.c2
  obtain⟨y0,y1,y2,y3,g0,g1,g2,g3⟩:=boxw hX3
  have HB3:=hide hB3
  have HX3:=hide hX3
  have HR3:=hide hr3
  clear hB3 hX3 hr3
  cases hen:eofM t av dv
  case true=>
   rw [hen] at hbad
   have hres:Hid (nsM t=wErr):=hide (by rw [hfin.out,hen];rfl)
   go_wp2_with fail
   obtain⟨z0,z1,z2,z3⟩:=stored4 HX3.out (.int .i64 0) (.bool false) (.int .i64 0) (.string ⟨#[]⟩)
   refine bodyPost_ret (v:= .agg #[.int .i64 0,.bool false,.int .i64 0,.string ⟨#[]⟩]) (by simp [results,Tryz.results120,go_sem,z0,z1,z2,z3]) rfl ?_
   exact⟨by rw [hres.out];rfl,below4 HB3.out (Nat.le_refl _) _ _ _ _⟩
  rw [hen] at hbad
  cases h48:(tv.toList==[48])
  case true=>
   have hres:Hid (nsM t=wErr):=hide (by rw [hfin.out,hen,h48];rfl)
   go_wp2_with fail
   obtain⟨z0,z1,z2,z3⟩:=stored4 HX3.out (.int .i64 0) (.bool false) (.int .i64 0) (.string ⟨#[]⟩)
   refine bodyPost_ret (v:= .agg #[.int .i64 0,.bool false,.int .i64 0,.string ⟨#[]⟩]) (by simp [results,Tryz.results120,go_sem,z0,z1,z2,z3]) rfl ?_
   exact⟨by rw [hres.out];rfl,below4 HB3.out (Nat.le_refl _) _ _ _ _⟩
  have hres:Hid (nsM t=wNum (- decM tv.toList)):=hide (by rw [hfin.out,hen,h48];rfl)
  have hdv:dv=false:=by cases hd:dv with|false=>rfl|true=>rw [hd] at hen;cases hen
  have hdig:=hide (hdig hdv)
  obtain⟨n0,hn0⟩: ∃n0,n0=tv.size:=⟨_,rfl⟩
  have hN:Hid (tv.size=n0):=hide hn0.symm
  have h9:n0≤9:=by rw [hn0,←hdig.out.2.2];exact hdig.out.2.1
  clear hn0
  have hlen:tv.size≤9:=by rw [hN.out];exact h9
  clear hfin
  go_wp2_with fail
  go_loopg [6,7] (tv.size+1) (fun k nv iv wr=> ∃i:Nat,k+i=tv.size+1∧i≤tv.size∧iv= .int .i64 i∧nv= .int .i64 (decM (tv.toList.take i))∧wr=w3)
  case atStart=>exact⟨0,rfl,Nat.zero_le _,rfl,rfl,rfl⟩
  case round=>
   obtain⟨i,hk,hil,rfl,rfl,rfl⟩:=hrel
   have HK:=hide hk
   clear hk
   by_cases hlt:i<tv.size
   ·have hlt':(i:Int)<tv.size:=by omega
    have hget:tv.toList[i]?=some tv[i]:=by rw [ByteArray.toList_eq,List.getElem?_eq_getElem (show i<tv.data.toList.length from hlt)];rfl
    have hc:=hdig.out.1 tv[i] (List.mem_of_getElem? hget)
    have hr1:=decM_le (tv.toList.take i) (fun c hc=>hdig.out.1 c (List.mem_of_mem_take hc)) (by rw [List.length_take];omega)
    have hst:Hid (decM (tv.toList.take (i+1))=decM (tv.toList.take i)*10+((tv[i].toNat:Int)- 48)):=hide (by rw [List.take_add_one,hget];exact decM_snoc _ _)
    have hr2:=decM_le (tv.toList.take (i+1)) (fun c hc=>hdig.out.1 c (List.mem_of_mem_take hc)) (by rw [List.length_take];omega)
    rw [hst.out] at hr2
    generalize decM (tv.toList.take i)=n at*
    have hc1:48≤(tv[i].toNat:Int):=by omega
    have hc2:(tv[i].toNat:Int)≤57:=by omega
    go_wp2_with fail
    have hk:=HK.out
    go_roundg (tv.size - i)
    case measure=>omega
    case rel=>exact⟨i+1,by omega,by omega,by go_num,by rw [hst.out],rfl⟩
   ·have hlt': ¬(i:Int)<tv.size:=by omega
    have hall:tv.toList.take i=tv.toList:=List.take_of_length_le (by rw [hdig.out.2.2];omega)
    rw [hall]
    have hr1:=decM_le tv.toList hdig.out.1 hdig.out.2.1
    generalize decM tv.toList=n at*
    have HC:=hide (numberWorth_any (-n) wr)
    generalize hX:wNum (-n)=X at*
    clear hX
    go_wp2_with fail
    refine HC.out.mono ?_
    rintro e w5 ⟨rfl,hB5⟩
    have hbx:=(hB5.block w.heap.size (by omega)).trans HX3.out
    obtain⟨y0',y1',y2',y3',g0',g1',g2',g3'⟩:=boxw hbx
    obtain⟨z0,z1,z2,z3⟩:=stored4 hbx (.int .i64 X.kind) (.bool X.truth) (.int .i64 X.num) (.string X.text)
    have HB5:=hide (below4 (HB3.out.trans (hB5.mono (by omega))) (Nat.le_refl w.heap.size) (.int .i64 X.kind) (.bool X.truth) (.int .i64 X.num) (.string X.text))
    clear hbx hB5
    go_wp2_with fail
    refine bodyPost_ret (v:= .agg #[.int .i64 X.kind,.bool X.truth,.int .i64 X.num,.string X.text]) (by simp [results,Tryz.results120,go_sem,z0,z1,z2,z3]) rfl ?_
    exact⟨by rw [hres.out],HB5.out⟩
 case false=>
  have hf:fromM t=0:=by unfold fromM;rw [hn];rfl
  rw [hf] at hfin hdig
  rw [hn] at hfin
  have hpk:(pk t 0 false==45)=false:=hn
  have hbn:=hide (HBN.out 0)
  generalize bareNumber t 0 false=v at*
  obtain⟨av,dv,tv⟩:=v
  simp only at*
  go_enter Tryz.func120,Tryz.ntmps120
  go_wp2_with fail
  obtain⟨hrd0,hB0,hX0,hz0⟩:=H0.out
  clear H0
  generalize ((w.alloc (.cells #[.int .i64 0,.bool false,.int .i64 0,.string ⟨#[]⟩] 75)).alloc (.cells #[.string t,.int .i64 0,.bool false,.slice none 0 0,.slice none 0 0,.slice none 0 0,.slice none 0 0] 66))=W at*
  refine(HPK.out W hrd0).mono ?_
  rintro e w1 ⟨rfl,n1,rfl⟩
  have hrA:=hrd0.drewN n1
  have hXA:(W.drewN n1).heap[w.heap.size]?=_:=hX0
  have hBA:Below w.heap.size w (W.drewN n1):=⟨hB0.os,hB0.tape,hB0.output,hB0.size,hB0.block⟩
  have hzA:(W.drewN n1).heap.size=w.heap.size+2:=hz0
  generalize (W.drewN n1)=wA at*
  clear hrd0 hB0 hX0 hz0 HPK
  go_wp2_with fail
  refine(hbn.out wA hrA).mono ?_
  rintro e w2 ⟨rfl,hr2,hs2⟩
  have hE:=eof_any _ _ _ _ _ hr2
  have hz2:w2.heap.size=w.heap.size+2:=by have:=hs2.size;omega
  have hX2:=(hs2.block w.heap.size (by omega)).trans hXA
  have hB2:Below w.heap.size w w2:=⟨hs2.os.trans hBA.os,hs2.tape.trans hBA.tape,hs2.output.trans hBA.output,by omega,fun k hk=>(hs2.block k (by omega)).trans (hBA.block k hk)⟩
  clear hs2 hXA hBA hrA hzA hbn HBN
  go_wp2_with fail
  refine hE.mono ?_
  rintro e w3 ⟨rfl,hr3,hs3⟩
  have hz3:w3.heap.size=w.heap.size+2:=by have:=hs3.size;omega
  have hX3:=(hs3.block w.heap.size (by omega)).trans hX2
  have hB3:Below w.heap.size w w3:=⟨hs3.os.trans hB2.os,hs3.tape.trans hB2.tape,hs3.output.trans hB2.output,by omega,fun k hk=>(hs3.block k (by omega)).trans (hB2.block k hk)⟩
  clear hs3 hX2 hB2 hE hr2 hz2
  have hbad:=hr3.c2
  obtain⟨y0,y1,y2,y3,g0,g1,g2,g3⟩:=boxw hX3
  have HB3:=hide hB3
  have HX3:=hide hX3
  have HR3:=hide hr3
  clear hB3 hX3 hr3
  cases hen:eofM t av dv
  case true=>
   rw [hen] at hbad
   have hres:Hid (nsM t=wErr):=hide (by rw [hfin.out,hen];rfl)
   go_wp2_with fail
   obtain⟨z0,z1,z2,z3⟩:=stored4 HX3.out (.int .i64 0) (.bool false) (.int .i64 0) (.string ⟨#[]⟩)
   refine bodyPost_ret (v:= .agg #[.int .i64 0,.bool false,.int .i64 0,.string ⟨#[]⟩]) (by simp [results,Tryz.results120,go_sem,z0,z1,z2,z3]) rfl ?_
   exact⟨by rw [hres.out];rfl,below4 HB3.out (Nat.le_refl _) _ _ _ _⟩
  rw [hen] at hbad
  have hres:Hid (nsM t=wNum (decM tv.toList)):=hide (by rw [hfin.out,hen];rfl)
  have hdv:dv=false:=by cases hd:dv with|false=>rfl|true=>rw [hd] at hen;cases hen
  have hdig:=hide (hdig hdv)
  obtain⟨n0,hn0⟩: ∃n0,n0=tv.size:=⟨_,rfl⟩
  have hN:Hid (tv.size=n0):=hide hn0.symm
  have h9:n0≤9:=by rw [hn0,←hdig.out.2.2];exact hdig.out.2.1
  clear hn0
  have hlen:tv.size≤9:=by rw [hN.out];exact h9
  clear hfin
  go_wp2_with fail
  go_loopg [6,7] (tv.size+1) (fun k nv iv wr=> ∃i:Nat,k+i=tv.size+1∧i≤tv.size∧iv= .int .i64 i∧nv= .int .i64 (decM (tv.toList.take i))∧wr=w3)
  case atStart=>exact⟨0,rfl,Nat.zero_le _,rfl,rfl,rfl⟩
  case round=>
   obtain⟨i,hk,hil,rfl,rfl,rfl⟩:=hrel
   have HK:=hide hk
   clear hk
   by_cases hlt:i<tv.size
   ·have hlt':(i:Int)<tv.size:=by omega
    have hget:tv.toList[i]?=some tv[i]:=by rw [ByteArray.toList_eq,List.getElem?_eq_getElem (show i<tv.data.toList.length from hlt)];rfl
    have hc:=hdig.out.1 tv[i] (List.mem_of_getElem? hget)
    have hr1:=decM_le (tv.toList.take i) (fun c hc=>hdig.out.1 c (List.mem_of_mem_take hc)) (by rw [List.length_take];omega)
    have hst:Hid (decM (tv.toList.take (i+1))=decM (tv.toList.take i)*10+((tv[i].toNat:Int)- 48)):=hide (by rw [List.take_add_one,hget];exact decM_snoc _ _)
    have hr2:=decM_le (tv.toList.take (i+1)) (fun c hc=>hdig.out.1 c (List.mem_of_mem_take hc)) (by rw [List.length_take];omega)
    rw [hst.out] at hr2
    generalize decM (tv.toList.take i)=n at*
    have hc1:48≤(tv[i].toNat:Int):=by omega
    have hc2:(tv[i].toNat:Int)≤57:=by omega
    go_wp2_with fail
    have hk:=HK.out
    go_roundg (tv.size - i)
    case measure=>omega
    case rel=>exact⟨i+1,by omega,by omega,by go_num,by rw [hst.out],rfl⟩
   ·have hlt': ¬(i:Int)<tv.size:=by omega
    have hall:tv.toList.take i=tv.toList:=List.take_of_length_le (by rw [hdig.out.2.2];omega)
    rw [hall]
    have hr1:=decM_le tv.toList hdig.out.1 hdig.out.2.1
    generalize decM tv.toList=n at*
    have HC:=hide (numberWorth_any n wr)
    generalize hX:wNum n=X at*
    clear hX
    go_wp2_with fail
    refine HC.out.mono ?_
    rintro e w5 ⟨rfl,hB5⟩
    have hbx:=(hB5.block w.heap.size (by omega)).trans HX3.out
    obtain⟨y0',y1',y2',y3',g0',g1',g2',g3'⟩:=boxw hbx
    obtain⟨z0,z1,z2,z3⟩:=stored4 hbx (.int .i64 X.kind) (.bool X.truth) (.int .i64 X.num) (.string X.text)
    have HB5:=hide (below4 (HB3.out.trans (hB5.mono (by omega))) (Nat.le_refl w.heap.size) (.int .i64 X.kind) (.bool X.truth) (.int .i64 X.num) (.string X.text))
    clear hbx hB5
    go_wp2_with fail
    refine bodyPost_ret (v:= .agg #[.int .i64 X.kind,.bool X.truth,.int .i64 X.num,.string X.text]) (by simp [results,Tryz.results120,go_sem,z0,z1,z2,z3]) rfl ?_
    exact⟨by rw [hres.out],HB5.out⟩
def wAt (ws:List Wt)(i:Int):Wt:=if i<0 then wErr else ws.getD i.toNat wErr
theorem valM_size (nm:ByteArray)(m:Nat): ∀l:List (ByteArray×ByteArray),(∀p∈l,p.2.size≤m)→(valM nm l).size≤m:=by
 intro l
 induction l with
 |nil=>intro _;exact Nat.zero_le _
 |cons y ys ih=>
  intro h
  unfold valM
  split
  ·exact h y (by simp)
  ·exact ih fun p hp=>h p (by simp [hp])
theorem worthAt_any (base:Nat)(ts:List Wt)(v:Value)(i:Int)(w:World)(h:w.ownsRow base 75 4 v ts.length ((ts.map Wt.cells).flatten))(hlen:ts.length≤100000):
  Calls Tryz.prog 43 #[v,.int .i64 i] w fun e w'=>WPost (wAt ts i) w e w':=by
 have hB:=hide fun o:Obj=>(Below.refl w.heap.size w).alloc (Nat.le_refl _) o
 obtain⟨a0,c0,rfl⟩:=ownsRow_slice h
 by_cases h0:i<0
 ·have hfin:Hid (wAt ts i=wErr):=hide (by unfold wAt;rw [if_pos h0])
  go_enter Tryz.func43,Tryz.ntmps43
  go_wp2_with fail
  refine bodyPost_ret (v:= .agg #[.int .i64 0,.bool false,.int .i64 0,.string ⟨#[]⟩]) (by simp [results,Tryz.results43,go_sem]) rfl ?_
  exact⟨by rw [hfin.out];rfl,hB.out _⟩
 ·obtain⟨j,rfl⟩:=Int.eq_ofNat_of_zero_le (show 0≤i by omega)
  by_cases h1:j<ts.length
  ·obtain⟨g,cap,hv,hb,hg⟩:=h.form (by omega)
   injection hv with e1 e2 e3
   subst e1 e3
   obtain⟨z,hz⟩: ∃z,ts[j]?=some z:=⟨ts[j],List.getElem?_eq_getElem h1⟩
   have hcell: ∀k u,z.cells[k]?=some u→k<4→w.cell? ⟨g,j*4+k,none⟩=some u:=fun k u hu hk=>row_cell h _ _ ((flat_get Wt.cells 4 Wt.cells_len ts j k z hz hk).trans hu)
   have q0:w.cell? ⟨g,j*4,none⟩=some (.int .i64 z.kind):=hcell 0 _ rfl (by omega)
   have q1:=hcell 1 _ rfl (by omega)
   have q2:=hcell 2 _ rfl (by omega)
   have q3:=hcell 3 _ rfl (by omega)
   have hfin:Hid (wAt ts j=z):=hide (by unfold wAt;rw [if_neg (by omega)];simp [List.getD,hz])
   have h1':(j:Int)<ts.length:=by omega
   have hgg:g≠w.heap.size:=by omega
   clear hcell hz
   go_enter Tryz.func43,Tryz.ntmps43
   go_wp2_with fail
   refine bodyPost_ret (v:= .agg #[.int .i64 z.kind,.bool z.truth,.int .i64 z.num,.string z.text]) (by simp [results,Tryz.results43,go_sem]) rfl ?_
   exact⟨by rw [hfin.out],hB.out _⟩
  ·have hfin:Hid (wAt ts j=wErr):=hide (by unfold wAt;rw [if_neg (by omega)];simp [List.getElem?_eq_none (Nat.le_of_not_lt h1)])
   have h1': ¬(j:Int)<ts.length:=by omega
   go_enter Tryz.func43,Tryz.ntmps43
   go_wp2_with fail
   refine bodyPost_ret (v:= .agg #[.int .i64 0,.bool false,.int .i64 0,.string ⟨#[]⟩]) (by simp [results,Tryz.results43,go_sem]) rfl ?_
   exact⟨by rw [hfin.out];rfl,hB.out _⟩
end Go.Proofs.YtkoohcilbpdgeaaGreatDoor
