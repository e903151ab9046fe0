import Derived.Test.YtkoohcilbpdgeaaGreatDoorC17
set_option linter.all false
set_option linter.unusedVariables false
set_option linter.unusedSimpArgs false
set_option linter.unnecessarySimpa false
set_option linter.constructorNameAsVariable false
set_option linter.deprecated false
set_option maxRecDepth 100000
set_option maxHeartbeats 6400000
namespace Go.Proofs.YtkoohcilbpdgeaaGreatDoor
open Go Go.RowKit
attribute [local go_sem] wrap64_byte
def sameM (x y:Wt):Bool:=(x.num==y.num)&&(x.text.toList==y.text.toList)
def lessM (x y:Wt):Bool:=decide (x.num<y.num)||Op.bytesLess x.text.toList y.text.toList
def cmpB (t:ByteArray)(x y:Wt):Bool:=
 if t.toList==[61,61] then sameM x y else if t.toList==[33,61] then !sameM x y else if t.toList==[60] then lessM x y
 else if t.toList==[60,61] then lessM x y||sameM x y else if t.toList==[62] then !lessM x y&& !sameM x y else !lessM x y
theorem wpost_eq {b c:Bool}{w:World}{e:Ending}{w':World}(h:WPost (wBool b) w e w')(hbc:b=c):WPost (wBool c) w e w':=hbc▸h
theorem compared_any (t:ByteArray)(x y:Wt)(w:World):Calls Tryz.prog 154 #[.string t,.agg #[.int .i64 x.kind,.bool x.truth,.int .i64 x.num,.string x.text],.agg #[.int .i64 y.kind,.bool y.truth,.int .i64 y.num,.string y.text]] w fun e w'=>WPost (wBool (cmpB t x y)) w e w':=by
 have HB0:Hid (Below w.heap.size w (((w.alloc (.cells #[.int .i64 x.kind,.bool x.truth,.int .i64 x.num,.string x.text] 75)).alloc (.cells #[.int .i64 y.kind,.bool y.truth,.int .i64 y.num,.string y.text] 75)).alloc (.cells #[.int .i64 0,.bool false,.int .i64 0,.string ⟨#[]⟩] 75))):=hide ((((Below.refl w.heap.size w).alloc (Nat.le_refl _) (.cells #[.int .i64 x.kind,.bool x.truth,.int .i64 x.num,.string x.text] 75)).alloc (by simp<;>omega) (.cells #[.int .i64 y.kind,.bool y.truth,.int .i64 y.num,.string y.text] 75)).alloc (by simp<;>omega) (.cells #[.int .i64 0,.bool false,.int .i64 0,.string ⟨#[]⟩] 75))
 have HX:Hid ((((w.alloc (.cells #[.int .i64 x.kind,.bool x.truth,.int .i64 x.num,.string x.text] 75)).alloc (.cells #[.int .i64 y.kind,.bool y.truth,.int .i64 y.num,.string y.text] 75)).alloc (.cells #[.int .i64 0,.bool false,.int .i64 0,.string ⟨#[]⟩] 75)).heap[w.heap.size+1+1]?=some (.cells #[.int .i64 0,.bool false,.int .i64 0,.string ⟨#[]⟩] 75)):=hide (by have q:=heap_alloc_new ((w.alloc (.cells #[.int .i64 x.kind,.bool x.truth,.int .i64 x.num,.string x.text] 75)).alloc (.cells #[.int .i64 y.kind,.bool y.truth,.int .i64 y.num,.string y.text] 75)) (.cells #[.int .i64 0,.bool false,.int .i64 0,.string ⟨#[]⟩] 75);rw [show((w.alloc (.cells #[.int .i64 x.kind,.bool x.truth,.int .i64 x.num,.string x.text] 75)).alloc (.cells #[.int .i64 y.kind,.bool y.truth,.int .i64 y.num,.string y.text] 75)).heap.size=w.heap.size+1+1 by simp] at q;exact q)
 have HZ:Hid (w.heap.size+1+1<(((w.alloc (.cells #[.int .i64 x.kind,.bool x.truth,.int .i64 x.num,.string x.text] 75)).alloc (.cells #[.int .i64 y.kind,.bool y.truth,.int .i64 y.num,.string y.text] 75)).alloc (.cells #[.int .i64 0,.bool false,.int .i64 0,.string ⟨#[]⟩] 75)).heap.size):=hide (by simp)
 have HZ1:Hid (w.heap.size≤(((w.alloc (.cells #[.int .i64 x.kind,.bool x.truth,.int .i64 x.num,.string x.text] 75)).alloc (.cells #[.int .i64 y.kind,.bool y.truth,.int .i64 y.num,.string y.text] 75)).alloc (.cells #[.int .i64 0,.bool false,.int .i64 0,.string ⟨#[]⟩] 75)).heap.size):=hide (by simp<;>omega)
 have HG:Hid (w.heap.size≤w.heap.size+1+1):=hide (by omega)
 have HC:=hide (fun b=>boolWorth_any b (((w.alloc (.cells #[.int .i64 x.kind,.bool x.truth,.int .i64 x.num,.string x.text] 75)).alloc (.cells #[.int .i64 y.kind,.bool y.truth,.int .i64 y.num,.string y.text] 75)).alloc (.cells #[.int .i64 0,.bool false,.int .i64 0,.string ⟨#[]⟩] 75)))
 have hcase:(x.num<y.num∧(x.num==y.num)=false)∨(¬x.num<y.num∧(x.num==y.num)=true)∨(¬x.num<y.num∧(x.num==y.num)=false):=by simp only [beq_eq_false_iff_ne,beq_iff_eq,ne_eq];omega
 have hX: ∃X,X=wBool (cmpB t x y):=⟨_,rfl⟩
 obtain⟨X,hX⟩:=hX
 have HXX:=hide hX
 clear hX
 cases g1:(t.toList==[61,61])
 case true=>
  cases hl:Op.bytesLess x.text.toList y.text.toList
  all_goals rcases hcase with⟨h1,h2⟩|⟨h1,h2⟩|⟨h1,h2⟩
  all_goals
   go_enter Tryz.func154,Tryz.ntmps154
   go_wp2_with fail
   refine(HC.out _).mono ?_
   intro e w1 hq
   have hq':=wpost_eq (c:=cmpB t x y) hq (by(simp [cmpB,sameM,lessM,g1,h1,h2,hl]);try(intro hh;omega))
   rw [←HXX.out] at hq'
   clear hq
   obtain⟨rfl,hB1⟩:=hq'
   have hbx:=(hB1.block _ HZ.out).trans HX.out
   obtain⟨y0,y1,y2,y3,g0,g1,g2,g3⟩:=boxw hbx
   obtain⟨z0,z1,z2,z3⟩:=stored4 hbx (.int .i64 X.kind) (.bool X.truth) (.int .i64 X.num) (.string X.text)
   have HB2:=hide (below4 (HB0.out.trans (hB1.mono HZ1.out)) HG.out (.int .i64 X.kind) (.bool X.truth) (.int .i64 X.num) (.string X.text))
   clear hbx hB1
   go_wp2_with fail
   refine bodyPost_ret (v:= .agg #[.int .i64 X.kind,.bool X.truth,.int .i64 X.num,.string X.text]) (by simp [results,Tryz.results154,go_sem,z0,z1,z2,z3]) rfl ?_
   exact⟨by rw [←HXX.out],HB2.out⟩
 cases g2:(t.toList==[33,61])
 case true=>
  cases hl:Op.bytesLess x.text.toList y.text.toList
  all_goals rcases hcase with⟨h1,h2⟩|⟨h1,h2⟩|⟨h1,h2⟩
  all_goals
   go_enter Tryz.func154,Tryz.ntmps154
   go_wp2_with fail
   refine(HC.out _).mono ?_
   intro e w1 hq
   have hq':=wpost_eq (c:=cmpB t x y) hq (by(simp [cmpB,sameM,lessM,g1,g2,h1,h2,hl]);try(intro hh;omega))
   rw [←HXX.out] at hq'
   clear hq
   obtain⟨rfl,hB1⟩:=hq'
   have hbx:=(hB1.block _ HZ.out).trans HX.out
   obtain⟨y0,y1,y2,y3,g0,g1,g2,g3⟩:=boxw hbx
   obtain⟨z0,z1,z2,z3⟩:=stored4 hbx (.int .i64 X.kind) (.bool X.truth) (.int .i64 X.num) (.string X.text)
   have HB2:=hide (below4 (HB0.out.trans (hB1.mono HZ1.out)) HG.out (.int .i64 X.kind) (.bool X.truth) (.int .i64 X.num) (.string X.text))
   clear hbx hB1
   go_wp2_with fail
   refine bodyPost_ret (v:= .agg #[.int .i64 X.kind,.bool X.truth,.int .i64 X.num,.string X.text]) (by simp [results,Tryz.results154,go_sem,z0,z1,z2,z3]) rfl ?_
   exact⟨by rw [←HXX.out],HB2.out⟩
 cases g3:(t.toList==[60])
 case true=>
  cases hl:Op.bytesLess x.text.toList y.text.toList
  all_goals rcases hcase with⟨h1,h2⟩|⟨h1,h2⟩|⟨h1,h2⟩
  all_goals
   go_enter Tryz.func154,Tryz.ntmps154
   go_wp2_with fail
   refine(HC.out _).mono ?_
   intro e w1 hq
   have hq':=wpost_eq (c:=cmpB t x y) hq (by(simp [cmpB,sameM,lessM,g1,g2,g3,h1,h2,hl]);try(intro hh;omega))
   rw [←HXX.out] at hq'
   clear hq
   obtain⟨rfl,hB1⟩:=hq'
   have hbx:=(hB1.block _ HZ.out).trans HX.out
   obtain⟨y0,y1,y2,y3,g0,g1,g2,g3⟩:=boxw hbx
   obtain⟨z0,z1,z2,z3⟩:=stored4 hbx (.int .i64 X.kind) (.bool X.truth) (.int .i64 X.num) (.string X.text)
   have HB2:=hide (below4 (HB0.out.trans (hB1.mono HZ1.out)) HG.out (.int .i64 X.kind) (.bool X.truth) (.int .i64 X.num) (.string X.text))
   clear hbx hB1
   go_wp2_with fail
   refine bodyPost_ret (v:= .agg #[.int .i64 X.kind,.bool X.truth,.int .i64 X.num,.string X.text]) (by simp [results,Tryz.results154,go_sem,z0,z1,z2,z3]) rfl ?_
   exact⟨by rw [←HXX.out],HB2.out⟩
 cases g4:(t.toList==[60,61])
 case true=>
  cases hl:Op.bytesLess x.text.toList y.text.toList
  all_goals rcases hcase with⟨h1,h2⟩|⟨h1,h2⟩|⟨h1,h2⟩
  all_goals
   go_enter Tryz.func154,Tryz.ntmps154
   go_wp2_with fail
   refine(HC.out _).mono ?_
   intro e w1 hq
   have hq':=wpost_eq (c:=cmpB t x y) hq (by(simp [cmpB,sameM,lessM,g1,g2,g3,g4,h1,h2,hl]);try(intro hh;omega))
   rw [←HXX.out] at hq'
   clear hq
   obtain⟨rfl,hB1⟩:=hq'
   have hbx:=(hB1.block _ HZ.out).trans HX.out
   obtain⟨y0,y1,y2,y3,g0,g1,g2,g3⟩:=boxw hbx
   obtain⟨z0,z1,z2,z3⟩:=stored4 hbx (.int .i64 X.kind) (.bool X.truth) (.int .i64 X.num) (.string X.text)
   have HB2:=hide (below4 (HB0.out.trans (hB1.mono HZ1.out)) HG.out (.int .i64 X.kind) (.bool X.truth) (.int .i64 X.num) (.string X.text))
   clear hbx hB1
   go_wp2_with fail
   refine bodyPost_ret (v:= .agg #[.int .i64 X.kind,.bool X.truth,.int .i64 X.num,.string X.text]) (by simp [results,Tryz.results154,go_sem,z0,z1,z2,z3]) rfl ?_
   exact⟨by rw [←HXX.out],HB2.out⟩
 cases g5:(t.toList==[62])
 case true=>
  cases hl:Op.bytesLess x.text.toList y.text.toList
  all_goals rcases hcase with⟨h1,h2⟩|⟨h1,h2⟩|⟨h1,h2⟩
  all_goals
   go_enter Tryz.func154,Tryz.ntmps154
   go_wp2_with fail
   refine(HC.out _).mono ?_
   intro e w1 hq
   have hq':=wpost_eq (c:=cmpB t x y) hq (by(simp [cmpB,sameM,lessM,g1,g2,g3,g4,g5,h1,h2,hl]);try(intro hh;omega))
   rw [←HXX.out] at hq'
   clear hq
   obtain⟨rfl,hB1⟩:=hq'
   have hbx:=(hB1.block _ HZ.out).trans HX.out
   obtain⟨y0,y1,y2,y3,g0,g1,g2,g3⟩:=boxw hbx
   obtain⟨z0,z1,z2,z3⟩:=stored4 hbx (.int .i64 X.kind) (.bool X.truth) (.int .i64 X.num) (.string X.text)
   have HB2:=hide (below4 (HB0.out.trans (hB1.mono HZ1.out)) HG.out (.int .i64 X.kind) (.bool X.truth) (.int .i64 X.num) (.string X.text))
   clear hbx hB1
   go_wp2_with fail
   refine bodyPost_ret (v:= .agg #[.int .i64 X.kind,.bool X.truth,.int .i64 X.num,.string X.text]) (by simp [results,Tryz.results154,go_sem,z0,z1,z2,z3]) rfl ?_
   exact⟨by rw [←HXX.out],HB2.out⟩
 cases hl:Op.bytesLess x.text.toList y.text.toList
 all_goals rcases hcase with⟨h1,h2⟩|⟨h1,h2⟩|⟨h1,h2⟩
 all_goals
  go_enter Tryz.func154,Tryz.ntmps154
  go_wp2_with fail
  refine(HC.out _).mono ?_
  intro e w1 hq
  have hq':=wpost_eq (c:=cmpB t x y) hq (by(simp [cmpB,sameM,lessM,g1,g2,g3,g4,g5,h1,h2,hl]);try(intro hh;omega))
  rw [←HXX.out] at hq'
  clear hq
  obtain⟨rfl,hB1⟩:=hq'
  have hbx:=(hB1.block _ HZ.out).trans HX.out
  obtain⟨y0,y1,y2,y3,g0,g1,g2,g3⟩:=boxw hbx
  obtain⟨z0,z1,z2,z3⟩:=stored4 hbx (.int .i64 X.kind) (.bool X.truth) (.int .i64 X.num) (.string X.text)
  have HB2:=hide (below4 (HB0.out.trans (hB1.mono HZ1.out)) HG.out (.int .i64 X.kind) (.bool X.truth) (.int .i64 X.num) (.string X.text))
  clear hbx hB1
  go_wp2_with fail
  refine bodyPost_ret (v:= .agg #[.int .i64 X.kind,.bool X.truth,.int .i64 X.num,.string X.text]) (by simp [results,Tryz.results154,go_sem,z0,z1,z2,z3]) rfl ?_
  exact⟨by rw [←HXX.out],HB2.out⟩
end Go.Proofs.YtkoohcilbpdgeaaGreatDoor
