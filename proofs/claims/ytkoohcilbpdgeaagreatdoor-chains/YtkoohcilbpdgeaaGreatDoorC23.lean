import Derived.Test.YtkoohcilbpdgeaaGreatDoorC22
set_option linter.all false
set_option linter.unusedVariables false
set_option linter.unusedSimpArgs false
set_option linter.unnecessarySimpa false
set_option linter.constructorNameAsVariable false
set_option linter.deprecated false
set_option maxRecDepth 100000
set_option maxHeartbeats 6400000
namespace Go.Proofs.YtkoohcilbpdgeaaGreatDoor
open Go Go.RowKit
attribute [local go_sem] wrap64_byte
theorem both_cmp (t:ByteArray)(xc:Int)(xk:Int)(xb:Bool)(xn:Int)(xt:ByteArray)(yc:Int)(yk:Int)(yb:Bool)(yn:Int)(yt:ByteArray)(w:World)(hcf:isCalc t=false)(h46:(t.toList==[46])=false)(hc:isCmp t=true):Calls Tryz.prog 100 #[.string t,.agg #[.int .u8 xc,.bool xb,.int .i64 xn,.string xt],.agg #[.int .u8 yc,.bool yb,.int .i64 yn,.string yt]] w fun e w'=>DPost (bothM t ⟨xk,xb,xn,xt⟩ ⟨yk,yb,yn,yt⟩) w e w':=by
 have hres:Hid (bothM t ⟨xk,xb,xn,xt⟩ ⟨yk,yb,yn,yt⟩=wBool (cmpB t ⟨xk,xb,xn,xt⟩ ⟨yk,yb,yn,yt⟩)):=hide (by unfold bothM;rw [hcf,h46];rfl)
 have hx:(t.toList==[43])=false∧(t.toList==[45])=false∧(t.toList==[42])=false∧(t.toList==[47])=false∧(t.toList==[37])=false:=by
  unfold isCalc at hcf
  simpa [Bool.or_eq_false_iff,and_assoc] using hcf
 obtain⟨p1,p2,p3,p4,p5⟩:=hx
 have HRES:=hide hres
 clear hres hcf
 have hcase:(xn<yn∧(xn==yn)=false∧decide (xn<yn)=true)∨(¬xn<yn∧(xn==yn)=true∧decide (xn<yn)=false)∨(¬xn<yn∧(xn==yn)=false∧decide (xn<yn)=false):=by simp only [beq_eq_false_iff_ne,beq_iff_eq,ne_eq,decide_eq_true_eq,decide_eq_false_iff_not];omega
 cases g1:(t.toList==[61,61])
 case true=>
  cases hl:Op.bytesLess xt.toList yt.toList
  all_goals rcases hcase with⟨h1,h2,h3⟩|⟨h1,h2,h3⟩|⟨h1,h2,h3⟩
  all_goals
   have H3:=hide (And.intro h2 h3)
   clear h3
   go_enter Tryz.func100,Tryz.ntmps100
   go_wp2_with fail
   obtain⟨k2,k3⟩:=H3.out
   refine bodyPost_ret (v:= .agg #[.int .u8 98,.bool (cmpB t ⟨xk,xb,xn,xt⟩ ⟨yk,yb,yn,yt⟩),.int .i64 0,.string ⟨#[]⟩]) (by simp [results,Tryz.results100,go_sem,cmpB,sameM,lessM,g1,k2,k3,hl]) rfl ?_
   exact⟨by rw [HRES.out];rfl,((((Below.refl w.heap.size w).alloc (Nat.le_refl _) _).alloc (by simp<;>omega) _).alloc (by simp<;>omega) _)⟩
 cases g2:(t.toList==[33,61])
 case true=>
  cases hl:Op.bytesLess xt.toList yt.toList
  all_goals rcases hcase with⟨h1,h2,h3⟩|⟨h1,h2,h3⟩|⟨h1,h2,h3⟩
  all_goals
   have H3:=hide (And.intro h2 h3)
   clear h3
   go_enter Tryz.func100,Tryz.ntmps100
   go_wp2_with fail
   obtain⟨k2,k3⟩:=H3.out
   refine bodyPost_ret (v:= .agg #[.int .u8 98,.bool (cmpB t ⟨xk,xb,xn,xt⟩ ⟨yk,yb,yn,yt⟩),.int .i64 0,.string ⟨#[]⟩]) (by simp [results,Tryz.results100,go_sem,cmpB,sameM,lessM,g1,g2,k2,k3,hl]) rfl ?_
   exact⟨by rw [HRES.out];rfl,((((Below.refl w.heap.size w).alloc (Nat.le_refl _) _).alloc (by simp<;>omega) _).alloc (by simp<;>omega) _)⟩
 cases g3:(t.toList==[60])
 case true=>
  cases hl:Op.bytesLess xt.toList yt.toList
  all_goals rcases hcase with⟨h1,h2,h3⟩|⟨h1,h2,h3⟩|⟨h1,h2,h3⟩
  all_goals
   have H3:=hide (And.intro h2 h3)
   clear h3
   go_enter Tryz.func100,Tryz.ntmps100
   go_wp2_with fail
   obtain⟨k2,k3⟩:=H3.out
   refine bodyPost_ret (v:= .agg #[.int .u8 98,.bool (cmpB t ⟨xk,xb,xn,xt⟩ ⟨yk,yb,yn,yt⟩),.int .i64 0,.string ⟨#[]⟩]) (by simp [results,Tryz.results100,go_sem,cmpB,sameM,lessM,g1,g2,g3,k2,k3,hl]) rfl ?_
   exact⟨by rw [HRES.out];rfl,((((Below.refl w.heap.size w).alloc (Nat.le_refl _) _).alloc (by simp<;>omega) _).alloc (by simp<;>omega) _)⟩
 cases g4:(t.toList==[60,61])
 case true=>
  cases hl:Op.bytesLess xt.toList yt.toList
  all_goals rcases hcase with⟨h1,h2,h3⟩|⟨h1,h2,h3⟩|⟨h1,h2,h3⟩
  all_goals
   have H3:=hide (And.intro h2 h3)
   clear h3
   go_enter Tryz.func100,Tryz.ntmps100
   go_wp2_with fail
   obtain⟨k2,k3⟩:=H3.out
   refine bodyPost_ret (v:= .agg #[.int .u8 98,.bool (cmpB t ⟨xk,xb,xn,xt⟩ ⟨yk,yb,yn,yt⟩),.int .i64 0,.string ⟨#[]⟩]) (by simp [results,Tryz.results100,go_sem,cmpB,sameM,lessM,g1,g2,g3,g4,k2,k3,hl]) rfl ?_
   exact⟨by rw [HRES.out];rfl,((((Below.refl w.heap.size w).alloc (Nat.le_refl _) _).alloc (by simp<;>omega) _).alloc (by simp<;>omega) _)⟩
 cases g5:(t.toList==[62])
 case true=>
  cases hl:Op.bytesLess xt.toList yt.toList
  all_goals rcases hcase with⟨h1,h2,h3⟩|⟨h1,h2,h3⟩|⟨h1,h2,h3⟩
  all_goals
   have H3:=hide (And.intro h2 h3)
   clear h3
   go_enter Tryz.func100,Tryz.ntmps100
   go_wp2_with fail
   obtain⟨k2,k3⟩:=H3.out
   refine bodyPost_ret (v:= .agg #[.int .u8 98,.bool (cmpB t ⟨xk,xb,xn,xt⟩ ⟨yk,yb,yn,yt⟩),.int .i64 0,.string ⟨#[]⟩]) (by simp [results,Tryz.results100,go_sem,cmpB,sameM,lessM,g1,g2,g3,g4,g5,k2,k3,hl]) rfl ?_
   exact⟨by rw [HRES.out];rfl,((((Below.refl w.heap.size w).alloc (Nat.le_refl _) _).alloc (by simp<;>omega) _).alloc (by simp<;>omega) _)⟩
 have g6:(t.toList==[62,61])=true:=by
  unfold isCmp at hc
  rw [g1,g2,g3,g4,g5] at hc
  simpa using hc
 cases hl:Op.bytesLess xt.toList yt.toList
 all_goals rcases hcase with⟨h1,h2,h3⟩|⟨h1,h2,h3⟩|⟨h1,h2,h3⟩
 all_goals
  have H3:=hide (And.intro h2 h3)
  clear h3
  go_enter Tryz.func100,Tryz.ntmps100
  go_wp2_with fail
  obtain⟨k2,k3⟩:=H3.out
  refine bodyPost_ret (v:= .agg #[.int .u8 98,.bool (cmpB t ⟨xk,xb,xn,xt⟩ ⟨yk,yb,yn,yt⟩),.int .i64 0,.string ⟨#[]⟩]) (by simp [results,Tryz.results100,go_sem,cmpB,sameM,lessM,g1,g2,g3,g4,g5,g6,k2,k3,hl]) rfl ?_
  exact⟨by rw [HRES.out];rfl,((((Below.refl w.heap.size w).alloc (Nat.le_refl _) _).alloc (by simp<;>omega) _).alloc (by simp<;>omega) _)⟩
theorem isSign_cases {op:ByteArray}(h:isSignB op=true)(h1:(op.toList==[38,38])=false)(h2:(op.toList==[124,124])=false):isCalc op=true∨(op.toList==[46])=true∨(isCalc op=false∧(op.toList==[46])=false∧isCmp op=true):=by
 unfold isSignB at h
 rw [h1,h2] at h
 unfold isCalc isCmp
 revert h
 generalize (op.toList==[61,61])=a1
 generalize (op.toList==[33,61])=a2
 generalize (op.toList==[60])=a3
 generalize (op.toList==[60,61])=a4
 generalize (op.toList==[62])=a5
 generalize (op.toList==[62,61])=a6
 generalize (op.toList==[43])=a7
 generalize (op.toList==[45])=a8
 generalize (op.toList==[46])=a9
 generalize (op.toList==[42])=b1
 generalize (op.toList==[47])=b2
 generalize (op.toList==[37])=b3
 intro h
 cases a7<;>cases a8<;>cases b1<;>cases b2<;>cases b3<;>cases a9<;>simp_all
theorem both_any (t:ByteArray)(x y:Wt)(w:World)(hx:x.text.size≤400000000)(hy:y.text.size≤400000000)(hs:isSignB t=true)(h1:(t.toList==[38,38])=false)(h2:(t.toList==[124,124])=false):
  Calls Tryz.prog 100 #[.string t,.agg #[.int .u8 (kc x.kind),.bool x.truth,.int .i64 x.num,.string x.text],.agg #[.int .u8 (kc y.kind),.bool y.truth,.int .i64 y.num,.string y.text]] w fun e w'=>DPost (bothM t x y) w e w':=by
 rcases isSign_cases hs h1 h2 with h|h|⟨h,k,m⟩
 ·exact both_calc t _ x.kind _ _ _ _ y.kind _ _ _ w hx hy (.inl h)
 ·exact both_calc t _ x.kind _ _ _ _ y.kind _ _ _ w hx hy (.inr h)
 ·exact both_cmp t _ x.kind _ _ _ _ y.kind _ _ _ w h k m
end Go.Proofs.YtkoohcilbpdgeaaGreatDoor
