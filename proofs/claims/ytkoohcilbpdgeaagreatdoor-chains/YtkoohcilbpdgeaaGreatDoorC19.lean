import Derived.Test.YtkoohcilbpdgeaaGreatDoorC18
set_option linter.all false
set_option linter.unusedVariables false
set_option linter.unusedSimpArgs false
set_option linter.unnecessarySimpa false
set_option linter.constructorNameAsVariable false
set_option linter.deprecated false
set_option maxRecDepth 100000
set_option maxHeartbeats 6400000
namespace Go.Proofs.YtkoohcilbpdgeaaGreatDoor
open Go Go.RowKit
attribute [local go_sem] wrap64_byte
def isCalc (t:ByteArray):Bool:=t.toList==[43]||t.toList==[45]||t.toList==[42]||t.toList==[47]||t.toList==[37]
def pairM (t:ByteArray)(x y:Wt):Wt:=
 if x.kind==0 then x else if t.toList==[38,38] then(if !x.truth then x else y) else if t.toList==[124,124] then(if x.truth then x else y)
 else if y.kind==0 then y else if isCalc t then calcM t x.num y.num else if t.toList==[46] then wStr (x.text++y.text) else wBool (cmpB t x y)
theorem pairWorth_c (t:ByteArray)(xk:Int)(xb:Bool)(xn:Int)(xt:ByteArray)(yk:Int)(yb:Bool)(yn:Int)(yt:ByteArray)(w:World)(hx:xt.size≤400000000)(hy:yt.size≤400000000):Calls Tryz.prog 125 #[.string t,.agg #[.int .i64 xk,.bool xb,.int .i64 xn,.string xt],.agg #[.int .i64 yk,.bool yb,.int .i64 yn,.string yt]] w fun e w'=>WPost (pairM t ⟨xk,xb,xn,xt⟩ ⟨yk,yb,yn,yt⟩) w e w':=by
 have HB0:Hid (Below w.heap.size w (((w.alloc (.cells #[.int .i64 xk,.bool xb,.int .i64 xn,.string xt] 75)).alloc (.cells #[.int .i64 yk,.bool yb,.int .i64 yn,.string yt] 75)).alloc (.cells #[.int .i64 0,.bool false,.int .i64 0,.string ⟨#[]⟩] 75))):=hide ((((Below.refl w.heap.size w).alloc (Nat.le_refl _) (.cells #[.int .i64 xk,.bool xb,.int .i64 xn,.string xt] 75)).alloc (by simp<;>omega) (.cells #[.int .i64 yk,.bool yb,.int .i64 yn,.string yt] 75)).alloc (by simp<;>omega) (.cells #[.int .i64 0,.bool false,.int .i64 0,.string ⟨#[]⟩] 75))
 have HX:Hid ((((w.alloc (.cells #[.int .i64 xk,.bool xb,.int .i64 xn,.string xt] 75)).alloc (.cells #[.int .i64 yk,.bool yb,.int .i64 yn,.string yt] 75)).alloc (.cells #[.int .i64 0,.bool false,.int .i64 0,.string ⟨#[]⟩] 75)).heap[w.heap.size+1+1]?=some (.cells #[.int .i64 0,.bool false,.int .i64 0,.string ⟨#[]⟩] 75)):=hide (by have q:=heap_alloc_new ((w.alloc (.cells #[.int .i64 xk,.bool xb,.int .i64 xn,.string xt] 75)).alloc (.cells #[.int .i64 yk,.bool yb,.int .i64 yn,.string yt] 75)) (.cells #[.int .i64 0,.bool false,.int .i64 0,.string ⟨#[]⟩] 75);rw [show((w.alloc (.cells #[.int .i64 xk,.bool xb,.int .i64 xn,.string xt] 75)).alloc (.cells #[.int .i64 yk,.bool yb,.int .i64 yn,.string yt] 75)).heap.size=w.heap.size+1+1 by simp] at q;exact q)
 have HZ:Hid (w.heap.size+1+1<(((w.alloc (.cells #[.int .i64 xk,.bool xb,.int .i64 xn,.string xt] 75)).alloc (.cells #[.int .i64 yk,.bool yb,.int .i64 yn,.string yt] 75)).alloc (.cells #[.int .i64 0,.bool false,.int .i64 0,.string ⟨#[]⟩] 75)).heap.size):=hide (by simp)
 have HZ1:Hid (w.heap.size≤(((w.alloc (.cells #[.int .i64 xk,.bool xb,.int .i64 xn,.string xt] 75)).alloc (.cells #[.int .i64 yk,.bool yb,.int .i64 yn,.string yt] 75)).alloc (.cells #[.int .i64 0,.bool false,.int .i64 0,.string ⟨#[]⟩] 75)).heap.size):=hide (by simp<;>omega)
 have HG:Hid (w.heap.size≤w.heap.size+1+1):=hide (by omega)
 have HX0:Hid ((((w.alloc (.cells #[.int .i64 xk,.bool xb,.int .i64 xn,.string xt] 75)).alloc (.cells #[.int .i64 yk,.bool yb,.int .i64 yn,.string yt] 75)).alloc (.cells #[.int .i64 0,.bool false,.int .i64 0,.string ⟨#[]⟩] 75)).heap[w.heap.size]?=some (.cells #[.int .i64 xk,.bool xb,.int .i64 xn,.string xt] 75)):=hide ((Below.heap_alloc _ _ _ (by simp<;>omega)).trans ((Below.heap_alloc _ _ _ (by simp<;>omega)).trans (heap_alloc_new w _)))
 have HY0:Hid ((((w.alloc (.cells #[.int .i64 xk,.bool xb,.int .i64 xn,.string xt] 75)).alloc (.cells #[.int .i64 yk,.bool yb,.int .i64 yn,.string yt] 75)).alloc (.cells #[.int .i64 0,.bool false,.int .i64 0,.string ⟨#[]⟩] 75)).heap[w.heap.size+1]?=some (.cells #[.int .i64 yk,.bool yb,.int .i64 yn,.string yt] 75)):=hide ((Below.heap_alloc _ _ _ (by simp<;>omega)).trans (by have q:=heap_alloc_new (w.alloc (.cells #[.int .i64 xk,.bool xb,.int .i64 xn,.string xt] 75)) (.cells #[.int .i64 yk,.bool yb,.int .i64 yn,.string yt] 75);rw [show(w.alloc (.cells #[.int .i64 xk,.bool xb,.int .i64 xn,.string xt] 75)).heap.size=w.heap.size+1 by simp] at q;exact q))
 have HZx:Hid (w.heap.size<(((w.alloc (.cells #[.int .i64 xk,.bool xb,.int .i64 xn,.string xt] 75)).alloc (.cells #[.int .i64 yk,.bool yb,.int .i64 yn,.string yt] 75)).alloc (.cells #[.int .i64 0,.bool false,.int .i64 0,.string ⟨#[]⟩] 75)).heap.size):=hide (by simp<;>omega)
 have HZy:Hid (w.heap.size+1<(((w.alloc (.cells #[.int .i64 xk,.bool xb,.int .i64 xn,.string xt] 75)).alloc (.cells #[.int .i64 yk,.bool yb,.int .i64 yn,.string yt] 75)).alloc (.cells #[.int .i64 0,.bool false,.int .i64 0,.string ⟨#[]⟩] 75)).heap.size):=hide (by simp<;>omega)
 have HF:=hide (failed_any ⟨xk,xb,xn,xt⟩ (((w.alloc (.cells #[.int .i64 xk,.bool xb,.int .i64 xn,.string xt] 75)).alloc (.cells #[.int .i64 yk,.bool yb,.int .i64 yn,.string yt] 75)).alloc (.cells #[.int .i64 0,.bool false,.int .i64 0,.string ⟨#[]⟩] 75)))
 cases h1:(xk==0)
 case true=>
  rw [h1] at HF
  have hres:Hid (pairM t ⟨xk,xb,xn,xt⟩ ⟨yk,yb,yn,yt⟩=⟨xk,xb,xn,xt⟩):=hide (by unfold pairM;rw [h1];rfl)
  go_enter Tryz.func125,Tryz.ntmps125
  go_wp2_with fail
  refine HF.out.mono ?_
  rintro e w0 ⟨rfl,hB0⟩
  obtain⟨c0,c1,c2,c3,d0,d1,d2,d3⟩:=boxw ((hB0.block _ HZx.out).trans HX0.out)
  obtain⟨e0,e1,e2,e3,k0,k1,k2,k3⟩:=boxw ((hB0.block _ HZy.out).trans HY0.out)
  have hB1:=hB0
  have hbx:=(hB1.block _ HZ.out).trans HX.out
  obtain⟨y0,y1,y2,y3,g0,g1,g2,g3⟩:=boxw hbx
  obtain⟨z0,z1,z2,z3⟩:=stored4 hbx (.int .i64 xk) (.bool xb) (.int .i64 xn) (.string xt)
  have HB2:=hide (below4 (HB0.out.trans (hB1.mono HZ1.out)) HG.out (.int .i64 xk) (.bool xb) (.int .i64 xn) (.string xt))
  clear hbx hB1
  go_wp2_with fail
  refine bodyPost_ret (v:= .agg #[.int .i64 xk,.bool xb,.int .i64 xn,.string xt]) (by simp [results,Tryz.results125,go_sem,z0,z1,z2,z3]) rfl ?_
  exact⟨by rw [hres.out],HB2.out⟩
 rw [h1] at HF
 cases h2:(t.toList==[38,38])
 case true=>
  cases xb
  case false=>
   have hres:Hid (pairM t ⟨xk,false,xn,xt⟩ ⟨yk,yb,yn,yt⟩=⟨xk,false,xn,xt⟩):=hide (by unfold pairM;rw [h1];rw [h2];rfl)
   go_enter Tryz.func125,Tryz.ntmps125
   go_wp2_with fail
   refine HF.out.mono ?_
   rintro e w0 ⟨rfl,hB0⟩
   obtain⟨c0,c1,c2,c3,d0,d1,d2,d3⟩:=boxw ((hB0.block _ HZx.out).trans HX0.out)
   obtain⟨e0,e1,e2,e3,k0,k1,k2,k3⟩:=boxw ((hB0.block _ HZy.out).trans HY0.out)
   have hB1:=hB0
   have hbx:=(hB1.block _ HZ.out).trans HX.out
   obtain⟨y0,y1,y2,y3,g0,g1,g2,g3⟩:=boxw hbx
   obtain⟨z0,z1,z2,z3⟩:=stored4 hbx (.int .i64 xk) (.bool false) (.int .i64 xn) (.string xt)
   have HB2:=hide (below4 (HB0.out.trans (hB1.mono HZ1.out)) HG.out (.int .i64 xk) (.bool false) (.int .i64 xn) (.string xt))
   clear hbx hB1
   go_wp2_with fail
   refine bodyPost_ret (v:= .agg #[.int .i64 xk,.bool false,.int .i64 xn,.string xt]) (by simp [results,Tryz.results125,go_sem,z0,z1,z2,z3]) rfl ?_
   exact⟨by rw [hres.out],HB2.out⟩
  case true=>
   have hres:Hid (pairM t ⟨xk,true,xn,xt⟩ ⟨yk,yb,yn,yt⟩=⟨yk,yb,yn,yt⟩):=hide (by unfold pairM;rw [h1];rw [h2];rfl)
   go_enter Tryz.func125,Tryz.ntmps125
   go_wp2_with fail
   refine HF.out.mono ?_
   rintro e w0 ⟨rfl,hB0⟩
   obtain⟨c0,c1,c2,c3,d0,d1,d2,d3⟩:=boxw ((hB0.block _ HZx.out).trans HX0.out)
   obtain⟨e0,e1,e2,e3,k0,k1,k2,k3⟩:=boxw ((hB0.block _ HZy.out).trans HY0.out)
   have hB1:=hB0
   have hbx:=(hB1.block _ HZ.out).trans HX.out
   obtain⟨y0,y1,y2,y3,g0,g1,g2,g3⟩:=boxw hbx
   obtain⟨z0,z1,z2,z3⟩:=stored4 hbx (.int .i64 yk) (.bool yb) (.int .i64 yn) (.string yt)
   have HB2:=hide (below4 (HB0.out.trans (hB1.mono HZ1.out)) HG.out (.int .i64 yk) (.bool yb) (.int .i64 yn) (.string yt))
   clear hbx hB1
   go_wp2_with fail
   refine bodyPost_ret (v:= .agg #[.int .i64 yk,.bool yb,.int .i64 yn,.string yt]) (by simp [results,Tryz.results125,go_sem,z0,z1,z2,z3]) rfl ?_
   exact⟨by rw [hres.out],HB2.out⟩
 cases h3:(t.toList==[124,124])
 case true=>
  cases xb
  case true=>
   have hres:Hid (pairM t ⟨xk,true,xn,xt⟩ ⟨yk,yb,yn,yt⟩=⟨xk,true,xn,xt⟩):=hide (by unfold pairM;rw [h1];rw [h2];rw [h3];rfl)
   go_enter Tryz.func125,Tryz.ntmps125
   go_wp2_with fail
   refine HF.out.mono ?_
   rintro e w0 ⟨rfl,hB0⟩
   obtain⟨c0,c1,c2,c3,d0,d1,d2,d3⟩:=boxw ((hB0.block _ HZx.out).trans HX0.out)
   obtain⟨e0,e1,e2,e3,k0,k1,k2,k3⟩:=boxw ((hB0.block _ HZy.out).trans HY0.out)
   have hB1:=hB0
   have hbx:=(hB1.block _ HZ.out).trans HX.out
   obtain⟨y0,y1,y2,y3,g0,g1,g2,g3⟩:=boxw hbx
   obtain⟨z0,z1,z2,z3⟩:=stored4 hbx (.int .i64 xk) (.bool true) (.int .i64 xn) (.string xt)
   have HB2:=hide (below4 (HB0.out.trans (hB1.mono HZ1.out)) HG.out (.int .i64 xk) (.bool true) (.int .i64 xn) (.string xt))
   clear hbx hB1
   go_wp2_with fail
   refine bodyPost_ret (v:= .agg #[.int .i64 xk,.bool true,.int .i64 xn,.string xt]) (by simp [results,Tryz.results125,go_sem,z0,z1,z2,z3]) rfl ?_
   exact⟨by rw [hres.out],HB2.out⟩
  case false=>
   have hres:Hid (pairM t ⟨xk,false,xn,xt⟩ ⟨yk,yb,yn,yt⟩=⟨yk,yb,yn,yt⟩):=hide (by unfold pairM;rw [h1];rw [h2];rw [h3];rfl)
   go_enter Tryz.func125,Tryz.ntmps125
   go_wp2_with fail
   refine HF.out.mono ?_
   rintro e w0 ⟨rfl,hB0⟩
   obtain⟨c0,c1,c2,c3,d0,d1,d2,d3⟩:=boxw ((hB0.block _ HZx.out).trans HX0.out)
   obtain⟨e0,e1,e2,e3,k0,k1,k2,k3⟩:=boxw ((hB0.block _ HZy.out).trans HY0.out)
   have hB1:=hB0
   have hbx:=(hB1.block _ HZ.out).trans HX.out
   obtain⟨y0,y1,y2,y3,g0,g1,g2,g3⟩:=boxw hbx
   obtain⟨z0,z1,z2,z3⟩:=stored4 hbx (.int .i64 yk) (.bool yb) (.int .i64 yn) (.string yt)
   have HB2:=hide (below4 (HB0.out.trans (hB1.mono HZ1.out)) HG.out (.int .i64 yk) (.bool yb) (.int .i64 yn) (.string yt))
   clear hbx hB1
   go_wp2_with fail
   refine bodyPost_ret (v:= .agg #[.int .i64 yk,.bool yb,.int .i64 yn,.string yt]) (by simp [results,Tryz.results125,go_sem,z0,z1,z2,z3]) rfl ?_
   exact⟨by rw [hres.out],HB2.out⟩
 cases h4:(yk==0)
 case true=>
  have hres:Hid (pairM t ⟨xk,xb,xn,xt⟩ ⟨yk,yb,yn,yt⟩=⟨yk,yb,yn,yt⟩):=hide (by unfold pairM;rw [h1];rw [h2];rw [h3];rw [h4];rfl)
  go_enter Tryz.func125,Tryz.ntmps125
  go_wp2_with fail
  refine HF.out.mono ?_
  rintro e w0 ⟨rfl,hB0⟩
  obtain⟨c0,c1,c2,c3,d0,d1,d2,d3⟩:=boxw ((hB0.block _ HZx.out).trans HX0.out)
  obtain⟨e0,e1,e2,e3,k0,k1,k2,k3⟩:=boxw ((hB0.block _ HZy.out).trans HY0.out)
  have HX:=hide ((hB0.block _ HZ.out).trans HX.out)
  have HX0:=hide ((hB0.block _ HZx.out).trans HX0.out)
  have HY0:=hide ((hB0.block _ HZy.out).trans HY0.out)
  have HZ:=hide (Nat.lt_of_lt_of_le HZ.out hB0.size)
  have HZx:=hide (Nat.lt_of_lt_of_le HZx.out hB0.size)
  have HZy:=hide (Nat.lt_of_lt_of_le HZy.out hB0.size)
  have HB0:=hide (HB0.out.trans (hB0.mono HZ1.out))
  have HZ1:=hide HB0.out.size
  clear hB0
  go_wp2_with fail
  refine(failed_any ⟨yk,yb,yn,yt⟩ _).mono ?_
  rintro e w2 ⟨rfl,hB0⟩
  obtain⟨c0,c1,c2,c3,d0,d1,d2,d3⟩:=boxw ((hB0.block _ HZx.out).trans HX0.out)
  obtain⟨e0,e1,e2,e3,k0,k1,k2,k3⟩:=boxw ((hB0.block _ HZy.out).trans HY0.out)
  have hB1:=hB0
  have hbx:=(hB1.block _ HZ.out).trans HX.out
  obtain⟨y0,y1,y2,y3,g0,g1,g2,g3⟩:=boxw hbx
  obtain⟨z0,z1,z2,z3⟩:=stored4 hbx (.int .i64 yk) (.bool yb) (.int .i64 yn) (.string yt)
  have HB2:=hide (below4 (HB0.out.trans (hB1.mono HZ1.out)) HG.out (.int .i64 yk) (.bool yb) (.int .i64 yn) (.string yt))
  clear hbx hB1
  go_wp2_with fail
  refine bodyPost_ret (v:= .agg #[.int .i64 yk,.bool yb,.int .i64 yn,.string yt]) (by simp [results,Tryz.results125,go_sem,z0,z1,z2,z3]) rfl ?_
  exact⟨by rw [hres.out],HB2.out⟩
 cases q1:(t.toList==[43])
 case true=>
  have hc:isCalc t=true:=by unfold isCalc;simp [q1]
  have hres:Hid (pairM t ⟨xk,xb,xn,xt⟩ ⟨yk,yb,yn,yt⟩=calcM t xn yn):=hide (by unfold pairM;rw [h1];rw [h2];rw [h3];rw [h4];rw [hc];rfl)
  go_enter Tryz.func125,Tryz.ntmps125
  go_wp2_with fail
  refine HF.out.mono ?_
  rintro e w0 ⟨rfl,hB0⟩
  obtain⟨c0,c1,c2,c3,d0,d1,d2,d3⟩:=boxw ((hB0.block _ HZx.out).trans HX0.out)
  obtain⟨e0,e1,e2,e3,k0,k1,k2,k3⟩:=boxw ((hB0.block _ HZy.out).trans HY0.out)
  have HX:=hide ((hB0.block _ HZ.out).trans HX.out)
  have HX0:=hide ((hB0.block _ HZx.out).trans HX0.out)
  have HY0:=hide ((hB0.block _ HZy.out).trans HY0.out)
  have HZ:=hide (Nat.lt_of_lt_of_le HZ.out hB0.size)
  have HZx:=hide (Nat.lt_of_lt_of_le HZx.out hB0.size)
  have HZy:=hide (Nat.lt_of_lt_of_le HZy.out hB0.size)
  have HB0:=hide (HB0.out.trans (hB0.mono HZ1.out))
  have HZ1:=hide HB0.out.size
  clear hB0
  go_wp2_with fail
  refine(failed_any ⟨yk,yb,yn,yt⟩ _).mono ?_
  rintro e w2 ⟨rfl,hB0⟩
  obtain⟨c0,c1,c2,c3,d0,d1,d2,d3⟩:=boxw ((hB0.block _ HZx.out).trans HX0.out)
  obtain⟨e0,e1,e2,e3,k0,k1,k2,k3⟩:=boxw ((hB0.block _ HZy.out).trans HY0.out)
  have HX:=hide ((hB0.block _ HZ.out).trans HX.out)
  have HX0:=hide ((hB0.block _ HZx.out).trans HX0.out)
  have HY0:=hide ((hB0.block _ HZy.out).trans HY0.out)
  have HZ:=hide (Nat.lt_of_lt_of_le HZ.out hB0.size)
  have HZx:=hide (Nat.lt_of_lt_of_le HZx.out hB0.size)
  have HZy:=hide (Nat.lt_of_lt_of_le HZy.out hB0.size)
  have HB0:=hide (HB0.out.trans (hB0.mono HZ1.out))
  have HZ1:=hide HB0.out.size
  clear hB0
  have HC:=hide (calculated_any t xn yn w2)
  generalize hX:calcM t xn yn=X at*
  have HXX:=hide hX
  clear hX
  go_wp2_with fail
  refine HC.out.mono ?_
  rintro e w1 ⟨rfl,hB1⟩
  have hbx:=(hB1.block _ HZ.out).trans HX.out
  obtain⟨y0,y1,y2,y3,g0,g1,g2,g3⟩:=boxw hbx
  obtain⟨z0,z1,z2,z3⟩:=stored4 hbx (.int .i64 X.kind) (.bool X.truth) (.int .i64 X.num) (.string X.text)
  have HB2:=hide (below4 (HB0.out.trans (hB1.mono HZ1.out)) HG.out (.int .i64 X.kind) (.bool X.truth) (.int .i64 X.num) (.string X.text))
  clear hbx hB1
  go_wp2_with fail
  refine bodyPost_ret (v:= .agg #[.int .i64 X.kind,.bool X.truth,.int .i64 X.num,.string X.text]) (by simp [results,Tryz.results125,go_sem,z0,z1,z2,z3]) rfl ?_
  exact⟨by rw [hres.out],HB2.out⟩
 cases q2:(t.toList==[45])
 case true=>
  have hc:isCalc t=true:=by unfold isCalc;simp [q2]
  have hres:Hid (pairM t ⟨xk,xb,xn,xt⟩ ⟨yk,yb,yn,yt⟩=calcM t xn yn):=hide (by unfold pairM;rw [h1];rw [h2];rw [h3];rw [h4];rw [hc];rfl)
  go_enter Tryz.func125,Tryz.ntmps125
  go_wp2_with fail
  refine HF.out.mono ?_
  rintro e w0 ⟨rfl,hB0⟩
  obtain⟨c0,c1,c2,c3,d0,d1,d2,d3⟩:=boxw ((hB0.block _ HZx.out).trans HX0.out)
  obtain⟨e0,e1,e2,e3,k0,k1,k2,k3⟩:=boxw ((hB0.block _ HZy.out).trans HY0.out)
  have HX:=hide ((hB0.block _ HZ.out).trans HX.out)
  have HX0:=hide ((hB0.block _ HZx.out).trans HX0.out)
  have HY0:=hide ((hB0.block _ HZy.out).trans HY0.out)
  have HZ:=hide (Nat.lt_of_lt_of_le HZ.out hB0.size)
  have HZx:=hide (Nat.lt_of_lt_of_le HZx.out hB0.size)
  have HZy:=hide (Nat.lt_of_lt_of_le HZy.out hB0.size)
  have HB0:=hide (HB0.out.trans (hB0.mono HZ1.out))
  have HZ1:=hide HB0.out.size
  clear hB0
  go_wp2_with fail
  refine(failed_any ⟨yk,yb,yn,yt⟩ _).mono ?_
  rintro e w2 ⟨rfl,hB0⟩
  obtain⟨c0,c1,c2,c3,d0,d1,d2,d3⟩:=boxw ((hB0.block _ HZx.out).trans HX0.out)
  obtain⟨e0,e1,e2,e3,k0,k1,k2,k3⟩:=boxw ((hB0.block _ HZy.out).trans HY0.out)
  have HX:=hide ((hB0.block _ HZ.out).trans HX.out)
  have HX0:=hide ((hB0.block _ HZx.out).trans HX0.out)
  have HY0:=hide ((hB0.block _ HZy.out).trans HY0.out)
  have HZ:=hide (Nat.lt_of_lt_of_le HZ.out hB0.size)
  have HZx:=hide (Nat.lt_of_lt_of_le HZx.out hB0.size)
  have HZy:=hide (Nat.lt_of_lt_of_le HZy.out hB0.size)
  have HB0:=hide (HB0.out.trans (hB0.mono HZ1.out))
  have HZ1:=hide HB0.out.size
  clear hB0
  have HC:=hide (calculated_any t xn yn w2)
  generalize hX:calcM t xn yn=X at*
  have HXX:=hide hX
  clear hX
  go_wp2_with fail
  refine HC.out.mono ?_
  rintro e w1 ⟨rfl,hB1⟩
  have hbx:=(hB1.block _ HZ.out).trans HX.out
  obtain⟨y0,y1,y2,y3,g0,g1,g2,g3⟩:=boxw hbx
  obtain⟨z0,z1,z2,z3⟩:=stored4 hbx (.int .i64 X.kind) (.bool X.truth) (.int .i64 X.num) (.string X.text)
  have HB2:=hide (below4 (HB0.out.trans (hB1.mono HZ1.out)) HG.out (.int .i64 X.kind) (.bool X.truth) (.int .i64 X.num) (.string X.text))
  clear hbx hB1
  go_wp2_with fail
  refine bodyPost_ret (v:= .agg #[.int .i64 X.kind,.bool X.truth,.int .i64 X.num,.string X.text]) (by simp [results,Tryz.results125,go_sem,z0,z1,z2,z3]) rfl ?_
  exact⟨by rw [hres.out],HB2.out⟩
 cases q3:(t.toList==[42])
 case true=>
  have hc:isCalc t=true:=by unfold isCalc;simp [q3]
  have hres:Hid (pairM t ⟨xk,xb,xn,xt⟩ ⟨yk,yb,yn,yt⟩=calcM t xn yn):=hide (by unfold pairM;rw [h1];rw [h2];rw [h3];rw [h4];rw [hc];rfl)
  go_enter Tryz.func125,Tryz.ntmps125
  go_wp2_with fail
  refine HF.out.mono ?_
  rintro e w0 ⟨rfl,hB0⟩
  obtain⟨c0,c1,c2,c3,d0,d1,d2,d3⟩:=boxw ((hB0.block _ HZx.out).trans HX0.out)
  obtain⟨e0,e1,e2,e3,k0,k1,k2,k3⟩:=boxw ((hB0.block _ HZy.out).trans HY0.out)
  have HX:=hide ((hB0.block _ HZ.out).trans HX.out)
  have HX0:=hide ((hB0.block _ HZx.out).trans HX0.out)
  have HY0:=hide ((hB0.block _ HZy.out).trans HY0.out)
  have HZ:=hide (Nat.lt_of_lt_of_le HZ.out hB0.size)
  have HZx:=hide (Nat.lt_of_lt_of_le HZx.out hB0.size)
  have HZy:=hide (Nat.lt_of_lt_of_le HZy.out hB0.size)
  have HB0:=hide (HB0.out.trans (hB0.mono HZ1.out))
  have HZ1:=hide HB0.out.size
  clear hB0
  go_wp2_with fail
  refine(failed_any ⟨yk,yb,yn,yt⟩ _).mono ?_
  rintro e w2 ⟨rfl,hB0⟩
  obtain⟨c0,c1,c2,c3,d0,d1,d2,d3⟩:=boxw ((hB0.block _ HZx.out).trans HX0.out)
  obtain⟨e0,e1,e2,e3,k0,k1,k2,k3⟩:=boxw ((hB0.block _ HZy.out).trans HY0.out)
  have HX:=hide ((hB0.block _ HZ.out).trans HX.out)
  have HX0:=hide ((hB0.block _ HZx.out).trans HX0.out)
  have HY0:=hide ((hB0.block _ HZy.out).trans HY0.out)
  have HZ:=hide (Nat.lt_of_lt_of_le HZ.out hB0.size)
  have HZx:=hide (Nat.lt_of_lt_of_le HZx.out hB0.size)
  have HZy:=hide (Nat.lt_of_lt_of_le HZy.out hB0.size)
  have HB0:=hide (HB0.out.trans (hB0.mono HZ1.out))
  have HZ1:=hide HB0.out.size
  clear hB0
  have HC:=hide (calculated_any t xn yn w2)
  generalize hX:calcM t xn yn=X at*
  have HXX:=hide hX
  clear hX
  go_wp2_with fail
  refine HC.out.mono ?_
  rintro e w1 ⟨rfl,hB1⟩
  have hbx:=(hB1.block _ HZ.out).trans HX.out
  obtain⟨y0,y1,y2,y3,g0,g1,g2,g3⟩:=boxw hbx
  obtain⟨z0,z1,z2,z3⟩:=stored4 hbx (.int .i64 X.kind) (.bool X.truth) (.int .i64 X.num) (.string X.text)
  have HB2:=hide (below4 (HB0.out.trans (hB1.mono HZ1.out)) HG.out (.int .i64 X.kind) (.bool X.truth) (.int .i64 X.num) (.string X.text))
  clear hbx hB1
  go_wp2_with fail
  refine bodyPost_ret (v:= .agg #[.int .i64 X.kind,.bool X.truth,.int .i64 X.num,.string X.text]) (by simp [results,Tryz.results125,go_sem,z0,z1,z2,z3]) rfl ?_
  exact⟨by rw [hres.out],HB2.out⟩
 cases q4:(t.toList==[47])
 case true=>
  have hc:isCalc t=true:=by unfold isCalc;simp [q4]
  have hres:Hid (pairM t ⟨xk,xb,xn,xt⟩ ⟨yk,yb,yn,yt⟩=calcM t xn yn):=hide (by unfold pairM;rw [h1];rw [h2];rw [h3];rw [h4];rw [hc];rfl)
  go_enter Tryz.func125,Tryz.ntmps125
  go_wp2_with fail
  refine HF.out.mono ?_
  rintro e w0 ⟨rfl,hB0⟩
  obtain⟨c0,c1,c2,c3,d0,d1,d2,d3⟩:=boxw ((hB0.block _ HZx.out).trans HX0.out)
  obtain⟨e0,e1,e2,e3,k0,k1,k2,k3⟩:=boxw ((hB0.block _ HZy.out).trans HY0.out)
  have HX:=hide ((hB0.block _ HZ.out).trans HX.out)
  have HX0:=hide ((hB0.block _ HZx.out).trans HX0.out)
  have HY0:=hide ((hB0.block _ HZy.out).trans HY0.out)
  have HZ:=hide (Nat.lt_of_lt_of_le HZ.out hB0.size)
  have HZx:=hide (Nat.lt_of_lt_of_le HZx.out hB0.size)
  have HZy:=hide (Nat.lt_of_lt_of_le HZy.out hB0.size)
  have HB0:=hide (HB0.out.trans (hB0.mono HZ1.out))
  have HZ1:=hide HB0.out.size
  clear hB0
  go_wp2_with fail
  refine(failed_any ⟨yk,yb,yn,yt⟩ _).mono ?_
  rintro e w2 ⟨rfl,hB0⟩
  obtain⟨c0,c1,c2,c3,d0,d1,d2,d3⟩:=boxw ((hB0.block _ HZx.out).trans HX0.out)
  obtain⟨e0,e1,e2,e3,k0,k1,k2,k3⟩:=boxw ((hB0.block _ HZy.out).trans HY0.out)
  have HX:=hide ((hB0.block _ HZ.out).trans HX.out)
  have HX0:=hide ((hB0.block _ HZx.out).trans HX0.out)
  have HY0:=hide ((hB0.block _ HZy.out).trans HY0.out)
  have HZ:=hide (Nat.lt_of_lt_of_le HZ.out hB0.size)
  have HZx:=hide (Nat.lt_of_lt_of_le HZx.out hB0.size)
  have HZy:=hide (Nat.lt_of_lt_of_le HZy.out hB0.size)
  have HB0:=hide (HB0.out.trans (hB0.mono HZ1.out))
  have HZ1:=hide HB0.out.size
  clear hB0
  have HC:=hide (calculated_any t xn yn w2)
  generalize hX:calcM t xn yn=X at*
  have HXX:=hide hX
  clear hX
  go_wp2_with fail
  refine HC.out.mono ?_
  rintro e w1 ⟨rfl,hB1⟩
  have hbx:=(hB1.block _ HZ.out).trans HX.out
  obtain⟨y0,y1,y2,y3,g0,g1,g2,g3⟩:=boxw hbx
  obtain⟨z0,z1,z2,z3⟩:=stored4 hbx (.int .i64 X.kind) (.bool X.truth) (.int .i64 X.num) (.string X.text)
  have HB2:=hide (below4 (HB0.out.trans (hB1.mono HZ1.out)) HG.out (.int .i64 X.kind) (.bool X.truth) (.int .i64 X.num) (.string X.text))
  clear hbx hB1
  go_wp2_with fail
  refine bodyPost_ret (v:= .agg #[.int .i64 X.kind,.bool X.truth,.int .i64 X.num,.string X.text]) (by simp [results,Tryz.results125,go_sem,z0,z1,z2,z3]) rfl ?_
  exact⟨by rw [hres.out],HB2.out⟩
 cases q5:(t.toList==[37])
 case true=>
  have hc:isCalc t=true:=by unfold isCalc;simp [q5]
  have hres:Hid (pairM t ⟨xk,xb,xn,xt⟩ ⟨yk,yb,yn,yt⟩=calcM t xn yn):=hide (by unfold pairM;rw [h1];rw [h2];rw [h3];rw [h4];rw [hc];rfl)
  go_enter Tryz.func125,Tryz.ntmps125
  go_wp2_with fail
  refine HF.out.mono ?_
  rintro e w0 ⟨rfl,hB0⟩
  obtain⟨c0,c1,c2,c3,d0,d1,d2,d3⟩:=boxw ((hB0.block _ HZx.out).trans HX0.out)
  obtain⟨e0,e1,e2,e3,k0,k1,k2,k3⟩:=boxw ((hB0.block _ HZy.out).trans HY0.out)
  have HX:=hide ((hB0.block _ HZ.out).trans HX.out)
  have HX0:=hide ((hB0.block _ HZx.out).trans HX0.out)
  have HY0:=hide ((hB0.block _ HZy.out).trans HY0.out)
  have HZ:=hide (Nat.lt_of_lt_of_le HZ.out hB0.size)
  have HZx:=hide (Nat.lt_of_lt_of_le HZx.out hB0.size)
  have HZy:=hide (Nat.lt_of_lt_of_le HZy.out hB0.size)
  have HB0:=hide (HB0.out.trans (hB0.mono HZ1.out))
  have HZ1:=hide HB0.out.size
  clear hB0
  go_wp2_with fail
  refine(failed_any ⟨yk,yb,yn,yt⟩ _).mono ?_
  rintro e w2 ⟨rfl,hB0⟩
  obtain⟨c0,c1,c2,c3,d0,d1,d2,d3⟩:=boxw ((hB0.block _ HZx.out).trans HX0.out)
  obtain⟨e0,e1,e2,e3,k0,k1,k2,k3⟩:=boxw ((hB0.block _ HZy.out).trans HY0.out)
  have HX:=hide ((hB0.block _ HZ.out).trans HX.out)
  have HX0:=hide ((hB0.block _ HZx.out).trans HX0.out)
  have HY0:=hide ((hB0.block _ HZy.out).trans HY0.out)
  have HZ:=hide (Nat.lt_of_lt_of_le HZ.out hB0.size)
  have HZx:=hide (Nat.lt_of_lt_of_le HZx.out hB0.size)
  have HZy:=hide (Nat.lt_of_lt_of_le HZy.out hB0.size)
  have HB0:=hide (HB0.out.trans (hB0.mono HZ1.out))
  have HZ1:=hide HB0.out.size
  clear hB0
  have HC:=hide (calculated_any t xn yn w2)
  generalize hX:calcM t xn yn=X at*
  have HXX:=hide hX
  clear hX
  go_wp2_with fail
  refine HC.out.mono ?_
  rintro e w1 ⟨rfl,hB1⟩
  have hbx:=(hB1.block _ HZ.out).trans HX.out
  obtain⟨y0,y1,y2,y3,g0,g1,g2,g3⟩:=boxw hbx
  obtain⟨z0,z1,z2,z3⟩:=stored4 hbx (.int .i64 X.kind) (.bool X.truth) (.int .i64 X.num) (.string X.text)
  have HB2:=hide (below4 (HB0.out.trans (hB1.mono HZ1.out)) HG.out (.int .i64 X.kind) (.bool X.truth) (.int .i64 X.num) (.string X.text))
  clear hbx hB1
  go_wp2_with fail
  refine bodyPost_ret (v:= .agg #[.int .i64 X.kind,.bool X.truth,.int .i64 X.num,.string X.text]) (by simp [results,Tryz.results125,go_sem,z0,z1,z2,z3]) rfl ?_
  exact⟨by rw [hres.out],HB2.out⟩
 have hc:isCalc t=false:=by unfold isCalc;rw [q1,q2,q3,q4,q5];rfl
 cases h5:(t.toList==[46])
 case true=>
  have hres:Hid (pairM t ⟨xk,xb,xn,xt⟩ ⟨yk,yb,yn,yt⟩=wStr (xt++yt)):=hide (by unfold pairM;rw [h1];rw [h2];rw [h3];rw [h4];rw [hc];rw [h5];rfl)
  go_enter Tryz.func125,Tryz.ntmps125
  go_wp2_with fail
  refine HF.out.mono ?_
  rintro e w0 ⟨rfl,hB0⟩
  obtain⟨c0,c1,c2,c3,d0,d1,d2,d3⟩:=boxw ((hB0.block _ HZx.out).trans HX0.out)
  obtain⟨e0,e1,e2,e3,k0,k1,k2,k3⟩:=boxw ((hB0.block _ HZy.out).trans HY0.out)
  have HX:=hide ((hB0.block _ HZ.out).trans HX.out)
  have HX0:=hide ((hB0.block _ HZx.out).trans HX0.out)
  have HY0:=hide ((hB0.block _ HZy.out).trans HY0.out)
  have HZ:=hide (Nat.lt_of_lt_of_le HZ.out hB0.size)
  have HZx:=hide (Nat.lt_of_lt_of_le HZx.out hB0.size)
  have HZy:=hide (Nat.lt_of_lt_of_le HZy.out hB0.size)
  have HB0:=hide (HB0.out.trans (hB0.mono HZ1.out))
  have HZ1:=hide HB0.out.size
  clear hB0
  go_wp2_with fail
  refine(failed_any ⟨yk,yb,yn,yt⟩ _).mono ?_
  rintro e w2 ⟨rfl,hB0⟩
  obtain⟨c0,c1,c2,c3,d0,d1,d2,d3⟩:=boxw ((hB0.block _ HZx.out).trans HX0.out)
  obtain⟨e0,e1,e2,e3,k0,k1,k2,k3⟩:=boxw ((hB0.block _ HZy.out).trans HY0.out)
  have HX:=hide ((hB0.block _ HZ.out).trans HX.out)
  have HX0:=hide ((hB0.block _ HZx.out).trans HX0.out)
  have HY0:=hide ((hB0.block _ HZy.out).trans HY0.out)
  have HZ:=hide (Nat.lt_of_lt_of_le HZ.out hB0.size)
  have HZx:=hide (Nat.lt_of_lt_of_le HZx.out hB0.size)
  have HZy:=hide (Nat.lt_of_lt_of_le HZy.out hB0.size)
  have HB0:=hide (HB0.out.trans (hB0.mono HZ1.out))
  have HZ1:=hide HB0.out.size
  clear hB0
  have HC:=hide (stringWorth_any (xt++yt) w2)
  generalize hX:wStr (xt++yt)=X at*
  have HXX:=hide hX
  clear hX
  go_wp2_with fail
  refine HC.out.mono ?_
  rintro e w1 ⟨rfl,hB1⟩
  have hbx:=(hB1.block _ HZ.out).trans HX.out
  obtain⟨y0,y1,y2,y3,g0,g1,g2,g3⟩:=boxw hbx
  obtain⟨z0,z1,z2,z3⟩:=stored4 hbx (.int .i64 X.kind) (.bool X.truth) (.int .i64 X.num) (.string X.text)
  have HB2:=hide (below4 (HB0.out.trans (hB1.mono HZ1.out)) HG.out (.int .i64 X.kind) (.bool X.truth) (.int .i64 X.num) (.string X.text))
  clear hbx hB1
  go_wp2_with fail
  refine bodyPost_ret (v:= .agg #[.int .i64 X.kind,.bool X.truth,.int .i64 X.num,.string X.text]) (by simp [results,Tryz.results125,go_sem,z0,z1,z2,z3]) rfl ?_
  exact⟨by rw [hres.out],HB2.out⟩
 have hres:Hid (pairM t ⟨xk,xb,xn,xt⟩ ⟨yk,yb,yn,yt⟩=wBool (cmpB t ⟨xk,xb,xn,xt⟩ ⟨yk,yb,yn,yt⟩)):=hide (by unfold pairM;rw [h1];rw [h2];rw [h3];rw [h4];rw [hc];rw [h5];rfl)
 go_enter Tryz.func125,Tryz.ntmps125
 go_wp2_with fail
 refine HF.out.mono ?_
 rintro e w0 ⟨rfl,hB0⟩
 obtain⟨c0,c1,c2,c3,d0,d1,d2,d3⟩:=boxw ((hB0.block _ HZx.out).trans HX0.out)
 obtain⟨e0,e1,e2,e3,k0,k1,k2,k3⟩:=boxw ((hB0.block _ HZy.out).trans HY0.out)
 have HX:=hide ((hB0.block _ HZ.out).trans HX.out)
 have HX0:=hide ((hB0.block _ HZx.out).trans HX0.out)
 have HY0:=hide ((hB0.block _ HZy.out).trans HY0.out)
 have HZ:=hide (Nat.lt_of_lt_of_le HZ.out hB0.size)
 have HZx:=hide (Nat.lt_of_lt_of_le HZx.out hB0.size)
 have HZy:=hide (Nat.lt_of_lt_of_le HZy.out hB0.size)
 have HB0:=hide (HB0.out.trans (hB0.mono HZ1.out))
 have HZ1:=hide HB0.out.size
 clear hB0
 go_wp2_with fail
 refine(failed_any ⟨yk,yb,yn,yt⟩ _).mono ?_
 rintro e w2 ⟨rfl,hB0⟩
 obtain⟨c0,c1,c2,c3,d0,d1,d2,d3⟩:=boxw ((hB0.block _ HZx.out).trans HX0.out)
 obtain⟨e0,e1,e2,e3,k0,k1,k2,k3⟩:=boxw ((hB0.block _ HZy.out).trans HY0.out)
 have HX:=hide ((hB0.block _ HZ.out).trans HX.out)
 have HX0:=hide ((hB0.block _ HZx.out).trans HX0.out)
 have HY0:=hide ((hB0.block _ HZy.out).trans HY0.out)
 have HZ:=hide (Nat.lt_of_lt_of_le HZ.out hB0.size)
 have HZx:=hide (Nat.lt_of_lt_of_le HZx.out hB0.size)
 have HZy:=hide (Nat.lt_of_lt_of_le HZy.out hB0.size)
 have HB0:=hide (HB0.out.trans (hB0.mono HZ1.out))
 have HZ1:=hide HB0.out.size
 clear hB0
 have HC:=hide (compared_any t ⟨xk,xb,xn,xt⟩ ⟨yk,yb,yn,yt⟩ w2)
 generalize hX:wBool (cmpB t ⟨xk,xb,xn,xt⟩ ⟨yk,yb,yn,yt⟩)=X at*
 have HXX:=hide hX
 clear hX
 go_wp2_with fail
 refine HC.out.mono ?_
 rintro e w1 ⟨rfl,hB1⟩
 have hbx:=(hB1.block _ HZ.out).trans HX.out
 obtain⟨y0,y1,y2,y3,g0,g1,g2,g3⟩:=boxw hbx
 obtain⟨z0,z1,z2,z3⟩:=stored4 hbx (.int .i64 X.kind) (.bool X.truth) (.int .i64 X.num) (.string X.text)
 have HB2:=hide (below4 (HB0.out.trans (hB1.mono HZ1.out)) HG.out (.int .i64 X.kind) (.bool X.truth) (.int .i64 X.num) (.string X.text))
 clear hbx hB1
 go_wp2_with fail
 refine bodyPost_ret (v:= .agg #[.int .i64 X.kind,.bool X.truth,.int .i64 X.num,.string X.text]) (by simp [results,Tryz.results125,go_sem,z0,z1,z2,z3]) rfl ?_
 exact⟨by rw [hres.out],HB2.out⟩
theorem pairWorth_any (t:ByteArray)(x y:Wt)(w:World)(hx:x.text.size≤400000000)(hy:y.text.size≤400000000):Calls Tryz.prog 125 #[.string t,.agg #[.int .i64 x.kind,.bool x.truth,.int .i64 x.num,.string x.text],.agg #[.int .i64 y.kind,.bool y.truth,.int .i64 y.num,.string y.text]] w fun e w'=>WPost (pairM t x y) w e w':=
 pairWorth_c t x.kind x.truth x.num x.text y.kind y.truth y.num y.text w hx hy
def wOf (l:List (ByteArray×ByteArray))(x:Ex)(a b:Wt):Wt:=
 if x.form==0 then nsM x.text else if x.form==1 then wStr x.text else if x.form==2 then wBool (x.text.toList==[116,114,117,101])
 else if x.form==3 then wStr (valM x.text l) else if x.form==4 then nsM (valM x.text l) else if x.form==5 then prefM x.text a
 else if x.form==6 then pairM x.text a b else if x.form==7 then a else wErr
theorem worthOf_any (base:Nat)(l:List (ByteArray×ByteArray))(v:Value)(x:Ex)(a b:Wt)(w:World)(hl:w.ownsRow base 123 2 v l.length ((l.map prCells).flatten))(hlen:l.length≤100000)(hls: ∀p∈l,p.2.size≤600)(hx:x.text.size≤600)(ha:a.text.size≤400000000)(hb:b.text.size≤400000000):
  Calls Tryz.prog 82 #[.agg #[.int .i64 x.form,.int .i64 x.place,.string x.text,.int .i64 x.left,.int .i64 x.right],.agg #[.int .i64 a.kind,.bool a.truth,.int .i64 a.num,.string a.text],.agg #[.int .i64 b.kind,.bool b.truth,.int .i64 b.num,.string b.text],v] w fun e w'=>WPost (wOf l x a b) w e w':=by
 obtain⟨al,cl,rfl⟩:=ownsRow_slice hl
 have HL:=hide (((((hl.alloc (.cells #[.int .i64 x.form,.int .i64 x.place,.string x.text,.int .i64 x.left,.int .i64 x.right] 120)).alloc (.cells #[.int .i64 a.kind,.bool a.truth,.int .i64 a.num,.string a.text] 75)).alloc (.cells #[.int .i64 b.kind,.bool b.truth,.int .i64 b.num,.string b.text] 75)).alloc (.cells #[.int .i64 0,.bool false,.int .i64 0,.string ⟨#[]⟩] 75)))
 have hvs:=hide (valM_size x.text 600 l hls)
 clear hl
 have HB0:Hid (Below w.heap.size w ((((w.alloc (.cells #[.int .i64 x.form,.int .i64 x.place,.string x.text,.int .i64 x.left,.int .i64 x.right] 120)).alloc (.cells #[.int .i64 a.kind,.bool a.truth,.int .i64 a.num,.string a.text] 75)).alloc (.cells #[.int .i64 b.kind,.bool b.truth,.int .i64 b.num,.string b.text] 75)).alloc (.cells #[.int .i64 0,.bool false,.int .i64 0,.string ⟨#[]⟩] 75))):=hide (((((Below.refl w.heap.size w).alloc (Nat.le_refl _) _).alloc (by simp<;>omega) _).alloc (by simp<;>omega) _).alloc (by simp<;>omega) _)
 have HX:Hid (((((w.alloc (.cells #[.int .i64 x.form,.int .i64 x.place,.string x.text,.int .i64 x.left,.int .i64 x.right] 120)).alloc (.cells #[.int .i64 a.kind,.bool a.truth,.int .i64 a.num,.string a.text] 75)).alloc (.cells #[.int .i64 b.kind,.bool b.truth,.int .i64 b.num,.string b.text] 75)).alloc (.cells #[.int .i64 0,.bool false,.int .i64 0,.string ⟨#[]⟩] 75)).heap[w.heap.size+1+1+1]?=some (.cells #[.int .i64 0,.bool false,.int .i64 0,.string ⟨#[]⟩] 75)):=hide (by have q:=heap_alloc_new (((w.alloc (.cells #[.int .i64 x.form,.int .i64 x.place,.string x.text,.int .i64 x.left,.int .i64 x.right] 120)).alloc (.cells #[.int .i64 a.kind,.bool a.truth,.int .i64 a.num,.string a.text] 75)).alloc (.cells #[.int .i64 b.kind,.bool b.truth,.int .i64 b.num,.string b.text] 75)) (.cells #[.int .i64 0,.bool false,.int .i64 0,.string ⟨#[]⟩] 75);rw [show(((w.alloc (.cells #[.int .i64 x.form,.int .i64 x.place,.string x.text,.int .i64 x.left,.int .i64 x.right] 120)).alloc (.cells #[.int .i64 a.kind,.bool a.truth,.int .i64 a.num,.string a.text] 75)).alloc (.cells #[.int .i64 b.kind,.bool b.truth,.int .i64 b.num,.string b.text] 75)).heap.size=w.heap.size+1+1+1 by simp] at q;exact q)
 have HAb:Hid (((((w.alloc (.cells #[.int .i64 x.form,.int .i64 x.place,.string x.text,.int .i64 x.left,.int .i64 x.right] 120)).alloc (.cells #[.int .i64 a.kind,.bool a.truth,.int .i64 a.num,.string a.text] 75)).alloc (.cells #[.int .i64 b.kind,.bool b.truth,.int .i64 b.num,.string b.text] 75)).alloc (.cells #[.int .i64 0,.bool false,.int .i64 0,.string ⟨#[]⟩] 75)).heap[w.heap.size+1]?=some (.cells #[.int .i64 a.kind,.bool a.truth,.int .i64 a.num,.string a.text] 75)):=hide ((Below.heap_alloc _ _ _ (by simp<;>omega)).trans ((Below.heap_alloc _ _ _ (by simp<;>omega)).trans (by have q:=heap_alloc_new (w.alloc (.cells #[.int .i64 x.form,.int .i64 x.place,.string x.text,.int .i64 x.left,.int .i64 x.right] 120)) (.cells #[.int .i64 a.kind,.bool a.truth,.int .i64 a.num,.string a.text] 75);rw [show(w.alloc (.cells #[.int .i64 x.form,.int .i64 x.place,.string x.text,.int .i64 x.left,.int .i64 x.right] 120)).heap.size=w.heap.size+1 by simp] at q;exact q)))
 have HZ:Hid (w.heap.size+1+1+1<((((w.alloc (.cells #[.int .i64 x.form,.int .i64 x.place,.string x.text,.int .i64 x.left,.int .i64 x.right] 120)).alloc (.cells #[.int .i64 a.kind,.bool a.truth,.int .i64 a.num,.string a.text] 75)).alloc (.cells #[.int .i64 b.kind,.bool b.truth,.int .i64 b.num,.string b.text] 75)).alloc (.cells #[.int .i64 0,.bool false,.int .i64 0,.string ⟨#[]⟩] 75)).heap.size):=hide (by simp<;>omega)
 have HZ1:Hid (w.heap.size≤((((w.alloc (.cells #[.int .i64 x.form,.int .i64 x.place,.string x.text,.int .i64 x.left,.int .i64 x.right] 120)).alloc (.cells #[.int .i64 a.kind,.bool a.truth,.int .i64 a.num,.string a.text] 75)).alloc (.cells #[.int .i64 b.kind,.bool b.truth,.int .i64 b.num,.string b.text] 75)).alloc (.cells #[.int .i64 0,.bool false,.int .i64 0,.string ⟨#[]⟩] 75)).heap.size):=hide (by simp<;>omega)
 have HG:Hid (w.heap.size≤w.heap.size+1+1+1):=hide (by omega)
 cases f0:(x.form==0)
 case true=>
  have hres:Hid (wOf l x a b=nsM x.text):=hide (by unfold wOf;rw [f0];rfl)
  have HC:=hide (numberSaid_any x.text ((((w.alloc (.cells #[.int .i64 x.form,.int .i64 x.place,.string x.text,.int .i64 x.left,.int .i64 x.right] 120)).alloc (.cells #[.int .i64 a.kind,.bool a.truth,.int .i64 a.num,.string a.text] 75)).alloc (.cells #[.int .i64 b.kind,.bool b.truth,.int .i64 b.num,.string b.text] 75)).alloc (.cells #[.int .i64 0,.bool false,.int .i64 0,.string ⟨#[]⟩] 75)) hx)
  generalize hX:nsM x.text=X at*
  clear hX
  go_enter Tryz.func82,Tryz.ntmps82
  go_wp2_with fail
  refine HC.out.mono ?_
  rintro e w1 ⟨rfl,hB1⟩
  have hbx:=(hB1.block _ HZ.out).trans HX.out
  obtain⟨y0,y1,y2,y3,g0,g1,g2,g3⟩:=boxw hbx
  obtain⟨z0,z1,z2,z3⟩:=stored4 hbx (.int .i64 X.kind) (.bool X.truth) (.int .i64 X.num) (.string X.text)
  have HB2:=hide (below4 (HB0.out.trans (hB1.mono HZ1.out)) HG.out (.int .i64 X.kind) (.bool X.truth) (.int .i64 X.num) (.string X.text))
  clear hbx hB1
  go_wp2_with fail
  refine bodyPost_ret (v:= .agg #[.int .i64 X.kind,.bool X.truth,.int .i64 X.num,.string X.text]) (by simp [results,Tryz.results82,go_sem,z0,z1,z2,z3]) rfl ?_
  exact⟨by rw [hres.out],HB2.out⟩
 cases f1:(x.form==1)
 case true=>
  have hres:Hid (wOf l x a b=wStr x.text):=hide (by unfold wOf;rw [f0,f1];rfl)
  have HC:=hide (stringWorth_any x.text ((((w.alloc (.cells #[.int .i64 x.form,.int .i64 x.place,.string x.text,.int .i64 x.left,.int .i64 x.right] 120)).alloc (.cells #[.int .i64 a.kind,.bool a.truth,.int .i64 a.num,.string a.text] 75)).alloc (.cells #[.int .i64 b.kind,.bool b.truth,.int .i64 b.num,.string b.text] 75)).alloc (.cells #[.int .i64 0,.bool false,.int .i64 0,.string ⟨#[]⟩] 75)))
  generalize hX:wStr x.text=X at*
  clear hX
  go_enter Tryz.func82,Tryz.ntmps82
  go_wp2_with fail
  refine HC.out.mono ?_
  rintro e w1 ⟨rfl,hB1⟩
  have hbx:=(hB1.block _ HZ.out).trans HX.out
  obtain⟨y0,y1,y2,y3,g0,g1,g2,g3⟩:=boxw hbx
  obtain⟨z0,z1,z2,z3⟩:=stored4 hbx (.int .i64 X.kind) (.bool X.truth) (.int .i64 X.num) (.string X.text)
  have HB2:=hide (below4 (HB0.out.trans (hB1.mono HZ1.out)) HG.out (.int .i64 X.kind) (.bool X.truth) (.int .i64 X.num) (.string X.text))
  clear hbx hB1
  go_wp2_with fail
  refine bodyPost_ret (v:= .agg #[.int .i64 X.kind,.bool X.truth,.int .i64 X.num,.string X.text]) (by simp [results,Tryz.results82,go_sem,z0,z1,z2,z3]) rfl ?_
  exact⟨by rw [hres.out],HB2.out⟩
 cases f2:(x.form==2)
 case true=>
  have hres:Hid (wOf l x a b=wBool (x.text.toList==[116,114,117,101])):=hide (by unfold wOf;rw [f0,f1,f2];rfl)
  have HC:=hide (boolWorth_any (x.text.toList==[116,114,117,101]) ((((w.alloc (.cells #[.int .i64 x.form,.int .i64 x.place,.string x.text,.int .i64 x.left,.int .i64 x.right] 120)).alloc (.cells #[.int .i64 a.kind,.bool a.truth,.int .i64 a.num,.string a.text] 75)).alloc (.cells #[.int .i64 b.kind,.bool b.truth,.int .i64 b.num,.string b.text] 75)).alloc (.cells #[.int .i64 0,.bool false,.int .i64 0,.string ⟨#[]⟩] 75)))
  generalize hX:wBool (x.text.toList==[116,114,117,101])=X at*
  clear hX
  go_enter Tryz.func82,Tryz.ntmps82
  go_wp2_with fail
  refine HC.out.mono ?_
  rintro e w1 ⟨rfl,hB1⟩
  have hbx:=(hB1.block _ HZ.out).trans HX.out
  obtain⟨y0,y1,y2,y3,g0,g1,g2,g3⟩:=boxw hbx
  obtain⟨z0,z1,z2,z3⟩:=stored4 hbx (.int .i64 X.kind) (.bool X.truth) (.int .i64 X.num) (.string X.text)
  have HB2:=hide (below4 (HB0.out.trans (hB1.mono HZ1.out)) HG.out (.int .i64 X.kind) (.bool X.truth) (.int .i64 X.num) (.string X.text))
  clear hbx hB1
  go_wp2_with fail
  refine bodyPost_ret (v:= .agg #[.int .i64 X.kind,.bool X.truth,.int .i64 X.num,.string X.text]) (by simp [results,Tryz.results82,go_sem,z0,z1,z2,z3]) rfl ?_
  exact⟨by rw [hres.out],HB2.out⟩
 cases f3:(x.form==3)
 case true=>
  have hres:Hid (wOf l x a b=wStr (valM x.text l)):=hide (by unfold wOf;rw [f0,f1,f2,f3];rfl)
  have HV:=hide (valueOf_any base l _ x.text ((((w.alloc (.cells #[.int .i64 x.form,.int .i64 x.place,.string x.text,.int .i64 x.left,.int .i64 x.right] 120)).alloc (.cells #[.int .i64 a.kind,.bool a.truth,.int .i64 a.num,.string a.text] 75)).alloc (.cells #[.int .i64 b.kind,.bool b.truth,.int .i64 b.num,.string b.text] 75)).alloc (.cells #[.int .i64 0,.bool false,.int .i64 0,.string ⟨#[]⟩] 75)) HL.out hlen)
  have HC:=hide (stringWorth_any (valM x.text l) ((((w.alloc (.cells #[.int .i64 x.form,.int .i64 x.place,.string x.text,.int .i64 x.left,.int .i64 x.right] 120)).alloc (.cells #[.int .i64 a.kind,.bool a.truth,.int .i64 a.num,.string a.text] 75)).alloc (.cells #[.int .i64 b.kind,.bool b.truth,.int .i64 b.num,.string b.text] 75)).alloc (.cells #[.int .i64 0,.bool false,.int .i64 0,.string ⟨#[]⟩] 75)))
  generalize hX:wStr (valM x.text l)=X at*
  clear hX
  generalize valM x.text l=vv at*
  go_enter Tryz.func82,Tryz.ntmps82
  go_wp2_with fail
  refine HV.out.mono ?_
  rintro e w9 ⟨rfl,rfl⟩
  go_wp2_with fail
  refine HC.out.mono ?_
  rintro e w1 ⟨rfl,hB1⟩
  have hbx:=(hB1.block _ HZ.out).trans HX.out
  obtain⟨y0,y1,y2,y3,g0,g1,g2,g3⟩:=boxw hbx
  obtain⟨z0,z1,z2,z3⟩:=stored4 hbx (.int .i64 X.kind) (.bool X.truth) (.int .i64 X.num) (.string X.text)
  have HB2:=hide (below4 (HB0.out.trans (hB1.mono HZ1.out)) HG.out (.int .i64 X.kind) (.bool X.truth) (.int .i64 X.num) (.string X.text))
  clear hbx hB1
  go_wp2_with fail
  refine bodyPost_ret (v:= .agg #[.int .i64 X.kind,.bool X.truth,.int .i64 X.num,.string X.text]) (by simp [results,Tryz.results82,go_sem,z0,z1,z2,z3]) rfl ?_
  exact⟨by rw [hres.out],HB2.out⟩
 cases f4:(x.form==4)
 case true=>
  have hres:Hid (wOf l x a b=nsM (valM x.text l)):=hide (by unfold wOf;rw [f0,f1,f2,f3,f4];rfl)
  have HV:=hide (valueOf_any base l _ x.text ((((w.alloc (.cells #[.int .i64 x.form,.int .i64 x.place,.string x.text,.int .i64 x.left,.int .i64 x.right] 120)).alloc (.cells #[.int .i64 a.kind,.bool a.truth,.int .i64 a.num,.string a.text] 75)).alloc (.cells #[.int .i64 b.kind,.bool b.truth,.int .i64 b.num,.string b.text] 75)).alloc (.cells #[.int .i64 0,.bool false,.int .i64 0,.string ⟨#[]⟩] 75)) HL.out hlen)
  have HC:=hide (numberSaid_any (valM x.text l) ((((w.alloc (.cells #[.int .i64 x.form,.int .i64 x.place,.string x.text,.int .i64 x.left,.int .i64 x.right] 120)).alloc (.cells #[.int .i64 a.kind,.bool a.truth,.int .i64 a.num,.string a.text] 75)).alloc (.cells #[.int .i64 b.kind,.bool b.truth,.int .i64 b.num,.string b.text] 75)).alloc (.cells #[.int .i64 0,.bool false,.int .i64 0,.string ⟨#[]⟩] 75)) hvs.out)
  generalize hX:nsM (valM x.text l)=X at*
  clear hX
  generalize valM x.text l=vv at*
  go_enter Tryz.func82,Tryz.ntmps82
  go_wp2_with fail
  refine HV.out.mono ?_
  rintro e w9 ⟨rfl,rfl⟩
  go_wp2_with fail
  refine HC.out.mono ?_
  rintro e w1 ⟨rfl,hB1⟩
  have hbx:=(hB1.block _ HZ.out).trans HX.out
  obtain⟨y0,y1,y2,y3,g0,g1,g2,g3⟩:=boxw hbx
  obtain⟨z0,z1,z2,z3⟩:=stored4 hbx (.int .i64 X.kind) (.bool X.truth) (.int .i64 X.num) (.string X.text)
  have HB2:=hide (below4 (HB0.out.trans (hB1.mono HZ1.out)) HG.out (.int .i64 X.kind) (.bool X.truth) (.int .i64 X.num) (.string X.text))
  clear hbx hB1
  go_wp2_with fail
  refine bodyPost_ret (v:= .agg #[.int .i64 X.kind,.bool X.truth,.int .i64 X.num,.string X.text]) (by simp [results,Tryz.results82,go_sem,z0,z1,z2,z3]) rfl ?_
  exact⟨by rw [hres.out],HB2.out⟩
 cases f5:(x.form==5)
 case true=>
  have hres:Hid (wOf l x a b=prefM x.text a):=hide (by unfold wOf;rw [f0,f1,f2,f3,f4,f5];rfl)
  have HC:=hide (prefixWorth_any x.text a ((((w.alloc (.cells #[.int .i64 x.form,.int .i64 x.place,.string x.text,.int .i64 x.left,.int .i64 x.right] 120)).alloc (.cells #[.int .i64 a.kind,.bool a.truth,.int .i64 a.num,.string a.text] 75)).alloc (.cells #[.int .i64 b.kind,.bool b.truth,.int .i64 b.num,.string b.text] 75)).alloc (.cells #[.int .i64 0,.bool false,.int .i64 0,.string ⟨#[]⟩] 75)))
  generalize hX:prefM x.text a=X at*
  clear hX
  go_enter Tryz.func82,Tryz.ntmps82
  go_wp2_with fail
  refine HC.out.mono ?_
  rintro e w1 ⟨rfl,hB1⟩
  have hbx:=(hB1.block _ HZ.out).trans HX.out
  obtain⟨y0,y1,y2,y3,g0,g1,g2,g3⟩:=boxw hbx
  obtain⟨z0,z1,z2,z3⟩:=stored4 hbx (.int .i64 X.kind) (.bool X.truth) (.int .i64 X.num) (.string X.text)
  have HB2:=hide (below4 (HB0.out.trans (hB1.mono HZ1.out)) HG.out (.int .i64 X.kind) (.bool X.truth) (.int .i64 X.num) (.string X.text))
  clear hbx hB1
  go_wp2_with fail
  refine bodyPost_ret (v:= .agg #[.int .i64 X.kind,.bool X.truth,.int .i64 X.num,.string X.text]) (by simp [results,Tryz.results82,go_sem,z0,z1,z2,z3]) rfl ?_
  exact⟨by rw [hres.out],HB2.out⟩
 cases f6:(x.form==6)
 case true=>
  have hres:Hid (wOf l x a b=pairM x.text a b):=hide (by unfold wOf;rw [f0,f1,f2,f3,f4,f5,f6];rfl)
  have HC:=hide (pairWorth_any x.text a b ((((w.alloc (.cells #[.int .i64 x.form,.int .i64 x.place,.string x.text,.int .i64 x.left,.int .i64 x.right] 120)).alloc (.cells #[.int .i64 a.kind,.bool a.truth,.int .i64 a.num,.string a.text] 75)).alloc (.cells #[.int .i64 b.kind,.bool b.truth,.int .i64 b.num,.string b.text] 75)).alloc (.cells #[.int .i64 0,.bool false,.int .i64 0,.string ⟨#[]⟩] 75)) ha hb)
  generalize hX:pairM x.text a b=X at*
  clear hX
  go_enter Tryz.func82,Tryz.ntmps82
  go_wp2_with fail
  refine HC.out.mono ?_
  rintro e w1 ⟨rfl,hB1⟩
  have hbx:=(hB1.block _ HZ.out).trans HX.out
  obtain⟨y0,y1,y2,y3,g0,g1,g2,g3⟩:=boxw hbx
  obtain⟨z0,z1,z2,z3⟩:=stored4 hbx (.int .i64 X.kind) (.bool X.truth) (.int .i64 X.num) (.string X.text)
  have HB2:=hide (below4 (HB0.out.trans (hB1.mono HZ1.out)) HG.out (.int .i64 X.kind) (.bool X.truth) (.int .i64 X.num) (.string X.text))
  clear hbx hB1
  go_wp2_with fail
  refine bodyPost_ret (v:= .agg #[.int .i64 X.kind,.bool X.truth,.int .i64 X.num,.string X.text]) (by simp [results,Tryz.results82,go_sem,z0,z1,z2,z3]) rfl ?_
  exact⟨by rw [hres.out],HB2.out⟩
 cases f7:(x.form==7)
 case true=>
  have hres:Hid (wOf l x a b=a):=hide (by unfold wOf;rw [f0,f1,f2,f3,f4,f5,f6,f7];rfl)
  go_enter Tryz.func82,Tryz.ntmps82
  go_wp2_with fail
  refine bodyPost_ret (v:= .agg #[.int .i64 a.kind,.bool a.truth,.int .i64 a.num,.string a.text]) (by simp [results,Tryz.results82,go_sem]) rfl ?_
  refine⟨by rw [hres.out],?_⟩
  have q:=Below.refl w.heap.size w
  exact(((q.alloc (Nat.le_refl _) _).alloc (by simp<;>omega) _).alloc (by simp<;>omega) _).alloc (by simp<;>omega) _
 have hres:Hid (wOf l x a b=wErr):=hide (by unfold wOf;rw [f0,f1,f2,f3,f4,f5,f6,f7];rfl)
 go_enter Tryz.func82,Tryz.ntmps82
 go_wp2_with fail
 refine bodyPost_ret (v:= .agg #[.int .i64 0,.bool false,.int .i64 0,.string ⟨#[]⟩]) (by simp [results,Tryz.results82,go_sem]) rfl ?_
 exact⟨by rw [hres.out];rfl,HB0.out⟩
def worthsM (l:List (ByteArray×ByteArray)):List Ex→List Wt→List Wt
 |[],ws=>ws
 |x::xs,ws=>worthsM l xs (ws++[wOf l x (wAt ws x.left) (wAt ws x.right)])
theorem worthsM_append (l:List (ByteArray×ByteArray)): ∀(xs ys:List Ex) (ws:List Wt),worthsM l (xs++ys) ws=worthsM l ys (worthsM l xs ws):=by
 intro xs
 induction xs with
 |nil=>intro ys ws;rfl
 |cons x xs ih=>intro ys ws;exact ih ys _
theorem worthsM_length (l:List (ByteArray×ByteArray)): ∀(xs:List Ex) (ws:List Wt),(worthsM l xs ws).length=ws.length+xs.length:=by
 intro xs
 induction xs with
 |nil=>intro ws;rfl
 |cons x xs ih=>intro ws;unfold worthsM;rw [ih];simp;omega
theorem worthsM_prefix (l:List (ByteArray×ByteArray)): ∀(xs:List Ex) (ws:List Wt),∃us,worthsM l xs ws=ws++us:=by
 intro xs
 induction xs with
 |nil=>intro ws;exact⟨[],by simp [worthsM]⟩
 |cons x xs ih=>
  intro ws
  obtain⟨us,h⟩:=ih (ws++[wOf l x (wAt ws x.left) (wAt ws x.right)])
  exact⟨_,by unfold worthsM;rw [h,List.append_assoc]⟩
theorem worthsM_step (l:List (ByteArray×ByteArray)){E:List Ex}{i:Nat}{x:Ex}(h:E[i]?=some x):
  worthsM l (E.take (i+1)) []=worthsM l (E.take i) []++[wOf l x (wAt (worthsM l (E.take i) []) x.left) (wAt (worthsM l (E.take i) []) x.right)]:=by
 rw [List.take_add_one,h,worthsM_append]
 rfl
theorem worthsM_mem (l:List (ByteArray×ByteArray))(E:List Ex)(i:Nat): ∀x∈worthsM l (E.take i) [],x∈worthsM l E []:=by
 intro x hx
 obtain⟨us,h⟩:=worthsM_prefix l (E.drop i) (worthsM l (E.take i) [])
 rw [←worthsM_append,List.take_append_drop] at h
 rw [h]
 exact List.mem_append_left _ hx
theorem wAt_mem (ws:List Wt)(i:Int):wAt ws i=wErr∨wAt ws i∈ws:=by
 unfold wAt
 split
 ·exact .inl rfl
 ·by_cases h:i.toNat<ws.length
  ·exact .inr (by simp [List.getD,h])
  ·exact .inl (by simp [List.getElem?_eq_none (Nat.le_of_not_lt h)])
theorem wAt_size {ws:List Wt}{m:Nat}(h: ∀x∈ws,x.text.size≤m)(i:Int):(wAt ws i).text.size≤m:=by
 rcases wAt_mem ws i with e|e
 ·rw [e];exact Nat.zero_le _
 ·exact h _ e
theorem info75:(Tryz.prog.info? 75).map (fun i=>(i.zero,i.size,i.bytes))=some (some (.agg #[.int .i64 0,.bool false,.int .i64 0,.string ⟨#[]⟩]),4,40):=by kernel_rfl
def WsPost (W:List Wt)(w:World)(e:Ending)(w':World):Prop:= ∃v,e= .returned v∧w'.ownsRow w.heap.size 75 4 v W.length ((W.map Wt.cells).flatten)∧Below w.heap.size w w'
theorem worths_any (base b o lb:Nat)(E:List Ex)(v5:Value)(l:List (ByteArray×ByteArray))(lv:Value)(w:World)(hc:w.cell? ⟨b,o+2,none⟩=some v5)(how:w.ownsRow base 120 5 v5 E.length ((E.map Ex.cells).flatten))(hlen:E.length≤100000)
  (hl:w.ownsRow lb 123 2 lv l.length ((l.map prCells).flatten)) (hll:l.length≤100000) (hls: ∀p∈l,p.2.size≤600) (hE: ∀x∈E,x.text.size≤600) (hW: ∀x∈worthsM l E [],x.text.size≤100000000):
  Calls Tryz.prog 42 #[.pointer (some ⟨b,o,none⟩),lv] w fun e w'=>WsPost (worthsM l E []) w e w':=by
 obtain⟨a5,k5,rfl⟩:=ownsRow_slice how
 obtain⟨al,kl,rfl⟩:=ownsRow_slice hl
 have hblt:=block_lt_of_cell hc
 obtain⟨i0,hi,hz0,hz1,hz2⟩:=info_parts info75
 have hmade:=World.ownsRow_made (base:=w.heap.size) (e:=75) (size:=4) w #[] 0 (Nat.le_refl _) (by decide) (by simp)
 have hB0:Below w.heap.size w (w.alloc (.cells #[] 75)):=(Below.refl _ _).alloc (Nat.le_refl _) _
 have HM:=hide hmade
 have HB0:=hide hB0
 have HW:=hide how
 have HL:=hide hl
 have HS:=hide (And.intro hE hW)
 clear hmade hB0 how hl hE hW
 go_enter Tryz.func42,Tryz.ntmps42
 go_wp2_with fail
 go_loopg [5,6] (E.length+1) (fun k tv iv wr=> ∃(i:Nat),k+i=E.length+1∧i≤E.length∧iv= .int .i64 i∧Hid (wr.ownsRow w.heap.size 75 4 tv i (((worthsM l (E.take i) []).map Wt.cells).flatten))∧Below w.heap.size w wr)
 case atStart=>exact⟨0,rfl,Nat.zero_le _,rfl,hide HM.out,HB0.out⟩
 case round=>
  obtain⟨i,hk,hiE,rfl,HOWN,hbel⟩:=hrel
  have hc':wr.cell? ⟨b,o+2,none⟩=some (.slice a5 E.length k5):=(hbel.cell (p:=⟨b,o+2,none⟩) hblt).trans hc
  have hHK:=hide hk
  clear hk
  obtain⟨ag,kg,rfl⟩:=ownsRow_slice HOWN.out
  by_cases hlt:i<E.length
  ·obtain⟨g,cap,hv,hb,hg⟩:=HW.out.form (by omega)
   injection hv with e1 e2 e3
   subst e1 e3
   obtain⟨x,hx⟩: ∃x,E[i]?=some x:=⟨E[i],List.getElem?_eq_getElem hlt⟩
   have hcell: ∀j u,x.cells[j]?=some u→j<5→wr.cell? ⟨g,i*5+j,none⟩=some u:=fun j u hu hj=>by
    rw [hbel.cell (p:=⟨g,i*5+j,none⟩) hg]
    exact row_cell HW.out _ _ ((flat_get Ex.cells 5 Ex.cells_len E i j x hx hj).trans hu)
   have q0:wr.cell? ⟨g,i*5,none⟩=some (.int .i64 x.form):=hcell 0 _ rfl (by omega)
   have q1:=hcell 1 _ rfl (by omega)
   have q2:=hcell 2 _ rfl (by omega)
   have q3:=hcell 3 _ rfl (by omega)
   have q4:=hcell 4 _ rfl (by omega)
   have hlt':(i:Int)<E.length:=by omega
   have hst:=hide (worthsM_step l hx)
   have hxs:=HS.out.1 x (List.mem_of_getElem? hx)
   have hus: ∀y∈worthsM l (E.take i) [],y.text.size≤100000000:=fun y hy=>HS.out.2 y (worthsM_mem l E i y hy)
   have hul:(worthsM l (E.take i) []).length=i:=by rw [worthsM_length];simp;omega
   have HUL:=hide hul
   have hsl:=wAt_size hus x.left
   have hsr:=wAt_size hus x.right
   clear hul hus hx hcell
   generalize worthsM l (E.take i) []=U at*
   have hsz:=hide hbel.size
   have hB1:=hide (hbel.alloc hbel.size (.cells #[.int .i64 x.form,.int .i64 x.place,.string x.text,.int .i64 x.left,.int .i64 x.right] 120))
   have hown0:wr.ownsRow w.heap.size 75 4 (.slice ag i kg) U.length ((U.map Wt.cells).flatten):=by rw [HUL.out];exact HOWN.out
   have hown1:=hide (hown0.alloc (.cells #[.int .i64 x.form,.int .i64 x.place,.string x.text,.int .i64 x.left,.int .i64 x.right] 120))
   have hl1:=hide ((ownsRow_same HL.out fun k e=>hbel.block k (HL.out.lt k e).2).alloc (.cells #[.int .i64 x.form,.int .i64 x.place,.string x.text,.int .i64 x.left,.int .i64 x.right] 120))
   have hwl:=hide hbel
   clear hbel hown0
   have hbx0:=hide (heap_alloc_new wr (.cells #[.int .i64 x.form,.int .i64 x.place,.string x.text,.int .i64 x.left,.int .i64 x.right] 120))
   go_wp2_with fail
   refine(worthAt_any w.heap.size U _ _ _ hown1.out (by have:=HUL.out;omega)).mono ?_
   rintro e w1 ⟨rfl,hb1⟩
   generalize wAt U x.left=A at*
   have hs1:wr.heap.size+1≤w1.heap.size:=by have:=hb1.size;simpa using this
   have hbx1:=(hb1.block wr.heap.size (by simp)).trans hbx0.out
   have p3:w1.cell? ⟨wr.heap.size,3,none⟩=some (.int .i64 x.left):=by simp [World.cell?,hbx1]
   have hbx1':(w1.alloc (.cells #[.int .i64 A.kind,.bool A.truth,.int .i64 A.num,.string A.text] 75)).heap[wr.heap.size]?=_:=(Below.heap_alloc _ _ _ (by omega)).trans hbx1
   have p4':(w1.alloc (.cells #[.int .i64 A.kind,.bool A.truth,.int .i64 A.num,.string A.text] 75)).cell? ⟨wr.heap.size,4,none⟩=some (.int .i64 x.right):=by simp only [World.cell?,hbx1'];rfl
   have hn1:wr.heap.size≠w1.heap.size:=by omega
   have p4:w1.cell? ⟨wr.heap.size,4,none⟩=some (.int .i64 x.right):=by simp [World.cell?,hbx1]
   clear hbx1'
   have hown2:=hide ((ownsRow_same hown1.out fun k e=>hb1.block k (hown1.out.lt k e).2).alloc (.cells #[.int .i64 A.kind,.bool A.truth,.int .i64 A.num,.string A.text] 75))
   have hl2:=hide ((ownsRow_same hl1.out fun k e=>hb1.block k (hl1.out.lt k e).2).alloc (.cells #[.int .i64 A.kind,.bool A.truth,.int .i64 A.num,.string A.text] 75))
   have hB2:=hide ((hB1.out.trans (hb1.mono (by simp;have:=hsz.out;omega))).alloc (by have:=hsz.out;omega) (.cells #[.int .i64 A.kind,.bool A.truth,.int .i64 A.num,.string A.text] 75))
   have HBX1:=hide hbx1
   have hA2:=hide (heap_alloc_new w1 (.cells #[.int .i64 A.kind,.bool A.truth,.int .i64 A.num,.string A.text] 75))
   clear hb1 hbx1 hbx0
   go_wp2_with fail
   refine(worthAt_any w.heap.size U _ _ _ hown2.out (by have:=HUL.out;omega)).mono ?_
   rintro e w2 ⟨rfl,hb2⟩
   generalize wAt U x.right=B at*
   have hs2:w1.heap.size+1≤w2.heap.size:=by have:=hb2.size;simpa using this
   have hbx2:w2.heap[wr.heap.size]?=_:=(hb2.block wr.heap.size (by simp;omega)).trans ((Below.heap_alloc _ _ _ (by omega)).trans HBX1.out)
   have hA3:w2.heap[w1.heap.size]?=_:=(hb2.block w1.heap.size (by simp)).trans hA2.out
   have hbx2':(w2.alloc (.cells #[.int .i64 B.kind,.bool B.truth,.int .i64 B.num,.string B.text] 75)).heap[wr.heap.size]?=_:=(Below.heap_alloc _ _ _ (by omega)).trans hbx2
   have hA3':(w2.alloc (.cells #[.int .i64 B.kind,.bool B.truth,.int .i64 B.num,.string B.text] 75)).heap[w1.heap.size]?=_:=(Below.heap_alloc _ _ _ (by omega)).trans hA3
   have r0:(w2.alloc (.cells #[.int .i64 B.kind,.bool B.truth,.int .i64 B.num,.string B.text] 75)).cell? ⟨wr.heap.size,0,none⟩=some (.int .i64 x.form):=by simp only [World.cell?,hbx2'];rfl
   have r1:(w2.alloc (.cells #[.int .i64 B.kind,.bool B.truth,.int .i64 B.num,.string B.text] 75)).cell? ⟨wr.heap.size,1,none⟩=some (.int .i64 x.place):=by simp only [World.cell?,hbx2'];rfl
   have r2:(w2.alloc (.cells #[.int .i64 B.kind,.bool B.truth,.int .i64 B.num,.string B.text] 75)).cell? ⟨wr.heap.size,2,none⟩=some (.string x.text):=by simp only [World.cell?,hbx2'];rfl
   have r3:(w2.alloc (.cells #[.int .i64 B.kind,.bool B.truth,.int .i64 B.num,.string B.text] 75)).cell? ⟨wr.heap.size,3,none⟩=some (.int .i64 x.left):=by simp only [World.cell?,hbx2'];rfl
   have r4:(w2.alloc (.cells #[.int .i64 B.kind,.bool B.truth,.int .i64 B.num,.string B.text] 75)).cell? ⟨wr.heap.size,4,none⟩=some (.int .i64 x.right):=by simp only [World.cell?,hbx2'];rfl
   obtain⟨s0,s1,s2,s3,_,_,_,_⟩:=boxw hA3'
   clear hbx2' hA3'
   have hn2:wr.heap.size≠w2.heap.size:=by omega
   have hn3:w1.heap.size≠w2.heap.size:=by omega
   clear p4'
   have hown3:=hide ((ownsRow_same hown2.out fun k e=>hb2.block k (hown2.out.lt k e).2).alloc (.cells #[.int .i64 B.kind,.bool B.truth,.int .i64 B.num,.string B.text] 75))
   have hl3:=hide ((ownsRow_same hl2.out fun k e=>hb2.block k (hl2.out.lt k e).2).alloc (.cells #[.int .i64 B.kind,.bool B.truth,.int .i64 B.num,.string B.text] 75))
   have hB3:=hide ((hB2.out.trans (hb2.mono (by simp;have:=hsz.out;omega))).alloc (by have:=hsz.out;omega) (.cells #[.int .i64 B.kind,.bool B.truth,.int .i64 B.num,.string B.text] 75))
   clear hb2 hbx2 hA3
   go_wp2_with fail
   refine(worthOf_any lb l _ x A B _ hl3.out hll hls hxs (by omega) (by omega)).mono ?_
   rintro e w3 ⟨rfl,hb3⟩
   have hs3:w2.heap.size+1≤w3.heap.size:=by have:=hb3.size;simpa using this
   generalize wOf l x A B=O at*
   have hown4:=ownsRow_same hown3.out fun k e=>hb3.block k (hown3.out.lt k e).2
   rw [HUL.out] at hown4
   have HB4:=hide (hB3.out.trans (hb3.mono (by simp;have:=hsz.out;omega)))
   have hw4:w.heap.size≤w3.heap.size:=by have:=hsz.out;omega
   have hl100:i≤100000:=by omega
   clear hb3
   go_wp2_with (at_builtin;go_must (refine wpList_append_lies _ rfl (.tmp 41) (.tmp 43) 72 rfl w.heap.size 75 i0 _ 4 40 Tryz.underlying72 hi hz0 hz1 hz2 rfl (by omega) _ i _ rfl ((hown4.alloc _).alloc _) ⟨w3.heap.size+1,0,none⟩ 1 1 (Wt.cells O) rfl rfl ?news ?one (by omega) ?mm ?bys ?base (w3.heap.size+2) (by simp) ?rest))
   case news=>exact news_at _ _ (by simp) #[.int .i64 O.kind,.bool O.truth,.int .i64 O.num,.string O.text] 75
   case one=>intro u hu;simp [Wt.cells] at hu;rcases hu with rfl|rfl|rfl|rfl<;>rfl
   case mm=>unfold maxLen;omega
   case bys=>omega
   case base=>simp;omega
   case rest=>
    intro gb cap w4 hown5 hgrow hat hlt2
    have hB5:=hide (Below.grown ((HB4.out.alloc hw4 _).alloc (by simp;omega) _) hgrow (by simp;omega) fun k e=>(hown4.lt k e).1)
    have hown6:Hid (w4.ownsRow w.heap.size 75 4 (.slice (some ⟨gb,0,none⟩) (i+1) cap) (i+1) (((worthsM l (E.take (i+1)) []).map Wt.cells).flatten)):=hide (by rw [hst.out];simpa using hown5)
    clear hown5 hgrow hat
    go_wp2_with fail
    have hk:=hHK.out
    go_roundg (E.length - i)
    case measure=>omega
    case rel=>exact⟨i+1,by omega,by omega,by go_num,hown6,hB5.out⟩
  ·have hlt': ¬(i:Int)<E.length:=by omega
   have hiE':i=E.length:=by omega
   have hfin:wr.ownsRow w.heap.size 75 4 (.slice ag i kg) (worthsM l E []).length (((worthsM l E []).map Wt.cells).flatten):=by
    have hq:=HOWN.out
    rw [worthsM_length]
    rw [hiE',List.take_length] at hq
    simpa [hiE'] using hq
   have HF:=hide hfin
   have HBE:=hide hbel
   clear hfin hiE' hbel
   go_wp2_with fail
   go_ret
   exact⟨_,rfl,HF.out,HBE.out⟩
end Go.Proofs.YtkoohcilbpdgeaaGreatDoor
