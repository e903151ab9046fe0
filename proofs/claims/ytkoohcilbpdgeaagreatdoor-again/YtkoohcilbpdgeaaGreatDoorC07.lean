import Derived.Deep.RegionWith
import Derived.Test.YtkoohcilbpdgeaaGreatDoorC06
set_option linter.all false
set_option linter.unusedVariables false
set_option linter.unusedSimpArgs false
set_option linter.unnecessarySimpa false
set_option linter.constructorNameAsVariable false
set_option linter.deprecated false
set_option maxRecDepth 100000
set_option maxHeartbeats 6400000
namespace Go.Proofs.YtkoohcilbpdgeaaGreatDoor
open Go Go.RowKit
attribute [local go_sem] wrap64_byte
def z0U (t:zgS):Bool:=t.toList==[43]||t.toList==[45]||t.toList==[42]||t.toList==[47]||t.toList==[37]
def jE (t:zgS)(x y:Wt):Wt:=
 if x.kind==0 then x else if t.toList==[38,38] then(if !x.truth then x else y) else if t.toList==[124,124] then(if x.truth then x else y)
 else if y.kind==0 then y else if z0U t then z06 t x.num y.num else if t.toList==[46] then z8q (x.text++y.text) else z1t (z5B t x y)
theorem z75 (t:zgS)(xk:Int)(xb:Bool)(xn:Int)(xt:zgS)(yk:Int)(yb:Bool)(yn:Int)(yt:zgS)(w:World)(hx:xt.size≤400000000)(hy:yt.size≤400000000):Calls Tryz.prog 125 #[.string t,.agg #[.int .i64 xk,.bool xb,.int .i64 xn,.string xt],.agg #[.int .i64 yk,.bool yb,.int .i64 yn,.string yt]] w fun e w'=>z2V (jE t ⟨xk,xb,xn,xt⟩ ⟨yk,yb,yn,yt⟩) w e w':=by
 have HB0:Hid (Below w.heap.size w (((w.alloc (.cells #[.int .i64 xk,.bool xb,.int .i64 xn,.string xt] 75)).alloc (.cells #[.int .i64 yk,.bool yb,.int .i64 yn,.string yt] 75)).alloc (.cells #[.int .i64 0,.bool false,.int .i64 0,.string ⟨#[]⟩] 75))):=z8 ((((zgR w.heap.size w).alloc (zgH _) (.cells #[.int .i64 xk,.bool xb,.int .i64 xn,.string xt] 75)).alloc (by simp<;>omega) (.cells #[.int .i64 yk,.bool yb,.int .i64 yn,.string yt] 75)).alloc (by simp<;>omega) (.cells #[.int .i64 0,.bool false,.int .i64 0,.string ⟨#[]⟩] 75))
 have HX:Hid ((((w.alloc (.cells #[.int .i64 xk,.bool xb,.int .i64 xn,.string xt] 75)).alloc (.cells #[.int .i64 yk,.bool yb,.int .i64 yn,.string yt] 75)).alloc (.cells #[.int .i64 0,.bool false,.int .i64 0,.string ⟨#[]⟩] 75)).heap[w.heap.size+1+1]?=some (.cells #[.int .i64 0,.bool false,.int .i64 0,.string ⟨#[]⟩] 75)):=z8 (by have q:=heap_alloc_new ((w.alloc (.cells #[.int .i64 xk,.bool xb,.int .i64 xn,.string xt] 75)).alloc (.cells #[.int .i64 yk,.bool yb,.int .i64 yn,.string yt] 75)) (.cells #[.int .i64 0,.bool false,.int .i64 0,.string ⟨#[]⟩] 75);rw [show((w.alloc (.cells #[.int .i64 xk,.bool xb,.int .i64 xn,.string xt] 75)).alloc (.cells #[.int .i64 yk,.bool yb,.int .i64 yn,.string yt] 75)).heap.size=w.heap.size+1+1 by simp] at q;exact q)
 have HZ:Hid (w.heap.size+1+1<(((w.alloc (.cells #[.int .i64 xk,.bool xb,.int .i64 xn,.string xt] 75)).alloc (.cells #[.int .i64 yk,.bool yb,.int .i64 yn,.string yt] 75)).alloc (.cells #[.int .i64 0,.bool false,.int .i64 0,.string ⟨#[]⟩] 75)).heap.size):=z8 (by simp)
 have HZ1:Hid (w.heap.size≤(((w.alloc (.cells #[.int .i64 xk,.bool xb,.int .i64 xn,.string xt] 75)).alloc (.cells #[.int .i64 yk,.bool yb,.int .i64 yn,.string yt] 75)).alloc (.cells #[.int .i64 0,.bool false,.int .i64 0,.string ⟨#[]⟩] 75)).heap.size):=z8 (by simp<;>omega)
 have HG:Hid (w.heap.size≤w.heap.size+1+1):=z8 (by omega)
 have HX0:Hid ((((w.alloc (.cells #[.int .i64 xk,.bool xb,.int .i64 xn,.string xt] 75)).alloc (.cells #[.int .i64 yk,.bool yb,.int .i64 yn,.string yt] 75)).alloc (.cells #[.int .i64 0,.bool false,.int .i64 0,.string ⟨#[]⟩] 75)).heap[w.heap.size]?=some (.cells #[.int .i64 xk,.bool xb,.int .i64 xn,.string xt] 75)):=z8 ((zgJ _ _ _ (by simp<;>omega)).trans ((zgJ _ _ _ (by simp<;>omega)).trans (heap_alloc_new w _)))
 have HY0:Hid ((((w.alloc (.cells #[.int .i64 xk,.bool xb,.int .i64 xn,.string xt] 75)).alloc (.cells #[.int .i64 yk,.bool yb,.int .i64 yn,.string yt] 75)).alloc (.cells #[.int .i64 0,.bool false,.int .i64 0,.string ⟨#[]⟩] 75)).heap[w.heap.size+1]?=some (.cells #[.int .i64 yk,.bool yb,.int .i64 yn,.string yt] 75)):=z8 ((zgJ _ _ _ (by simp<;>omega)).trans (by have q:=heap_alloc_new (w.alloc (.cells #[.int .i64 xk,.bool xb,.int .i64 xn,.string xt] 75)) (.cells #[.int .i64 yk,.bool yb,.int .i64 yn,.string yt] 75);rw [show(w.alloc (.cells #[.int .i64 xk,.bool xb,.int .i64 xn,.string xt] 75)).heap.size=w.heap.size+1 by simp] at q;exact q))
 have HZx:Hid (w.heap.size<(((w.alloc (.cells #[.int .i64 xk,.bool xb,.int .i64 xn,.string xt] 75)).alloc (.cells #[.int .i64 yk,.bool yb,.int .i64 yn,.string yt] 75)).alloc (.cells #[.int .i64 0,.bool false,.int .i64 0,.string ⟨#[]⟩] 75)).heap.size):=z8 (by simp<;>omega)
 have HZy:Hid (w.heap.size+1<(((w.alloc (.cells #[.int .i64 xk,.bool xb,.int .i64 xn,.string xt] 75)).alloc (.cells #[.int .i64 yk,.bool yb,.int .i64 yn,.string yt] 75)).alloc (.cells #[.int .i64 0,.bool false,.int .i64 0,.string ⟨#[]⟩] 75)).heap.size):=z8 (by simp<;>omega)
 have HF:=z8 (jA ⟨xk,xb,xn,xt⟩ (((w.alloc (.cells #[.int .i64 xk,.bool xb,.int .i64 xn,.string xt] 75)).alloc (.cells #[.int .i64 yk,.bool yb,.int .i64 yn,.string yt] 75)).alloc (.cells #[.int .i64 0,.bool false,.int .i64 0,.string ⟨#[]⟩] 75)))
 cases h1:(xk==0)
 case true=>
  rw [h1] at HF
  have hres:Hid (jE t ⟨xk,xb,xn,xt⟩ ⟨yk,yb,yn,yt⟩=⟨xk,xb,xn,xt⟩):=z8 (by unfold jE;rw [h1];rfl)
  go_enter Tryz.func125,Tryz.ntmps125
  go_wp2_with fail
  refine HF.out.mono ?_
  rintro e w0 ⟨rfl,hB0⟩
  obtain⟨c0,c1,c2,c3,d0,d1,d2,d3⟩:=jt ((hB0.block _ HZx.out).trans HX0.out)
  obtain⟨e0,e1,e2,e3,k0,k1,k2,k3⟩:=jt ((hB0.block _ HZy.out).trans HY0.out)
  have hB1:=hB0
  have hbx:=(hB1.block _ HZ.out).trans HX.out
  obtain⟨y0,y1,y2,y3,g0,g1,g2,g3⟩:=jt hbx
  obtain⟨z0,z1,z2,z3⟩:=zE hbx (.int .i64 xk) (.bool xb) (.int .i64 xn) (.string xt)
  have HB2:=z8 (zU (HB0.out.trans (hB1.mono HZ1.out)) HG.out (.int .i64 xk) (.bool xb) (.int .i64 xn) (.string xt))
  clear hbx hB1
  go_wp2_with fail
  refine bodyPost_ret (v:= .agg #[.int .i64 xk,.bool xb,.int .i64 xn,.string xt]) (by simp [results,Tryz.results125,go_sem,z0,z1,z2,z3]) rfl ?_
  exact⟨by rw [hres.out],HB2.out⟩
 rw [h1] at HF
 cases h2:(t.toList==[38,38])
 case true=>
  cases xb
  case false=>
   have hres:Hid (jE t ⟨xk,false,xn,xt⟩ ⟨yk,yb,yn,yt⟩=⟨xk,false,xn,xt⟩):=z8 (by unfold jE;rw [h1];rw [h2];rfl)
   go_enter Tryz.func125,Tryz.ntmps125
   go_wp2_with fail
   refine HF.out.mono ?_
   rintro e w0 ⟨rfl,hB0⟩
   obtain⟨c0,c1,c2,c3,d0,d1,d2,d3⟩:=jt ((hB0.block _ HZx.out).trans HX0.out)
   obtain⟨e0,e1,e2,e3,k0,k1,k2,k3⟩:=jt ((hB0.block _ HZy.out).trans HY0.out)
   have hB1:=hB0
   have hbx:=(hB1.block _ HZ.out).trans HX.out
   obtain⟨y0,y1,y2,y3,g0,g1,g2,g3⟩:=jt hbx
   obtain⟨z0,z1,z2,z3⟩:=zE hbx (.int .i64 xk) (.bool false) (.int .i64 xn) (.string xt)
   have HB2:=z8 (zU (HB0.out.trans (hB1.mono HZ1.out)) HG.out (.int .i64 xk) (.bool false) (.int .i64 xn) (.string xt))
   clear hbx hB1
   go_wp2_with fail
   refine bodyPost_ret (v:= .agg #[.int .i64 xk,.bool false,.int .i64 xn,.string xt]) (by simp [results,Tryz.results125,go_sem,z0,z1,z2,z3]) rfl ?_
   exact⟨by rw [hres.out],HB2.out⟩
  case true=>
   have hres:Hid (jE t ⟨xk,true,xn,xt⟩ ⟨yk,yb,yn,yt⟩=⟨yk,yb,yn,yt⟩):=z8 (by unfold jE;rw [h1];rw [h2];rfl)
   go_enter Tryz.func125,Tryz.ntmps125
   go_wp2_with fail
   refine HF.out.mono ?_
   rintro e w0 ⟨rfl,hB0⟩
   obtain⟨c0,c1,c2,c3,d0,d1,d2,d3⟩:=jt ((hB0.block _ HZx.out).trans HX0.out)
   obtain⟨e0,e1,e2,e3,k0,k1,k2,k3⟩:=jt ((hB0.block _ HZy.out).trans HY0.out)
   have hB1:=hB0
   have hbx:=(hB1.block _ HZ.out).trans HX.out
   obtain⟨y0,y1,y2,y3,g0,g1,g2,g3⟩:=jt hbx
   obtain⟨z0,z1,z2,z3⟩:=zE hbx (.int .i64 yk) (.bool yb) (.int .i64 yn) (.string yt)
   have HB2:=z8 (zU (HB0.out.trans (hB1.mono HZ1.out)) HG.out (.int .i64 yk) (.bool yb) (.int .i64 yn) (.string yt))
   clear hbx hB1
   go_wp2_with fail
   refine bodyPost_ret (v:= .agg #[.int .i64 yk,.bool yb,.int .i64 yn,.string yt]) (by simp [results,Tryz.results125,go_sem,z0,z1,z2,z3]) rfl ?_
   exact⟨by rw [hres.out],HB2.out⟩
 cases h3:(t.toList==[124,124])
 case true=>
  cases xb
  case true=>
   have hres:Hid (jE t ⟨xk,true,xn,xt⟩ ⟨yk,yb,yn,yt⟩=⟨xk,true,xn,xt⟩):=z8 (by unfold jE;rw [h1];rw [h2];rw [h3];rfl)
   go_enter Tryz.func125,Tryz.ntmps125
   go_wp2_with fail
   refine HF.out.mono ?_
   rintro e w0 ⟨rfl,hB0⟩
   obtain⟨c0,c1,c2,c3,d0,d1,d2,d3⟩:=jt ((hB0.block _ HZx.out).trans HX0.out)
   obtain⟨e0,e1,e2,e3,k0,k1,k2,k3⟩:=jt ((hB0.block _ HZy.out).trans HY0.out)
   have hB1:=hB0
   have hbx:=(hB1.block _ HZ.out).trans HX.out
   obtain⟨y0,y1,y2,y3,g0,g1,g2,g3⟩:=jt hbx
   obtain⟨z0,z1,z2,z3⟩:=zE hbx (.int .i64 xk) (.bool true) (.int .i64 xn) (.string xt)
   have HB2:=z8 (zU (HB0.out.trans (hB1.mono HZ1.out)) HG.out (.int .i64 xk) (.bool true) (.int .i64 xn) (.string xt))
   clear hbx hB1
   go_wp2_with fail
   refine bodyPost_ret (v:= .agg #[.int .i64 xk,.bool true,.int .i64 xn,.string xt]) (by simp [results,Tryz.results125,go_sem,z0,z1,z2,z3]) rfl ?_
   exact⟨by rw [hres.out],HB2.out⟩
  case false=>
   have hres:Hid (jE t ⟨xk,false,xn,xt⟩ ⟨yk,yb,yn,yt⟩=⟨yk,yb,yn,yt⟩):=z8 (by unfold jE;rw [h1];rw [h2];rw [h3];rfl)
   go_enter Tryz.func125,Tryz.ntmps125
   go_wp2_with fail
   refine HF.out.mono ?_
   rintro e w0 ⟨rfl,hB0⟩
   obtain⟨c0,c1,c2,c3,d0,d1,d2,d3⟩:=jt ((hB0.block _ HZx.out).trans HX0.out)
   obtain⟨e0,e1,e2,e3,k0,k1,k2,k3⟩:=jt ((hB0.block _ HZy.out).trans HY0.out)
   have hB1:=hB0
   have hbx:=(hB1.block _ HZ.out).trans HX.out
   obtain⟨y0,y1,y2,y3,g0,g1,g2,g3⟩:=jt hbx
   obtain⟨z0,z1,z2,z3⟩:=zE hbx (.int .i64 yk) (.bool yb) (.int .i64 yn) (.string yt)
   have HB2:=z8 (zU (HB0.out.trans (hB1.mono HZ1.out)) HG.out (.int .i64 yk) (.bool yb) (.int .i64 yn) (.string yt))
   clear hbx hB1
   go_wp2_with fail
   refine bodyPost_ret (v:= .agg #[.int .i64 yk,.bool yb,.int .i64 yn,.string yt]) (by simp [results,Tryz.results125,go_sem,z0,z1,z2,z3]) rfl ?_
   exact⟨by rw [hres.out],HB2.out⟩
 cases h4:(yk==0)
 case true=>
  have hres:Hid (jE t ⟨xk,xb,xn,xt⟩ ⟨yk,yb,yn,yt⟩=⟨yk,yb,yn,yt⟩):=z8 (by unfold jE;rw [h1];rw [h2];rw [h3];rw [h4];rfl)
  go_enter Tryz.func125,Tryz.ntmps125
  go_wp2_with fail
  refine HF.out.mono ?_
  rintro e w0 ⟨rfl,hB0⟩
  obtain⟨c0,c1,c2,c3,d0,d1,d2,d3⟩:=jt ((hB0.block _ HZx.out).trans HX0.out)
  obtain⟨e0,e1,e2,e3,k0,k1,k2,k3⟩:=jt ((hB0.block _ HZy.out).trans HY0.out)
  have HX:=z8 ((hB0.block _ HZ.out).trans HX.out)
  have HX0:=z8 ((hB0.block _ HZx.out).trans HX0.out)
  have HY0:=z8 ((hB0.block _ HZy.out).trans HY0.out)
  have HZ:=z8 (zgN HZ.out hB0.size)
  have HZx:=z8 (zgN HZx.out hB0.size)
  have HZy:=z8 (zgN HZy.out hB0.size)
  have HB0:=z8 (HB0.out.trans (hB0.mono HZ1.out))
  have HZ1:=z8 HB0.out.size
  clear hB0
  go_wp2_with fail
  refine(jA ⟨yk,yb,yn,yt⟩ _).mono ?_
  rintro e w2 ⟨rfl,hB0⟩
  obtain⟨c0,c1,c2,c3,d0,d1,d2,d3⟩:=jt ((hB0.block _ HZx.out).trans HX0.out)
  obtain⟨e0,e1,e2,e3,k0,k1,k2,k3⟩:=jt ((hB0.block _ HZy.out).trans HY0.out)
  have hB1:=hB0
  have hbx:=(hB1.block _ HZ.out).trans HX.out
  obtain⟨y0,y1,y2,y3,g0,g1,g2,g3⟩:=jt hbx
  obtain⟨z0,z1,z2,z3⟩:=zE hbx (.int .i64 yk) (.bool yb) (.int .i64 yn) (.string yt)
  have HB2:=z8 (zU (HB0.out.trans (hB1.mono HZ1.out)) HG.out (.int .i64 yk) (.bool yb) (.int .i64 yn) (.string yt))
  clear hbx hB1
  go_wp2_with fail
  refine bodyPost_ret (v:= .agg #[.int .i64 yk,.bool yb,.int .i64 yn,.string yt]) (by simp [results,Tryz.results125,go_sem,z0,z1,z2,z3]) rfl ?_
  exact⟨by rw [hres.out],HB2.out⟩
 cases q1:(t.toList==[43])
 case true=>
  have hc:z0U t=true:=by unfold z0U;simp [q1]
  have hres:Hid (jE t ⟨xk,xb,xn,xt⟩ ⟨yk,yb,yn,yt⟩=z06 t xn yn):=z8 (by unfold jE;rw [h1];rw [h2];rw [h3];rw [h4];rw [hc];rfl)
  go_enter Tryz.func125,Tryz.ntmps125
  go_wp2_with fail
  refine HF.out.mono ?_
  rintro e w0 ⟨rfl,hB0⟩
  obtain⟨c0,c1,c2,c3,d0,d1,d2,d3⟩:=jt ((hB0.block _ HZx.out).trans HX0.out)
  obtain⟨e0,e1,e2,e3,k0,k1,k2,k3⟩:=jt ((hB0.block _ HZy.out).trans HY0.out)
  have HX:=z8 ((hB0.block _ HZ.out).trans HX.out)
  have HX0:=z8 ((hB0.block _ HZx.out).trans HX0.out)
  have HY0:=z8 ((hB0.block _ HZy.out).trans HY0.out)
  have HZ:=z8 (zgN HZ.out hB0.size)
  have HZx:=z8 (zgN HZx.out hB0.size)
  have HZy:=z8 (zgN HZy.out hB0.size)
  have HB0:=z8 (HB0.out.trans (hB0.mono HZ1.out))
  have HZ1:=z8 HB0.out.size
  clear hB0
  go_wp2_with fail
  refine(jA ⟨yk,yb,yn,yt⟩ _).mono ?_
  rintro e w2 ⟨rfl,hB0⟩
  obtain⟨c0,c1,c2,c3,d0,d1,d2,d3⟩:=jt ((hB0.block _ HZx.out).trans HX0.out)
  obtain⟨e0,e1,e2,e3,k0,k1,k2,k3⟩:=jt ((hB0.block _ HZy.out).trans HY0.out)
  have HX:=z8 ((hB0.block _ HZ.out).trans HX.out)
  have HX0:=z8 ((hB0.block _ HZx.out).trans HX0.out)
  have HY0:=z8 ((hB0.block _ HZy.out).trans HY0.out)
  have HZ:=z8 (zgN HZ.out hB0.size)
  have HZx:=z8 (zgN HZx.out hB0.size)
  have HZy:=z8 (zgN HZy.out hB0.size)
  have HB0:=z8 (HB0.out.trans (hB0.mono HZ1.out))
  have HZ1:=z8 HB0.out.size
  clear hB0
  have HC:=z8 (jR t xn yn w2)
  generalize hX:z06 t xn yn=X at*
  have HXX:=z8 hX
  clear hX
  go_wp2_with fail
  refine HC.out.mono ?_
  rintro e w1 ⟨rfl,hB1⟩
  have hbx:=(hB1.block _ HZ.out).trans HX.out
  obtain⟨y0,y1,y2,y3,g0,g1,g2,g3⟩:=jt hbx
  obtain⟨z0,z1,z2,z3⟩:=zE hbx (.int .i64 X.kind) (.bool X.truth) (.int .i64 X.num) (.string X.text)
  have HB2:=z8 (zU (HB0.out.trans (hB1.mono HZ1.out)) HG.out (.int .i64 X.kind) (.bool X.truth) (.int .i64 X.num) (.string X.text))
  clear hbx hB1
  go_wp2_with fail
  refine bodyPost_ret (v:= .agg #[.int .i64 X.kind,.bool X.truth,.int .i64 X.num,.string X.text]) (by simp [results,Tryz.results125,go_sem,z0,z1,z2,z3]) rfl ?_
  exact⟨by rw [hres.out],HB2.out⟩
 cases q2:(t.toList==[45])
 case true=>
  have hc:z0U t=true:=by unfold z0U;simp [q2]
  have hres:Hid (jE t ⟨xk,xb,xn,xt⟩ ⟨yk,yb,yn,yt⟩=z06 t xn yn):=z8 (by unfold jE;rw [h1];rw [h2];rw [h3];rw [h4];rw [hc];rfl)
  go_enter Tryz.func125,Tryz.ntmps125
  go_wp2_with fail
  refine HF.out.mono ?_
  rintro e w0 ⟨rfl,hB0⟩
  obtain⟨c0,c1,c2,c3,d0,d1,d2,d3⟩:=jt ((hB0.block _ HZx.out).trans HX0.out)
  obtain⟨e0,e1,e2,e3,k0,k1,k2,k3⟩:=jt ((hB0.block _ HZy.out).trans HY0.out)
  have HX:=z8 ((hB0.block _ HZ.out).trans HX.out)
  have HX0:=z8 ((hB0.block _ HZx.out).trans HX0.out)
  have HY0:=z8 ((hB0.block _ HZy.out).trans HY0.out)
  have HZ:=z8 (zgN HZ.out hB0.size)
  have HZx:=z8 (zgN HZx.out hB0.size)
  have HZy:=z8 (zgN HZy.out hB0.size)
  have HB0:=z8 (HB0.out.trans (hB0.mono HZ1.out))
  have HZ1:=z8 HB0.out.size
  clear hB0
  go_wp2_with fail
  refine(jA ⟨yk,yb,yn,yt⟩ _).mono ?_
  rintro e w2 ⟨rfl,hB0⟩
  obtain⟨c0,c1,c2,c3,d0,d1,d2,d3⟩:=jt ((hB0.block _ HZx.out).trans HX0.out)
  obtain⟨e0,e1,e2,e3,k0,k1,k2,k3⟩:=jt ((hB0.block _ HZy.out).trans HY0.out)
  have HX:=z8 ((hB0.block _ HZ.out).trans HX.out)
  have HX0:=z8 ((hB0.block _ HZx.out).trans HX0.out)
  have HY0:=z8 ((hB0.block _ HZy.out).trans HY0.out)
  have HZ:=z8 (zgN HZ.out hB0.size)
  have HZx:=z8 (zgN HZx.out hB0.size)
  have HZy:=z8 (zgN HZy.out hB0.size)
  have HB0:=z8 (HB0.out.trans (hB0.mono HZ1.out))
  have HZ1:=z8 HB0.out.size
  clear hB0
  have HC:=z8 (jR t xn yn w2)
  generalize hX:z06 t xn yn=X at*
  have HXX:=z8 hX
  clear hX
  go_wp2_with fail
  refine HC.out.mono ?_
  rintro e w1 ⟨rfl,hB1⟩
  have hbx:=(hB1.block _ HZ.out).trans HX.out
  obtain⟨y0,y1,y2,y3,g0,g1,g2,g3⟩:=jt hbx
  obtain⟨z0,z1,z2,z3⟩:=zE hbx (.int .i64 X.kind) (.bool X.truth) (.int .i64 X.num) (.string X.text)
  have HB2:=z8 (zU (HB0.out.trans (hB1.mono HZ1.out)) HG.out (.int .i64 X.kind) (.bool X.truth) (.int .i64 X.num) (.string X.text))
  clear hbx hB1
  go_wp2_with fail
  refine bodyPost_ret (v:= .agg #[.int .i64 X.kind,.bool X.truth,.int .i64 X.num,.string X.text]) (by simp [results,Tryz.results125,go_sem,z0,z1,z2,z3]) rfl ?_
  exact⟨by rw [hres.out],HB2.out⟩
 cases q3:(t.toList==[42])
 case true=>
  have hc:z0U t=true:=by unfold z0U;simp [q3]
  have hres:Hid (jE t ⟨xk,xb,xn,xt⟩ ⟨yk,yb,yn,yt⟩=z06 t xn yn):=z8 (by unfold jE;rw [h1];rw [h2];rw [h3];rw [h4];rw [hc];rfl)
  go_enter Tryz.func125,Tryz.ntmps125
  go_wp2_with fail
  refine HF.out.mono ?_
  rintro e w0 ⟨rfl,hB0⟩
  obtain⟨c0,c1,c2,c3,d0,d1,d2,d3⟩:=jt ((hB0.block _ HZx.out).trans HX0.out)
  obtain⟨e0,e1,e2,e3,k0,k1,k2,k3⟩:=jt ((hB0.block _ HZy.out).trans HY0.out)
  have HX:=z8 ((hB0.block _ HZ.out).trans HX.out)
  have HX0:=z8 ((hB0.block _ HZx.out).trans HX0.out)
  have HY0:=z8 ((hB0.block _ HZy.out).trans HY0.out)
  have HZ:=z8 (zgN HZ.out hB0.size)
  have HZx:=z8 (zgN HZx.out hB0.size)
  have HZy:=z8 (zgN HZy.out hB0.size)
  have HB0:=z8 (HB0.out.trans (hB0.mono HZ1.out))
  have HZ1:=z8 HB0.out.size
  clear hB0
  go_wp2_with fail
  refine(jA ⟨yk,yb,yn,yt⟩ _).mono ?_
  rintro e w2 ⟨rfl,hB0⟩
  obtain⟨c0,c1,c2,c3,d0,d1,d2,d3⟩:=jt ((hB0.block _ HZx.out).trans HX0.out)
  obtain⟨e0,e1,e2,e3,k0,k1,k2,k3⟩:=jt ((hB0.block _ HZy.out).trans HY0.out)
  have HX:=z8 ((hB0.block _ HZ.out).trans HX.out)
  have HX0:=z8 ((hB0.block _ HZx.out).trans HX0.out)
  have HY0:=z8 ((hB0.block _ HZy.out).trans HY0.out)
  have HZ:=z8 (zgN HZ.out hB0.size)
  have HZx:=z8 (zgN HZx.out hB0.size)
  have HZy:=z8 (zgN HZy.out hB0.size)
  have HB0:=z8 (HB0.out.trans (hB0.mono HZ1.out))
  have HZ1:=z8 HB0.out.size
  clear hB0
  have HC:=z8 (jR t xn yn w2)
  generalize hX:z06 t xn yn=X at*
  have HXX:=z8 hX
  clear hX
  go_wp2_with fail
  refine HC.out.mono ?_
  rintro e w1 ⟨rfl,hB1⟩
  have hbx:=(hB1.block _ HZ.out).trans HX.out
  obtain⟨y0,y1,y2,y3,g0,g1,g2,g3⟩:=jt hbx
  obtain⟨z0,z1,z2,z3⟩:=zE hbx (.int .i64 X.kind) (.bool X.truth) (.int .i64 X.num) (.string X.text)
  have HB2:=z8 (zU (HB0.out.trans (hB1.mono HZ1.out)) HG.out (.int .i64 X.kind) (.bool X.truth) (.int .i64 X.num) (.string X.text))
  clear hbx hB1
  go_wp2_with fail
  refine bodyPost_ret (v:= .agg #[.int .i64 X.kind,.bool X.truth,.int .i64 X.num,.string X.text]) (by simp [results,Tryz.results125,go_sem,z0,z1,z2,z3]) rfl ?_
  exact⟨by rw [hres.out],HB2.out⟩
 cases q4:(t.toList==[47])
 case true=>
  have hc:z0U t=true:=by unfold z0U;simp [q4]
  have hres:Hid (jE t ⟨xk,xb,xn,xt⟩ ⟨yk,yb,yn,yt⟩=z06 t xn yn):=z8 (by unfold jE;rw [h1];rw [h2];rw [h3];rw [h4];rw [hc];rfl)
  go_enter Tryz.func125,Tryz.ntmps125
  go_wp2_with fail
  refine HF.out.mono ?_
  rintro e w0 ⟨rfl,hB0⟩
  obtain⟨c0,c1,c2,c3,d0,d1,d2,d3⟩:=jt ((hB0.block _ HZx.out).trans HX0.out)
  obtain⟨e0,e1,e2,e3,k0,k1,k2,k3⟩:=jt ((hB0.block _ HZy.out).trans HY0.out)
  have HX:=z8 ((hB0.block _ HZ.out).trans HX.out)
  have HX0:=z8 ((hB0.block _ HZx.out).trans HX0.out)
  have HY0:=z8 ((hB0.block _ HZy.out).trans HY0.out)
  have HZ:=z8 (zgN HZ.out hB0.size)
  have HZx:=z8 (zgN HZx.out hB0.size)
  have HZy:=z8 (zgN HZy.out hB0.size)
  have HB0:=z8 (HB0.out.trans (hB0.mono HZ1.out))
  have HZ1:=z8 HB0.out.size
  clear hB0
  go_wp2_with fail
  refine(jA ⟨yk,yb,yn,yt⟩ _).mono ?_
  rintro e w2 ⟨rfl,hB0⟩
  obtain⟨c0,c1,c2,c3,d0,d1,d2,d3⟩:=jt ((hB0.block _ HZx.out).trans HX0.out)
  obtain⟨e0,e1,e2,e3,k0,k1,k2,k3⟩:=jt ((hB0.block _ HZy.out).trans HY0.out)
  have HX:=z8 ((hB0.block _ HZ.out).trans HX.out)
  have HX0:=z8 ((hB0.block _ HZx.out).trans HX0.out)
  have HY0:=z8 ((hB0.block _ HZy.out).trans HY0.out)
  have HZ:=z8 (zgN HZ.out hB0.size)
  have HZx:=z8 (zgN HZx.out hB0.size)
  have HZy:=z8 (zgN HZy.out hB0.size)
  have HB0:=z8 (HB0.out.trans (hB0.mono HZ1.out))
  have HZ1:=z8 HB0.out.size
  clear hB0
  have HC:=z8 (jR t xn yn w2)
  generalize hX:z06 t xn yn=X at*
  have HXX:=z8 hX
  clear hX
  go_wp2_with fail
  refine HC.out.mono ?_
  rintro e w1 ⟨rfl,hB1⟩
  have hbx:=(hB1.block _ HZ.out).trans HX.out
  obtain⟨y0,y1,y2,y3,g0,g1,g2,g3⟩:=jt hbx
  obtain⟨z0,z1,z2,z3⟩:=zE hbx (.int .i64 X.kind) (.bool X.truth) (.int .i64 X.num) (.string X.text)
  have HB2:=z8 (zU (HB0.out.trans (hB1.mono HZ1.out)) HG.out (.int .i64 X.kind) (.bool X.truth) (.int .i64 X.num) (.string X.text))
  clear hbx hB1
  go_wp2_with fail
  refine bodyPost_ret (v:= .agg #[.int .i64 X.kind,.bool X.truth,.int .i64 X.num,.string X.text]) (by simp [results,Tryz.results125,go_sem,z0,z1,z2,z3]) rfl ?_
  exact⟨by rw [hres.out],HB2.out⟩
 cases q5:(t.toList==[37])
 case true=>
  have hc:z0U t=true:=by unfold z0U;simp [q5]
  have hres:Hid (jE t ⟨xk,xb,xn,xt⟩ ⟨yk,yb,yn,yt⟩=z06 t xn yn):=z8 (by unfold jE;rw [h1];rw [h2];rw [h3];rw [h4];rw [hc];rfl)
  go_enter Tryz.func125,Tryz.ntmps125
  go_wp2_with fail
  refine HF.out.mono ?_
  rintro e w0 ⟨rfl,hB0⟩
  obtain⟨c0,c1,c2,c3,d0,d1,d2,d3⟩:=jt ((hB0.block _ HZx.out).trans HX0.out)
  obtain⟨e0,e1,e2,e3,k0,k1,k2,k3⟩:=jt ((hB0.block _ HZy.out).trans HY0.out)
  have HX:=z8 ((hB0.block _ HZ.out).trans HX.out)
  have HX0:=z8 ((hB0.block _ HZx.out).trans HX0.out)
  have HY0:=z8 ((hB0.block _ HZy.out).trans HY0.out)
  have HZ:=z8 (zgN HZ.out hB0.size)
  have HZx:=z8 (zgN HZx.out hB0.size)
  have HZy:=z8 (zgN HZy.out hB0.size)
  have HB0:=z8 (HB0.out.trans (hB0.mono HZ1.out))
  have HZ1:=z8 HB0.out.size
  clear hB0
  go_wp2_with fail
  refine(jA ⟨yk,yb,yn,yt⟩ _).mono ?_
  rintro e w2 ⟨rfl,hB0⟩
  obtain⟨c0,c1,c2,c3,d0,d1,d2,d3⟩:=jt ((hB0.block _ HZx.out).trans HX0.out)
  obtain⟨e0,e1,e2,e3,k0,k1,k2,k3⟩:=jt ((hB0.block _ HZy.out).trans HY0.out)
  have HX:=z8 ((hB0.block _ HZ.out).trans HX.out)
  have HX0:=z8 ((hB0.block _ HZx.out).trans HX0.out)
  have HY0:=z8 ((hB0.block _ HZy.out).trans HY0.out)
  have HZ:=z8 (zgN HZ.out hB0.size)
  have HZx:=z8 (zgN HZx.out hB0.size)
  have HZy:=z8 (zgN HZy.out hB0.size)
  have HB0:=z8 (HB0.out.trans (hB0.mono HZ1.out))
  have HZ1:=z8 HB0.out.size
  clear hB0
  have HC:=z8 (jR t xn yn w2)
  generalize hX:z06 t xn yn=X at*
  have HXX:=z8 hX
  clear hX
  go_wp2_with fail
  refine HC.out.mono ?_
  rintro e w1 ⟨rfl,hB1⟩
  have hbx:=(hB1.block _ HZ.out).trans HX.out
  obtain⟨y0,y1,y2,y3,g0,g1,g2,g3⟩:=jt hbx
  obtain⟨z0,z1,z2,z3⟩:=zE hbx (.int .i64 X.kind) (.bool X.truth) (.int .i64 X.num) (.string X.text)
  have HB2:=z8 (zU (HB0.out.trans (hB1.mono HZ1.out)) HG.out (.int .i64 X.kind) (.bool X.truth) (.int .i64 X.num) (.string X.text))
  clear hbx hB1
  go_wp2_with fail
  refine bodyPost_ret (v:= .agg #[.int .i64 X.kind,.bool X.truth,.int .i64 X.num,.string X.text]) (by simp [results,Tryz.results125,go_sem,z0,z1,z2,z3]) rfl ?_
  exact⟨by rw [hres.out],HB2.out⟩
 have hc:z0U t=false:=by unfold z0U;rw [q1,q2,q3,q4,q5];rfl
 cases h5:(t.toList==[46])
 case true=>
  have hres:Hid (jE t ⟨xk,xb,xn,xt⟩ ⟨yk,yb,yn,yt⟩=z8q (xt++yt)):=z8 (by unfold jE;rw [h1];rw [h2];rw [h3];rw [h4];rw [hc];rw [h5];rfl)
  go_enter Tryz.func125,Tryz.ntmps125
  go_wp2_with fail
  refine HF.out.mono ?_
  rintro e w0 ⟨rfl,hB0⟩
  obtain⟨c0,c1,c2,c3,d0,d1,d2,d3⟩:=jt ((hB0.block _ HZx.out).trans HX0.out)
  obtain⟨e0,e1,e2,e3,k0,k1,k2,k3⟩:=jt ((hB0.block _ HZy.out).trans HY0.out)
  have HX:=z8 ((hB0.block _ HZ.out).trans HX.out)
  have HX0:=z8 ((hB0.block _ HZx.out).trans HX0.out)
  have HY0:=z8 ((hB0.block _ HZy.out).trans HY0.out)
  have HZ:=z8 (zgN HZ.out hB0.size)
  have HZx:=z8 (zgN HZx.out hB0.size)
  have HZy:=z8 (zgN HZy.out hB0.size)
  have HB0:=z8 (HB0.out.trans (hB0.mono HZ1.out))
  have HZ1:=z8 HB0.out.size
  clear hB0
  go_wp2_with fail
  refine(jA ⟨yk,yb,yn,yt⟩ _).mono ?_
  rintro e w2 ⟨rfl,hB0⟩
  obtain⟨c0,c1,c2,c3,d0,d1,d2,d3⟩:=jt ((hB0.block _ HZx.out).trans HX0.out)
  obtain⟨e0,e1,e2,e3,k0,k1,k2,k3⟩:=jt ((hB0.block _ HZy.out).trans HY0.out)
  have HX:=z8 ((hB0.block _ HZ.out).trans HX.out)
  have HX0:=z8 ((hB0.block _ HZx.out).trans HX0.out)
  have HY0:=z8 ((hB0.block _ HZy.out).trans HY0.out)
  have HZ:=z8 (zgN HZ.out hB0.size)
  have HZx:=z8 (zgN HZx.out hB0.size)
  have HZy:=z8 (zgN HZy.out hB0.size)
  have HB0:=z8 (HB0.out.trans (hB0.mono HZ1.out))
  have HZ1:=z8 HB0.out.size
  clear hB0
  have HC:=z8 (z0x (xt++yt) w2)
  generalize hX:z8q (xt++yt)=X at*
  have HXX:=z8 hX
  clear hX
  go_wp2_with fail
  refine HC.out.mono ?_
  rintro e w1 ⟨rfl,hB1⟩
  have hbx:=(hB1.block _ HZ.out).trans HX.out
  obtain⟨y0,y1,y2,y3,g0,g1,g2,g3⟩:=jt hbx
  obtain⟨z0,z1,z2,z3⟩:=zE hbx (.int .i64 X.kind) (.bool X.truth) (.int .i64 X.num) (.string X.text)
  have HB2:=z8 (zU (HB0.out.trans (hB1.mono HZ1.out)) HG.out (.int .i64 X.kind) (.bool X.truth) (.int .i64 X.num) (.string X.text))
  clear hbx hB1
  go_wp2_with fail
  refine bodyPost_ret (v:= .agg #[.int .i64 X.kind,.bool X.truth,.int .i64 X.num,.string X.text]) (by simp [results,Tryz.results125,go_sem,z0,z1,z2,z3]) rfl ?_
  exact⟨by rw [hres.out],HB2.out⟩
 have hres:Hid (jE t ⟨xk,xb,xn,xt⟩ ⟨yk,yb,yn,yt⟩=z1t (z5B t ⟨xk,xb,xn,xt⟩ ⟨yk,yb,yn,yt⟩)):=z8 (by unfold jE;rw [h1];rw [h2];rw [h3];rw [h4];rw [hc];rw [h5];rfl)
 go_enter Tryz.func125,Tryz.ntmps125
 go_wp2_with fail
 refine HF.out.mono ?_
 rintro e w0 ⟨rfl,hB0⟩
 obtain⟨c0,c1,c2,c3,d0,d1,d2,d3⟩:=jt ((hB0.block _ HZx.out).trans HX0.out)
 obtain⟨e0,e1,e2,e3,k0,k1,k2,k3⟩:=jt ((hB0.block _ HZy.out).trans HY0.out)
 have HX:=z8 ((hB0.block _ HZ.out).trans HX.out)
 have HX0:=z8 ((hB0.block _ HZx.out).trans HX0.out)
 have HY0:=z8 ((hB0.block _ HZy.out).trans HY0.out)
 have HZ:=z8 (zgN HZ.out hB0.size)
 have HZx:=z8 (zgN HZx.out hB0.size)
 have HZy:=z8 (zgN HZy.out hB0.size)
 have HB0:=z8 (HB0.out.trans (hB0.mono HZ1.out))
 have HZ1:=z8 HB0.out.size
 clear hB0
 go_wp2_with fail
 refine(jA ⟨yk,yb,yn,yt⟩ _).mono ?_
 rintro e w2 ⟨rfl,hB0⟩
 obtain⟨c0,c1,c2,c3,d0,d1,d2,d3⟩:=jt ((hB0.block _ HZx.out).trans HX0.out)
 obtain⟨e0,e1,e2,e3,k0,k1,k2,k3⟩:=jt ((hB0.block _ HZy.out).trans HY0.out)
 have HX:=z8 ((hB0.block _ HZ.out).trans HX.out)
 have HX0:=z8 ((hB0.block _ HZx.out).trans HX0.out)
 have HY0:=z8 ((hB0.block _ HZy.out).trans HY0.out)
 have HZ:=z8 (zgN HZ.out hB0.size)
 have HZx:=z8 (zgN HZx.out hB0.size)
 have HZy:=z8 (zgN HZy.out hB0.size)
 have HB0:=z8 (HB0.out.trans (hB0.mono HZ1.out))
 have HZ1:=z8 HB0.out.size
 clear hB0
 have HC:=z8 (z6b t ⟨xk,xb,xn,xt⟩ ⟨yk,yb,yn,yt⟩ w2)
 generalize hX:z1t (z5B t ⟨xk,xb,xn,xt⟩ ⟨yk,yb,yn,yt⟩)=X at*
 have HXX:=z8 hX
 clear hX
 go_wp2_with fail
 refine HC.out.mono ?_
 rintro e w1 ⟨rfl,hB1⟩
 have hbx:=(hB1.block _ HZ.out).trans HX.out
 obtain⟨y0,y1,y2,y3,g0,g1,g2,g3⟩:=jt hbx
 obtain⟨z0,z1,z2,z3⟩:=zE hbx (.int .i64 X.kind) (.bool X.truth) (.int .i64 X.num) (.string X.text)
 have HB2:=z8 (zU (HB0.out.trans (hB1.mono HZ1.out)) HG.out (.int .i64 X.kind) (.bool X.truth) (.int .i64 X.num) (.string X.text))
 clear hbx hB1
 go_wp2_with fail
 refine bodyPost_ret (v:= .agg #[.int .i64 X.kind,.bool X.truth,.int .i64 X.num,.string X.text]) (by simp [results,Tryz.results125,go_sem,z0,z1,z2,z3]) rfl ?_
 exact⟨by rw [hres.out],HB2.out⟩
theorem z4R (t:zgS)(x y:Wt)(w:World)(hx:x.text.size≤400000000)(hy:y.text.size≤400000000):Calls Tryz.prog 125 #[.string t,.agg #[.int .i64 x.kind,.bool x.truth,.int .i64 x.num,.string x.text],.agg #[.int .i64 y.kind,.bool y.truth,.int .i64 y.num,.string y.text]] w fun e w'=>z2V (jE t x y) w e w':=
 z75 t x.kind x.truth x.num x.text y.kind y.truth y.num y.text w hx hy
def wOf (l:List (zgS×zgS))(x:Ex)(a b:Wt):Wt:=
 if x.form==0 then nsM x.text else if x.form==1 then z8q x.text else if x.form==2 then z1t (x.text.toList==[116,114,117,101])
 else if x.form==3 then z8q (z4G x.text l) else if x.form==4 then nsM (z4G x.text l) else if x.form==5 then z2g x.text a
 else if x.form==6 then jE x.text a b else if x.form==7 then a else z2F
theorem z6M (base:Nat)(l:List (zgS×zgS))(v:Value)(x:Ex)(a b:Wt)(w:World)(hl:w.ownsRow base 123 2 v l.length ((l.map zA).flatten))(hlen:l.length≤100000)(hls: ∀p∈l,p.2.size≤600)(hx:x.text.size≤600)(ha:a.text.size≤400000000)(hb:b.text.size≤400000000):
  Calls Tryz.prog 82 #[.agg #[.int .i64 x.form,.int .i64 x.place,.string x.text,.int .i64 x.left,.int .i64 x.right],.agg #[.int .i64 a.kind,.bool a.truth,.int .i64 a.num,.string a.text],.agg #[.int .i64 b.kind,.bool b.truth,.int .i64 b.num,.string b.text],v] w fun e w'=>z2V (wOf l x a b) w e w':=by
 obtain⟨al,cl,rfl⟩:=za hl
 have HL:=z8 (((((hl.alloc (.cells #[.int .i64 x.form,.int .i64 x.place,.string x.text,.int .i64 x.left,.int .i64 x.right] 120)).alloc (.cells #[.int .i64 a.kind,.bool a.truth,.int .i64 a.num,.string a.text] 75)).alloc (.cells #[.int .i64 b.kind,.bool b.truth,.int .i64 b.num,.string b.text] 75)).alloc (.cells #[.int .i64 0,.bool false,.int .i64 0,.string ⟨#[]⟩] 75)))
 have hvs:=z8 (z5S x.text 600 l hls)
 clear hl
 have HB0:Hid (Below w.heap.size w ((((w.alloc (.cells #[.int .i64 x.form,.int .i64 x.place,.string x.text,.int .i64 x.left,.int .i64 x.right] 120)).alloc (.cells #[.int .i64 a.kind,.bool a.truth,.int .i64 a.num,.string a.text] 75)).alloc (.cells #[.int .i64 b.kind,.bool b.truth,.int .i64 b.num,.string b.text] 75)).alloc (.cells #[.int .i64 0,.bool false,.int .i64 0,.string ⟨#[]⟩] 75))):=z8 (((((zgR w.heap.size w).alloc (zgH _) _).alloc (by simp<;>omega) _).alloc (by simp<;>omega) _).alloc (by simp<;>omega) _)
 have HX:Hid (((((w.alloc (.cells #[.int .i64 x.form,.int .i64 x.place,.string x.text,.int .i64 x.left,.int .i64 x.right] 120)).alloc (.cells #[.int .i64 a.kind,.bool a.truth,.int .i64 a.num,.string a.text] 75)).alloc (.cells #[.int .i64 b.kind,.bool b.truth,.int .i64 b.num,.string b.text] 75)).alloc (.cells #[.int .i64 0,.bool false,.int .i64 0,.string ⟨#[]⟩] 75)).heap[w.heap.size+1+1+1]?=some (.cells #[.int .i64 0,.bool false,.int .i64 0,.string ⟨#[]⟩] 75)):=z8 (by have q:=heap_alloc_new (((w.alloc (.cells #[.int .i64 x.form,.int .i64 x.place,.string x.text,.int .i64 x.left,.int .i64 x.right] 120)).alloc (.cells #[.int .i64 a.kind,.bool a.truth,.int .i64 a.num,.string a.text] 75)).alloc (.cells #[.int .i64 b.kind,.bool b.truth,.int .i64 b.num,.string b.text] 75)) (.cells #[.int .i64 0,.bool false,.int .i64 0,.string ⟨#[]⟩] 75);rw [show(((w.alloc (.cells #[.int .i64 x.form,.int .i64 x.place,.string x.text,.int .i64 x.left,.int .i64 x.right] 120)).alloc (.cells #[.int .i64 a.kind,.bool a.truth,.int .i64 a.num,.string a.text] 75)).alloc (.cells #[.int .i64 b.kind,.bool b.truth,.int .i64 b.num,.string b.text] 75)).heap.size=w.heap.size+1+1+1 by simp] at q;exact q)
 have HAb:Hid (((((w.alloc (.cells #[.int .i64 x.form,.int .i64 x.place,.string x.text,.int .i64 x.left,.int .i64 x.right] 120)).alloc (.cells #[.int .i64 a.kind,.bool a.truth,.int .i64 a.num,.string a.text] 75)).alloc (.cells #[.int .i64 b.kind,.bool b.truth,.int .i64 b.num,.string b.text] 75)).alloc (.cells #[.int .i64 0,.bool false,.int .i64 0,.string ⟨#[]⟩] 75)).heap[w.heap.size+1]?=some (.cells #[.int .i64 a.kind,.bool a.truth,.int .i64 a.num,.string a.text] 75)):=z8 ((zgJ _ _ _ (by simp<;>omega)).trans ((zgJ _ _ _ (by simp<;>omega)).trans (by have q:=heap_alloc_new (w.alloc (.cells #[.int .i64 x.form,.int .i64 x.place,.string x.text,.int .i64 x.left,.int .i64 x.right] 120)) (.cells #[.int .i64 a.kind,.bool a.truth,.int .i64 a.num,.string a.text] 75);rw [show(w.alloc (.cells #[.int .i64 x.form,.int .i64 x.place,.string x.text,.int .i64 x.left,.int .i64 x.right] 120)).heap.size=w.heap.size+1 by simp] at q;exact q)))
 have HZ:Hid (w.heap.size+1+1+1<((((w.alloc (.cells #[.int .i64 x.form,.int .i64 x.place,.string x.text,.int .i64 x.left,.int .i64 x.right] 120)).alloc (.cells #[.int .i64 a.kind,.bool a.truth,.int .i64 a.num,.string a.text] 75)).alloc (.cells #[.int .i64 b.kind,.bool b.truth,.int .i64 b.num,.string b.text] 75)).alloc (.cells #[.int .i64 0,.bool false,.int .i64 0,.string ⟨#[]⟩] 75)).heap.size):=z8 (by simp<;>omega)
 have HZ1:Hid (w.heap.size≤((((w.alloc (.cells #[.int .i64 x.form,.int .i64 x.place,.string x.text,.int .i64 x.left,.int .i64 x.right] 120)).alloc (.cells #[.int .i64 a.kind,.bool a.truth,.int .i64 a.num,.string a.text] 75)).alloc (.cells #[.int .i64 b.kind,.bool b.truth,.int .i64 b.num,.string b.text] 75)).alloc (.cells #[.int .i64 0,.bool false,.int .i64 0,.string ⟨#[]⟩] 75)).heap.size):=z8 (by simp<;>omega)
 have HG:Hid (w.heap.size≤w.heap.size+1+1+1):=z8 (by omega)
 cases f0:(x.form==0)
 case true=>
  have hres:Hid (wOf l x a b=nsM x.text):=z8 (by unfold wOf;rw [f0];rfl)
  have HC:=z8 (z1R x.text ((((w.alloc (.cells #[.int .i64 x.form,.int .i64 x.place,.string x.text,.int .i64 x.left,.int .i64 x.right] 120)).alloc (.cells #[.int .i64 a.kind,.bool a.truth,.int .i64 a.num,.string a.text] 75)).alloc (.cells #[.int .i64 b.kind,.bool b.truth,.int .i64 b.num,.string b.text] 75)).alloc (.cells #[.int .i64 0,.bool false,.int .i64 0,.string ⟨#[]⟩] 75)) hx)
  generalize hX:nsM x.text=X at*
  clear hX
  go_enter Tryz.func82,Tryz.ntmps82
  go_wp2_with fail
  refine HC.out.mono ?_
  rintro e w1 ⟨rfl,hB1⟩
  have hbx:=(hB1.block _ HZ.out).trans HX.out
  obtain⟨y0,y1,y2,y3,g0,g1,g2,g3⟩:=jt hbx
  obtain⟨z0,z1,z2,z3⟩:=zE hbx (.int .i64 X.kind) (.bool X.truth) (.int .i64 X.num) (.string X.text)
  have HB2:=z8 (zU (HB0.out.trans (hB1.mono HZ1.out)) HG.out (.int .i64 X.kind) (.bool X.truth) (.int .i64 X.num) (.string X.text))
  clear hbx hB1
  go_wp2_with fail
  refine bodyPost_ret (v:= .agg #[.int .i64 X.kind,.bool X.truth,.int .i64 X.num,.string X.text]) (by simp [results,Tryz.results82,go_sem,z0,z1,z2,z3]) rfl ?_
  exact⟨by rw [hres.out],HB2.out⟩
 cases f1:(x.form==1)
 case true=>
  have hres:Hid (wOf l x a b=z8q x.text):=z8 (by unfold wOf;rw [f0,f1];rfl)
  have HC:=z8 (z0x x.text ((((w.alloc (.cells #[.int .i64 x.form,.int .i64 x.place,.string x.text,.int .i64 x.left,.int .i64 x.right] 120)).alloc (.cells #[.int .i64 a.kind,.bool a.truth,.int .i64 a.num,.string a.text] 75)).alloc (.cells #[.int .i64 b.kind,.bool b.truth,.int .i64 b.num,.string b.text] 75)).alloc (.cells #[.int .i64 0,.bool false,.int .i64 0,.string ⟨#[]⟩] 75)))
  generalize hX:z8q x.text=X at*
  clear hX
  go_enter Tryz.func82,Tryz.ntmps82
  go_wp2_with fail
  refine HC.out.mono ?_
  rintro e w1 ⟨rfl,hB1⟩
  have hbx:=(hB1.block _ HZ.out).trans HX.out
  obtain⟨y0,y1,y2,y3,g0,g1,g2,g3⟩:=jt hbx
  obtain⟨z0,z1,z2,z3⟩:=zE hbx (.int .i64 X.kind) (.bool X.truth) (.int .i64 X.num) (.string X.text)
  have HB2:=z8 (zU (HB0.out.trans (hB1.mono HZ1.out)) HG.out (.int .i64 X.kind) (.bool X.truth) (.int .i64 X.num) (.string X.text))
  clear hbx hB1
  go_wp2_with fail
  refine bodyPost_ret (v:= .agg #[.int .i64 X.kind,.bool X.truth,.int .i64 X.num,.string X.text]) (by simp [results,Tryz.results82,go_sem,z0,z1,z2,z3]) rfl ?_
  exact⟨by rw [hres.out],HB2.out⟩
 cases f2:(x.form==2)
 case true=>
  have hres:Hid (wOf l x a b=z1t (x.text.toList==[116,114,117,101])):=z8 (by unfold wOf;rw [f0,f1,f2];rfl)
  have HC:=z8 (z15 (x.text.toList==[116,114,117,101]) ((((w.alloc (.cells #[.int .i64 x.form,.int .i64 x.place,.string x.text,.int .i64 x.left,.int .i64 x.right] 120)).alloc (.cells #[.int .i64 a.kind,.bool a.truth,.int .i64 a.num,.string a.text] 75)).alloc (.cells #[.int .i64 b.kind,.bool b.truth,.int .i64 b.num,.string b.text] 75)).alloc (.cells #[.int .i64 0,.bool false,.int .i64 0,.string ⟨#[]⟩] 75)))
  generalize hX:z1t (x.text.toList==[116,114,117,101])=X at*
  clear hX
  go_enter Tryz.func82,Tryz.ntmps82
  go_wp2_with fail
  refine HC.out.mono ?_
  rintro e w1 ⟨rfl,hB1⟩
  have hbx:=(hB1.block _ HZ.out).trans HX.out
  obtain⟨y0,y1,y2,y3,g0,g1,g2,g3⟩:=jt hbx
  obtain⟨z0,z1,z2,z3⟩:=zE hbx (.int .i64 X.kind) (.bool X.truth) (.int .i64 X.num) (.string X.text)
  have HB2:=z8 (zU (HB0.out.trans (hB1.mono HZ1.out)) HG.out (.int .i64 X.kind) (.bool X.truth) (.int .i64 X.num) (.string X.text))
  clear hbx hB1
  go_wp2_with fail
  refine bodyPost_ret (v:= .agg #[.int .i64 X.kind,.bool X.truth,.int .i64 X.num,.string X.text]) (by simp [results,Tryz.results82,go_sem,z0,z1,z2,z3]) rfl ?_
  exact⟨by rw [hres.out],HB2.out⟩
 cases f3:(x.form==3)
 case true=>
  have hres:Hid (wOf l x a b=z8q (z4G x.text l)):=z8 (by unfold wOf;rw [f0,f1,f2,f3];rfl)
  have HV:=z8 (z3B base l _ x.text ((((w.alloc (.cells #[.int .i64 x.form,.int .i64 x.place,.string x.text,.int .i64 x.left,.int .i64 x.right] 120)).alloc (.cells #[.int .i64 a.kind,.bool a.truth,.int .i64 a.num,.string a.text] 75)).alloc (.cells #[.int .i64 b.kind,.bool b.truth,.int .i64 b.num,.string b.text] 75)).alloc (.cells #[.int .i64 0,.bool false,.int .i64 0,.string ⟨#[]⟩] 75)) HL.out hlen)
  have HC:=z8 (z0x (z4G x.text l) ((((w.alloc (.cells #[.int .i64 x.form,.int .i64 x.place,.string x.text,.int .i64 x.left,.int .i64 x.right] 120)).alloc (.cells #[.int .i64 a.kind,.bool a.truth,.int .i64 a.num,.string a.text] 75)).alloc (.cells #[.int .i64 b.kind,.bool b.truth,.int .i64 b.num,.string b.text] 75)).alloc (.cells #[.int .i64 0,.bool false,.int .i64 0,.string ⟨#[]⟩] 75)))
  generalize hX:z8q (z4G x.text l)=X at*
  clear hX
  generalize z4G x.text l=vv at*
  go_enter Tryz.func82,Tryz.ntmps82
  go_wp2_with fail
  refine HV.out.mono ?_
  rintro e w9 ⟨rfl,rfl⟩
  go_wp2_with fail
  refine HC.out.mono ?_
  rintro e w1 ⟨rfl,hB1⟩
  have hbx:=(hB1.block _ HZ.out).trans HX.out
  obtain⟨y0,y1,y2,y3,g0,g1,g2,g3⟩:=jt hbx
  obtain⟨z0,z1,z2,z3⟩:=zE hbx (.int .i64 X.kind) (.bool X.truth) (.int .i64 X.num) (.string X.text)
  have HB2:=z8 (zU (HB0.out.trans (hB1.mono HZ1.out)) HG.out (.int .i64 X.kind) (.bool X.truth) (.int .i64 X.num) (.string X.text))
  clear hbx hB1
  go_wp2_with fail
  refine bodyPost_ret (v:= .agg #[.int .i64 X.kind,.bool X.truth,.int .i64 X.num,.string X.text]) (by simp [results,Tryz.results82,go_sem,z0,z1,z2,z3]) rfl ?_
  exact⟨by rw [hres.out],HB2.out⟩
 cases f4:(x.form==4)
 case true=>
  have hres:Hid (wOf l x a b=nsM (z4G x.text l)):=z8 (by unfold wOf;rw [f0,f1,f2,f3,f4];rfl)
  have HV:=z8 (z3B base l _ x.text ((((w.alloc (.cells #[.int .i64 x.form,.int .i64 x.place,.string x.text,.int .i64 x.left,.int .i64 x.right] 120)).alloc (.cells #[.int .i64 a.kind,.bool a.truth,.int .i64 a.num,.string a.text] 75)).alloc (.cells #[.int .i64 b.kind,.bool b.truth,.int .i64 b.num,.string b.text] 75)).alloc (.cells #[.int .i64 0,.bool false,.int .i64 0,.string ⟨#[]⟩] 75)) HL.out hlen)
  have HC:=z8 (z1R (z4G x.text l) ((((w.alloc (.cells #[.int .i64 x.form,.int .i64 x.place,.string x.text,.int .i64 x.left,.int .i64 x.right] 120)).alloc (.cells #[.int .i64 a.kind,.bool a.truth,.int .i64 a.num,.string a.text] 75)).alloc (.cells #[.int .i64 b.kind,.bool b.truth,.int .i64 b.num,.string b.text] 75)).alloc (.cells #[.int .i64 0,.bool false,.int .i64 0,.string ⟨#[]⟩] 75)) hvs.out)
  generalize hX:nsM (z4G x.text l)=X at*
  clear hX
  generalize z4G x.text l=vv at*
  go_enter Tryz.func82,Tryz.ntmps82
  go_wp2_with fail
  refine HV.out.mono ?_
  rintro e w9 ⟨rfl,rfl⟩
  go_wp2_with fail
  refine HC.out.mono ?_
  rintro e w1 ⟨rfl,hB1⟩
  have hbx:=(hB1.block _ HZ.out).trans HX.out
  obtain⟨y0,y1,y2,y3,g0,g1,g2,g3⟩:=jt hbx
  obtain⟨z0,z1,z2,z3⟩:=zE hbx (.int .i64 X.kind) (.bool X.truth) (.int .i64 X.num) (.string X.text)
  have HB2:=z8 (zU (HB0.out.trans (hB1.mono HZ1.out)) HG.out (.int .i64 X.kind) (.bool X.truth) (.int .i64 X.num) (.string X.text))
  clear hbx hB1
  go_wp2_with fail
  refine bodyPost_ret (v:= .agg #[.int .i64 X.kind,.bool X.truth,.int .i64 X.num,.string X.text]) (by simp [results,Tryz.results82,go_sem,z0,z1,z2,z3]) rfl ?_
  exact⟨by rw [hres.out],HB2.out⟩
 cases f5:(x.form==5)
 case true=>
  have hres:Hid (wOf l x a b=z2g x.text a):=z8 (by unfold wOf;rw [f0,f1,f2,f3,f4,f5];rfl)
  have HC:=z8 (z3t x.text a ((((w.alloc (.cells #[.int .i64 x.form,.int .i64 x.place,.string x.text,.int .i64 x.left,.int .i64 x.right] 120)).alloc (.cells #[.int .i64 a.kind,.bool a.truth,.int .i64 a.num,.string a.text] 75)).alloc (.cells #[.int .i64 b.kind,.bool b.truth,.int .i64 b.num,.string b.text] 75)).alloc (.cells #[.int .i64 0,.bool false,.int .i64 0,.string ⟨#[]⟩] 75)))
  generalize hX:z2g x.text a=X at*
  clear hX
  go_enter Tryz.func82,Tryz.ntmps82
  go_wp2_with fail
  refine HC.out.mono ?_
  rintro e w1 ⟨rfl,hB1⟩
  have hbx:=(hB1.block _ HZ.out).trans HX.out
  obtain⟨y0,y1,y2,y3,g0,g1,g2,g3⟩:=jt hbx
  obtain⟨z0,z1,z2,z3⟩:=zE hbx (.int .i64 X.kind) (.bool X.truth) (.int .i64 X.num) (.string X.text)
  have HB2:=z8 (zU (HB0.out.trans (hB1.mono HZ1.out)) HG.out (.int .i64 X.kind) (.bool X.truth) (.int .i64 X.num) (.string X.text))
  clear hbx hB1
  go_wp2_with fail
  refine bodyPost_ret (v:= .agg #[.int .i64 X.kind,.bool X.truth,.int .i64 X.num,.string X.text]) (by simp [results,Tryz.results82,go_sem,z0,z1,z2,z3]) rfl ?_
  exact⟨by rw [hres.out],HB2.out⟩
 cases f6:(x.form==6)
 case true=>
  have hres:Hid (wOf l x a b=jE x.text a b):=z8 (by unfold wOf;rw [f0,f1,f2,f3,f4,f5,f6];rfl)
  have HC:=z8 (z4R x.text a b ((((w.alloc (.cells #[.int .i64 x.form,.int .i64 x.place,.string x.text,.int .i64 x.left,.int .i64 x.right] 120)).alloc (.cells #[.int .i64 a.kind,.bool a.truth,.int .i64 a.num,.string a.text] 75)).alloc (.cells #[.int .i64 b.kind,.bool b.truth,.int .i64 b.num,.string b.text] 75)).alloc (.cells #[.int .i64 0,.bool false,.int .i64 0,.string ⟨#[]⟩] 75)) ha hb)
  generalize hX:jE x.text a b=X at*
  clear hX
  go_enter Tryz.func82,Tryz.ntmps82
  go_wp2_with fail
  refine HC.out.mono ?_
  rintro e w1 ⟨rfl,hB1⟩
  have hbx:=(hB1.block _ HZ.out).trans HX.out
  obtain⟨y0,y1,y2,y3,g0,g1,g2,g3⟩:=jt hbx
  obtain⟨z0,z1,z2,z3⟩:=zE hbx (.int .i64 X.kind) (.bool X.truth) (.int .i64 X.num) (.string X.text)
  have HB2:=z8 (zU (HB0.out.trans (hB1.mono HZ1.out)) HG.out (.int .i64 X.kind) (.bool X.truth) (.int .i64 X.num) (.string X.text))
  clear hbx hB1
  go_wp2_with fail
  refine bodyPost_ret (v:= .agg #[.int .i64 X.kind,.bool X.truth,.int .i64 X.num,.string X.text]) (by simp [results,Tryz.results82,go_sem,z0,z1,z2,z3]) rfl ?_
  exact⟨by rw [hres.out],HB2.out⟩
 cases f7:(x.form==7)
 case true=>
  have hres:Hid (wOf l x a b=a):=z8 (by unfold wOf;rw [f0,f1,f2,f3,f4,f5,f6,f7];rfl)
  go_enter Tryz.func82,Tryz.ntmps82
  go_wp2_with fail
  refine bodyPost_ret (v:= .agg #[.int .i64 a.kind,.bool a.truth,.int .i64 a.num,.string a.text]) (by simp [results,Tryz.results82,go_sem]) rfl ?_
  refine⟨by rw [hres.out],?_⟩
  have q:=zgR w.heap.size w
  exact(((q.alloc (zgH _) _).alloc (by simp<;>omega) _).alloc (by simp<;>omega) _).alloc (by simp<;>omega) _
 have hres:Hid (wOf l x a b=z2F):=z8 (by unfold wOf;rw [f0,f1,f2,f3,f4,f5,f6,f7];rfl)
 go_enter Tryz.func82,Tryz.ntmps82
 go_wp2_with fail
 refine bodyPost_ret (v:= .agg #[.int .i64 0,.bool false,.int .i64 0,.string ⟨#[]⟩]) (by simp [results,Tryz.results82,go_sem]) rfl ?_
 exact⟨by rw [hres.out];rfl,HB0.out⟩
def zf (l:List (zgS×zgS)):List Ex→List Wt→List Wt
 |[],ws=>ws
 |x::xs,ws=>zf l xs (ws++[wOf l x (wAt ws x.left) (wAt ws x.right)])
theorem jU (l:List (zgS×zgS)): ∀(xs ys:List Ex) (ws:List Wt),zf l (xs++ys) ws=zf l ys (zf l xs ws):=by
 intro xs
 induction xs with
 |nil=>intro ys ws;rfl
 |cons x xs ih=>intro ys ws;exact ih ys _
theorem ji (l:List (zgS×zgS)): ∀(xs:List Ex) (ws:List Wt),(zf l xs ws).length=ws.length+xs.length:=by
 intro xs
 induction xs with
 |nil=>intro ws;rfl
 |cons x xs ih=>intro ws;unfold zf;rw [ih];simp;omega
theorem z0M (l:List (zgS×zgS)): ∀(xs:List Ex) (ws:List Wt),∃us,zf l xs ws=ws++us:=by
 intro xs
 induction xs with
 |nil=>intro ws;exact⟨[],by simp [zf]⟩
 |cons x xs ih=>
  intro ws
  obtain⟨us,h⟩:=ih (ws++[wOf l x (wAt ws x.left) (wAt ws x.right)])
  exact⟨_,by unfold zf;rw [h,List.append_assoc]⟩
theorem z32 (l:List (zgS×zgS)){E:List Ex}{i:Nat}{x:Ex}(h:E[i]?=some x):
  zf l (E.take (i+1)) []=zf l (E.take i) []++[wOf l x (wAt (zf l (E.take i) []) x.left) (wAt (zf l (E.take i) []) x.right)]:=by
 rw [List.take_add_one,h,jU]
 rfl
theorem z6X (l:List (zgS×zgS))(E:List Ex)(i:Nat): ∀x∈zf l (E.take i) [],x∈zf l E []:=by
 intro x hx
 obtain⟨us,h⟩:=z0M l (E.drop i) (zf l (E.take i) [])
 rw [←jU,List.take_append_drop] at h
 rw [h]
 exact List.mem_append_left _ hx
theorem z6H (ws:List Wt)(i:Int):wAt ws i=z2F∨wAt ws i∈ws:=by
 unfold wAt
 split
 ·exact .inl rfl
 ·by_cases h:i.toNat<ws.length
  ·exact .inr (by simp [List.getD,h])
  ·exact .inl (by simp [List.getElem?_eq_none (Nat.le_of_not_lt h)])
theorem z7N {ws:List Wt}{m:Nat}(h: ∀x∈ws,x.text.size≤m)(i:Int):(wAt ws i).text.size≤m:=by
 rcases z6H ws i with e|e
 ·rw [e];exact zgO _
 ·exact h _ e
theorem info75:(Tryz.prog.info? 75).map (fun i=>(i.zero,i.size,i.bytes))=some (some (.agg #[.int .i64 0,.bool false,.int .i64 0,.string ⟨#[]⟩]),4,40):=by kernel_rfl
def zc0 (W:List Wt)(w:World)(e:Ending)(w':World):Prop:= ∃v,e= .returned v∧w'.ownsRow w.heap.size 75 4 v W.length ((W.map Wt.cells).flatten)∧Below w.heap.size w w'
theorem z4s (base b o lb:Nat)(E:List Ex)(v5:Value)(l:List (zgS×zgS))(lv:Value)(w:World)(hc:w.cell? ⟨b,o+2,none⟩=some v5)(how:w.ownsRow base 120 5 v5 E.length ((E.map Ex.cells).flatten))(hlen:E.length≤100000)
  (hl:w.ownsRow lb 123 2 lv l.length ((l.map zA).flatten)) (hll:l.length≤100000) (hls: ∀p∈l,p.2.size≤600) (hE: ∀x∈E,x.text.size≤600) (hW: ∀x∈zf l E [],x.text.size≤100000000):
  Calls Tryz.prog 42 #[.pointer (some ⟨b,o,none⟩),lv] w fun e w'=>zc0 (zf l E []) w e w':=by
 obtain⟨a5,k5,rfl⟩:=za how
 obtain⟨al,kl,rfl⟩:=za hl
 have hblt:=zd hc
 obtain⟨i0,hi,hz0,hz1,hz2⟩:=info_parts info75
 have hmade:=World.ownsRow_made (base:=w.heap.size) (e:=75) (size:=4) w #[] 0 (zgH _) (by decide) (by simp)
 have hB0:Below w.heap.size w (w.alloc (.cells #[] 75)):=(zgR _ _).alloc (zgH _) _
 have HM:=z8 hmade
 have HB0:=z8 hB0
 have HW:=z8 how
 have HL:=z8 hl
 have HS:=z8 (zgI hE hW)
 clear hmade hB0 how hl hE hW
 go_enter Tryz.func42,Tryz.ntmps42
 go_wp2_with fail
 go_loopg [5,6] (E.length+1) (fun k tv iv wr=> ∃(i:Nat),k+i=E.length+1∧i≤E.length∧iv= .int .i64 i∧Hid (wr.ownsRow w.heap.size 75 4 tv i (((zf l (E.take i) []).map Wt.cells).flatten))∧Below w.heap.size w wr)
 case atStart=>exact⟨0,rfl,zgO _,rfl,z8 HM.out,HB0.out⟩
 case round=>
  obtain⟨i,hk,hiE,rfl,HOWN,hbel⟩:=hrel
  have hc':wr.cell? ⟨b,o+2,none⟩=some (.slice a5 E.length k5):=(hbel.cell (p:=⟨b,o+2,none⟩) hblt).trans hc
  have hHK:=z8 hk
  clear hk
  obtain⟨ag,kg,rfl⟩:=za HOWN.out
  by_cases hlt:i<E.length
  ·obtain⟨g,cap,hv,hb,hg⟩:=HW.out.form (by omega)
   injection hv with e1 e2 e3
   subst e1 e3
   obtain⟨x,hx⟩: ∃x,E[i]?=some x:=⟨E[i],zgE hlt⟩
   have hcell: ∀j u,x.cells[j]?=some u→j<5→wr.cell? ⟨g,i*5+j,none⟩=some u:=fun j u hu hj=>by
    rw [hbel.cell (p:=⟨g,i*5+j,none⟩) hg]
    exact zl HW.out _ _ ((zS Ex.cells 5 Ex.cells_len E i j x hx hj).trans hu)
   have q0:wr.cell? ⟨g,i*5,none⟩=some (.int .i64 x.form):=hcell 0 _ rfl (by omega)
   have q1:=hcell 1 _ rfl (by omega)
   have q2:=hcell 2 _ rfl (by omega)
   have q3:=hcell 3 _ rfl (by omega)
   have q4:=hcell 4 _ rfl (by omega)
   have hlt':(i:Int)<E.length:=by omega
   have hst:=z8 (z32 l hx)
   have hxs:=HS.out.1 x (zgM hx)
   have hus: ∀y∈zf l (E.take i) [],y.text.size≤100000000:=fun y hy=>HS.out.2 y (z6X l E i y hy)
   have hul:(zf l (E.take i) []).length=i:=by rw [ji];simp;omega
   have HUL:=z8 hul
   have hsl:=z7N hus x.left
   have hsr:=z7N hus x.right
   clear hul hus hx hcell
   generalize zf l (E.take i) []=U at*
   have hsz:=z8 hbel.size
   have hB1:=z8 (hbel.alloc hbel.size (.cells #[.int .i64 x.form,.int .i64 x.place,.string x.text,.int .i64 x.left,.int .i64 x.right] 120))
   have hown0:wr.ownsRow w.heap.size 75 4 (.slice ag i kg) U.length ((U.map Wt.cells).flatten):=by rw [HUL.out];exact HOWN.out
   have hown1:=z8 (hown0.alloc (.cells #[.int .i64 x.form,.int .i64 x.place,.string x.text,.int .i64 x.left,.int .i64 x.right] 120))
   have hl1:=z8 ((zc HL.out fun k e=>hbel.block k (HL.out.lt k e).2).alloc (.cells #[.int .i64 x.form,.int .i64 x.place,.string x.text,.int .i64 x.left,.int .i64 x.right] 120))
   have hwl:=z8 hbel
   clear hbel hown0
   have hbx0:=z8 (heap_alloc_new wr (.cells #[.int .i64 x.form,.int .i64 x.place,.string x.text,.int .i64 x.left,.int .i64 x.right] 120))
   go_wp2_with fail
   refine(z0B w.heap.size U _ _ _ hown1.out (by have:=HUL.out;omega)).mono ?_
   rintro e w1 ⟨rfl,hb1⟩
   generalize wAt U x.left=A at*
   have hs1:wr.heap.size+1≤w1.heap.size:=by have:=hb1.size;simpa using this
   have hbx1:=(hb1.block wr.heap.size (by simp)).trans hbx0.out
   have p3:w1.cell? ⟨wr.heap.size,3,none⟩=some (.int .i64 x.left):=by simp [World.cell?,hbx1]
   have hbx1':(w1.alloc (.cells #[.int .i64 A.kind,.bool A.truth,.int .i64 A.num,.string A.text] 75)).heap[wr.heap.size]?=_:=(zgJ _ _ _ (by omega)).trans hbx1
   have p4':(w1.alloc (.cells #[.int .i64 A.kind,.bool A.truth,.int .i64 A.num,.string A.text] 75)).cell? ⟨wr.heap.size,4,none⟩=some (.int .i64 x.right):=by simp only [World.cell?,hbx1'];rfl
   have hn1:wr.heap.size≠w1.heap.size:=by omega
   have p4:w1.cell? ⟨wr.heap.size,4,none⟩=some (.int .i64 x.right):=by simp [World.cell?,hbx1]
   clear hbx1'
   have hown2:=z8 ((zc hown1.out fun k e=>hb1.block k (hown1.out.lt k e).2).alloc (.cells #[.int .i64 A.kind,.bool A.truth,.int .i64 A.num,.string A.text] 75))
   have hl2:=z8 ((zc hl1.out fun k e=>hb1.block k (hl1.out.lt k e).2).alloc (.cells #[.int .i64 A.kind,.bool A.truth,.int .i64 A.num,.string A.text] 75))
   have hB2:=z8 ((hB1.out.trans (hb1.mono (by simp;have:=hsz.out;omega))).alloc (by have:=hsz.out;omega) (.cells #[.int .i64 A.kind,.bool A.truth,.int .i64 A.num,.string A.text] 75))
   have HBX1:=z8 hbx1
   have hA2:=z8 (heap_alloc_new w1 (.cells #[.int .i64 A.kind,.bool A.truth,.int .i64 A.num,.string A.text] 75))
   clear hb1 hbx1 hbx0
   go_wp2_with fail
   refine(z0B w.heap.size U _ _ _ hown2.out (by have:=HUL.out;omega)).mono ?_
   rintro e w2 ⟨rfl,hb2⟩
   generalize wAt U x.right=B at*
   have hs2:w1.heap.size+1≤w2.heap.size:=by have:=hb2.size;simpa using this
   have hbx2:w2.heap[wr.heap.size]?=_:=(hb2.block wr.heap.size (by simp;omega)).trans ((zgJ _ _ _ (by omega)).trans HBX1.out)
   have hA3:w2.heap[w1.heap.size]?=_:=(hb2.block w1.heap.size (by simp)).trans hA2.out
   have hbx2':(w2.alloc (.cells #[.int .i64 B.kind,.bool B.truth,.int .i64 B.num,.string B.text] 75)).heap[wr.heap.size]?=_:=(zgJ _ _ _ (by omega)).trans hbx2
   have hA3':(w2.alloc (.cells #[.int .i64 B.kind,.bool B.truth,.int .i64 B.num,.string B.text] 75)).heap[w1.heap.size]?=_:=(zgJ _ _ _ (by omega)).trans hA3
   have r0:(w2.alloc (.cells #[.int .i64 B.kind,.bool B.truth,.int .i64 B.num,.string B.text] 75)).cell? ⟨wr.heap.size,0,none⟩=some (.int .i64 x.form):=by simp only [World.cell?,hbx2'];rfl
   have r1:(w2.alloc (.cells #[.int .i64 B.kind,.bool B.truth,.int .i64 B.num,.string B.text] 75)).cell? ⟨wr.heap.size,1,none⟩=some (.int .i64 x.place):=by simp only [World.cell?,hbx2'];rfl
   have r2:(w2.alloc (.cells #[.int .i64 B.kind,.bool B.truth,.int .i64 B.num,.string B.text] 75)).cell? ⟨wr.heap.size,2,none⟩=some (.string x.text):=by simp only [World.cell?,hbx2'];rfl
   have r3:(w2.alloc (.cells #[.int .i64 B.kind,.bool B.truth,.int .i64 B.num,.string B.text] 75)).cell? ⟨wr.heap.size,3,none⟩=some (.int .i64 x.left):=by simp only [World.cell?,hbx2'];rfl
   have r4:(w2.alloc (.cells #[.int .i64 B.kind,.bool B.truth,.int .i64 B.num,.string B.text] 75)).cell? ⟨wr.heap.size,4,none⟩=some (.int .i64 x.right):=by simp only [World.cell?,hbx2'];rfl
   obtain⟨s0,s1,s2,s3,_,_,_,_⟩:=jt hA3'
   clear hbx2' hA3'
   have hn2:wr.heap.size≠w2.heap.size:=by omega
   have hn3:w1.heap.size≠w2.heap.size:=by omega
   clear p4'
   have hown3:=z8 ((zc hown2.out fun k e=>hb2.block k (hown2.out.lt k e).2).alloc (.cells #[.int .i64 B.kind,.bool B.truth,.int .i64 B.num,.string B.text] 75))
   have hl3:=z8 ((zc hl2.out fun k e=>hb2.block k (hl2.out.lt k e).2).alloc (.cells #[.int .i64 B.kind,.bool B.truth,.int .i64 B.num,.string B.text] 75))
   have hB3:=z8 ((hB2.out.trans (hb2.mono (by simp;have:=hsz.out;omega))).alloc (by have:=hsz.out;omega) (.cells #[.int .i64 B.kind,.bool B.truth,.int .i64 B.num,.string B.text] 75))
   clear hb2 hbx2 hA3
   go_wp2_with fail
   refine(z6M lb l _ x A B _ hl3.out hll hls hxs (by omega) (by omega)).mono ?_
   rintro e w3 ⟨rfl,hb3⟩
   have hs3:w2.heap.size+1≤w3.heap.size:=by have:=hb3.size;simpa using this
   generalize wOf l x A B=O at*
   have hown4:=zc hown3.out fun k e=>hb3.block k (hown3.out.lt k e).2
   rw [HUL.out] at hown4
   have HB4:=z8 (hB3.out.trans (hb3.mono (by simp;have:=hsz.out;omega)))
   have hw4:w.heap.size≤w3.heap.size:=by have:=hsz.out;omega
   have hl100:i≤100000:=by omega
   clear hb3
   go_wp2_with (at_builtin;go_must (refine wpList_append_lies _ rfl (.tmp 41) (.tmp 43) 72 rfl w.heap.size 75 i0 _ 4 40 Tryz.underlying72 hi hz0 hz1 hz2 rfl (by omega) _ i _ rfl ((hown4.alloc _).alloc _) ⟨w3.heap.size+1,0,none⟩ 1 1 (Wt.cells O) rfl rfl ?news ?one (by omega) ?mm ?bys ?base (w3.heap.size+2) (by simp) ?rest))
   case news=>exact z3N _ _ (by simp) #[.int .i64 O.kind,.bool O.truth,.int .i64 O.num,.string O.text] 75
   case one=>intro u hu;simp [Wt.cells] at hu;rcases hu with rfl|rfl|rfl|rfl<;>rfl
   case mm=>unfold maxLen;omega
   case bys=>omega
   case base=>simp;omega
   case rest=>
    intro gb cap w4 hown5 hgrow hat hlt2
    have hB5:=z8 (Below.grown ((HB4.out.alloc hw4 _).alloc (by simp;omega) _) hgrow (by simp;omega) fun k e=>(hown4.lt k e).1)
    have hown6:Hid (w4.ownsRow w.heap.size 75 4 (.slice (some ⟨gb,0,none⟩) (i+1) cap) (i+1) (((zf l (E.take (i+1)) []).map Wt.cells).flatten)):=z8 (by rw [hst.out];simpa using hown5)
    clear hown5 hgrow hat
    go_wp2_with fail
    have hk:=hHK.out
    go_roundg (E.length - i)
    case measure=>omega
    case rel=>exact⟨i+1,by omega,by omega,by go_num,hown6,hB5.out⟩
  ·have hlt': ¬(i:Int)<E.length:=by omega
   have hiE':i=E.length:=by omega
   have hfin:wr.ownsRow w.heap.size 75 4 (.slice ag i kg) (zf l E []).length (((zf l E []).map Wt.cells).flatten):=by
    have hq:=HOWN.out
    rw [ji]
    rw [hiE',List.take_length] at hq
    simpa [hiE'] using hq
   have HF:=z8 hfin
   have HBE:=z8 hbel
   clear hfin hiE' hbel
   go_wp2_with fail
   go_ret
   exact⟨_,rfl,HF.out,HBE.out⟩
def zbM (t:zgS)(w:World)(e:Ending)(w':World):Prop:=e= .returned (.string t)∧Below w.heap.size w w'
def prM (x:Wt):zgS:=
 if x.kind==1 then(if x.truth then⟨#[116,114,117,101]⟩ else⟨#[102,97,108,115,101]⟩)
 else if x.kind==2 then⟨(Lib.itoa x.num).toArray⟩ else if x.kind==3 then(⟨#[34]⟩++x.text)++⟨#[34]⟩ else⟨#[101,114,114,111,114]⟩
theorem z93 (xk:Int)(xb:Bool)(xn:Int)(xt:zgS)(w:World)(ht:Tab w)(hn: -999999999≤xn∧xn≤999999999)(hsz:xt.size≤900000000):
  Calls Tryz.prog 44 #[.agg #[.int .i64 xk,.bool xb,.int .i64 xn,.string xt]] w fun e w'=>zbM (prM ⟨xk,xb,xn,xt⟩) w e w':=by
 have hB:=(zgR w.heap.size w).alloc (zgH _) (.cells #[.int .i64 xk,.bool xb,.int .i64 xn,.string xt] 75)
 have HT:=z8 (ht.below hB)
 have HB:=z8 hB
 clear hB ht
 cases h1:(xk==1)
 case true=>
  cases xb
  case true=>
   have hres:Hid (prM ⟨xk,true,xn,xt⟩=⟨#[116,114,117,101]⟩):=z8 (by unfold prM;rw [h1];rfl)
   go_enter Tryz.func44,Tryz.ntmps44
   go_wp2_with fail
   go_ret
   exact⟨by rw [hres.out];rfl,HB.out⟩
  case false=>
   have hres:Hid (prM ⟨xk,false,xn,xt⟩=⟨#[102,97,108,115,101]⟩):=z8 (by unfold prM;rw [h1];rfl)
   go_enter Tryz.func44,Tryz.ntmps44
   go_wp2_with fail
   go_ret
   exact⟨by rw [hres.out];rfl,HB.out⟩
 cases h2:(xk==2)
 case true=>
  have hres:Hid (prM ⟨xk,xb,xn,xt⟩=⟨(Lib.itoa xn).toArray⟩):=z8 (by unfold prM;rw [h1,h2];rfl)
  have HC:=z8 (zab xn (by omega) (by omega) _ HT.out)
  go_enter Tryz.func44,Tryz.ntmps44
  go_wp2_with fail
  refine HC.out.mono ?_
  rintro e w1 ⟨rfl,hB1⟩
  generalize (⟨(Lib.itoa xn).toArray⟩:zgS)=D at*
  go_wp2_with fail
  go_ret
  exact⟨by rw [hres.out];rfl,HB.out.trans (hB1.mono (by simp))⟩
 cases h3:(xk==3)
 case true=>
  have hres:Hid (prM ⟨xk,xb,xn,xt⟩=(⟨#[34]⟩++xt)++⟨#[34]⟩):=z8 (by unfold prM;rw [h1,h2,h3];rfl)
  go_enter Tryz.func44,Tryz.ntmps44
  go_wp2_with fail
  go_ret
  exact⟨by rw [hres.out];rfl,HB.out⟩
 have hres:Hid (prM ⟨xk,xb,xn,xt⟩=⟨#[101,114,114,111,114]⟩):=z8 (by unfold prM;rw [h1,h2,h3];rfl)
 go_enter Tryz.func44,Tryz.ntmps44
 go_wp2_with fail
 go_ret
 exact⟨by rw [hres.out];rfl,HB.out⟩
theorem z72 (x:Wt)(w:World)(ht:Tab w)(hn: -999999999≤x.num∧x.num≤999999999)(hsz:x.text.size≤900000000):
  Calls Tryz.prog 44 #[.agg #[.int .i64 x.kind,.bool x.truth,.int .i64 x.num,.string x.text]] w fun e w'=>zbM (prM x) w e w':=z93 x.kind x.truth x.num x.text w ht hn hsz
def st1 (s:zgS):St:={st0 with at_:=skip s 0 false}
def zeo (s:zgS)(w:World)(r:Int)(st':St)(e:Ending)(w':World):Prop:= ∃V iv cv,e= .returned (.tuple #[.agg #[.string s,.int .i64 st'.at_,.bool (z29 s st'.at_ st'.bad),V 3,V 4,V 5,V 6],.int .i64 r])∧TreeV w' w.heap.size st' V iv cv∧Below w.heap.size w w'
theorem zaY {w:World}{b:Nat}{s:zgS}(hs:s.size≤600)
  (h:w.heap[b]?=some (.cells #[.string s,.int .i64 0,.bool false,.slice none 0 0,.slice none 0 0,.slice none 0 0,.slice none 0 0] 66)):Rd w b s 0 false:=by
 obtain⟨q0,q1,q2,_,_,_,_,qf⟩:=z9f h
 exact⟨q0,q1,q2,qf _,qf _,zgO _,hs⟩
theorem TreeV.re {w:World}{base:Nat}{st:St}{V:Nat→Value}{iv cv:List Value}(a:Nat)(d:Bool)(h:TreeV w base {at_:=a,bad:=d,A:=st.A,L:=st.L,E:=st.E,C:=st.C} V iv cv):TreeV w base st V iv cv:=⟨h.own,h.il,h.cl,h.items,h.clauses⟩
theorem z6d (s:zgS)(n:Nat)(r:Int)(st':St)(w:World)(hM:M s n 0 0 (st1 s)=some (r,st'))(hs:s.size≤600):
  Calls Tryz.prog 39 #[.string s] w fun e w'=>zeo s w r st' e w':=by
 have HM:=z8 hM
 clear hM
 have hg0:((w.alloc (.cells z28 66)).alloc (.cells #[.string s,.int .i64 0,.bool false,.slice none 0 0,.slice none 0 0,.slice none 0 0,.slice none 0 0] 66)).heap[w.heap.size+1]?=some (.cells #[.string s,.int .i64 0,.bool false,.slice none 0 0,.slice none 0 0,.slice none 0 0,.slice none 0 0] 66):=by
  have h:=heap_alloc_new (w.alloc (.cells z28 66)) (.cells #[.string s,.int .i64 0,.bool false,.slice none 0 0,.slice none 0 0,.slice none 0 0,.slice none 0 0] 66)
  simp only [World.alloc,Array.size_push] at h
  exact h
 have hI0:Inv (fun k=>k≤w.heap.size) ((w.alloc (.cells z28 66)).alloc (.cells #[.string s,.int .i64 0,.bool false,.slice none 0 0,.slice none 0 0,.slice none 0 0,.slice none 0 0] 66)) (w.heap.size+1) s st0:=z65 hs (by omega) hg0
 have hb0:((w.alloc (.cells z28 66)).alloc (.cells #[.string s,.int .i64 0,.bool false,.slice none 0 0,.slice none 0 0,.slice none 0 0,.slice none 0 0] 66)).heap[w.heap.size]?=some (.cells z28 66):=by
  rw [zgJ _ _ _ (by simp)]
  exact heap_alloc_new w _
 have hF0:Fr (fun k=>k<w.heap.size) w ((w.alloc (.cells z28 66)).alloc (.cells #[.string s,.int .i64 0,.bool false,.slice none 0 0,.slice none 0 0,.slice none 0 0,.slice none 0 0] 66)):=
  ((Fr.refl _ w).alloc (fun k h=>h) _).alloc (fun k h=>by have h:k<w.heap.size:=h;simp;omega) _
 unfold z28 at hI0 hb0 hF0
 have HH:=z8 (zgI hI0 (zgI hb0 hF0))
 clear hI0 hb0 hF0 hg0
 go_enter Tryz.func39,Tryz.ntmps39
 go_wp2_with fail
 obtain⟨hI0,hb0,hF0⟩:=HH.out
 clear HH
 generalize ((w.alloc (.cells #[.string ⟨#[]⟩,.int .i64 0,.bool false,.slice none 0 0,.slice none 0 0,.slice none 0 0,.slice none 0 0] 66)).alloc (.cells #[.string s,.int .i64 0,.bool false,.slice none 0 0,.slice none 0 0,.slice none 0 0,.slice none 0 0] 66))=W0 at*
 refine(z0Z _ _ _ _ _ hI0.rd).mono ?_
 rintro e w1 ⟨rfl,hr1,hs1⟩
 have hI1:Inv (fun k=>k≤w.heap.size) w1 (w.heap.size+1) s (st1 s):=hI0.sc hr1 hs1
 have hF1:=hs1.fr (X:=fun k=>k≤w.heap.size) (by omega)
 clear hr1 hs1
 go_wp2_with fail
 refine((zeW s n).1 _ _ _ w1 r st' HM.out hI1 (fun j h=>by have:=hI1.lt;have h:j≤w.heap.size:=h;omega)).mono ?_
 rintro e w2 ⟨rfl,hI2,hF2⟩
 have hF3:=hF1.trans hF2
 clear hI1 hF1 hF2 hI0
 go_wp2_with fail
 refine(z2X _ _ _ _ _ hI2.rd).mono ?_
 rintro e w3 ⟨rfl,hr3,hs3⟩
 have hI3:Inv (fun k=>k≤w.heap.size) w3 (w.heap.size+1) s {st' with at_:=st'.at_,bad:=z29 s st'.at_ st'.bad}:=hI2.sc hr3 hs3
 have hf:=hF3.trans (hs3.fr (X:=fun k=>k≤w.heap.size) (by omega))
 clear hs3 hF3 hI2
 obtain⟨c0,c1,c2,f1,f2,hle,hsz⟩:=id hr3
 obtain⟨V,iv,cv,g⟩:=hI3
 have q3:=g.rows.cell 3 (by omega) (by omega)
 have q4:=g.rows.cell 4 (by omega) (by omega)
 have q5:=g.rows.cell 5 (by omega) (by omega)
 have q6:=g.rows.cell 6 (by omega) (by omega)
 obtain⟨a3,k3,e3⟩:=za (g.rows.own 3 (by omega) (by omega))
 obtain⟨a4,k4,e4⟩:=za (g.rows.own 4 (by omega) (by omega))
 obtain⟨a5,k5,e5⟩:=za (g.rows.own 5 (by omega) (by omega))
 obtain⟨a6,k6,e6⟩:=za (g.rows.own 6 (by omega) (by omega))
 rw [e3] at q3
 rw [e4] at q4
 rw [e5] at q5
 rw [e6] at q6
 obtain⟨b0,b1,b2,b3,b4,b5,b6,bf⟩:=z9f ((hf.block w.heap.size (zgH _)).trans hb0)
 have hFw:=hF0.trans (hf.mono fun k (h:k<w.heap.size)=>Nat.le_of_lt h)
 have HE:=z8 (zgI e3 (zgI e4 (zgI e5 e6)))
 have HG:=z8 (zgI g hFw)
 clear e3 e4 e5 e6 g hf hFw hF0 HM hr3
 generalize hbd:z29 s st'.at_ st'.bad=bd at*
 have HBD:=z8 hbd
 clear hbd
 go_wp2_with fail
 refine bodyPost_ret (v:= .tuple #[.agg #[.string s,.int .i64 st'.at_,.bool bd,.slice a3 (nOf {at_:=st'.at_,bad:=bd,A:=st'.A,L:=st'.L,E:=st'.E,C:=st'.C} 3) k3,.slice a4 (nOf {at_:=st'.at_,bad:=bd,A:=st'.A,L:=st'.L,E:=st'.E,C:=st'.C} 4) k4,.slice a5 (nOf {at_:=st'.at_,bad:=bd,A:=st'.A,L:=st'.L,E:=st'.E,C:=st'.C} 5) k5,.slice a6 (nOf {at_:=st'.at_,bad:=bd,A:=st'.A,L:=st'.L,E:=st'.E,C:=st'.C} 6) k6],.int .i64 r]) ?_ rfl ⟨V,iv,cv,?_,?_,?_⟩
 ·simp [results,Tryz.results39,go_sem,b0,b1,b2,b3,b4,b5,b6]
 ·rw [HE.out.1,HE.out.2.1,HE.out.2.2.1,HE.out.2.2.2,HBD.out]
 ·exact TreeV.re (st:=st') st'.at_ bd (HG.out.1.tree (by omega) fun k hk=>by
   simp only [World.setCell,Array.getElem?_modify]
   repeat rw [if_neg (by omega)])
 ·have hFw:=HG.out.2
  exact((((((Below.setCell ⟨hFw.os,hFw.tape,hFw.output,hFw.size,hFw.block⟩ (zgH _) _).setCell (zgH _) _).setCell (zgH _) _).setCell (zgH _) _).setCell (zgH _) _).setCell (zgH _) _).setCell (zgH _) _
def z0o (t:zgS)(k:Int)(w:World)(e:Ending)(w':World):Prop:=e= .returned (.tuple #[.string t,.int .i64 k])∧Below w.heap.size w w'
def woM (s a:zgS)(r:Int)(st:St):zgS×Int:=
 if z29 s st.at_ st.bad then(⟨#[]⟩,2) else if tfM st.E [] != -1 then(⟨#[]⟩,5) else if(raM a).2 then(⟨#[]⟩,6) else(prM (wAt (zf (raM a).1 st.E []) r),0)
theorem z6P (s a:zgS)(n:Nat)(r:Int)(st:St)(w:World)(hM:M s n 0 0 (st1 s)=some (r,st))(hs:s.size≤600)(ha:a.size≤100)(hlen:st.E.length≤100000)
  (hll:(raM a).1.length≤100000) (hls: ∀p∈(raM a).1,p.2.size≤600) (hE: ∀x∈st.E,x.text.size≤600) (hW: ∀x∈zf (raM a).1 st.E [],x.text.size≤100000000∧ -999999999≤x.num∧x.num≤999999999) (ht:Tab w):
  Calls Tryz.prog 21 #[.string s,.string a] w fun e w'=>z0o (woM s a r st).1 (woM s a r st).2 w e w':=by
 have HR:=z8 (z6d s n r st w hM hs)
 have HW:=z8 (zgI hE hW)
 have hs': ¬(600:Int)<s.size:=by omega
 have ha': ¬(100:Int)<a.size:=by omega
 have HT:=z8 ht
 clear hM hE hW ht
 go_enter Tryz.func21,Tryz.ntmps21
 go_wp2_with fail
 refine HR.out.mono ?_
 rintro e w1 ⟨V,iv,cv,rfl,hT1,hB1⟩
 have hown:=hT1.own 5 (by omega) (by omega)
 obtain⟨a3,k3,e3⟩:=za (hT1.own 3 (by omega) (by omega))
 obtain⟨a4,k4,e4⟩:=za (hT1.own 4 (by omega) (by omega))
 obtain⟨a5,k5,e5⟩:=za hown
 obtain⟨a6,k6,e6⟩:=za (hT1.own 6 (by omega) (by omega))
 have hown:w1.ownsRow w.heap.size 120 5 (V 5) st.E.length ((st.E.map Ex.cells).flatten):=hown
 rw [e5] at hown
 rw [e3,e4,e5,e6]
 generalize nOf st 3=n3 at*
 generalize nOf st 4=n4 at*
 generalize hn5:nOf st 5=n5 at*
 generalize nOf st 6=n6 at*
 have hn5':Hid (n5=st.E.length):=z8 hn5.symm
 clear hn5 e3 e4 e5 e6 hT1 HR
 have hB1':=hB1
 cases hen:z29 s st.at_ st.bad
 case true=>
  have hres:Hid (woM s a r st=(⟨#[]⟩,2)):=z8 (by unfold woM;rw [hen];rfl)
  have HB:=z8 (hB1.alloc hB1.size (.cells #[.string s,.int .i64 st.at_,.bool true,.slice a3 n3 k3,.slice a4 n4 k4,.slice a5 n5 k5,.slice a6 n6 k6] 66))
  clear hB1 hB1'
  go_wp2_with fail
  go_ret2
  exact⟨by rw [hres.out];rfl,HB.out⟩
 have hB2:=hB1.alloc hB1.size (.cells #[.string s,.int .i64 st.at_,.bool false,.slice a3 n3 k3,.slice a4 n4 k4,.slice a5 n5 k5,.slice a6 n6 k6] 66)
 have hbx:=heap_alloc_new w1 (.cells #[.string s,.int .i64 st.at_,.bool false,.slice a3 n3 k3,.slice a4 n4 k4,.slice a5 n5 k5,.slice a6 n6 k6] 66)
 have hown2:=hown.alloc (.cells #[.string s,.int .i64 st.at_,.bool false,.slice a3 n3 k3,.slice a4 n4 k4,.slice a5 n5 k5,.slice a6 n6 k6] 66)
 rw [←hn5'.out] at hown2
 have hz1:w.heap.size≤w1.heap.size:=hB1.size
 have HX:=z8 (zgI hB2 (zgI hbx hown2))
 clear hB2 hbx hown2 hown hB1 hB1'
 go_wp2_with fail
 obtain⟨hB2,hbx,hown2⟩:=HX.out
 clear HX
 have hzz:(w1.alloc (.cells #[.string s,.int .i64 st.at_,.bool false,.slice a3 n3 k3,.slice a4 n4 k4,.slice a5 n5 k5,.slice a6 n6 k6] 66)).heap.size=w1.heap.size+1:=by simp
 generalize (w1.alloc (.cells #[.string s,.int .i64 st.at_,.bool false,.slice a3 n3 k3,.slice a4 n4 k4,.slice a5 n5 k5,.slice a6 n6 k6] 66))=W2 at*
 obtain⟨b0,b1,b2,b3,b4,b5,b6,bf⟩:=z9f hbx
 have hown3:W2.ownsRow w.heap.size 120 5 (.slice a5 n5 k5) st.E.length ((st.E.map Ex.cells).flatten):=by rw [←hn5'.out];exact hown2
 refine(z2A w.heap.size w1.heap.size st.E _ W2 b5 hown3 hlen).mono ?_
 rintro e w3 ⟨rfl,hB3⟩
 cases htf:(tfM st.E [] != -1)
 case true=>
  have hres:Hid (woM s a r st=(⟨#[]⟩,5)):=z8 (by unfold woM;rw [hen,htf];rfl)
  have HB:=z8 (hB2.trans (hB3.mono (by omega)))
  clear hB3 hB2
  go_wp2_with fail
  go_ret2
  exact⟨by rw [hres.out];rfl,HB.out⟩
 have hB23:=hB2.trans (hB3.mono (by omega))
 have hbx3:=(hB3.block w1.heap.size (by omega)).trans hbx
 have hown4:=zc hown3 fun k e=>hB3.block k (hown3.lt k e).2
 have hz3:w1.heap.size<w3.heap.size:=by have:=hB3.size;omega
 have HX:=z8 (zgI hB23 (zgI hbx3 hown4))
 clear hB2 hB3 hbx hown3 hown2 hB23 hbx3 hown4 b0 b1 b2 b3 b4 b5 b6 bf
 have HR6:Hid ((raM a).2=true→woM s a r st=(⟨#[]⟩,6)):=z8 (fun h=>by unfold woM;rw [hen,htf,h];rfl)
 have HR0:Hid ((raM a).2=false→woM s a r st=(prM (wAt (zf (raM a).1 st.E []) r),0)):=z8 (fun h=>by unfold woM;rw [hen,htf,h];rfl)
 generalize tfM st.E []=tf at*
 go_wp2_with fail
 refine(z2m a w3 (by omega)).mono ?_
 rintro e w4 ⟨lv,rfl,hl4,hB4⟩
 obtain⟨hB23,hbx3,hown4⟩:=HX.out
 clear HX
 obtain⟨al,kl,rfl⟩:=za hl4
 cases hra:(raM a).2
 case true=>
  have hres:Hid (woM s a r st=(⟨#[]⟩,6)):=z8 (HR6.out hra)
  have HB:=z8 (hB23.trans (hB4.mono (by omega)))
  clear hB4 hB23
  go_wp2_with fail
  go_ret2
  exact⟨by rw [hres.out];rfl,HB.out⟩
 have hres:Hid (woM s a r st=(prM (wAt (zf (raM a).1 st.E []) r),0)):=z8 (HR0.out hra)
 clear HR6 HR0
 have hB24:=hB23.trans (hB4.mono (by omega))
 have hbx4:=(hB4.block w1.heap.size (by omega)).trans hbx3
 have hown5:=zc hown4 fun k e=>hB4.block k (hown4.lt k e).2
 have hz4:w1.heap.size<w4.heap.size:=by have:=hB4.size;omega
 have HX:=z8 (zgI hB24 (zgI hbx4 hown5))
 have HL:=z8 hl4
 clear hB4 hB23 hbx3 hown4 hB24 hbx4 hown5 hl4
 go_wp2_with fail
 obtain⟨hB24,hbx4,hown5⟩:=HX.out
 clear HX
 obtain⟨b0,b1,b2,b3,b4,b5,b6,bf⟩:=z9f hbx4
 refine(z4s w.heap.size w1.heap.size 3 w3.heap.size st.E _ (raM a).1 _ w4 b5 hown5 hlen HL.out hll hls HW.out.1 (fun x hx=>(HW.out.2 x hx).1)).mono ?_
 rintro e w5 ⟨wv,rfl,hw5,hB5⟩
 have hB25:=hB24.trans (hB5.mono (by omega))
 have hwl:(zf (raM a).1 st.E []).length≤100000:=by rw [ji];simpa using hlen
 have hbnd:(wAt (zf (raM a).1 st.E []) r).text.size≤100000000∧ -999999999≤(wAt (zf (raM a).1 st.E []) r).num∧(wAt (zf (raM a).1 st.E []) r).num≤999999999:=by
  rcases z6H (zf (raM a).1 st.E []) r with q|q
  ·rw [q];decide
  ·exact HW.out.2 _ q
 have HWA:=z8 (z0B w5.heap.size (zf (raM a).1 st.E []) wv r w5)
 obtain⟨aw,kw,hwv⟩:=za hw5
 have HW5:=z8 (z0B w4.heap.size (zf (raM a).1 st.E []) wv r w5 hw5 hwl)
 clear HWA
 generalize (zf (raM a).1 st.E [])=WW at*
 subst hwv
 have HX:=z8 hB25
 clear hB25 hB24 hB5 hw5 hbx4 hown5 b0 b1 b2 b3 b4 b5 b6 bf
 go_wp2_with fail
 refine HW5.out.mono ?_
 rintro e w6 ⟨rfl,hB6⟩
 generalize wAt WW r=O at*
 have hz5:w.heap.size≤w5.heap.size:=HX.out.size
 have hz6:w5.heap.size≤w6.heap.size:=hB6.size
 have hB26:=HX.out.trans (hB6.mono hz5)
 have hB7:=hB26.alloc (by omega) (.cells #[.int .i64 O.kind,.bool O.truth,.int .i64 O.num,.string O.text] 75)
 have HC:=z8 (z72 O _ (HT.out.below hB7) hbnd.2 (by omega))
 have HB7:=z8 hB7
 clear hB7 hB26 hB6
 go_wp2_with fail
 refine HC.out.mono ?_
 rintro e w7 ⟨rfl,hB8⟩
 have HB8:=z8 (HB7.out.trans (hB8.mono (by simp;omega)))
 generalize prM O=D at*
 clear hB8
 go_wp2_with fail
 go_ret2
 exact⟨by rw [hres.out];rfl,HB8.out⟩
theorem z50 {u:zgS}(h:u.size=0):u=⟨#[]⟩:=by
 obtain⟨d⟩:=u
 have hd:d= #[]:=Array.eq_empty_of_size_eq_zero h
 rw [hd]
theorem z6Z {p:Int→Bool}{s:zgS}{d:Bool}{r:Nat}(hr:p (pk s r d)=false): ∀k a,a≤r→r≤a+k→(∀j,a≤j→j<r→p (pk s j d)=true)→run p s d k a=r:=by
 intro k
 induction k with
 |zero=>
   intro a h1 h2 _;have:a=r:=by omega
   subst this;rfl
 |succ k ih=>
  intro a h1 h2 h3
  unfold run
  by_cases hc:a=r
  ·subst hc;rw [if_neg (by simp [hr])]
  ·rw [if_pos (h3 a (zgH _) (by omega))]
   exact ih (a+1) (by omega) (by omega) fun j q1 q2=>h3 j (by omega) q2
theorem zbT (t:zgS):pk t t.size false= -1:=by simp [pk]
theorem jm {w:World}{g:Nat}{o:Obj}(h:w.heap[g]?=some o):g<w.heap.size:=(Array.getElem?_eq_some_iff.1 h).1
theorem z59 {op:zgS}(hs:jF op=true)(l:List UInt8)(hl:(l==[124,124]||l==[38,38]||l==[61,61]||l==[33,61]||l==[60]||l==[60,61]||l==[62]||l==[62,61]||l==[43]||l==[45]||l==[46]||l==[42]||l==[47]||l==[37])=false):(op.toList==l)=false:=by
 cases hq:(op.toList==l) with
 |false=>rfl
 |true=>
  have e:op.toList=l:=eq_of_beq hq
  unfold jF at hs
  rw [e] at hs
  rw [hs] at hl
  cases hl
theorem z3b (l:List (zgS×zgS))(E:List Ex)(i:Nat)(hi:i≤E.length):(zf l E []).take i=zf l (E.take i) []:=by
 obtain⟨us,h⟩:=z0M l (E.drop i) (zf l (E.take i) [])
 rw [←jU,List.take_append_drop] at h
 rw [h]
 have hl:(zf l (E.take i) []).length=i:=by rw [ji];simp;omega
 rw [List.take_append_of_le_length (by omega),List.take_of_length_le (by omega)]
theorem z9B (l:List (zgS×zgS)){E:List Ex}{i:Nat}{x:Ex}(h:E[i]?=some x):
  wAt (zf l E []) i=wOf l x (wAt (zf l (E.take i) []) x.left) (wAt (zf l (E.take i) []) x.right):=by
 have hi:=(zgF.1 h).1
 have h1:=z3b l E (i+1) (by omega)
 rw [z32 l h] at h1
 have hl:(zf l (E.take i) []).length=i:=by rw [ji];simp;omega
 have h2:(zf l E [])[i]?=some (wOf l x (wAt (zf l (E.take i) []) x.left) (wAt (zf l (E.take i) []) x.right)):=by
  have h3:((zf l E []).take (i+1))[i]?=(zf l E [])[i]?:=List.getElem?_take_of_lt (by omega)
  rw [←h3,h1,List.getElem?_append_right (by omega),hl]
  simp
 generalize wOf l x (wAt (zf l (E.take i) []) x.left) (wAt (zf l (E.take i) []) x.right)=R at h2 ⊢
 unfold wAt
 rw [if_neg (by omega)]
 simp [List.getD,h2]
theorem z3r (l:List (zgS×zgS))(E:List Ex){i j:Nat}(hi:i≤E.length)(hj:j<i):wAt (zf l (E.take i) []) (j:Int)=wAt (zf l E []) (j:Int):=by
 rw [←z3b l E i hi]
 unfold wAt
 rw [if_neg (by omega),if_neg (by omega)]
 simp only [List.getD]
 rw [show((j:Int)).toNat=j by omega,List.getElem?_take_of_lt hj]
theorem RefEX.le {X:Nat→Prop}{w:World}{E:List Ex}: ∀{f:Nat} {v:Value} {a i:Nat},RefEX X w E f v a i→a≤i:=by
 intro f
 induction f with
 |zero=>intro v a i h;exact absurd h id
 |succ f ih=>
  intro v a i h
  obtain⟨x,hx,h⟩:=h
  rcases h with⟨_,h,_⟩|⟨_,h,_⟩|⟨_,h,_⟩|⟨_,h,_⟩|⟨_,h,_⟩|⟨_,v1,j,h2,_,_,h5⟩|⟨_,v1,v2,j,k,h2,_,_,_,h6,h7⟩
  ·omega
  ·omega
  ·omega
  ·omega
  ·omega
  ·have:=ih h5;omega
  ·have:=ih h6;have:=ih h7;omega
def Rng (E:List Ex):Nat→Nat→Nat→Prop
 |0,_,_=>False
 |f+1,a,i=> ∃x,E[i]?=some x∧((0≤x.form∧x.form≤4∧a=i)∨(x.form=5∧ ∃j:Nat,i=j+1∧x.left=(j:Int)∧Rng E f a j)∨
   (x.form=6∧ ∃j k:Nat,i=k+1∧x.left=(j:Int)∧x.right=(k:Int)∧Rng E f a j∧Rng E f (j+1) k))
theorem RefEX.rng {X:Nat→Prop}{w:World}{E:List Ex}: ∀{f:Nat} {v:Value} {a i:Nat},RefEX X w E f v a i→Rng E f a i:=by
 intro f
 induction f with
 |zero=>intro v a i h;exact absurd h id
 |succ f ih=>
  intro v a i h
  obtain⟨x,hx,h⟩:=h
  refine⟨x,hx,?_⟩
  rcases h with⟨h1,h,_⟩|⟨h1,h,_⟩|⟨h1,h,_⟩|⟨h1,h,_⟩|⟨h1,h,_⟩|⟨h1,v1,j,h2,h3,_,h5⟩|⟨h1,v1,v2,j,k,h2,h3,h4,_,h6,h7⟩
  ·exact .inl ⟨by omega,by omega,h⟩
  ·exact .inl ⟨by omega,by omega,h⟩
  ·exact .inl ⟨by omega,by omega,h⟩
  ·exact .inl ⟨by omega,by omega,h⟩
  ·exact .inl ⟨by omega,by omega,h⟩
  ·exact .inr (.inl ⟨h1,j,h2,h3,ih h5⟩)
  ·exact .inr (.inr ⟨h1,j,k,h2,h3,h4,ih h6,ih h7⟩)
theorem Rng.le {E:List Ex}: ∀{f a i:Nat},Rng E f a i→a≤i:=by
 intro f
 induction f with
 |zero=>intro a i h;exact absurd h id
 |succ f ih=>
  intro a i h
  obtain⟨x,hx,h⟩:=h
  rcases h with⟨_,_,h⟩|⟨_,j,h2,_,h5⟩|⟨_,j,k,h2,_,_,h6,h7⟩
  ·omega
  ·have:=ih h5;omega
  ·have:=ih h6;have:=ih h7;omega
theorem Rng.sub {E:List Ex}: ∀{f a i:Nat},Rng E f a i→ ∀p,a≤p→p≤i→ ∃f' a',Rng E f' a' p:=by
 intro f
 induction f with
 |zero=>intro a i h;exact absurd h id
 |succ f ih=>
  intro a i h p h1 h2
  by_cases hp:p=i
  ·exact⟨f+1,a,hp▸h⟩
  ·obtain⟨x,hx,h⟩:=h
   rcases h with⟨_,_,h⟩|⟨_,j,q2,_,q5⟩|⟨_,j,k,q2,_,_,q6,q7⟩
   ·omega
   ·exact ih q5 p h1 (by omega)
   ·by_cases hj:p≤j
    ·exact ih q6 p h1 hj
    ·exact ih q7 p (by omega) (by omega)
theorem z3v (n:Int):(z1n n).text.size=0:=by unfold z1n;split<;>rfl
theorem z7M (t:zgS):(nsM t).text.size=0:=by
 unfold nsM
 simp only
 split
 ·rfl
 ·exact z3v _
theorem z8a (t:zgS)(a b:Int):(z06 t a b).text.size=0:=by
 unfold z06
 repeat' split
 all_goals first|exact z3v _|rfl
theorem z8g (t:zgS)(x y:Wt):(jE t x y).text.size≤x.text.size+y.text.size:=by
 unfold jE
 repeat' split
 all_goals first|omega|(rw [z8a];omega)|(show(x.text++y.text).size≤_;rw [ByteArray.size_append];omega)|(show(0:Nat)≤_;omega)
theorem z8o (t:zgS)(x:Wt):(z2g t x).text.size≤x.text.size:=by
 unfold z2g
 repeat' split
 all_goals first|omega|(rw [z3v];omega)|(show(0:Nat)≤_;omega)
theorem Rng.size {E:List Ex}(l:List (zgS×zgS))(hls: ∀p∈l,p.2.size≤600)(hE: ∀x∈E,x.text.size≤600): ∀{f a i:Nat},Rng E f a i→(wAt (zf l E []) i).text.size≤600*(i+1 - a):=by
 intro f
 induction f with
 |zero=>intro a i h;exact absurd h id
 |succ f ih=>
  intro a i h
  obtain⟨x,hx,h⟩:=h
  have hi:=(zgF.1 hx).1
  have hxs:=hE x (zgM hx)
  have hvs:=z5S x.text 600 l hls
  rw [z9B l hx]
  rcases h with⟨h0,h4,h⟩|⟨hf,j,h2,h3,h5⟩|⟨hf,j,k,h2,h3,h4,h6,h7⟩
  ·subst h
   rw [show 600*(a+1 - a)=600 by omega]
   have hc:x.form=0∨x.form=1∨x.form=2∨x.form=3∨x.form=4:=by omega
   unfold wOf
   rcases hc with e|e|e|e|e
   ·rw [e];show(nsM x.text).text.size≤600;rw [z7M];omega
   ·rw [e];exact hxs
   ·rw [e];exact zgO _
   ·rw [e];exact hvs
   ·rw [e];show(nsM (z4G x.text l)).text.size≤600;rw [z7M];omega
  ·have e: ∀a b,wOf l x a b=z2g x.text a:=fun a b=>by unfold wOf;rw [hf];rfl
   rw [e,h3,z3r l E (by omega) (by omega)]
   have:=z8o x.text (wAt (zf l E []) (j:Int))
   have:=ih h5
   have:=h5.le
   omega
  ·have e: ∀a b,wOf l x a b=jE x.text a b:=fun a b=>by unfold wOf;rw [hf];rfl
   have hjk:=h7.le
   rw [e,h3,h4,z3r l E (by omega) (by omega),z3r l E (by omega) (by omega)]
   have:=z8g x.text (wAt (zf l E []) (j:Int)) (wAt (zf l E []) (k:Int))
   have:=ih h6
   have:=ih h7
   have:=h6.le
   omega
def z0X (x:Wt):Prop:= -999999999≤x.num∧x.num≤999999999
theorem z6B (n:Int):z0X (z1n n):=by
 unfold z1n
 split
 ·exact⟨by decide,by decide⟩
 ·constructor<;>simp only<;>omega
theorem z52:z0X z2F:=⟨by decide,by decide⟩
theorem z4Y (b:Bool):z0X (z1t b):=by show(-999999999:Int)≤0∧(0:Int)≤999999999;omega
theorem z6D (t:zgS):z0X (z8q t):=by show(-999999999:Int)≤0∧(0:Int)≤999999999;omega
theorem zby (t:zgS):z0X (nsM t):=by
 unfold nsM
 simp only
 split
 ·exact z52
 ·exact z6B _
theorem zb9 (t:zgS)(a b:Int):z0X (z06 t a b):=by
 unfold z06
 repeat' split
 all_goals first|exact z6B _|exact z52
theorem z08 {c:Prop} [Decidable c]{a b:Wt}(ha:z0X a)(hb:z0X b):z0X (if c then a else b):=by
 split
 ·exact ha
 ·exact hb
theorem zb0 (t:zgS){a b:Wt}(ha:z0X a)(hb:z0X b):z0X (jE t a b):=
 z08 ha (z08 (z08 ha hb) (z08 (z08 ha hb) (z08 hb (z08 (zb9 _ _ _) (z08 (z6D _) (z4Y _))))))
theorem zb6 (t:zgS){a:Wt}(ha:z0X a):z0X (z2g t a):=z08 ha (z08 (z4Y _) (z6B _))
theorem ze1 (l:List (zgS×zgS))(x:Ex){a b:Wt}(ha:z0X a)(hb:z0X b):z0X (wOf l x a b):=
 z08 (zby _) (z08 (z6D _) (z08 (z4Y _) (z08 (z6D _) (z08 (zby _) (z08 (zb6 _ ha) (z08 (zb0 _ ha hb) (z08 ha z52)))))))
theorem z8F (l:List (zgS×zgS)): ∀(xs:List Ex) (ws:List Wt),(∀y∈ws,z0X y)→ ∀y∈zf l xs ws,z0X y:=by
 intro xs
 induction xs with
 |nil=>intro ws h;exact h
 |cons x xs ih=>
  intro ws h
  have hat: ∀i,z0X (wAt ws i):=fun i=>by
   rcases z6H ws i with q|q
   ·rw [q];exact z52
   ·exact h _ q
  refine ih _ fun y hy=> ?_
  rcases List.mem_append.1 hy with q|q
  ·exact h y q
  ·simp at q;subst q;exact ze1 l x (hat _) (hat _)
theorem zdp {ws:List Wt}{y:Wt}(h:y∈ws): ∃p:Nat,p<ws.length∧y=wAt ws (p:Int):=by
 obtain⟨p,hp,rfl⟩:=List.getElem_of_mem h
 refine⟨p,hp,?_⟩
 unfold wAt
 rw [if_neg (by omega)]
 simp [List.getD,hp]
theorem z5z {E:List Ex}(l:List (zgS×zgS))(hls: ∀p∈l,p.2.size≤600)(hE: ∀x∈E,x.text.size≤600)(hlen:E.length≤100000)(hsz: ∀p:Nat,p<E.length→(wAt (zf l E []) (p:Int)).text.size≤600*(p+1)):
  ∀x∈zf l E [],x.text.size≤100000000∧ -999999999≤x.num∧x.num≤999999999:=by
 intro y hy
 refine⟨?_,z8F l E [] (fun y h=>by cases h) y hy⟩
 obtain⟨p,hp,rfl⟩:=zdp hy
 rw [ji] at hp
 simp at hp
 have:=hsz p hp
 omega
def z2r (s:zgS)(n p:Nat)(l:List (zgS×zgS)):Nat×Bool×List (zgS×zgS):=
 let v:=jh s p false
 paM s n v.1 (v.2.1||(zq v.2.2.1 l 0 != -1)) (l++[(v.2.2.1,v.2.2.2)])
def okP (s:zgS)(P:Nat×Bool×List (zgS×zgS)):List (zgS×zgS)×Bool:=(P.2.2,z29 s P.1 P.2.1)
theorem zbg {s:zgS}(h:s.size≠0):raM s=okP s (z2r s (s.size+1) 0 []):=by
 unfold raM z2r okP
 rw [if_neg h]
 simp [zq]
theorem zch (s:zgS)(n a:Nat)(l:List (zgS×zgS)):paM s n a true l=(a,true,l):=by
 cases n with
 |zero=>rfl
 |succ n=>unfold paM;rw [show(pk s a true==59)=false from rfl];rfl
theorem z9n (s:zgS)(n a:Nat)(l:List (zgS×zgS)):(okP s (paM s n a true l)).2=true:=by rw [zch];rfl
theorem z4V {s:zgS}{n a:Nat}{d:Bool}{l:List (zgS×zgS)}(h:(pk s a d==59)=false):paM s n a d l=(a,d,l):=by
 cases n with
 |zero=>rfl
 |succ n=>unfold paM;rw [h];rfl
theorem zev {s:zgS}{n a:Nat}{l:List (zgS×zgS)}(h:(pk s a false==59)=true):paM s (n+1) a false l=z2r s n (a+1) l:=by
 conv=>lhs;unfold paM
 rw [h];rfl
theorem z9o {s:zgS}{p:Nat}(h:(zt s (zi s p false).2.1 [61] (zi s p false).1).2=true):(jh s p false).2.1=true:=h
def z0j (s:zgS)(a:Nat):Nat:=run zG s false (s.size - a) a
theorem z7c (s:zgS)(a:Nat)(h:a≤s.size):zG (pk s (z0j s a) false)=false:=by
 unfold z0j
 have hle:=z3c zG (by decide) s false (s.size - a) a h
 cases hq:zG (pk s (run zG s false (s.size - a) a) false) with
 |false=>rfl
 |true=>
  have hlt:=(jT (s:=s) (a:=run zG s false (s.size - a) a) (d:=false) (fun e=>by rw [e] at hq;exact absurd hq (by decide))).2
  exfalso
  have key: ∀k a,run zG s false k a<a+k→zG (pk s (run zG s false k a) false)=false:=by
   intro k
   induction k with
   |zero=>intro a h;simp [run] at h
   |succ k ih=>
    intro a h
    unfold run at h ⊢
    by_cases hc:zG (pk s a false)=true
    ·rw [if_pos hc] at h ⊢
     exact ih (a+1) (by omega)
    ·rw [if_neg hc] at h ⊢
     simpa using hc
  have:=key (s.size - a) a (by omega)
  rw [this] at hq
  cases hq
theorem z91 {s:zgS}{a:Nat}(h:a≤s.size)(h20:z0j s a≤a+20):run zG s false 20 a=z0j s a:=by
 have hle:=z3c zG (by decide) s false (s.size - a) a h
 exact z6Z (z7c s a h) 20 a hle.1 h20 fun j h1 h2=>z6u zG s false _ a j h1 h2
theorem z6S {s:zgS}{a:Nat}(h:a≤s.size)(h20:a+20<z0j s a):run zG s false 20 a=a+20∧zG (pk s (a+20) false)=true:=by
 have hall: ∀j,a≤j→j<z0j s a→zG (pk s j false)=true:=fun j h1 h2=>z6u zG s false _ a j h1 h2
 refine⟨?_,hall _ (by omega) h20⟩
 have key: ∀k b,(∀j,b≤j→j<b+k→zG (pk s j false)=true)→run zG s false k b=b+k:=by
  intro k
  induction k with
  |zero=>intro b _;rfl
  |succ k ih=>
   intro b hb
   rw [z1q (hb b (zgH _) (by omega)),ih (b+1) fun j h1 h2=>hb j (by omega) (by omega)]
   omega
 exact key 20 a fun j h1 h2=>hall j h1 (by omega)
theorem z3U {s:zgS}{n p f:Nat}{l:List (zgS×zgS)}(hp:p≤s.size)(hw:zt s (zi s p false).2.1 [61] (zi s p false).1=(f,false))(hf:f≤s.size)(h:f+20<z0j s f):(okP s (z2r s n p l)).2=true:=by
 obtain⟨h1,h2⟩:=z6S hf h
 have hr:(jh s p false).1=f+20:=by unfold jh;simp only;rw [hw];exact h1
 have hd:(jh s p false).2.1=false:=by unfold jh;simp only;rw [hw]
 unfold z2r
 simp only
 rw [hr,hd]
 cases zq (jh s p false).2.2.1 l 0 != -1 with
 |true=>exact z9n _ _ _ _
 |false=>
  have hlt:=(jT (s:=s) (a:=f+20) (d:=false) (fun e=>by rw [e] at h2;exact absurd h2 (by decide))).2
  rw [show(false||false)=false from rfl,z4V (by
   cases hq:(pk s (f+20) false==59) with
   |false=>rfl
   |true=>
     have e:pk s (f+20) false=59:=by simpa using hq
     rw [e] at h2;exact absurd h2 (by decide))]
  simp [okP,z29,hlt]
theorem zaJ {s:zgS}{n p:Nat}{l:List (zgS×zgS)}(h:(zt s (zi s p false).2.1 [61] (zi s p false).1).2=true):(okP s (z2r s n p l)).2=true:=by
 unfold z2r
 simp only
 rw [z9o h]
 exact z9n _ _ _ _
theorem z57 {s:zgS}{n p:Nat}{l:List (zgS×zgS)}(h:(zq (zi s p false).2.2 l 0 != -1)=true):(okP s (z2r s n p l)).2=true:=by
 unfold z2r
 simp only
 rw [show(jh s p false).2.2.1=(zi s p false).2.2 from rfl,h,Bool.or_true]
 exact z9n _ _ _ _
theorem z5o {s:zgS}{n p f:Nat}{l:List (zgS×zgS)}(hw:zt s (zi s p false).2.1 [61] (zi s p false).1=(f,false))(hf:f≤s.size)(h20:z0j s f≤f+20)(hdup:(zq (zi s p false).2.2 l 0 != -1)=false):
  z2r s n p l=paM s n (z0j s f) false (l++[((zi s p false).2.2,s.extract f (z0j s f))]):=by
 have e:jh s p false=(z0j s f,false,(zi s p false).2.2,s.extract f (z0j s f)):=by
  unfold jh
  simp only
  rw [hw]
  simp only
  rw [z91 hf h20]
 unfold z2r
 rw [e]
 simp only
 rw [hdup]
 rfl
def zed (s:zgS)(w:World)(e:Ending)(w':World):Prop:= ∃a n k,e= .returned (.tuple #[.slice a n k,.bool (!(raM s).2)])∧Below w.heap.size w w'∧((raM s).2=false→w'.ownsRow w.heap.size 144 2 (.slice a n k) (raM s).1.length (((raM s).1.map zA).flatten))
theorem info144:(Tryz.prog.info? 144).map (fun i=>(i.zero,i.size,i.bytes))=some (some (.agg #[.string ⟨#[]⟩,.string ⟨#[]⟩]),2,32):=by kernel_rfl
theorem zfH {w:World}{g:Nat}{a b c:Value}{t:TypeId}(hh:w.heap[g]?=some (.cells #[a,b,c] t)):
  w.cell? ⟨g,0,none⟩=some a∧w.cell? ⟨g,1,none⟩=some b∧w.cell? ⟨g,2,none⟩=some c∧(∀o,w.frozen? ⟨g,o,none⟩=false):=by
 simp [World.cell?,World.frozen?,hh]
theorem zbA {w:World}{g:Nat}{s:zgS}{t:TypeId}(hs:s.size≤600)(h:w.heap[g]?=some (.cells #[.string s,.int .i64 0,.bool false] t)):Rd w g s 0 false:=by
 obtain⟨q0,q1,q2,qf⟩:=zfH h
 exact⟨q0,q1,q2,qf _,qf _,zgO _,hs⟩
theorem z4m (s:zgS)(w:World)(hs:s.size≤600):Calls Tryz.prog 54 #[.string s] w fun e w'=>zed s w e w':=by
 have hrd0:=zbA hs (heap_alloc_new w (.cells #[.string s,.int .i64 0,.bool false] 94))
 have hB0:=(zgR w.heap.size w).alloc (zgH _) (.cells #[.string s,.int .i64 0,.bool false] 94)
 have hz0:(w.alloc (.cells #[.string s,.int .i64 0,.bool false] 94)).heap.size=w.heap.size+1:=by simp
 have H0:=z8 (zgI hrd0 (zgI hB0 hz0))
 clear hrd0 hB0 hz0
 obtain⟨i0,hi,hz0',hz1,hz2⟩:=info_parts info144
 by_cases h0:s.size=0
 ·have hs0:=z50 h0
  subst hs0
  have hra:Hid (raM ⟨#[]⟩=([],false)):=z8 rfl
  go_enter Tryz.func54,Tryz.ntmps54
  go_wp2_with fail
  go_loopg [4,6] 1 (fun k lv mv wr=>lv= .slice none 0 0∧mv= .bool false∧wr=(w.alloc (.cells #[.string ⟨#[]⟩,.int .i64 0,.bool false] 94)))
  case atStart=>exact⟨rfl,rfl,rfl⟩
  case round=>
   obtain⟨rfl,rfl,rfl⟩:=hrel
   go_wp2_with fail
   go_quiet (fail)
   go_wp2_with fail
   go_ret2
   refine⟨none,0,0,by rw [hra.out];rfl,?_,fun _=>by rw [hra.out];exact⟨rfl,.inl ⟨rfl,rfl⟩⟩⟩
   have q:=(zgR w.heap.size w).alloc (zgH _) (.cells #[.string ⟨#[]⟩,.int .i64 0,.bool false] 94)
   exact⟨q.os,q.tape,q.output,q.size,q.block⟩
 ·have hne:(s.toList==([]:List UInt8))=false:=by
   rw [zgG]
   cases hq:(s.data.toList==([]:List UInt8)) with
   |false=>rfl
   |true=>simp at hq;exact absurd (show s.size=0 by simp [ByteArray.size,hq]) h0
  have hnl: ¬s.toList=[]:=by simpa using hne
  have hra:=z8 (zbg h0)
  generalize hP0:z2r s (s.size+1) 0 []=P0 at*
  have HP0:=z8 hP0
  clear hP0
  go_enter Tryz.func54,Tryz.ntmps54
  go_wp2_with fail
  obtain⟨hrd0,hB0,hz0⟩:=H0.out
  clear H0
  generalize (w.alloc (.cells #[.string s,.int .i64 0,.bool false] 94))=W0 at*
  go_loopg [4,6] (s.size+2) (fun k lv mv wr=> ∃(p:Nat) (d more:Bool) (l:List (zgS×zgS)) (a:Option Addr) (cap n:Nat),lv= .slice a l.length cap∧mv= .bool more∧Hid (wr.ownsRow (w.heap.size+1) 144 2 (.slice a l.length cap) l.length ((l.map zA).flatten))∧Hid (Below w.heap.size w wr)∧w.heap.size<wr.heap.size∧Hid (Rd wr w.heap.size s p d)∧l.length+k≤s.size+2∧s.size+1≤k+p∧p≤s.size∧
   Hid ((more=true∧d=false∧1≤k∧s.size≤n+p∧okP s (z2r s n p l)=okP s P0)∨(more=true∧d=true∧(okP s P0).2=true)∨(more=false∧d=false∧okP s P0=(l,false))))
  case atStart=>
   refine⟨0,false,true,[],none,0,s.size+1,rfl,by simp,z8 ?_,z8 hB0,by omega,z8 hrd0,by simp,by omega,by omega,z8 (.inl ⟨rfl,rfl,by omega,by omega,by rw [HP0.out]⟩)⟩
   exact⟨rfl,.inl ⟨rfl,rfl⟩⟩
  case round=>
   obtain⟨p,d,more,l,a,cap,n,rfl,rfl,HO,HB,hwz,HR,hlk,hkp,hps,HC⟩:=hrel
   cases more
   ·have hfin:d=false∧okP s P0=(l,false):=by
     rcases HC.out with⟨e,_⟩|⟨e,_⟩|⟨_,e1,e2⟩
     ·cases e
     ·cases e
     ·exact⟨e1,e2⟩
    obtain⟨hd,hfin⟩:=hfin
    subst hd
    have hra2:Hid (raM s=(l,false)):=z8 (by rw [hra.out,hfin])
    obtain⟨c0,c1,c2,f1,f2,_,_⟩:=HR.out
    clear hfin HC
    go_wp2_with fail
    go_quiet (fail)
    go_wp2_with fail
    go_ret2
    refine⟨a,l.length,cap,by rw [hra2.out];rfl,⟨HB.out.os,HB.out.tape,HB.out.output,HB.out.size,HB.out.block⟩,fun _=> ?_⟩
    rw [hra2.out]
    exact zu (zc HO.out fun k e=>rfl) (by omega)
   ·have hNm:=z8 (z0A w.heap.size p s d)
    rw [show z19 s p d=zi s p d from rfl] at hNm
    have HEQ:Hid (zi s p d=zi s p d):=z8 rfl
    obtain⟨vn,hvn⟩: ∃vn,zi s p d=vn:=⟨_,rfl⟩
    obtain⟨pn,dn,nm⟩:=vn
    rw [hvn] at hNm
    have HWd:=z8 (fun W h=>zN w.heap.size pn s ⟨#[61]⟩ dn W h (by decide))
    rw [show(ByteArray.mk #[61]).data.toList=[61] from rfl] at HWd
    obtain⟨uw,huw⟩: ∃uw,zt s dn [61] pn=uw:=⟨_,rfl⟩
    obtain⟨fr,du⟩:=uw
    rw [huw] at HWd
    simp only at hNm HWd
    have HV:=z8 (zgI hvn huw)
    clear hvn huw HEQ
    have hpn:pn≤s.size∧p≤pn:=by
     have q:=z3p (p:=zk) (by decide) (m:=8) (d:=d) hps
     have e:=HV.out.1
     unfold zi at e
     rw [e] at q
     exact⟨q.2,q.1⟩
    have hfr:fr≤s.size∧pn≤fr:=by
     have q:=z0g s dn [61] pn hpn.1
     rw [HV.out.2] at q
     exact⟨q.2,q.1⟩
    go_wp2_with fail
    refine(hNm.out _ HR.out).mono ?_
    rintro e w1 ⟨rfl,hr1,hs1⟩
    go_wp2_with fail
    refine(HWd.out _ hr1).mono ?_
    rintro e w2 ⟨rfl,hr2,hs2⟩
    have hs12:=hs1.trans hs2
    clear hs1 hs2 hr1 hNm HWd
    obtain⟨c0,c1,c2,f1,f2,_,_⟩:=id hr2
    have hB2:Below w.heap.size w w2:=⟨hs12.os.trans HB.out.os,hs12.tape.trans HB.out.tape,hs12.output.trans HB.out.output,by have:=hs12.size;have:=HB.out.size;omega,fun k hk=>(hs12.block k (by omega)).trans (HB.out.block k hk)⟩
    cases du
    case true=>
     have hbad:Hid ((raM s).2=true):=z8 (by
      rw [hra.out]
      rcases HC.out with⟨_,e1,_,_,e2⟩|⟨_,_,e2⟩|⟨e1,_⟩
      ·subst e1
       rw [←e2]
       exact zaJ (by rw [HV.out.1];simp only;rw [HV.out.2])
      ·exact e2
      ·cases e1)
     have HB2:=z8 hB2
     clear hB2
     go_wp2_with fail
     go_ret2
     exact⟨none,0,0,by rw [hbad.out];rfl,HB2.out,fun e=>by rw [hbad.out] at e;cases e⟩
    case false=>
    have hdn:d=false:=by
     cases d with
     |false=>rfl
     |true=>
      exfalso
      have q1:=HV.out.1
      have q2:zi s p true=(p,true,⟨#[]⟩):=z01 (ju rfl) (.inl rfl)
      rw [q2] at q1
      injection q1 with e1 e2
      injection e2 with e2 e3
      have q3:=HV.out.2
      rw [←e1,←e2] at q3
      rw [je (by show(-1:Int)≠_;decide)] at q3
      injection q3 with _ e4
      cases e4
    subst hdn
    have HFP:Hid (p+1≤fr):=z8 (by
     have q:=HV.out.2
     by_cases hc:pk s pn dn=((61:UInt8).toNat:Int)
     ·rw [z10 hc] at q
      injection q with q1 q2
      omega
     ·rw [je hc] at q
      injection q with q1 q2
      cases q2)
    have hcn:1≤gk∧s.size≤n+p∧okP s (z2r s n p l)=okP s P0:=by
     rcases HC.out with⟨_,_,e1,e2,e3⟩|⟨_,e1,_⟩|⟨e1,_⟩
     ·exact⟨e1,e2,e3⟩
     ·cases e1
     ·cases e1
    obtain⟨hg1,hnp,hnx⟩:=hcn
    have HNX:=z8 hnx
    have hO2:w2.ownsRow (w.heap.size+1) 144 2 (.slice a l.length cap) l.length ((l.map zA).flatten):=zc HO.out fun k e=>hs12.block k (by have:=(HO.out.lt k e).1;omega)
    have hz2w:w2.heap.size=wr.heap.size:=hs12.size
    have hw2z:w.heap.size<w2.heap.size:=by omega
    have HK2:=z8 (zgI hO2 hB2)
    clear hO2 hB2 hz2w hs12 HC hnx
    go_wp2_with fail
    clear c0 c1 c2 f1 f2
    go_loopw [] (fun wr2=> ∃k,Rd wr2 w.heap.size s k false∧Sc w.heap.size w2 wr2∧fr≤k∧Hid (run zG s false (s.size - k) k=z0j s fr)) (fun wr2=>s.size - atOf wr2 w.heap.size)
    case atStart=>exact⟨fr,hr2,Sc.refl _ _,zgH _,z8 rfl⟩
    case round=>
     rename_i wq _
     obtain⟨k,hk,hsc,hfk,hsk⟩:=hrel
     have hat:=z8 hk.atOf
     have hk':=hk
     obtain⟨c0,c1,c2,f1,f2,hks,_⟩:=hk
     by_cases hgo:zG (pk s k false)=true
     ·have hlt:=(jT (s:=s) (a:=k) (d:=false) (fun e=>by rw [e] at hgo;exact absurd hgo (by decide))).2
      have hlt':(k:Int)<s.size:=by omega
      have hpk:pk s k false=(s[k].toNat:Int):=by simp [pk,hlt]
      have hb1:((s[k].toNat:Int) !=59)=true:=by rw [hpk] at hgo;unfold zG at hgo;simp only [Bool.and_eq_true] at hgo;exact hgo.1.2
      have hb2:((s[k].toNat:Int) !=34)=true:=by rw [hpk] at hgo;unfold zG at hgo;simp only [Bool.and_eq_true] at hgo;exact hgo.2
      have hset:=hk'.setAt' (k+1) (k+1) (by omega) hlt
      have hst:Hid (run zG s false (s.size -(k+1)) (k+1)=z0j s fr):=z8 (by
       rw [←hsk.out,show s.size - k=(s.size -(k+1))+1 by omega,z1q hgo])
      clear hpk hgo
      go_wp2_with fail
      go_roundw
      case rel=>exact⟨k+1,hset,hsc.setCell 1 (Or.inl rfl) _,by omega,hst⟩
      case measure=>rw [hset.atOf,hat.out];omega
     ·by_cases hlt:k<s.size
      ·have hlt':(k:Int)<s.size:=by omega
       have hpk:Hid (pk s k false=(s[k].toNat:Int)):=z8 (by simp [pk,hlt])
       cases hb1:((s[k].toNat:Int) !=59)
       case false=>
        have hend:z0j s fr=k:=by rw [←hsk.out];exact ju (by simpa using hgo)
        have HEND:=z8 hend
        clear hend hsk hat hgo
        obtain⟨hO2,hB2⟩:=HK2.out
        have hO3:wr.ownsRow (w.heap.size+1) 144 2 (.slice a l.length cap) l.length ((l.map zA).flatten):=zc hO2 fun q e=>hsc.block q (by have:=(hO2.lt q e).1;omega)
        have hB3:Below w.heap.size w wr:=⟨hsc.os.trans hB2.os,hsc.tape.trans hB2.tape,hsc.output.trans hB2.output,by have:=hsc.size;have:=hB2.size;omega,fun q hq=>(hsc.block q (by omega)).trans (hB2.block q hq)⟩
        have hz3:w.heap.size<wr.heap.size:=by have:=hsc.size;omega
        have HK3:=z8 (zgI hO3 hB3)
        clear hO2 hB2 hO3 hB3 hsc HK2
        by_cases h20:fr+20<k
        ·have h20':(20:Int)<(k:Int)- fr:=by omega
         have hbad:Hid ((raM s).2=true):=z8 (by
          rw [hra.out,←HNX.out]
          exact z3U (f:=fr) hps (by rw [HV.out.1];exact HV.out.2) hfr.1 (by rw [HEND.out];exact h20))
         go_wp2_with fail
         go_ret2
         exact⟨none,0,0,by rw [hbad.out];rfl,HK3.out.2,fun e=>by rw [hbad.out] at e;cases e⟩
        ·have h20': ¬(20:Int)<(k:Int)- fr:=by omega
         have hgk:Hid (1≤gk):=z8 hg1
         have hlkk:Hid (l.length+gk≤s.size+2):=z8 hlk
         have hkpk:Hid (s.size+1≤gk+p):=z8 hkp
         obtain⟨gk0,hgk0⟩: ∃gk0,gk0=gk:=⟨_,rfl⟩
         have HGK0:=z8 hgk0
         clear hgk0
         go_wp2_with fail
         go_loopg [9] (l.length+1) (fun k2 iv wr3=> ∃i:Nat,k2+i=l.length+1∧i≤l.length∧iv= .int .i64 i∧wr3=wr∧Hid (zq nm (l.drop i) i=zq nm l 0))
         case atStart=>exact⟨0,rfl,zgO _,rfl,rfl,z8 rfl⟩
         case round=>
          obtain⟨i,hki,hil,rfl,rfl,hfi⟩:=hrel
          have HKI:=z8 hki
          clear hki
          by_cases hli:i<l.length
          ·have hlr:=HK3.out.1
           obtain⟨gr,capr,hvr,hbr,hgr⟩:=hlr.form (by omega)
           injection hvr with e1 e2 e3
           subst e1 e3
           obtain⟨x,hx⟩: ∃x,l[i]?=some x:=⟨l[i],zgE hli⟩
           have q0:wr.cell? ⟨gr,i*2,none⟩=some (.string x.1):=zl hlr _ _ (zS zA 2 z0z l i 0 x hx (by omega))
           have hli':(i:Int)<l.length:=by omega
           have hst:Hid (zq nm (l.drop i) i=if x.1.toList==nm.toList then(i:Int) else zq nm (l.drop (i+1)) (i+1)):=z8 (by
            obtain⟨hl,hx'⟩:=zgF.1 hx
            rw [zgL hl,hx']
            rfl)
           clear hlr hx
           cases hq:(x.1.toList==nm.toList)
           ·go_wp2_with fail
            have hk:=HKI.out
            go_roundg (l.length - i)
            case measure=>omega
            case rel=>exact⟨i+1,by omega,by omega,by go_num,rfl,z8 (by rw [←hfi.out,hst.out,hq];rfl)⟩
           ·have hbad:Hid ((raM s).2=true):=z8 (by
             rw [hra.out,←HNX.out]
             refine z57 ?_
             rw [HV.out.1]
             simp only
             rw [←hfi.out,hst.out,hq]
             simp)
            go_wp2_with fail
            go_ret2
            exact⟨none,0,0,by rw [hbad.out];rfl,HK3.out.2,fun e=>by rw [hbad.out] at e;cases e⟩
          ·have hli': ¬(i:Int)<l.length:=by omega
           have hdup:Hid ((zq nm l 0 != -1)=false):=z8 (by rw [←hfi.out,zgK (by omega)];rfl)
           have HNXT:=z8 (z5o (s:=s) (n:=n) (p:=p) (f:=fr) (l:=l) (by rw [HV.out.1];exact HV.out.2) hfr.1 (by rw [HEND.out];omega) (by rw [HV.out.1];exact hdup.out))
           rw [HEND.out,HV.out.1] at HNXT
           simp only at HNXT
           have hlen9:l.length≤700:=by have:=hlkk.out;omega
           go_wp2_with (at_builtin;go_must (refine wpList_append_lies _ rfl (.tmp 80) (.tmp 90) 98 rfl (w.heap.size+1) 144 i0 _ 2 32 Tryz.underlying98 hi hz0' hz1 hz2 rfl (by omega) _ l.length _ rfl (HK3.out.1.alloc _) ⟨wr.heap.size,0,none⟩ 1 1 (zA (nm,s.extract fr k)) rfl rfl ?news ?one (by omega) ?mm ?bys ?base (wr.heap.size+1) (by simp) ?rest))
           case news=>exact fun j u h=>h
           case one=>intro u hu;simp [zA] at hu;rcases hu with rfl|rfl<;>rfl
           case mm=>unfold maxLen;omega
           case bys=>omega
           case base=>first|omega|(simp<;>omega)
           case rest=>
            intro gc cap8 w8 hown8 hgrow hat8 hlt8
            obtain⟨hO3,hB3⟩:=HK3.out
            clear HK3
            have hr8:Rd w8 w.heap.size s k false:=hk'.other ((hgrow.block _ (by first|omega|(simp<;>omega)) (fun e=>by have:=(hO3.lt _ e.symm).1;omega)).trans (zgJ _ _ _ hz3))
            have hB8:=z8 (Below.grown (hB3.alloc hB3.size _) hgrow (by first|omega|(simp<;>omega)) fun q e=>by have:=(hO3.lt q e).1;omega)
            have hz8:w.heap.size<w8.heap.size:=by have:=hgrow.size;first|omega|(simp at this;omega)
            have hown9:Hid (w8.ownsRow (w.heap.size+1) 144 2 (.slice (some ⟨gc,0,none⟩) (l++[(nm,s.extract fr k)]).length cap8) (l++[(nm,s.extract fr k)]).length (((l++[(nm,s.extract fr k)]).map zA).flatten)):=z8 (by simpa using hown8)
            have HR8:=z8 hr8
            clear hown8 hgrow hat8 hO3 hB3 c0 c1 c2 f1 f2
            obtain⟨c0,c1,c2,f1,f2,_,_⟩:=hr8
            have hpk59:pk s k false=((59:UInt8).toNat:Int):=by rw [hpk.out];simpa using hb1
            have hW:=z8 (fun W h=>zN w.heap.size k s ⟨#[59]⟩ false W h (by decide))
            rw [show(ByteArray.mk #[59]).data.toList=[59] from rfl,z10 hpk59] at hW
            have HP59:=z8 hpk59
            clear hpk59
            go_wp2_with fail
            refine(hW.out _ HR8.out).mono ?_
            rintro e w9 ⟨rfl,hr9,hs9⟩
            have hO10:Hid (w9.ownsRow (w.heap.size+1) 144 2 (.slice (some ⟨gc,0,none⟩) (l++[(nm,s.extract fr k)]).length cap8) (l++[(nm,s.extract fr k)]).length (((l++[(nm,s.extract fr k)]).map zA).flatten)):=z8 (zc hown9.out fun q e=>hs9.block q (by have:=(hown9.out.lt q e).1;omega))
            have hB10:Hid (Below w.heap.size w w9):=z8 ⟨hs9.os.trans hB8.out.os,hs9.tape.trans hB8.out.tape,hs9.output.trans hB8.out.output,by have:=hs9.size;have:=hB8.out.size;omega,fun q hq=>(hs9.block q (by omega)).trans (hB8.out.block q hq)⟩
            have hz10:w.heap.size<w9.heap.size:=by have:=hs9.size;omega
            have hr10:Hid (Rd w9 w.heap.size s (k+1) false):=z8 hr9
            clear hr9 hs9
            go_wp2_with fail
            have h1:=hgk.out
            have h2:=hlkk.out
            have h3:=hkpk.out
            have h4:=HFP.out
            have h5:=HGK0.out
            obtain⟨n1,hn1⟩: ∃n1,n=n1+1:=⟨n - 1,by omega⟩
            go_roundg (gk0 - 1)
            case measure=>omega
            case rel=>exact⟨k+1,false,true,l++[(nm,s.extract fr k)],some ⟨gc,0,none⟩,cap8,n1,by simp,by simp [hlt'],hO10,hB10,hz10,hr10,by simp;omega,by omega,by omega,z8 (.inl ⟨rfl,rfl,by omega,by omega,by rw [←HNX.out,HNXT.out,hn1,zev (by rw [HP59.out];rfl)]⟩)⟩
       case true=>
       have hb2:((s[k].toNat:Int) !=34)=false:=by
        cases hq:((s[k].toNat:Int) !=34) with
        |false=>rfl
        |true=>exact absurd (by
          rw [hpk.out];unfold zG;rw [hb1,hq];have:((s[k].toNat:Int) != -1)=true:=by simp
          rw [this];rfl) hgo
       have hend:z0j s fr=k:=by rw [←hsk.out];exact ju (by simpa using hgo)
       have HEND:=z8 hend
       clear hend hsk hat hgo
       obtain⟨hO2,hB2⟩:=HK2.out
       have hO3:wr.ownsRow (w.heap.size+1) 144 2 (.slice a l.length cap) l.length ((l.map zA).flatten):=zc hO2 fun q e=>hsc.block q (by have:=(hO2.lt q e).1;omega)
       have hB3:Below w.heap.size w wr:=⟨hsc.os.trans hB2.os,hsc.tape.trans hB2.tape,hsc.output.trans hB2.output,by have:=hsc.size;have:=hB2.size;omega,fun q hq=>(hsc.block q (by omega)).trans (hB2.block q hq)⟩
       have hz3:w.heap.size<wr.heap.size:=by have:=hsc.size;omega
       have HK3:=z8 (zgI hO3 hB3)
       clear hO2 hB2 hO3 hB3 hsc HK2
       by_cases h20:fr+20<k
       ·have h20':(20:Int)<(k:Int)- fr:=by omega
        have hbad:Hid ((raM s).2=true):=z8 (by
         rw [hra.out,←HNX.out]
         exact z3U (f:=fr) hps (by rw [HV.out.1];exact HV.out.2) hfr.1 (by rw [HEND.out];exact h20))
        go_wp2_with fail
        go_ret2
        exact⟨none,0,0,by rw [hbad.out];rfl,HK3.out.2,fun e=>by rw [hbad.out] at e;cases e⟩
       ·have h20': ¬(20:Int)<(k:Int)- fr:=by omega
        have hgk:Hid (1≤gk):=z8 hg1
        have hlkk:Hid (l.length+gk≤s.size+2):=z8 hlk
        have hkpk:Hid (s.size+1≤gk+p):=z8 hkp
        obtain⟨gk0,hgk0⟩: ∃gk0,gk0=gk:=⟨_,rfl⟩
        have HGK0:=z8 hgk0
        clear hgk0
        go_wp2_with fail
        go_loopg [9] (l.length+1) (fun k2 iv wr3=> ∃i:Nat,k2+i=l.length+1∧i≤l.length∧iv= .int .i64 i∧wr3=wr∧Hid (zq nm (l.drop i) i=zq nm l 0))
        case atStart=>exact⟨0,rfl,zgO _,rfl,rfl,z8 rfl⟩
        case round=>
         obtain⟨i,hki,hil,rfl,rfl,hfi⟩:=hrel
         have HKI:=z8 hki
         clear hki
         by_cases hli:i<l.length
         ·have hlr:=HK3.out.1
          obtain⟨gr,capr,hvr,hbr,hgr⟩:=hlr.form (by omega)
          injection hvr with e1 e2 e3
          subst e1 e3
          obtain⟨x,hx⟩: ∃x,l[i]?=some x:=⟨l[i],zgE hli⟩
          have q0:wr.cell? ⟨gr,i*2,none⟩=some (.string x.1):=zl hlr _ _ (zS zA 2 z0z l i 0 x hx (by omega))
          have hli':(i:Int)<l.length:=by omega
          have hst:Hid (zq nm (l.drop i) i=if x.1.toList==nm.toList then(i:Int) else zq nm (l.drop (i+1)) (i+1)):=z8 (by
           obtain⟨hl,hx'⟩:=zgF.1 hx
           rw [zgL hl,hx']
           rfl)
          clear hlr hx
          cases hq:(x.1.toList==nm.toList)
          ·go_wp2_with fail
           have hk:=HKI.out
           go_roundg (l.length - i)
           case measure=>omega
           case rel=>exact⟨i+1,by omega,by omega,by go_num,rfl,z8 (by rw [←hfi.out,hst.out,hq];rfl)⟩
          ·have hbad:Hid ((raM s).2=true):=z8 (by
            rw [hra.out,←HNX.out]
            refine z57 ?_
            rw [HV.out.1]
            simp only
            rw [←hfi.out,hst.out,hq]
            simp)
           go_wp2_with fail
           go_ret2
           exact⟨none,0,0,by rw [hbad.out];rfl,HK3.out.2,fun e=>by rw [hbad.out] at e;cases e⟩
         ·have hli': ¬(i:Int)<l.length:=by omega
          have hdup:Hid ((zq nm l 0 != -1)=false):=z8 (by rw [←hfi.out,zgK (by omega)];rfl)
          have HNXT:=z8 (z5o (s:=s) (n:=n) (p:=p) (f:=fr) (l:=l) (by rw [HV.out.1];exact HV.out.2) hfr.1 (by rw [HEND.out];omega) (by rw [HV.out.1];exact hdup.out))
          rw [HEND.out,HV.out.1] at HNXT
          simp only at HNXT
          have hlen9:l.length≤700:=by have:=hlkk.out;omega
          go_wp2_with (at_builtin;go_must (refine wpList_append_lies _ rfl (.tmp 80) (.tmp 90) 98 rfl (w.heap.size+1) 144 i0 _ 2 32 Tryz.underlying98 hi hz0' hz1 hz2 rfl (by omega) _ l.length _ rfl (HK3.out.1.alloc _) ⟨wr.heap.size,0,none⟩ 1 1 (zA (nm,s.extract fr k)) rfl rfl ?news ?one (by omega) ?mm ?bys ?base (wr.heap.size+1) (by simp) ?rest))
          case news=>exact fun j u h=>h
          case one=>intro u hu;simp [zA] at hu;rcases hu with rfl|rfl<;>rfl
          case mm=>unfold maxLen;omega
          case bys=>omega
          case base=>first|omega|(simp<;>omega)
          case rest=>
           intro gc cap8 w8 hown8 hgrow hat8 hlt8
           obtain⟨hO3,hB3⟩:=HK3.out
           clear HK3
           have hr8:Rd w8 w.heap.size s k false:=hk'.other ((hgrow.block _ (by first|omega|(simp<;>omega)) (fun e=>by have:=(hO3.lt _ e.symm).1;omega)).trans (zgJ _ _ _ hz3))
           have hB8:=z8 (Below.grown (hB3.alloc hB3.size _) hgrow (by first|omega|(simp<;>omega)) fun q e=>by have:=(hO3.lt q e).1;omega)
           have hz8:w.heap.size<w8.heap.size:=by have:=hgrow.size;first|omega|(simp at this;omega)
           have hown9:Hid (w8.ownsRow (w.heap.size+1) 144 2 (.slice (some ⟨gc,0,none⟩) (l++[(nm,s.extract fr k)]).length cap8) (l++[(nm,s.extract fr k)]).length (((l++[(nm,s.extract fr k)]).map zA).flatten)):=z8 (by simpa using hown8)
           have HR8:=z8 hr8
           clear hown8 hgrow hat8 hO3 hB3 c0 c1 c2 f1 f2
           obtain⟨c0,c1,c2,f1,f2,_,_⟩:=hr8
           have hpk59:pk s k false≠((59:UInt8).toNat:Int):=by rw [hpk.out];simpa using hb1
           have hW:=z8 (fun W h=>zN w.heap.size k s ⟨#[59]⟩ false W h (by decide))
           rw [show(ByteArray.mk #[59]).data.toList=[59] from rfl,je hpk59] at hW
           have HP59:=z8 hpk59
           clear hpk59
           go_wp2_with fail
           refine(hW.out _ HR8.out).mono ?_
           rintro e w9 ⟨rfl,hr9,hs9⟩
           have hO10:Hid (w9.ownsRow (w.heap.size+1) 144 2 (.slice (some ⟨gc,0,none⟩) (l++[(nm,s.extract fr k)]).length cap8) (l++[(nm,s.extract fr k)]).length (((l++[(nm,s.extract fr k)]).map zA).flatten)):=z8 (zc hown9.out fun q e=>hs9.block q (by have:=(hown9.out.lt q e).1;omega))
           have hB10:Hid (Below w.heap.size w w9):=z8 ⟨hs9.os.trans hB8.out.os,hs9.tape.trans hB8.out.tape,hs9.output.trans hB8.out.output,by have:=hs9.size;have:=hB8.out.size;omega,fun q hq=>(hs9.block q (by omega)).trans (hB8.out.block q hq)⟩
           have hz10:w.heap.size<w9.heap.size:=by have:=hs9.size;omega
           have hr10:Hid (Rd w9 w.heap.size s k true):=z8 hr9
           clear hr9 hs9
           go_wp2_with fail
           have h1:=hgk.out
           have h2:=hlkk.out
           have h3:=hkpk.out
           have h4:=HFP.out
           have h5:=HGK0.out
           go_roundg (gk0 - 1)
           case measure=>omega
           case rel=>exact⟨k,true,true,l++[(nm,s.extract fr k)],some ⟨gc,0,none⟩,cap8,n,by simp,by simp [hlt'],hO10,hB10,hz10,hr10,by simp;omega,by omega,by omega,z8 (.inr (.inl ⟨rfl,rfl,by
            rw [←HNX.out,HNXT.out,z4V (by rw [beq_eq_false_iff_ne];exact HP59.out)]
            simp [okP,z29,hlt]⟩))⟩
      ·have hlt': ¬(k:Int)<s.size:=by omega
       have hend:z0j s fr=k:=by rw [←hsk.out];exact ju (by simpa using hgo)
       have HEND:=z8 hend
       clear hend hsk hat hgo
       obtain⟨hO2,hB2⟩:=HK2.out
       have hO3:wr.ownsRow (w.heap.size+1) 144 2 (.slice a l.length cap) l.length ((l.map zA).flatten):=zc hO2 fun q e=>hsc.block q (by have:=(hO2.lt q e).1;omega)
       have hB3:Below w.heap.size w wr:=⟨hsc.os.trans hB2.os,hsc.tape.trans hB2.tape,hsc.output.trans hB2.output,by have:=hsc.size;have:=hB2.size;omega,fun q hq=>(hsc.block q (by omega)).trans (hB2.block q hq)⟩
       have hz3:w.heap.size<wr.heap.size:=by have:=hsc.size;omega
       have HK3:=z8 (zgI hO3 hB3)
       clear hO2 hB2 hO3 hB3 hsc HK2
       by_cases h20:fr+20<k
       ·have h20':(20:Int)<(k:Int)- fr:=by omega
        have hbad:Hid ((raM s).2=true):=z8 (by
         rw [hra.out,←HNX.out]
         exact z3U (f:=fr) hps (by rw [HV.out.1];exact HV.out.2) hfr.1 (by rw [HEND.out];exact h20))
        go_wp2_with fail
        go_ret2
        exact⟨none,0,0,by rw [hbad.out];rfl,HK3.out.2,fun e=>by rw [hbad.out] at e;cases e⟩
       ·have h20': ¬(20:Int)<(k:Int)- fr:=by omega
        have hgk:Hid (1≤gk):=z8 hg1
        have hlkk:Hid (l.length+gk≤s.size+2):=z8 hlk
        have hkpk:Hid (s.size+1≤gk+p):=z8 hkp
        obtain⟨gk0,hgk0⟩: ∃gk0,gk0=gk:=⟨_,rfl⟩
        have HGK0:=z8 hgk0
        clear hgk0
        go_wp2_with fail
        go_loopg [9] (l.length+1) (fun k2 iv wr3=> ∃i:Nat,k2+i=l.length+1∧i≤l.length∧iv= .int .i64 i∧wr3=wr∧Hid (zq nm (l.drop i) i=zq nm l 0))
        case atStart=>exact⟨0,rfl,zgO _,rfl,rfl,z8 rfl⟩
        case round=>
         obtain⟨i,hki,hil,rfl,rfl,hfi⟩:=hrel
         have HKI:=z8 hki
         clear hki
         by_cases hli:i<l.length
         ·have hlr:=HK3.out.1
          obtain⟨gr,capr,hvr,hbr,hgr⟩:=hlr.form (by omega)
          injection hvr with e1 e2 e3
          subst e1 e3
          obtain⟨x,hx⟩: ∃x,l[i]?=some x:=⟨l[i],zgE hli⟩
          have q0:wr.cell? ⟨gr,i*2,none⟩=some (.string x.1):=zl hlr _ _ (zS zA 2 z0z l i 0 x hx (by omega))
          have hli':(i:Int)<l.length:=by omega
          have hst:Hid (zq nm (l.drop i) i=if x.1.toList==nm.toList then(i:Int) else zq nm (l.drop (i+1)) (i+1)):=z8 (by
           obtain⟨hl,hx'⟩:=zgF.1 hx
           rw [zgL hl,hx']
           rfl)
          clear hlr hx
          cases hq:(x.1.toList==nm.toList)
          ·go_wp2_with fail
           have hk:=HKI.out
           go_roundg (l.length - i)
           case measure=>omega
           case rel=>exact⟨i+1,by omega,by omega,by go_num,rfl,z8 (by rw [←hfi.out,hst.out,hq];rfl)⟩
          ·have hbad:Hid ((raM s).2=true):=z8 (by
            rw [hra.out,←HNX.out]
            refine z57 ?_
            rw [HV.out.1]
            simp only
            rw [←hfi.out,hst.out,hq]
            simp)
           go_wp2_with fail
           go_ret2
           exact⟨none,0,0,by rw [hbad.out];rfl,HK3.out.2,fun e=>by rw [hbad.out] at e;cases e⟩
         ·have hli': ¬(i:Int)<l.length:=by omega
          have hdup:Hid ((zq nm l 0 != -1)=false):=z8 (by rw [←hfi.out,zgK (by omega)];rfl)
          have HNXT:=z8 (z5o (s:=s) (n:=n) (p:=p) (f:=fr) (l:=l) (by rw [HV.out.1];exact HV.out.2) hfr.1 (by rw [HEND.out];omega) (by rw [HV.out.1];exact hdup.out))
          rw [HEND.out,HV.out.1] at HNXT
          simp only at HNXT
          have hlen9:l.length≤700:=by have:=hlkk.out;omega
          go_wp2_with (at_builtin;go_must (refine wpList_append_lies _ rfl (.tmp 80) (.tmp 90) 98 rfl (w.heap.size+1) 144 i0 _ 2 32 Tryz.underlying98 hi hz0' hz1 hz2 rfl (by omega) _ l.length _ rfl (HK3.out.1.alloc _) ⟨wr.heap.size,0,none⟩ 1 1 (zA (nm,s.extract fr k)) rfl rfl ?news ?one (by omega) ?mm ?bys ?base (wr.heap.size+1) (by simp) ?rest))
          case news=>exact fun j u h=>h
          case one=>intro u hu;simp [zA] at hu;rcases hu with rfl|rfl<;>rfl
          case mm=>unfold maxLen;omega
          case bys=>omega
          case base=>first|omega|(simp<;>omega)
          case rest=>
           intro gc cap8 w8 hown8 hgrow hat8 hlt8
           obtain⟨hO3,hB3⟩:=HK3.out
           clear HK3
           have hr8:Rd w8 w.heap.size s k false:=hk'.other ((hgrow.block _ (by first|omega|(simp<;>omega)) (fun e=>by have:=(hO3.lt _ e.symm).1;omega)).trans (zgJ _ _ _ hz3))
           have hB8:=z8 (Below.grown (hB3.alloc hB3.size _) hgrow (by first|omega|(simp<;>omega)) fun q e=>by have:=(hO3.lt q e).1;omega)
           have hz8:w.heap.size<w8.heap.size:=by have:=hgrow.size;first|omega|(simp at this;omega)
           have hown9:Hid (w8.ownsRow (w.heap.size+1) 144 2 (.slice (some ⟨gc,0,none⟩) (l++[(nm,s.extract fr k)]).length cap8) (l++[(nm,s.extract fr k)]).length (((l++[(nm,s.extract fr k)]).map zA).flatten)):=z8 (by simpa using hown8)
           have HR8:=z8 hr8
           clear hown8 hgrow hat8 hO3 hB3 c0 c1 c2 f1 f2
           obtain⟨c0,c1,c2,f1,f2,_,_⟩:=hr8
           have hks':k=s.size:=by omega
           go_wp2_with fail
           have h1:=hgk.out
           have h2:=hlkk.out
           have h3:=hkpk.out
           have h4:=HFP.out
           have h5:=HGK0.out
           go_roundg (gk0 - 1)
           case measure=>omega
           case rel=>exact⟨k,false,false,l++[(nm,s.extract fr k)],some ⟨gc,0,none⟩,cap8,n,by simp,by simp [hlt'],hown9,hB8,hz8,HR8,by simp;omega,by omega,by omega,z8 (.inr (.inr ⟨rfl,rfl,by
            rw [←HNX.out,HNXT.out,z4V (by rw [hks',zbT];rfl)]
            simp [okP,z29,hlt]⟩))⟩
theorem z5C (s:zgS)(a:Nat)(d:Bool)(h:s.size≤600):(jh s a d).2.2.2.size≤600:=by
 unfold jh
 simp only
 rw [ByteArray.size_extract]
 omega
theorem zac (s:zgS)(h:s.size≤600): ∀n a d l,(∀p∈l,p.2.size≤600)→ ∀p∈(paM s n a d l).2.2,p.2.size≤600:=by
 intro n
 induction n with
 |zero=>intro a d l hl;exact hl
 |succ n ih=>
  intro a d l hl
  unfold paM
  split
  ·refine ih _ _ _ fun p hp=> ?_
   rcases List.mem_append.1 hp with q|q
   ·exact hl p q
   ·simp at q;subst q;exact z5C s _ _ h
  ·exact hl
theorem zcL (s:zgS): ∀n a d l,(paM s n a d l).2.2.length≤l.length+n:=by
 intro n
 induction n with
 |zero=>intro a d l;exact zgH _
 |succ n ih=>
  intro a d l
  unfold paM
  split
  ·have:=ih (jh s (a+1) d).1 ((jh s (a+1) d).2.1||(zq (jh s (a+1) d).2.2.1 l 0 != -1)) (l++[((jh s (a+1) d).2.2.1,(jh s (a+1) d).2.2.2)])
   simp only [List.length_append,List.length_cons,List.length_nil] at this
   simp only
   omega
  ·show l.length≤_;omega
theorem z2i (s:zgS)(h:s.size≤600):(∀p∈(raM s).1,p.2.size≤600)∧(raM s).1.length≤100000:=by
 unfold raM
 split
 ·exact⟨fun p hp=>(by cases hp),by simp⟩
 ·simp only
  refine⟨zac s h _ _ _ _ fun p hp=> ?_,?_⟩
  ·simp at hp;subst hp;exact z5C s _ _ h
  ·have:=zcL s (s.size+1) (jh s 0 false).1 (jh s 0 false).2.1 [((jh s 0 false).2.2.1,(jh s 0 false).2.2.2)]
   simp at this
   omega
def plM (nm:zgS):List zgS→Nat→Int
 |[],_=> -1
 |x::xs,i=>if x.toList==nm.toList then(i:Int) else plM nm xs (i+1)
theorem z2l (nm:zgS): ∀(l:List zgS) (i:Nat),plM nm l i= -1∨((i:Int)≤plM nm l i∧plM nm l i<(i+l.length:Nat)):=by
 intro l
 induction l with
 |nil=>intro i;exact .inl rfl
 |cons x xs ih=>
  intro i
  unfold plM
  split
  ·exact .inr ⟨by omega,by simp;omega⟩
  ·rcases ih (i+1) with h|⟨h1,h2⟩
   ·exact .inl h
   ·exact .inr ⟨by omega,by simp at*;omega⟩
theorem jY (base:Nat)(l:List zgS)(v:Value)(nm:zgS)(w:World)(h:w.ownsRow base 9 1 v l.length (l.map Value.string))(hlen:l.length≤100000):
  Calls Tryz.prog 66 #[v,.string nm] w fun e w'=>e= .returned (.int .i64 (plM nm l 0))∧w'=w:=by
 obtain⟨a0,c0,rfl⟩:=za h
 have HW:=z8 h
 clear h
 go_enter Tryz.func66,Tryz.ntmps66
 go_wp2_with fail
 go_loopg [5] (l.length+1) (fun k iv wr=> ∃(i:Nat),k+i=l.length+1∧i≤l.length∧iv= .int .i64 i∧wr=w∧Hid (plM nm (l.drop i) i=plM nm l 0))
 case atStart=>exact⟨0,rfl,zgO _,rfl,rfl,rfl⟩
 case round=>
  obtain⟨i,hk,hiE,rfl,rfl,hfin⟩:=hrel
  have hHK:=z8 hk
  clear hk
  by_cases hlt:i<l.length
  ·obtain⟨g,cap,hv,hb,hg⟩:=HW.out.form (by omega)
   injection hv with e1 e2 e3
   subst e1 e3
   obtain⟨x,hx⟩: ∃x,l[i]?=some x:=⟨l[i],zgE hlt⟩
   have q0:wr.cell? ⟨g,i,none⟩=some (.string x):=zl HW.out _ _ (by simp [hx])
   have hlt':(i:Int)<l.length:=by omega
   have hst:Hid (plM nm (l.drop i) i=if x.toList==nm.toList then(i:Int) else plM nm (l.drop (i+1)) (i+1)):=z8 (by
    obtain⟨hl,hx'⟩:=zgF.1 hx
    rw [zgL hl,hx']
    rfl)
   clear hx
   cases hq:(x.toList==nm.toList)
   ·go_wp2_with fail
    have hk:=hHK.out
    go_roundg (l.length - i)
    case measure=>omega
    case rel=>exact⟨i+1,by omega,by omega,by go_num,rfl,z8 (by rw [←hfin.out,hst.out,hq];rfl)⟩
   ·go_wp2_with fail
    go_ret
    exact⟨by rw [←hfin.out,hst.out,hq];simp,rfl⟩
  ·have hlt': ¬(i:Int)<l.length:=by omega
   go_wp2_with fail
   go_ret
   exact⟨by rw [←hfin.out,zgK (by omega)];simp [plM],rfl⟩
theorem z4D (base:Nat)(l:List zgS)(v:Value)(nm:zgS)(w:World)(h:w.ownsRow base 9 1 v l.length (l.map Value.string))(hlen:l.length≤100000):
  Calls Tryz.prog 103 #[v,.string nm] w fun e w'=>e= .returned (.int .i64 (plM nm l 0))∧w'=w:=by
 obtain⟨a0,c0,rfl⟩:=za h
 have HW:=z8 h
 clear h
 go_enter Tryz.func103,Tryz.ntmps103
 go_wp2_with fail
 go_loopg [5] (l.length+1) (fun k iv wr=> ∃(i:Nat),k+i=l.length+1∧i≤l.length∧iv= .int .i64 i∧wr=w∧Hid (plM nm (l.drop i) i=plM nm l 0))
 case atStart=>exact⟨0,rfl,zgO _,rfl,rfl,rfl⟩
 case round=>
  obtain⟨i,hk,hiE,rfl,rfl,hfin⟩:=hrel
  have hHK:=z8 hk
  clear hk
  by_cases hlt:i<l.length
  ·obtain⟨g,cap,hv,hb,hg⟩:=HW.out.form (by omega)
   injection hv with e1 e2 e3
   subst e1 e3
   obtain⟨x,hx⟩: ∃x,l[i]?=some x:=⟨l[i],zgE hlt⟩
   have q0:wr.cell? ⟨g,i,none⟩=some (.string x):=zl HW.out _ _ (by simp [hx])
   have hlt':(i:Int)<l.length:=by omega
   have hst:Hid (plM nm (l.drop i) i=if x.toList==nm.toList then(i:Int) else plM nm (l.drop (i+1)) (i+1)):=z8 (by
    obtain⟨hl,hx'⟩:=zgF.1 hx
    rw [zgL hl,hx']
    rfl)
   clear hx
   cases hq:(x.toList==nm.toList)
   ·go_wp2_with fail
    have hk:=hHK.out
    go_roundg (l.length - i)
    case measure=>omega
    case rel=>exact⟨i+1,by omega,by omega,by go_num,rfl,z8 (by rw [←hfin.out,hst.out,hq];rfl)⟩
   ·go_wp2_with fail
    go_ret
    exact⟨by rw [←hfin.out,hst.out,hq];simp,rfl⟩
  ·have hlt': ¬(i:Int)<l.length:=by omega
   go_wp2_with fail
   go_ret
   exact⟨by rw [←hfin.out,zgK (by omega)];simp [plM],rfl⟩
theorem jn (base:Nat)(ts:List Int)(v:Value)(i:Int)(w:World)(h:w.ownsRow base 3 1 v ts.length (ts.map (Value.int .i64)))(hlen:ts.length≤100000):
  Calls Tryz.prog 48 #[v,.int .i64 i] w fun e w'=>e= .returned (.int .i64 (zb ts i))∧w'=w:=by
 obtain⟨a0,c0,rfl⟩:=za h
 by_cases h0:i<0
 ·go_enter Tryz.func48,Tryz.ntmps48
  go_wp2_with fail
  go_ret
  exact⟨by simp [zb,h0],rfl⟩
 ·obtain⟨j,rfl⟩:=Int.eq_ofNat_of_zero_le (show 0≤i by omega)
  by_cases h1:j<ts.length
  ·obtain⟨g,cap,hv,hb,hg⟩:=h.form (by omega)
   have hc:=zl (hv▸h) j (.int .i64 (ts.getD j 0)) (by simp [h1,List.getD])
   injection hv with e1 e2 e3
   subst e1 e3
   have hfin:Hid (zb ts j=ts.getD j 0):=z8 (by unfold zb;rw [if_neg (by omega)];simp)
   generalize ts.getD j 0=z at*
   have h1':(j:Int)<ts.length:=by omega
   go_enter Tryz.func48,Tryz.ntmps48
   go_wp2_with fail
   go_ret
   exact⟨by rw [hfin.out];simp,rfl⟩
  ·have hfin:Hid (zb ts j=0):=z8 (by unfold zb;rw [if_neg (by omega)];simp [List.getElem?_eq_none (Nat.le_of_not_lt h1)])
   have h1': ¬(j:Int)<ts.length:=by omega
   go_enter Tryz.func48,Tryz.ntmps48
   go_wp2_with fail
   go_ret
   exact⟨by rw [hfin.out];simp,rfl⟩
theorem zaF (xk:Int)(xb:Bool)(xn:Int)(xt:zgS)(w:World):Calls Tryz.prog 133 #[.agg #[.int .i64 xk,.bool xb,.int .i64 xn,.string xt]] w fun e w'=>e= .returned (.bool (xk==1&&xb))∧Below w.heap.size w w':=by
 have hB:=z8 fun o:Obj=>(zgR w.heap.size w).alloc (zgH _) o
 cases h:(xk==1)
 ·go_enter Tryz.func133,Tryz.ntmps133
  go_wp2_with fail
  go_ret
  exact⟨rfl,hB.out _⟩
 ·go_enter Tryz.func133,Tryz.ntmps133
  go_wp2_with fail
  go_ret
  exact⟨rfl,hB.out _⟩
def nmM (s:zgS):Nat→Nat→Bool→List zgS→Nat×Bool×List zgS
 |0,a,d,l=>(a,d,l)
 |n+1,a,d,l=>if pk s a d==44 then
   let v:=zi s (a+1) d
   nmM s n v.1 v.2.1 (l++[v.2.2])
  else(a,d,l)
def rnM (s:zgS):List zgS×Bool:=
 let v:=zi s 0 false
 let p:=nmM s (s.size+1) v.1 v.2.1 [v.2.2]
 (p.2.2,z29 s p.1 p.2.1)
def zep (s:zgS)(w:World)(e:Ending)(w':World):Prop:= ∃v,e= .returned (.tuple #[v,.bool (rnM s).2])∧w'.ownsRow w.heap.size 9 1 v (rnM s).1.length ((rnM s).1.map Value.string)∧Below w.heap.size w w'
theorem zde {s:zgS}{a:Nat}{d:Bool}(h:a≤s.size):a≤(zi s a d).1:=(z3p (p:=zk) (by decide) h).1
theorem z2x (s:zgS)(w:World)(hs:s.size≤600):Calls Tryz.prog 107 #[.string s] w fun e w'=>zep s w e w':=by
 have hM0:=World.ownsRow_made (base:=w.heap.size) (e:=9) (size:=1) (w.alloc (.cells #[.string s,.int .i64 0,.bool false,.slice none 0 0,.slice none 0 0,.slice none 0 0,.slice none 0 0] 66)) #[] 0 (by simp) (by decide) (by simp)
 rw [show(w.alloc (.cells #[.string s,.int .i64 0,.bool false,.slice none 0 0,.slice none 0 0,.slice none 0 0,.slice none 0 0] 66)).heap.size=w.heap.size+1 by simp] at hM0
 have hg0:((w.alloc (.cells #[.string s,.int .i64 0,.bool false,.slice none 0 0,.slice none 0 0,.slice none 0 0,.slice none 0 0] 66)).alloc (.cells #[] 9)).heap[w.heap.size]?=some (.cells #[.string s,.int .i64 0,.bool false,.slice none 0 0,.slice none 0 0,.slice none 0 0,.slice none 0 0] 66):=(zgJ _ _ _ (by simp)).trans (heap_alloc_new w _)
 have hrd0:=zaY hs hg0
 have hB0:Below w.heap.size w ((w.alloc (.cells #[.string s,.int .i64 0,.bool false,.slice none 0 0,.slice none 0 0,.slice none 0 0,.slice none 0 0] 66)).alloc (.cells #[] 9)):=((zgR w.heap.size w).alloc (zgH _) _).alloc (by simp) _
 have hz0:((w.alloc (.cells #[.string s,.int .i64 0,.bool false,.slice none 0 0,.slice none 0 0,.slice none 0 0,.slice none 0 0] 66)).alloc (.cells #[] 9)).heap.size=w.heap.size+2:=by simp
 have H0:=z8 (zgI hrd0 (zgI hB0 (zgI hM0 hz0)))
 clear hrd0 hB0 hM0 hz0 hg0
 go_enter Tryz.func107,Tryz.ntmps107
 go_wp2_with fail
 obtain⟨hrd0,hB0,hM1,hz0⟩:=H0.out
 clear H0
 generalize ((w.alloc (.cells #[.string s,.int .i64 0,.bool false,.slice none 0 0,.slice none 0 0,.slice none 0 0,.slice none 0 0] 66)).alloc (.cells #[] 9))=W0' at*
 refine(z1l _ _ _ _ _ hrd0).mono ?_
 rintro e w1 ⟨rfl,hr1,hs1⟩
 have hra:Hid (rnM s=((nmM s (s.size+1) (zi s 0 false).1 (zi s 0 false).2.1 [(zi s 0 false).2.2]).2.2,z29 s (nmM s (s.size+1) (zi s 0 false).1 (zi s 0 false).2.1 [(zi s 0 false).2.2]).1 (nmM s (s.size+1) (zi s 0 false).1 (zi s 0 false).2.1 [(zi s 0 false).2.2]).2.1)):=z8 rfl
 generalize zi s 0 false=v0 at*
 obtain⟨a1,d1,nm1⟩:=v0
 simp only at*
 generalize hP0:nmM s (s.size+1) a1 d1 [nm1]=P0 at*
 have HP0:=z8 hP0
 clear hP0
 obtain⟨i0,hi,hz0',hz1,hz2⟩:=info_parts info9
 have hBw:w1.heap.size=w.heap.size+2:=by have:=hs1.size;omega
 have hM2:w1.ownsRow w.heap.size 9 1 (.slice (some ⟨w.heap.size+1,0,none⟩) 0 0) 0 []:=zc hM1 fun k e=>hs1.block k (by simp [Value.ownBlock] at e;omega)
 have hB1:Below w.heap.size w w1:=⟨hs1.os.trans hB0.os,hs1.tape.trans hB0.tape,hs1.output.trans hB0.output,by omega,fun k hk=>(hs1.block k (by omega)).trans (hB0.block k hk)⟩
 have H1:=z8 (zgI hr1 (zgI hM2 (zgI hB1 hBw)))
 have hBw':w.heap.size+2≤w1.heap.size:=by omega
 clear hr1 hM2 hB1 hM1 hB0 hrd0 hs1 hBw hz0
 go_wp2_with (at_builtin;go_must (refine wpList_append_lies _ rfl (.tmp 11) (.tmp 13) 56 rfl w.heap.size 9 i0 _ 1 16 Tryz.underlying56 hi hz0' hz1 hz2 rfl (by omega) _ 0 _ rfl (H1.out.2.1.alloc _) ⟨w1.heap.size,0,none⟩ 1 1 [.string nm1] rfl rfl ?news ?one (by omega) ?mm ?bys ?base (w1.heap.size+1) (by simp) ?rest))
 case news=>exact World.news_of_block (heap_alloc_new w1 _)
 case one=>intro u hu;simp at hu;subst hu;rfl
 case mm=>unfold maxLen;omega
 case bys=>omega
 case base=>simp;omega
 case rest=>
  intro gb cap w2 hown2 hgrow hat hlt2
  obtain⟨hr1,hM2,hB1,hBw⟩:=H1.out
  clear H1
  have hgb:gb≠w.heap.size:=by
   rcases hat with e|e
   ·simp [Value.ownBlock] at e;omega
   ·omega
  have hr2:Rd w2 w.heap.size s a1 d1:=hr1.other ((hgrow.block _ (by simp;omega) (fun e=>by simp [Value.ownBlock] at e)).trans (zgJ _ _ _ (by omega)))
  have hB2:Below w.heap.size w w2:=Below.grown (hB1.alloc (by omega) _) hgrow (by simp;omega) fun k e=>by simp [Value.ownBlock] at e;omega
  have hz2':w.heap.size<w2.heap.size:=by have:=hgrow.size;simp at this;omega
  have ha1:=hr2.le
  have H2:=z8 (zgI hr2 (zgI hB2 hown2))
  clear hr2 hB2 hown2 hgrow hat hr1 hM2 hB1 hBw
  go_wp2_with fail
  go_loopg [5] (s.size+1) (fun k v wr=> ∃(a:Nat) (d:Bool) (l:List zgS) (g2 cap2:Nat),v= .slice (some ⟨g2,0,none⟩) l.length cap2∧g2≠w.heap.size∧s.size+1≤k+a∧k+l.length≤s.size+2∧w.heap.size<wr.heap.size∧Hid (Rd wr w.heap.size s a d)∧Hid (wr.ownsRow w.heap.size 9 1 (.slice (some ⟨g2,0,none⟩) l.length cap2) l.length (l.map Value.string))∧Hid (Below w.heap.size w wr)∧Hid (nmM s k a d l=P0))
  case atStart=>
   obtain⟨hr2,hB2,hown2⟩:=H2.out
   exact⟨a1,d1,[nm1],gb,cap,rfl,hgb,by omega,by simp,hz2',z8 hr2,z8 hown2,z8 hB2,HP0⟩
  case round=>
   clear H2
   obtain⟨a,d,l,g2,cap2,rfl,hn1,hka,hkl,hzr,HR,HO,HB,HPk⟩:=hrel
   have ha:=HR.out.le
   cases hb:(pk s a d==44)
   ·have hst:Hid ((a,d,l)=P0):=z8 (by
     rw [←HPk.out]
     cases gk with
     |zero=>rfl
     |succ k=>unfold nmM;rw [hb];rfl)
    go_wp2_with (go_at_call 78;refine(zn _ _ _ _ _ HR.out).mono ?_;rintro e w3 ⟨rfl,n3,rfl⟩)
    refine(z2X _ _ _ _ _ (HR.out.drewN n3)).mono ?_
    rintro e w4 ⟨rfl,hr4,hs4⟩
    have q2:=hr4.c2
    go_wp2_with fail
    go_quiet (fail)
    go_wp2_with fail
    go_ret2
    have hst':=hst.out
    subst hst'
    have hB4:Below w.heap.size w w4:=⟨hs4.os.trans HB.out.os,hs4.tape.trans HB.out.tape,hs4.output.trans HB.out.output,by have:=hs4.size;have:=HB.out.size;simp at*;omega,fun k hk=>(hs4.block k (by omega)).trans (HB.out.block k hk)⟩
    have hO4:w4.ownsRow w.heap.size 9 1 (.slice (some ⟨g2,0,none⟩) l.length cap2) l.length (l.map Value.string):=zc HO.out fun k e=>hs4.block k (by simp [Value.ownBlock] at e;omega)
    refine⟨.slice (some ⟨g2,0,none⟩) l.length cap2,by rw [hra.out];rfl,by rw [hra.out];exact zc hO4 fun k e=>rfl,?_⟩
    exact⟨hB4.os,hB4.tape,hB4.output,hB4.size,hB4.block⟩
   ·have hpk:pk s a d=44:=by simpa using hb
    have hlt:=(jT (s:=s) (a:=a) (d:=d) (by omega)).2
    obtain⟨k,rfl⟩: ∃k,gk=k+1:=⟨gk - 1,by omega⟩
    have hst:Hid (nmM s k (zi s (a+1) d).1 (zi s (a+1) d).2.1 (l++[(zi s (a+1) d).2.2])=P0):=z8 (by
     rw [←HPk.out]
     conv=>rhs;unfold nmM
     rw [hb];rfl)
    have hW1:=z10 (s:=s) (d:=d) (c:=44) (a:=a) hpk
    have HW:=z8 (fun W h=>jW w.heap.size a s ⟨#[44]⟩ d W h (by decide))
    rw [show(ByteArray.mk #[44]).data.toList=[44] from rfl,hW1] at HW
    have HA:=z8 (fun W h=>z1l w.heap.size (a+1) s d W h)
    have HAM:=z8 (zde (s:=s) (a:=a+1) (d:=d) (by omega))
    generalize zi s (a+1) d=v0 at*
    obtain⟨a5,d5,nm5⟩:=v0
    simp only at*
    clear hW1 hpk
    go_wp2_with (go_at_call 78;refine(zn _ _ _ _ _ HR.out).mono ?_;rintro e w3 ⟨rfl,n3,rfl⟩)
    refine(HW.out _ (HR.out.drewN n3)).mono ?_
    rintro e w4 ⟨rfl,hr4,hs4⟩
    go_wp2_with fail
    refine(HA.out _ hr4).mono ?_
    rintro e w5 ⟨rfl,hr5,hs5⟩
    have hz5:wr.heap.size=w5.heap.size:=by have:=hs4.size;have:=hs5.size;simp at*;omega
    have hold: ∀k,k≠w.heap.size→w5.heap[k]?=wr.heap[k]?:=fun k hn=>(hs5.block k hn).trans (hs4.block k hn)
    have hO5:w5.ownsRow w.heap.size 9 1 (.slice (some ⟨g2,0,none⟩) l.length cap2) l.length (l.map Value.string):=zc HO.out fun k e=>hold k (by simp [Value.ownBlock] at e;omega)
    have hB5:Below w.heap.size w w5:=⟨hs5.os.trans (hs4.os.trans HB.out.os),hs5.tape.trans (hs4.tape.trans HB.out.tape),hs5.output.trans (hs4.output.trans HB.out.output),by have:=HB.out.size;omega,fun k hk=>(hold k (by omega)).trans (HB.out.block k hk)⟩
    have hzz:a+1≤a5:=HAM.out
    have hz5':w.heap.size<w5.heap.size:=by omega
    have H7:=z8 (zgI hr5 (zgI hO5 hB5))
    clear hold hs5 hs4 hr4 hr5 hO5 hB5 hz5
    go_wp2_with (at_builtin;go_must (refine wpList_append_lies _ rfl (.tmp 19) (.tmp 21) 56 rfl w.heap.size 9 i0 _ 1 16 Tryz.underlying56 hi hz0' hz1 hz2 rfl (by omega) _ l.length _ rfl (H7.out.2.1.alloc _) ⟨w5.heap.size,0,none⟩ 1 1 [.string nm5] rfl rfl ?news ?one (by omega) ?mm ?bys ?base (w5.heap.size+1) (by simp) ?rest))
    case news=>exact World.news_of_block (heap_alloc_new w5 _)
    case one=>intro u hu;simp at hu;subst hu;rfl
    case mm=>unfold maxLen;omega
    case bys=>omega
    case base=>simp;omega
    case rest=>
     intro gc cap8 w8 hown8 hgrow hat hlt8
     obtain⟨hr7,hO7,hB7⟩:=H7.out
     clear H7
     have hgc:gc≠w.heap.size:=by
      rcases hat with e|e
      ·simp [Value.ownBlock] at e;omega
      ·omega
     have hr8:=z8 (hr7.other ((hgrow.block _ (by simp;omega) (fun e=>by simp [Value.ownBlock] at e;omega)).trans (zgJ _ _ _ (by omega))))
     have hB8:=z8 (Below.grown (hB7.alloc hB7.size _) hgrow (by simp;have:=hB7.size;omega) fun k e=>by simp [Value.ownBlock] at e;have:=(hO7.lt g2 rfl).1;omega)
     have hz8:w.heap.size<w8.heap.size:=by have:=hgrow.size;simp at this;omega
     have ha8:=hr7.le
     have hown9:Hid (w8.ownsRow w.heap.size 9 1 (.slice (some ⟨gc,0,none⟩) (l++[nm5]).length cap8) (l++[nm5]).length ((l++[nm5]).map Value.string)):=z8 (by simpa using hown8)
     clear hown8 hgrow hat hr7 hO7 hB7
     go_wp2_with fail
     go_roundg k
     case measure=>omega
     case rel=>exact⟨a5,_,l++[nm5],gc,cap8,by simp,hgc,by omega,by simp;omega,hz8,hr8,hown9,hB8,hst⟩
end Go.Proofs.YtkoohcilbpdgeaaGreatDoor
