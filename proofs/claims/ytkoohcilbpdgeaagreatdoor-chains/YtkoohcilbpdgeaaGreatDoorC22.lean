import Derived.Test.YtkoohcilbpdgeaaGreatDoorC21
set_option linter.all false
set_option linter.unusedVariables false
set_option linter.unusedSimpArgs false
set_option linter.unnecessarySimpa false
set_option linter.constructorNameAsVariable false
set_option linter.deprecated false
set_option maxRecDepth 100000
set_option maxHeartbeats 6400000
namespace Go.Proofs.YtkoohcilbpdgeaaGreatDoor
open Go Go.RowKit
attribute [local go_sem] wrap64_byte
def bothM (t:ByteArray)(x y:Wt):Wt:=if isCalc t then calcM t x.num y.num else if t.toList==[46] then wStr (x.text++y.text) else wBool (cmpB t x y)
theorem dpost_eq {b c:Bool}{w:World}{e:Ending}{w':World}(h:DPost (wBool b) w e w')(hbc:b=c):DPost (wBool c) w e w':=hbc▸h
theorem both_calc (t:ByteArray)(xc:Int)(xk:Int)(xb:Bool)(xn:Int)(xt:ByteArray)(yc:Int)(yk:Int)(yb:Bool)(yn:Int)(yt:ByteArray)(w:World)(hx:xt.size≤400000000)(hy:yt.size≤400000000)(hc:isCalc t=true∨(t.toList==[46])=true):Calls Tryz.prog 100 #[.string t,.agg #[.int .u8 xc,.bool xb,.int .i64 xn,.string xt],.agg #[.int .u8 yc,.bool yb,.int .i64 yn,.string yt]] w fun e w'=>DPost (bothM t ⟨xk,xb,xn,xt⟩ ⟨yk,yb,yn,yt⟩) w e w':=by
 have HB0:Hid (Below w.heap.size w (((w.alloc (.cells #[.int .u8 xc,.bool xb,.int .i64 xn,.string xt] 102)).alloc (.cells #[.int .u8 yc,.bool yb,.int .i64 yn,.string yt] 102)).alloc (.cells #[.int .u8 0,.bool false,.int .i64 0,.string ⟨#[]⟩] 102))):=hide ((((Below.refl w.heap.size w).alloc (Nat.le_refl _) (.cells #[.int .u8 xc,.bool xb,.int .i64 xn,.string xt] 102)).alloc (by simp<;>omega) (.cells #[.int .u8 yc,.bool yb,.int .i64 yn,.string yt] 102)).alloc (by simp<;>omega) (.cells #[.int .u8 0,.bool false,.int .i64 0,.string ⟨#[]⟩] 102))
 have HX:Hid ((((w.alloc (.cells #[.int .u8 xc,.bool xb,.int .i64 xn,.string xt] 102)).alloc (.cells #[.int .u8 yc,.bool yb,.int .i64 yn,.string yt] 102)).alloc (.cells #[.int .u8 0,.bool false,.int .i64 0,.string ⟨#[]⟩] 102)).heap[w.heap.size+1+1]?=some (.cells #[.int .u8 0,.bool false,.int .i64 0,.string ⟨#[]⟩] 102)):=hide (by have q:=heap_alloc_new ((w.alloc (.cells #[.int .u8 xc,.bool xb,.int .i64 xn,.string xt] 102)).alloc (.cells #[.int .u8 yc,.bool yb,.int .i64 yn,.string yt] 102)) (.cells #[.int .u8 0,.bool false,.int .i64 0,.string ⟨#[]⟩] 102);rw [show((w.alloc (.cells #[.int .u8 xc,.bool xb,.int .i64 xn,.string xt] 102)).alloc (.cells #[.int .u8 yc,.bool yb,.int .i64 yn,.string yt] 102)).heap.size=w.heap.size+1+1 by simp] at q;exact q)
 have HZ:Hid (w.heap.size+1+1<(((w.alloc (.cells #[.int .u8 xc,.bool xb,.int .i64 xn,.string xt] 102)).alloc (.cells #[.int .u8 yc,.bool yb,.int .i64 yn,.string yt] 102)).alloc (.cells #[.int .u8 0,.bool false,.int .i64 0,.string ⟨#[]⟩] 102)).heap.size):=hide (by simp)
 have HZ1:Hid (w.heap.size≤(((w.alloc (.cells #[.int .u8 xc,.bool xb,.int .i64 xn,.string xt] 102)).alloc (.cells #[.int .u8 yc,.bool yb,.int .i64 yn,.string yt] 102)).alloc (.cells #[.int .u8 0,.bool false,.int .i64 0,.string ⟨#[]⟩] 102)).heap.size):=hide (by simp<;>omega)
 have HG:Hid (w.heap.size≤w.heap.size+1+1):=hide (by omega)
 cases h1:(t.toList==[43])
 case true=>
  have hcc:isCalc t=true:=by unfold isCalc;simp [h1]
  have hres:Hid (bothM t ⟨xk,xb,xn,xt⟩ ⟨yk,yb,yn,yt⟩=wNum (wrap64 (xn+yn))):=hide (by unfold bothM;rw [hcc];show calcM t xn yn=_;unfold calcM;rw [h1];rfl)
  have HC:=hide (held_any (wrap64 (xn+yn)) (((w.alloc (.cells #[.int .u8 xc,.bool xb,.int .i64 xn,.string xt] 102)).alloc (.cells #[.int .u8 yc,.bool yb,.int .i64 yn,.string yt] 102)).alloc (.cells #[.int .u8 0,.bool false,.int .i64 0,.string ⟨#[]⟩] 102)))
  generalize hX:wNum (wrap64 (xn+yn))=X at*
  clear hX
  go_enter Tryz.func100,Tryz.ntmps100
  go_wp2_with fail
  refine HC.out.mono ?_
  rintro e w1 ⟨rfl,hB1⟩
  have hbx:=(hB1.block _ HZ.out).trans HX.out
  obtain⟨y0,y1,y2,y3,g0,g1,g2,g3⟩:=boxw hbx
  obtain⟨z0,z1,z2,z3⟩:=stored4 hbx (.int .u8 (kc X.kind)) (.bool X.truth) (.int .i64 X.num) (.string X.text)
  have HB2:=hide (below4 (HB0.out.trans (hB1.mono HZ1.out)) HG.out (.int .u8 (kc X.kind)) (.bool X.truth) (.int .i64 X.num) (.string X.text))
  clear hbx hB1
  go_wp2_with fail
  refine bodyPost_ret (v:= .agg #[.int .u8 (kc X.kind),.bool X.truth,.int .i64 X.num,.string X.text]) (by simp [results,Tryz.results100,go_sem,z0,z1,z2,z3]) rfl ?_
  exact⟨by rw [hres.out],HB2.out⟩
 cases h2:(t.toList==[45])
 case true=>
  have hcc:isCalc t=true:=by unfold isCalc;simp [h2]
  have hres:Hid (bothM t ⟨xk,xb,xn,xt⟩ ⟨yk,yb,yn,yt⟩=wNum (wrap64 (xn - yn))):=hide (by unfold bothM;rw [hcc];show calcM t xn yn=_;unfold calcM;rw [h1,h2];rfl)
  have HC:=hide (held_any (wrap64 (xn - yn)) (((w.alloc (.cells #[.int .u8 xc,.bool xb,.int .i64 xn,.string xt] 102)).alloc (.cells #[.int .u8 yc,.bool yb,.int .i64 yn,.string yt] 102)).alloc (.cells #[.int .u8 0,.bool false,.int .i64 0,.string ⟨#[]⟩] 102)))
  generalize hX:wNum (wrap64 (xn - yn))=X at*
  clear hX
  go_enter Tryz.func100,Tryz.ntmps100
  go_wp2_with fail
  refine HC.out.mono ?_
  rintro e w1 ⟨rfl,hB1⟩
  have hbx:=(hB1.block _ HZ.out).trans HX.out
  obtain⟨y0,y1,y2,y3,g0,g1,g2,g3⟩:=boxw hbx
  obtain⟨z0,z1,z2,z3⟩:=stored4 hbx (.int .u8 (kc X.kind)) (.bool X.truth) (.int .i64 X.num) (.string X.text)
  have HB2:=hide (below4 (HB0.out.trans (hB1.mono HZ1.out)) HG.out (.int .u8 (kc X.kind)) (.bool X.truth) (.int .i64 X.num) (.string X.text))
  clear hbx hB1
  go_wp2_with fail
  refine bodyPost_ret (v:= .agg #[.int .u8 (kc X.kind),.bool X.truth,.int .i64 X.num,.string X.text]) (by simp [results,Tryz.results100,go_sem,z0,z1,z2,z3]) rfl ?_
  exact⟨by rw [hres.out],HB2.out⟩
 cases h3:(t.toList==[42])
 case true=>
  have hcc:isCalc t=true:=by unfold isCalc;simp [h3]
  have hres:Hid (bothM t ⟨xk,xb,xn,xt⟩ ⟨yk,yb,yn,yt⟩=wNum (wrap64 (xn*yn))):=hide (by unfold bothM;rw [hcc];show calcM t xn yn=_;unfold calcM;rw [h1,h2,h3];rfl)
  have HC:=hide (held_any (wrap64 (xn*yn)) (((w.alloc (.cells #[.int .u8 xc,.bool xb,.int .i64 xn,.string xt] 102)).alloc (.cells #[.int .u8 yc,.bool yb,.int .i64 yn,.string yt] 102)).alloc (.cells #[.int .u8 0,.bool false,.int .i64 0,.string ⟨#[]⟩] 102)))
  generalize hX:wNum (wrap64 (xn*yn))=X at*
  clear hX
  go_enter Tryz.func100,Tryz.ntmps100
  go_wp2_with fail
  refine HC.out.mono ?_
  rintro e w1 ⟨rfl,hB1⟩
  have hbx:=(hB1.block _ HZ.out).trans HX.out
  obtain⟨y0,y1,y2,y3,g0,g1,g2,g3⟩:=boxw hbx
  obtain⟨z0,z1,z2,z3⟩:=stored4 hbx (.int .u8 (kc X.kind)) (.bool X.truth) (.int .i64 X.num) (.string X.text)
  have HB2:=hide (below4 (HB0.out.trans (hB1.mono HZ1.out)) HG.out (.int .u8 (kc X.kind)) (.bool X.truth) (.int .i64 X.num) (.string X.text))
  clear hbx hB1
  go_wp2_with fail
  refine bodyPost_ret (v:= .agg #[.int .u8 (kc X.kind),.bool X.truth,.int .i64 X.num,.string X.text]) (by simp [results,Tryz.results100,go_sem,z0,z1,z2,z3]) rfl ?_
  exact⟨by rw [hres.out],HB2.out⟩
 cases h4:(t.toList==[47])
 case true=>
  cases h0:(yn==0)
  case true=>
   have hcc:isCalc t=true:=by unfold isCalc;simp [h4]
   have hres:Hid (bothM t ⟨xk,xb,xn,xt⟩ ⟨yk,yb,yn,yt⟩=wErr):=hide (by unfold bothM;rw [hcc];show calcM t xn yn=_;unfold calcM;rw [h1,h2,h3,h0];rfl)
   go_enter Tryz.func100,Tryz.ntmps100
   go_wp2_with fail
   refine bodyPost_ret (v:= .agg #[.int .u8 101,.bool false,.int .i64 0,.string ⟨#[]⟩]) (by simp [results,Tryz.results100,go_sem]) rfl ?_
   exact⟨by rw [hres.out];rfl,((((Below.refl w.heap.size w).alloc (Nat.le_refl _) _).alloc (by simp<;>omega) _).alloc (by simp<;>omega) _)⟩
  have h0': ¬yn=0:=by simpa using h0
  have hcc:isCalc t=true:=by unfold isCalc;simp [h4]
  have hres:Hid (bothM t ⟨xk,xb,xn,xt⟩ ⟨yk,yb,yn,yt⟩=wNum (wrap64 (xn.tdiv yn))):=hide (by unfold bothM;rw [hcc];show calcM t xn yn=_;unfold calcM;rw [h1,h2,h3,h0,h4];rfl)
  have HC:=hide (held_any (wrap64 (xn.tdiv yn)) (((w.alloc (.cells #[.int .u8 xc,.bool xb,.int .i64 xn,.string xt] 102)).alloc (.cells #[.int .u8 yc,.bool yb,.int .i64 yn,.string yt] 102)).alloc (.cells #[.int .u8 0,.bool false,.int .i64 0,.string ⟨#[]⟩] 102)))
  generalize hX:wNum (wrap64 (xn.tdiv yn))=X at*
  clear hX
  go_enter Tryz.func100,Tryz.ntmps100
  go_wp2_with fail
  refine HC.out.mono ?_
  rintro e w1 ⟨rfl,hB1⟩
  have hbx:=(hB1.block _ HZ.out).trans HX.out
  obtain⟨y0,y1,y2,y3,g0,g1,g2,g3⟩:=boxw hbx
  obtain⟨z0,z1,z2,z3⟩:=stored4 hbx (.int .u8 (kc X.kind)) (.bool X.truth) (.int .i64 X.num) (.string X.text)
  have HB2:=hide (below4 (HB0.out.trans (hB1.mono HZ1.out)) HG.out (.int .u8 (kc X.kind)) (.bool X.truth) (.int .i64 X.num) (.string X.text))
  clear hbx hB1
  go_wp2_with fail
  refine bodyPost_ret (v:= .agg #[.int .u8 (kc X.kind),.bool X.truth,.int .i64 X.num,.string X.text]) (by simp [results,Tryz.results100,go_sem,z0,z1,z2,z3]) rfl ?_
  exact⟨by rw [hres.out],HB2.out⟩
 cases h5:(t.toList==[37])
 case true=>
  cases h0:(yn==0)
  case true=>
   have hcc:isCalc t=true:=by unfold isCalc;simp [h5]
   have hres:Hid (bothM t ⟨xk,xb,xn,xt⟩ ⟨yk,yb,yn,yt⟩=wErr):=hide (by unfold bothM;rw [hcc];show calcM t xn yn=_;unfold calcM;rw [h1,h2,h3,h0];rfl)
   go_enter Tryz.func100,Tryz.ntmps100
   go_wp2_with fail
   refine bodyPost_ret (v:= .agg #[.int .u8 101,.bool false,.int .i64 0,.string ⟨#[]⟩]) (by simp [results,Tryz.results100,go_sem]) rfl ?_
   exact⟨by rw [hres.out];rfl,((((Below.refl w.heap.size w).alloc (Nat.le_refl _) _).alloc (by simp<;>omega) _).alloc (by simp<;>omega) _)⟩
  have h0': ¬yn=0:=by simpa using h0
  have hcc:isCalc t=true:=by unfold isCalc;simp [h5]
  have hres:Hid (bothM t ⟨xk,xb,xn,xt⟩ ⟨yk,yb,yn,yt⟩=wNum (xn.tmod yn)):=hide (by unfold bothM;rw [hcc];show calcM t xn yn=_;unfold calcM;rw [h1,h2,h3,h0,h4];rfl)
  have HC:=hide (held_any (xn.tmod yn) (((w.alloc (.cells #[.int .u8 xc,.bool xb,.int .i64 xn,.string xt] 102)).alloc (.cells #[.int .u8 yc,.bool yb,.int .i64 yn,.string yt] 102)).alloc (.cells #[.int .u8 0,.bool false,.int .i64 0,.string ⟨#[]⟩] 102)))
  generalize hX:wNum (xn.tmod yn)=X at*
  clear hX
  go_enter Tryz.func100,Tryz.ntmps100
  go_wp2_with fail
  refine HC.out.mono ?_
  rintro e w1 ⟨rfl,hB1⟩
  have hbx:=(hB1.block _ HZ.out).trans HX.out
  obtain⟨y0,y1,y2,y3,g0,g1,g2,g3⟩:=boxw hbx
  obtain⟨z0,z1,z2,z3⟩:=stored4 hbx (.int .u8 (kc X.kind)) (.bool X.truth) (.int .i64 X.num) (.string X.text)
  have HB2:=hide (below4 (HB0.out.trans (hB1.mono HZ1.out)) HG.out (.int .u8 (kc X.kind)) (.bool X.truth) (.int .i64 X.num) (.string X.text))
  clear hbx hB1
  go_wp2_with fail
  refine bodyPost_ret (v:= .agg #[.int .u8 (kc X.kind),.bool X.truth,.int .i64 X.num,.string X.text]) (by simp [results,Tryz.results100,go_sem,z0,z1,z2,z3]) rfl ?_
  exact⟨by rw [hres.out],HB2.out⟩
 have hcf:isCalc t=false:=by unfold isCalc;rw [h1,h2,h3,h4,h5];rfl
 have h6:(t.toList==[46])=true:=hc.resolve_left (by rw [hcf];decide)
 have hres:Hid (bothM t ⟨xk,xb,xn,xt⟩ ⟨yk,yb,yn,yt⟩=wStr (xt++yt)):=hide (by unfold bothM;rw [hcf,h6];rfl)
 clear hc
 go_enter Tryz.func100,Tryz.ntmps100
 go_wp2_with fail
 refine bodyPost_ret (v:= .agg #[.int .u8 115,.bool false,.int .i64 0,.string (xt++yt)]) (by simp [results,Tryz.results100,go_sem]) rfl ?_
 exact⟨by rw [hres.out];rfl,((((Below.refl w.heap.size w).alloc (Nat.le_refl _) _).alloc (by simp<;>omega) _).alloc (by simp<;>omega) _)⟩
end Go.Proofs.YtkoohcilbpdgeaaGreatDoor
