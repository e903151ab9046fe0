import Derived.Deep.RegionWith
import Derived.Test.YtkoohcilbpdgeaaGreatDoorC24
set_option linter.all false
set_option linter.unusedVariables false
set_option linter.unusedSimpArgs false
set_option linter.unnecessarySimpa false
set_option linter.constructorNameAsVariable false
set_option linter.deprecated false
set_option maxRecDepth 100000
set_option maxHeartbeats 6400000
namespace Go.Proofs.YtkoohcilbpdgeaaGreatDoor
open Go Go.RowKit
attribute [local go_sem] wrap64_byte
theorem sign_not {op:ByteArray}(hs:isSignB op=true)(l:List UInt8)(hl:(l==[124,124]||l==[38,38]||l==[61,61]||l==[33,61]||l==[60]||l==[60,61]||l==[62]||l==[62,61]||l==[43]||l==[45]||l==[46]||l==[42]||l==[47]||l==[37])=false):(op.toList==l)=false:=by
 cases hq:(op.toList==l) with
 |false=>rfl
 |true=>
  have e:op.toList=l:=eq_of_beq hq
  unfold isSignB at hs
  rw [e] at hs
  rw [hs] at hl
  cases hl
theorem worth_pairE {X:Nat→Prop}{w:World}{v:Value}{op tx:ByteArray}{a:Int}{v1 v2:Value}(h:NodeX X w v op tx a [v1,v2])(lv:Value)(hs:isSignB op=true)(xk:Int)(xb:Bool)(xn:Int)(xt:ByteArray)(yk:Int)(yb:Bool)(yn:Int)(yt:ByteArray)(hx:xt.size≤400000000)(hy:yt.size≤400000000)(h1: ∀W,Below w.heap.size w W→Calls Tryz.prog 55 #[v1,lv] W fun e w'=>DPost ⟨xk,xb,xn,xt⟩ W e w')(h2: ∀W,Below w.heap.size w W→Calls Tryz.prog 55 #[v2,lv] W fun e w'=>DPost ⟨yk,yb,yn,yt⟩ W e w')(hz:(xk==0)=true):Calls Tryz.prog 55 #[v,lv] w fun e w'=>DPost (pairM op ⟨xk,xb,xn,xt⟩ ⟨yk,yb,yn,yt⟩) w e w':=by
 obtain⟨g,kv,rfl,hh,hg,hkv⟩:=node_at h
 obtain⟨c0,c1,c2,c3,cf⟩:=box4' hh
 obtain⟨ak,kk,rfl⟩:=ownsRow_slice hkv
 obtain⟨g',cap,hv,hb',hg'⟩:=hkv.form (by simp)
 injection hv with e1 e2 e3
 subst e1 e3
 have r0:w.cell? ⟨g',0,none⟩=some v1:=row_cell hkv 0 _ rfl
 have r1:w.cell? ⟨g',1,none⟩=some v2:=row_cell hkv 1 _ rfl
 have hgn:g≠w.heap.size:=by omega
 have hgn':g'≠w.heap.size:=by omega
 clear h hh
 obtain⟨m1,m2⟩:=sign_notleaf hs
 unfold isLeafB at m1
 simp only [Bool.or_eq_false_iff] at m1
 obtain⟨⟨⟨⟨⟨⟨n1,n2⟩,n3⟩,n4⟩,n5⟩,n6⟩,n7⟩:=m1
 have n8:(op.toList==[110])=false:=sign_not hs [110] rfl
 have n9:(op.toList==[33])=false:=sign_not hs [33] rfl
 clear m2
 have HB0:Hid (Below w.heap.size w (w.alloc (.cells #[.int .u8 0,.bool false,.int .i64 0,.string ⟨#[]⟩] 102))):=hide ((Below.refl w.heap.size w).alloc (Nat.le_refl _) (.cells #[.int .u8 0,.bool false,.int .i64 0,.string ⟨#[]⟩] 102))
 have HX:Hid ((w.alloc (.cells #[.int .u8 0,.bool false,.int .i64 0,.string ⟨#[]⟩] 102)).heap[w.heap.size]?=some (.cells #[.int .u8 0,.bool false,.int .i64 0,.string ⟨#[]⟩] 102)):=hide (heap_alloc_new w _)
 have HZ:Hid (w.heap.size<(w.alloc (.cells #[.int .u8 0,.bool false,.int .i64 0,.string ⟨#[]⟩] 102)).heap.size):=hide (by simp)
 have HZ1:Hid (w.heap.size≤(w.alloc (.cells #[.int .u8 0,.bool false,.int .i64 0,.string ⟨#[]⟩] 102)).heap.size):=hide (by simp<;>omega)
 have HG:Hid (w.heap.size≤w.heap.size):=hide (by omega)
 have HC:=hide (h1 _ HB0.out)
 clear h1 h2
 have hk:=kc_zero xk
 have hres:Hid (pairM op ⟨xk,xb,xn,xt⟩ ⟨yk,yb,yn,yt⟩=⟨xk,xb,xn,xt⟩):=hide (by unfold pairM;rw [hz];rfl)
 rw [hz] at hk
 have HKK:=hide hk
 clear hk
 go_enter Tryz.func55,Tryz.ntmps55
 go_wp2_with fail
 refine HC.out.mono ?_
 rintro e w1 ⟨rfl,hB1⟩
 have hBw:=HB0.out.trans (hB1.mono HZ1.out)
 have hbx:=(hB1.block _ HZ.out).trans HX.out
 have hWx:=hBw.alloc hBw.size (.cells #[.int .u8 (kc xk),.bool xb,.int .i64 xn,.string xt] 102)
 have d0:(w1.alloc (.cells #[.int .u8 (kc xk),.bool xb,.int .i64 xn,.string xt] 102)).cell? ⟨g,0,none⟩=_:=(hWx.cell (p:=⟨g,0,none⟩) hg).trans c0
 have d3:(w1.alloc (.cells #[.int .u8 (kc xk),.bool xb,.int .i64 xn,.string xt] 102)).cell? ⟨g,3,none⟩=_:=(hWx.cell (p:=⟨g,3,none⟩) hg).trans c3
 obtain⟨y0,y1,y2,y3,f0,f1,f2,f3⟩:=boxw ((Below.heap_alloc w1 (.cells #[.int .u8 (kc xk),.bool xb,.int .i64 xn,.string xt] 102) _ (lt_of_get hbx)).trans hbx)
 have HBX:=hide ((Below.heap_alloc w1 (.cells #[.int .u8 (kc xk),.bool xb,.int .i64 xn,.string xt] 102) _ (lt_of_get hbx)).trans hbx)
 have HBW:=hide hWx
 have hsz1:w.heap.size≤w1.heap.size:=hBw.size
 have hne1:w1.heap.size≠w.heap.size:=by have:=lt_of_get hbx;omega
 clear hWx hbx hBw hB1
 have d1:(w1.alloc (.cells #[.int .u8 (kc xk),.bool xb,.int .i64 xn,.string xt] 102)).cell? ⟨g',1,none⟩=_:=(HBW.out.cell (p:=⟨g',1,none⟩) hg').trans r1
 have hk:=HKK.out
 go_wp2_with fail
 obtain⟨z0,z1,z2,z3⟩:=stored4 HBX.out (.int .u8 (kc xk)) (.bool xb) (.int .i64 xn) (.string xt)
 refine bodyPost_ret (v:= .agg #[.int .u8 (kc xk),.bool xb,.int .i64 xn,.string xt]) (by simp [results,Tryz.results55,go_sem,z0,z1,z2,z3]) rfl ?_
 exact⟨by rw [hres.out]<;>rfl,below4 HBW.out (Nat.le_refl _) (.int .u8 (kc xk)) (.bool xb) (.int .i64 xn) (.string xt)⟩
theorem worth_and_true {X:Nat→Prop}{w:World}{v:Value}{op tx:ByteArray}{a:Int}{v1 v2:Value}(h:NodeX X w v op tx a [v1,v2])(lv:Value)(hs:isSignB op=true)(xk:Int)(xn:Int)(xt:ByteArray)(yk:Int)(yb:Bool)(yn:Int)(yt:ByteArray)(hx:xt.size≤400000000)(hy:yt.size≤400000000)(h1: ∀W,Below w.heap.size w W→Calls Tryz.prog 55 #[v1,lv] W fun e w'=>DPost ⟨xk,true,xn,xt⟩ W e w')(h2: ∀W,Below w.heap.size w W→Calls Tryz.prog 55 #[v2,lv] W fun e w'=>DPost ⟨yk,yb,yn,yt⟩ W e w')(hz:(xk==0)=false)(hop:(op.toList==[38,38])=true):Calls Tryz.prog 55 #[v,lv] w fun e w'=>DPost (pairM op ⟨xk,true,xn,xt⟩ ⟨yk,yb,yn,yt⟩) w e w':=by
 obtain⟨g,kv,rfl,hh,hg,hkv⟩:=node_at h
 obtain⟨c0,c1,c2,c3,cf⟩:=box4' hh
 obtain⟨ak,kk,rfl⟩:=ownsRow_slice hkv
 obtain⟨g',cap,hv,hb',hg'⟩:=hkv.form (by simp)
 injection hv with e1 e2 e3
 subst e1 e3
 have r0:w.cell? ⟨g',0,none⟩=some v1:=row_cell hkv 0 _ rfl
 have r1:w.cell? ⟨g',1,none⟩=some v2:=row_cell hkv 1 _ rfl
 have hgn:g≠w.heap.size:=by omega
 have hgn':g'≠w.heap.size:=by omega
 clear h hh
 obtain⟨m1,m2⟩:=sign_notleaf hs
 unfold isLeafB at m1
 simp only [Bool.or_eq_false_iff] at m1
 obtain⟨⟨⟨⟨⟨⟨n1,n2⟩,n3⟩,n4⟩,n5⟩,n6⟩,n7⟩:=m1
 have n8:(op.toList==[110])=false:=sign_not hs [110] rfl
 have n9:(op.toList==[33])=false:=sign_not hs [33] rfl
 clear m2
 have HB0:Hid (Below w.heap.size w (w.alloc (.cells #[.int .u8 0,.bool false,.int .i64 0,.string ⟨#[]⟩] 102))):=hide ((Below.refl w.heap.size w).alloc (Nat.le_refl _) (.cells #[.int .u8 0,.bool false,.int .i64 0,.string ⟨#[]⟩] 102))
 have HX:Hid ((w.alloc (.cells #[.int .u8 0,.bool false,.int .i64 0,.string ⟨#[]⟩] 102)).heap[w.heap.size]?=some (.cells #[.int .u8 0,.bool false,.int .i64 0,.string ⟨#[]⟩] 102)):=hide (heap_alloc_new w _)
 have HZ:Hid (w.heap.size<(w.alloc (.cells #[.int .u8 0,.bool false,.int .i64 0,.string ⟨#[]⟩] 102)).heap.size):=hide (by simp)
 have HZ1:Hid (w.heap.size≤(w.alloc (.cells #[.int .u8 0,.bool false,.int .i64 0,.string ⟨#[]⟩] 102)).heap.size):=hide (by simp<;>omega)
 have HG:Hid (w.heap.size≤w.heap.size):=hide (by omega)
 have HC:=hide (h1 _ HB0.out)
 have HY:=hide h2
 clear h1 h2
 have hk:=kc_zero xk
 have hop2:(op.toList==[124,124])=false:=by rw [eq_of_beq hop];rfl
 have hres:Hid (pairM op ⟨xk,true,xn,xt⟩ ⟨yk,yb,yn,yt⟩=⟨yk,yb,yn,yt⟩):=hide (by unfold pairM;rw [hz,hop];rfl)
 rw [hz] at hk
 have HKK:=hide hk
 clear hk
 go_enter Tryz.func55,Tryz.ntmps55
 go_wp2_with fail
 refine HC.out.mono ?_
 rintro e w1 ⟨rfl,hB1⟩
 have hBw:=HB0.out.trans (hB1.mono HZ1.out)
 have hbx:=(hB1.block _ HZ.out).trans HX.out
 have hWx:=hBw.alloc hBw.size (.cells #[.int .u8 (kc xk),.bool true,.int .i64 xn,.string xt] 102)
 have d0:(w1.alloc (.cells #[.int .u8 (kc xk),.bool true,.int .i64 xn,.string xt] 102)).cell? ⟨g,0,none⟩=_:=(hWx.cell (p:=⟨g,0,none⟩) hg).trans c0
 have d3:(w1.alloc (.cells #[.int .u8 (kc xk),.bool true,.int .i64 xn,.string xt] 102)).cell? ⟨g,3,none⟩=_:=(hWx.cell (p:=⟨g,3,none⟩) hg).trans c3
 obtain⟨y0,y1,y2,y3,f0,f1,f2,f3⟩:=boxw ((Below.heap_alloc w1 (.cells #[.int .u8 (kc xk),.bool true,.int .i64 xn,.string xt] 102) _ (lt_of_get hbx)).trans hbx)
 have HBX:=hide ((Below.heap_alloc w1 (.cells #[.int .u8 (kc xk),.bool true,.int .i64 xn,.string xt] 102) _ (lt_of_get hbx)).trans hbx)
 have HBW:=hide hWx
 have hsz1:w.heap.size≤w1.heap.size:=hBw.size
 have hne1:w1.heap.size≠w.heap.size:=by have:=lt_of_get hbx;omega
 clear hWx hbx hBw hB1
 have d1:(w1.alloc (.cells #[.int .u8 (kc xk),.bool true,.int .i64 xn,.string xt] 102)).cell? ⟨g',1,none⟩=_:=(HBW.out.cell (p:=⟨g',1,none⟩) hg').trans r1
 have hk:=HKK.out
 go_wp2_with fail
 go_quiet (fail)
 go_wp2_with fail
 have hWd:Below w.heap.size w ((w1.alloc (.cells #[.int .u8 (kc xk),.bool true,.int .i64 xn,.string xt] 102)).drewN nq):=⟨HBW.out.os,HBW.out.tape,HBW.out.output,HBW.out.size,HBW.out.block⟩
 refine(HY.out _ hWd).mono ?_
 rintro e w2 ⟨rfl,hB2⟩
 have hbx2:=(hB2.block w.heap.size (lt_of_get HBX.out)).trans HBX.out
 have HB2:=hide (hWd.trans (hB2.mono hWd.size))
 obtain⟨y0,y1,y2,y3,f0,f1,f2,f3⟩:=boxw hbx2
 obtain⟨z0,z1,z2,z3⟩:=stored4 hbx2 (.int .u8 (kc yk)) (.bool yb) (.int .i64 yn) (.string yt)
 clear hbx2 hB2 hWd
 go_wp2_with fail
 refine bodyPost_ret (v:= .agg #[.int .u8 (kc yk),.bool yb,.int .i64 yn,.string yt]) (by simp [results,Tryz.results55,go_sem,z0,z1,z2,z3]) rfl ?_
 exact⟨by rw [hres.out]<;>rfl,below4 HB2.out (Nat.le_refl _) _ _ _ _⟩
theorem worth_and_false {X:Nat→Prop}{w:World}{v:Value}{op tx:ByteArray}{a:Int}{v1 v2:Value}(h:NodeX X w v op tx a [v1,v2])(lv:Value)(hs:isSignB op=true)(xk:Int)(xn:Int)(xt:ByteArray)(yk:Int)(yb:Bool)(yn:Int)(yt:ByteArray)(hx:xt.size≤400000000)(hy:yt.size≤400000000)(h1: ∀W,Below w.heap.size w W→Calls Tryz.prog 55 #[v1,lv] W fun e w'=>DPost ⟨xk,false,xn,xt⟩ W e w')(h2: ∀W,Below w.heap.size w W→Calls Tryz.prog 55 #[v2,lv] W fun e w'=>DPost ⟨yk,yb,yn,yt⟩ W e w')(hz:(xk==0)=false)(hop:(op.toList==[38,38])=true):Calls Tryz.prog 55 #[v,lv] w fun e w'=>DPost (pairM op ⟨xk,false,xn,xt⟩ ⟨yk,yb,yn,yt⟩) w e w':=by
 obtain⟨g,kv,rfl,hh,hg,hkv⟩:=node_at h
 obtain⟨c0,c1,c2,c3,cf⟩:=box4' hh
 obtain⟨ak,kk,rfl⟩:=ownsRow_slice hkv
 obtain⟨g',cap,hv,hb',hg'⟩:=hkv.form (by simp)
 injection hv with e1 e2 e3
 subst e1 e3
 have r0:w.cell? ⟨g',0,none⟩=some v1:=row_cell hkv 0 _ rfl
 have r1:w.cell? ⟨g',1,none⟩=some v2:=row_cell hkv 1 _ rfl
 have hgn:g≠w.heap.size:=by omega
 have hgn':g'≠w.heap.size:=by omega
 clear h hh
 obtain⟨m1,m2⟩:=sign_notleaf hs
 unfold isLeafB at m1
 simp only [Bool.or_eq_false_iff] at m1
 obtain⟨⟨⟨⟨⟨⟨n1,n2⟩,n3⟩,n4⟩,n5⟩,n6⟩,n7⟩:=m1
 have n8:(op.toList==[110])=false:=sign_not hs [110] rfl
 have n9:(op.toList==[33])=false:=sign_not hs [33] rfl
 clear m2
 have HB0:Hid (Below w.heap.size w (w.alloc (.cells #[.int .u8 0,.bool false,.int .i64 0,.string ⟨#[]⟩] 102))):=hide ((Below.refl w.heap.size w).alloc (Nat.le_refl _) (.cells #[.int .u8 0,.bool false,.int .i64 0,.string ⟨#[]⟩] 102))
 have HX:Hid ((w.alloc (.cells #[.int .u8 0,.bool false,.int .i64 0,.string ⟨#[]⟩] 102)).heap[w.heap.size]?=some (.cells #[.int .u8 0,.bool false,.int .i64 0,.string ⟨#[]⟩] 102)):=hide (heap_alloc_new w _)
 have HZ:Hid (w.heap.size<(w.alloc (.cells #[.int .u8 0,.bool false,.int .i64 0,.string ⟨#[]⟩] 102)).heap.size):=hide (by simp)
 have HZ1:Hid (w.heap.size≤(w.alloc (.cells #[.int .u8 0,.bool false,.int .i64 0,.string ⟨#[]⟩] 102)).heap.size):=hide (by simp<;>omega)
 have HG:Hid (w.heap.size≤w.heap.size):=hide (by omega)
 have HC:=hide (h1 _ HB0.out)
 have HY:=hide h2
 clear h1 h2
 have hk:=kc_zero xk
 have hop2:(op.toList==[124,124])=false:=by rw [eq_of_beq hop];rfl
 have hres:Hid (pairM op ⟨xk,false,xn,xt⟩ ⟨yk,yb,yn,yt⟩=⟨xk,false,xn,xt⟩):=hide (by unfold pairM;rw [hz,hop];rfl)
 rw [hz] at hk
 have HKK:=hide hk
 clear hk
 go_enter Tryz.func55,Tryz.ntmps55
 go_wp2_with fail
 refine HC.out.mono ?_
 rintro e w1 ⟨rfl,hB1⟩
 have hBw:=HB0.out.trans (hB1.mono HZ1.out)
 have hbx:=(hB1.block _ HZ.out).trans HX.out
 have hWx:=hBw.alloc hBw.size (.cells #[.int .u8 (kc xk),.bool false,.int .i64 xn,.string xt] 102)
 have d0:(w1.alloc (.cells #[.int .u8 (kc xk),.bool false,.int .i64 xn,.string xt] 102)).cell? ⟨g,0,none⟩=_:=(hWx.cell (p:=⟨g,0,none⟩) hg).trans c0
 have d3:(w1.alloc (.cells #[.int .u8 (kc xk),.bool false,.int .i64 xn,.string xt] 102)).cell? ⟨g,3,none⟩=_:=(hWx.cell (p:=⟨g,3,none⟩) hg).trans c3
 obtain⟨y0,y1,y2,y3,f0,f1,f2,f3⟩:=boxw ((Below.heap_alloc w1 (.cells #[.int .u8 (kc xk),.bool false,.int .i64 xn,.string xt] 102) _ (lt_of_get hbx)).trans hbx)
 have HBX:=hide ((Below.heap_alloc w1 (.cells #[.int .u8 (kc xk),.bool false,.int .i64 xn,.string xt] 102) _ (lt_of_get hbx)).trans hbx)
 have HBW:=hide hWx
 have hsz1:w.heap.size≤w1.heap.size:=hBw.size
 have hne1:w1.heap.size≠w.heap.size:=by have:=lt_of_get hbx;omega
 clear hWx hbx hBw hB1
 have d1:(w1.alloc (.cells #[.int .u8 (kc xk),.bool false,.int .i64 xn,.string xt] 102)).cell? ⟨g',1,none⟩=_:=(HBW.out.cell (p:=⟨g',1,none⟩) hg').trans r1
 have hk:=HKK.out
 go_wp2_with fail
 go_quiet (fail)
 go_wp2_with fail
 obtain⟨z0,z1,z2,z3⟩:=stored4 (w:=(w1.alloc (.cells #[.int .u8 (kc xk),.bool false,.int .i64 xn,.string xt] 102)).drewN nq) HBX.out (.int .u8 (kc xk)) (.bool false) (.int .i64 xn) (.string xt)
 refine bodyPost_ret (v:= .agg #[.int .u8 (kc xk),.bool false,.int .i64 xn,.string xt]) (by simp [results,Tryz.results55,go_sem,z0,z1,z2,z3]) rfl ?_
 have hWd:Below w.heap.size w ((w1.alloc (.cells #[.int .u8 (kc xk),.bool false,.int .i64 xn,.string xt] 102)).drewN nq):=⟨HBW.out.os,HBW.out.tape,HBW.out.output,HBW.out.size,HBW.out.block⟩
 exact⟨by rw [hres.out]<;>rfl,below4 hWd (Nat.le_refl _) (.int .u8 (kc xk)) (.bool false) (.int .i64 xn) (.string xt)⟩
theorem worth_or_true {X:Nat→Prop}{w:World}{v:Value}{op tx:ByteArray}{a:Int}{v1 v2:Value}(h:NodeX X w v op tx a [v1,v2])(lv:Value)(hs:isSignB op=true)(xk:Int)(xn:Int)(xt:ByteArray)(yk:Int)(yb:Bool)(yn:Int)(yt:ByteArray)(hx:xt.size≤400000000)(hy:yt.size≤400000000)(h1: ∀W,Below w.heap.size w W→Calls Tryz.prog 55 #[v1,lv] W fun e w'=>DPost ⟨xk,true,xn,xt⟩ W e w')(h2: ∀W,Below w.heap.size w W→Calls Tryz.prog 55 #[v2,lv] W fun e w'=>DPost ⟨yk,yb,yn,yt⟩ W e w')(hz:(xk==0)=false)(hop:(op.toList==[124,124])=true):Calls Tryz.prog 55 #[v,lv] w fun e w'=>DPost (pairM op ⟨xk,true,xn,xt⟩ ⟨yk,yb,yn,yt⟩) w e w':=by
 obtain⟨g,kv,rfl,hh,hg,hkv⟩:=node_at h
 obtain⟨c0,c1,c2,c3,cf⟩:=box4' hh
 obtain⟨ak,kk,rfl⟩:=ownsRow_slice hkv
 obtain⟨g',cap,hv,hb',hg'⟩:=hkv.form (by simp)
 injection hv with e1 e2 e3
 subst e1 e3
 have r0:w.cell? ⟨g',0,none⟩=some v1:=row_cell hkv 0 _ rfl
 have r1:w.cell? ⟨g',1,none⟩=some v2:=row_cell hkv 1 _ rfl
 have hgn:g≠w.heap.size:=by omega
 have hgn':g'≠w.heap.size:=by omega
 clear h hh
 obtain⟨m1,m2⟩:=sign_notleaf hs
 unfold isLeafB at m1
 simp only [Bool.or_eq_false_iff] at m1
 obtain⟨⟨⟨⟨⟨⟨n1,n2⟩,n3⟩,n4⟩,n5⟩,n6⟩,n7⟩:=m1
 have n8:(op.toList==[110])=false:=sign_not hs [110] rfl
 have n9:(op.toList==[33])=false:=sign_not hs [33] rfl
 clear m2
 have HB0:Hid (Below w.heap.size w (w.alloc (.cells #[.int .u8 0,.bool false,.int .i64 0,.string ⟨#[]⟩] 102))):=hide ((Below.refl w.heap.size w).alloc (Nat.le_refl _) (.cells #[.int .u8 0,.bool false,.int .i64 0,.string ⟨#[]⟩] 102))
 have HX:Hid ((w.alloc (.cells #[.int .u8 0,.bool false,.int .i64 0,.string ⟨#[]⟩] 102)).heap[w.heap.size]?=some (.cells #[.int .u8 0,.bool false,.int .i64 0,.string ⟨#[]⟩] 102)):=hide (heap_alloc_new w _)
 have HZ:Hid (w.heap.size<(w.alloc (.cells #[.int .u8 0,.bool false,.int .i64 0,.string ⟨#[]⟩] 102)).heap.size):=hide (by simp)
 have HZ1:Hid (w.heap.size≤(w.alloc (.cells #[.int .u8 0,.bool false,.int .i64 0,.string ⟨#[]⟩] 102)).heap.size):=hide (by simp<;>omega)
 have HG:Hid (w.heap.size≤w.heap.size):=hide (by omega)
 have HC:=hide (h1 _ HB0.out)
 have HY:=hide h2
 clear h1 h2
 have hk:=kc_zero xk
 have hop2:(op.toList==[38,38])=false:=by rw [eq_of_beq hop];rfl
 have hres:Hid (pairM op ⟨xk,true,xn,xt⟩ ⟨yk,yb,yn,yt⟩=⟨xk,true,xn,xt⟩):=hide (by unfold pairM;rw [hz,hop2,hop];rfl)
 rw [hz] at hk
 have HKK:=hide hk
 clear hk
 go_enter Tryz.func55,Tryz.ntmps55
 go_wp2_with fail
 refine HC.out.mono ?_
 rintro e w1 ⟨rfl,hB1⟩
 have hBw:=HB0.out.trans (hB1.mono HZ1.out)
 have hbx:=(hB1.block _ HZ.out).trans HX.out
 have hWx:=hBw.alloc hBw.size (.cells #[.int .u8 (kc xk),.bool true,.int .i64 xn,.string xt] 102)
 have d0:(w1.alloc (.cells #[.int .u8 (kc xk),.bool true,.int .i64 xn,.string xt] 102)).cell? ⟨g,0,none⟩=_:=(hWx.cell (p:=⟨g,0,none⟩) hg).trans c0
 have d3:(w1.alloc (.cells #[.int .u8 (kc xk),.bool true,.int .i64 xn,.string xt] 102)).cell? ⟨g,3,none⟩=_:=(hWx.cell (p:=⟨g,3,none⟩) hg).trans c3
 obtain⟨y0,y1,y2,y3,f0,f1,f2,f3⟩:=boxw ((Below.heap_alloc w1 (.cells #[.int .u8 (kc xk),.bool true,.int .i64 xn,.string xt] 102) _ (lt_of_get hbx)).trans hbx)
 have HBX:=hide ((Below.heap_alloc w1 (.cells #[.int .u8 (kc xk),.bool true,.int .i64 xn,.string xt] 102) _ (lt_of_get hbx)).trans hbx)
 have HBW:=hide hWx
 have hsz1:w.heap.size≤w1.heap.size:=hBw.size
 have hne1:w1.heap.size≠w.heap.size:=by have:=lt_of_get hbx;omega
 clear hWx hbx hBw hB1
 have d1:(w1.alloc (.cells #[.int .u8 (kc xk),.bool true,.int .i64 xn,.string xt] 102)).cell? ⟨g',1,none⟩=_:=(HBW.out.cell (p:=⟨g',1,none⟩) hg').trans r1
 have hk:=HKK.out
 go_wp2_with fail
 go_quiet (fail)
 go_wp2_with fail
 obtain⟨z0,z1,z2,z3⟩:=stored4 (w:=(w1.alloc (.cells #[.int .u8 (kc xk),.bool true,.int .i64 xn,.string xt] 102)).drewN nq) HBX.out (.int .u8 (kc xk)) (.bool true) (.int .i64 xn) (.string xt)
 refine bodyPost_ret (v:= .agg #[.int .u8 (kc xk),.bool true,.int .i64 xn,.string xt]) (by simp [results,Tryz.results55,go_sem,z0,z1,z2,z3]) rfl ?_
 have hWd:Below w.heap.size w ((w1.alloc (.cells #[.int .u8 (kc xk),.bool true,.int .i64 xn,.string xt] 102)).drewN nq):=⟨HBW.out.os,HBW.out.tape,HBW.out.output,HBW.out.size,HBW.out.block⟩
 exact⟨by rw [hres.out]<;>rfl,below4 hWd (Nat.le_refl _) (.int .u8 (kc xk)) (.bool true) (.int .i64 xn) (.string xt)⟩
theorem worth_or_false {X:Nat→Prop}{w:World}{v:Value}{op tx:ByteArray}{a:Int}{v1 v2:Value}(h:NodeX X w v op tx a [v1,v2])(lv:Value)(hs:isSignB op=true)(xk:Int)(xn:Int)(xt:ByteArray)(yk:Int)(yb:Bool)(yn:Int)(yt:ByteArray)(hx:xt.size≤400000000)(hy:yt.size≤400000000)(h1: ∀W,Below w.heap.size w W→Calls Tryz.prog 55 #[v1,lv] W fun e w'=>DPost ⟨xk,false,xn,xt⟩ W e w')(h2: ∀W,Below w.heap.size w W→Calls Tryz.prog 55 #[v2,lv] W fun e w'=>DPost ⟨yk,yb,yn,yt⟩ W e w')(hz:(xk==0)=false)(hop:(op.toList==[124,124])=true):Calls Tryz.prog 55 #[v,lv] w fun e w'=>DPost (pairM op ⟨xk,false,xn,xt⟩ ⟨yk,yb,yn,yt⟩) w e w':=by
 obtain⟨g,kv,rfl,hh,hg,hkv⟩:=node_at h
 obtain⟨c0,c1,c2,c3,cf⟩:=box4' hh
 obtain⟨ak,kk,rfl⟩:=ownsRow_slice hkv
 obtain⟨g',cap,hv,hb',hg'⟩:=hkv.form (by simp)
 injection hv with e1 e2 e3
 subst e1 e3
 have r0:w.cell? ⟨g',0,none⟩=some v1:=row_cell hkv 0 _ rfl
 have r1:w.cell? ⟨g',1,none⟩=some v2:=row_cell hkv 1 _ rfl
 have hgn:g≠w.heap.size:=by omega
 have hgn':g'≠w.heap.size:=by omega
 clear h hh
 obtain⟨m1,m2⟩:=sign_notleaf hs
 unfold isLeafB at m1
 simp only [Bool.or_eq_false_iff] at m1
 obtain⟨⟨⟨⟨⟨⟨n1,n2⟩,n3⟩,n4⟩,n5⟩,n6⟩,n7⟩:=m1
 have n8:(op.toList==[110])=false:=sign_not hs [110] rfl
 have n9:(op.toList==[33])=false:=sign_not hs [33] rfl
 clear m2
 have HB0:Hid (Below w.heap.size w (w.alloc (.cells #[.int .u8 0,.bool false,.int .i64 0,.string ⟨#[]⟩] 102))):=hide ((Below.refl w.heap.size w).alloc (Nat.le_refl _) (.cells #[.int .u8 0,.bool false,.int .i64 0,.string ⟨#[]⟩] 102))
 have HX:Hid ((w.alloc (.cells #[.int .u8 0,.bool false,.int .i64 0,.string ⟨#[]⟩] 102)).heap[w.heap.size]?=some (.cells #[.int .u8 0,.bool false,.int .i64 0,.string ⟨#[]⟩] 102)):=hide (heap_alloc_new w _)
 have HZ:Hid (w.heap.size<(w.alloc (.cells #[.int .u8 0,.bool false,.int .i64 0,.string ⟨#[]⟩] 102)).heap.size):=hide (by simp)
 have HZ1:Hid (w.heap.size≤(w.alloc (.cells #[.int .u8 0,.bool false,.int .i64 0,.string ⟨#[]⟩] 102)).heap.size):=hide (by simp<;>omega)
 have HG:Hid (w.heap.size≤w.heap.size):=hide (by omega)
 have HC:=hide (h1 _ HB0.out)
 have HY:=hide h2
 clear h1 h2
 have hk:=kc_zero xk
 have hop2:(op.toList==[38,38])=false:=by rw [eq_of_beq hop];rfl
 have hres:Hid (pairM op ⟨xk,false,xn,xt⟩ ⟨yk,yb,yn,yt⟩=⟨yk,yb,yn,yt⟩):=hide (by unfold pairM;rw [hz,hop2,hop];rfl)
 rw [hz] at hk
 have HKK:=hide hk
 clear hk
 go_enter Tryz.func55,Tryz.ntmps55
 go_wp2_with fail
 refine HC.out.mono ?_
 rintro e w1 ⟨rfl,hB1⟩
 have hBw:=HB0.out.trans (hB1.mono HZ1.out)
 have hbx:=(hB1.block _ HZ.out).trans HX.out
 have hWx:=hBw.alloc hBw.size (.cells #[.int .u8 (kc xk),.bool false,.int .i64 xn,.string xt] 102)
 have d0:(w1.alloc (.cells #[.int .u8 (kc xk),.bool false,.int .i64 xn,.string xt] 102)).cell? ⟨g,0,none⟩=_:=(hWx.cell (p:=⟨g,0,none⟩) hg).trans c0
 have d3:(w1.alloc (.cells #[.int .u8 (kc xk),.bool false,.int .i64 xn,.string xt] 102)).cell? ⟨g,3,none⟩=_:=(hWx.cell (p:=⟨g,3,none⟩) hg).trans c3
 obtain⟨y0,y1,y2,y3,f0,f1,f2,f3⟩:=boxw ((Below.heap_alloc w1 (.cells #[.int .u8 (kc xk),.bool false,.int .i64 xn,.string xt] 102) _ (lt_of_get hbx)).trans hbx)
 have HBX:=hide ((Below.heap_alloc w1 (.cells #[.int .u8 (kc xk),.bool false,.int .i64 xn,.string xt] 102) _ (lt_of_get hbx)).trans hbx)
 have HBW:=hide hWx
 have hsz1:w.heap.size≤w1.heap.size:=hBw.size
 have hne1:w1.heap.size≠w.heap.size:=by have:=lt_of_get hbx;omega
 clear hWx hbx hBw hB1
 have d1:(w1.alloc (.cells #[.int .u8 (kc xk),.bool false,.int .i64 xn,.string xt] 102)).cell? ⟨g',1,none⟩=_:=(HBW.out.cell (p:=⟨g',1,none⟩) hg').trans r1
 have hk:=HKK.out
 go_wp2_with fail
 go_quiet (fail)
 go_wp2_with fail
 have hWd:Below w.heap.size w ((w1.alloc (.cells #[.int .u8 (kc xk),.bool false,.int .i64 xn,.string xt] 102)).drewN nq):=⟨HBW.out.os,HBW.out.tape,HBW.out.output,HBW.out.size,HBW.out.block⟩
 refine(HY.out _ hWd).mono ?_
 rintro e w2 ⟨rfl,hB2⟩
 have hbx2:=(hB2.block w.heap.size (lt_of_get HBX.out)).trans HBX.out
 have HB2:=hide (hWd.trans (hB2.mono hWd.size))
 obtain⟨y0,y1,y2,y3,f0,f1,f2,f3⟩:=boxw hbx2
 obtain⟨z0,z1,z2,z3⟩:=stored4 hbx2 (.int .u8 (kc yk)) (.bool yb) (.int .i64 yn) (.string yt)
 clear hbx2 hB2 hWd
 go_wp2_with fail
 refine bodyPost_ret (v:= .agg #[.int .u8 (kc yk),.bool yb,.int .i64 yn,.string yt]) (by simp [results,Tryz.results55,go_sem,z0,z1,z2,z3]) rfl ?_
 exact⟨by rw [hres.out]<;>rfl,below4 HB2.out (Nat.le_refl _) _ _ _ _⟩
theorem below_dr {w a b:World}(h:Below w.heap.size w a)(k:Below a.drew.heap.size a.drew b):Below w.heap.size w b:=
 ⟨k.os.trans h.os,k.tape.trans h.tape,k.output.trans h.output,Nat.le_trans h.size k.size,fun i hi=>(k.block i (Nat.lt_of_lt_of_le hi h.size)).trans (h.block i hi)⟩
theorem worth_pairY {X:Nat→Prop}{w:World}{v:Value}{op tx:ByteArray}{a:Int}{v1 v2:Value}(h:NodeX X w v op tx a [v1,v2])(lv:Value)(hs:isSignB op=true)(xk:Int)(xb:Bool)(xn:Int)(xt:ByteArray)(yk:Int)(yb:Bool)(yn:Int)(yt:ByteArray)(hx:xt.size≤400000000)(hy:yt.size≤400000000)(h1: ∀W,Below w.heap.size w W→Calls Tryz.prog 55 #[v1,lv] W fun e w'=>DPost ⟨xk,xb,xn,xt⟩ W e w')(h2: ∀W,Below w.heap.size w W→Calls Tryz.prog 55 #[v2,lv] W fun e w'=>DPost ⟨yk,yb,yn,yt⟩ W e w')(hz:(xk==0)=false)(hand:(op.toList==[38,38])=false)(hor:(op.toList==[124,124])=false)(hyz:(yk==0)=true):Calls Tryz.prog 55 #[v,lv] w fun e w'=>DPost (pairM op ⟨xk,xb,xn,xt⟩ ⟨yk,yb,yn,yt⟩) w e w':=by
 obtain⟨g,kv,rfl,hh,hg,hkv⟩:=node_at h
 obtain⟨c0,c1,c2,c3,cf⟩:=box4' hh
 obtain⟨ak,kk,rfl⟩:=ownsRow_slice hkv
 obtain⟨g',cap,hv,hb',hg'⟩:=hkv.form (by simp)
 injection hv with e1 e2 e3
 subst e1 e3
 have r0:w.cell? ⟨g',0,none⟩=some v1:=row_cell hkv 0 _ rfl
 have r1:w.cell? ⟨g',1,none⟩=some v2:=row_cell hkv 1 _ rfl
 have hgn:g≠w.heap.size:=by omega
 have hgn':g'≠w.heap.size:=by omega
 clear h hh
 obtain⟨m1,m2⟩:=sign_notleaf hs
 unfold isLeafB at m1
 simp only [Bool.or_eq_false_iff] at m1
 obtain⟨⟨⟨⟨⟨⟨n1,n2⟩,n3⟩,n4⟩,n5⟩,n6⟩,n7⟩:=m1
 have n8:(op.toList==[110])=false:=sign_not hs [110] rfl
 have n9:(op.toList==[33])=false:=sign_not hs [33] rfl
 clear m2
 have HB0:Hid (Below w.heap.size w (w.alloc (.cells #[.int .u8 0,.bool false,.int .i64 0,.string ⟨#[]⟩] 102))):=hide ((Below.refl w.heap.size w).alloc (Nat.le_refl _) (.cells #[.int .u8 0,.bool false,.int .i64 0,.string ⟨#[]⟩] 102))
 have HX:Hid ((w.alloc (.cells #[.int .u8 0,.bool false,.int .i64 0,.string ⟨#[]⟩] 102)).heap[w.heap.size]?=some (.cells #[.int .u8 0,.bool false,.int .i64 0,.string ⟨#[]⟩] 102)):=hide (heap_alloc_new w _)
 have HZ:Hid (w.heap.size<(w.alloc (.cells #[.int .u8 0,.bool false,.int .i64 0,.string ⟨#[]⟩] 102)).heap.size):=hide (by simp)
 have HZ1:Hid (w.heap.size≤(w.alloc (.cells #[.int .u8 0,.bool false,.int .i64 0,.string ⟨#[]⟩] 102)).heap.size):=hide (by simp<;>omega)
 have HG:Hid (w.heap.size≤w.heap.size):=hide (by omega)
 have HC:=hide (h1 _ HB0.out)
 have HY:=hide h2
 clear h1 h2
 have hk:=kc_zero xk
 have hky:=kc_zero yk
 have hres:Hid (pairM op ⟨xk,xb,xn,xt⟩ ⟨yk,yb,yn,yt⟩=⟨yk,yb,yn,yt⟩):=hide (by unfold pairM;rw [hz,hand,hor,hyz];rfl)
 rw [hz] at hk
 rw [hyz] at hky
 have HKK:=hide (And.intro hk hky)
 clear hk hky
 go_enter Tryz.func55,Tryz.ntmps55
 go_wp2_with fail
 refine HC.out.mono ?_
 rintro e w1 ⟨rfl,hB1⟩
 have hBw:=HB0.out.trans (hB1.mono HZ1.out)
 have hbx:=(hB1.block _ HZ.out).trans HX.out
 have hWx:=hBw.alloc hBw.size (.cells #[.int .u8 (kc xk),.bool xb,.int .i64 xn,.string xt] 102)
 have d0:(w1.alloc (.cells #[.int .u8 (kc xk),.bool xb,.int .i64 xn,.string xt] 102)).cell? ⟨g,0,none⟩=_:=(hWx.cell (p:=⟨g,0,none⟩) hg).trans c0
 have d3:(w1.alloc (.cells #[.int .u8 (kc xk),.bool xb,.int .i64 xn,.string xt] 102)).cell? ⟨g,3,none⟩=_:=(hWx.cell (p:=⟨g,3,none⟩) hg).trans c3
 obtain⟨y0,y1,y2,y3,f0,f1,f2,f3⟩:=boxw ((Below.heap_alloc w1 (.cells #[.int .u8 (kc xk),.bool xb,.int .i64 xn,.string xt] 102) _ (lt_of_get hbx)).trans hbx)
 have HBX:=hide ((Below.heap_alloc w1 (.cells #[.int .u8 (kc xk),.bool xb,.int .i64 xn,.string xt] 102) _ (lt_of_get hbx)).trans hbx)
 have HBW:=hide hWx
 have hsz1:w.heap.size≤w1.heap.size:=hBw.size
 have hne1:w1.heap.size≠w.heap.size:=by have:=lt_of_get hbx;omega
 clear hWx hbx hBw hB1
 have d1:(w1.alloc (.cells #[.int .u8 (kc xk),.bool xb,.int .i64 xn,.string xt] 102)).cell? ⟨g',1,none⟩=_:=(HBW.out.cell (p:=⟨g',1,none⟩) hg').trans r1
 obtain⟨hk,hky⟩:=HKK.out
 go_wp2_with fail
 refine(HY.out _ HBW.out).mono ?_
 rintro e w2 ⟨rfl,hB2⟩
 have hB3:=HBW.out.trans (hB2.mono HBW.out.size)
 have hW3:=hB3.alloc hB3.size (.cells #[.int .u8 (kc yk),.bool yb,.int .i64 yn,.string yt] 102)
 have hbx2:=(hB2.block w.heap.size (lt_of_get HBX.out)).trans HBX.out
 have hxb2:w2.heap[w1.heap.size]?=some (.cells #[.int .u8 (kc xk),.bool xb,.int .i64 xn,.string xt] 102):=(hB2.block w1.heap.size (by simp)).trans (heap_alloc_new w1 _)
 have hbx3:=(Below.heap_alloc w2 (.cells #[.int .u8 (kc yk),.bool yb,.int .i64 yn,.string yt] 102) _ (lt_of_get hbx2)).trans hbx2
 have hxb3:=(Below.heap_alloc w2 (.cells #[.int .u8 (kc yk),.bool yb,.int .i64 yn,.string yt] 102) _ (lt_of_get hxb2)).trans hxb2
 clear d0 d1 d3 y0 y1 y2 y3 f0 f1 f2 f3
 have d0:(w2.alloc (.cells #[.int .u8 (kc yk),.bool yb,.int .i64 yn,.string yt] 102)).cell? ⟨g,0,none⟩=_:=(hW3.cell (p:=⟨g,0,none⟩) hg).trans c0
 obtain⟨y0,y1,y2,y3,f0,f1,f2,f3⟩:=boxw hbx3
 obtain⟨x0,x1,x2,x3,_,_,_,_⟩:=boxw hxb3
 have HBX3:=hide hbx3
 have HW3:=hide hW3
 clear hbx2 hxb2 hbx3 hxb3 hW3 hB3 hB2
 go_wp2_with fail
 obtain⟨z0,z1,z2,z3⟩:=stored4 HBX3.out (.int .u8 (kc yk)) (.bool yb) (.int .i64 yn) (.string yt)
 refine bodyPost_ret (v:= .agg #[.int .u8 (kc yk),.bool yb,.int .i64 yn,.string yt]) (by simp [results,Tryz.results55,go_sem,z0,z1,z2,z3]) rfl ?_
 exact⟨by rw [hres.out]<;>rfl,below4 HW3.out (Nat.le_refl _) _ _ _ _⟩
theorem worth_pairB {X:Nat→Prop}{w:World}{v:Value}{op tx:ByteArray}{a:Int}{v1 v2:Value}(h:NodeX X w v op tx a [v1,v2])(lv:Value)(hs:isSignB op=true)(xk:Int)(xb:Bool)(xn:Int)(xt:ByteArray)(yk:Int)(yb:Bool)(yn:Int)(yt:ByteArray)(hx:xt.size≤400000000)(hy:yt.size≤400000000)(h1: ∀W,Below w.heap.size w W→Calls Tryz.prog 55 #[v1,lv] W fun e w'=>DPost ⟨xk,xb,xn,xt⟩ W e w')(h2: ∀W,Below w.heap.size w W→Calls Tryz.prog 55 #[v2,lv] W fun e w'=>DPost ⟨yk,yb,yn,yt⟩ W e w')(hz:(xk==0)=false)(hand:(op.toList==[38,38])=false)(hor:(op.toList==[124,124])=false)(hyz:(yk==0)=false):Calls Tryz.prog 55 #[v,lv] w fun e w'=>DPost (pairM op ⟨xk,xb,xn,xt⟩ ⟨yk,yb,yn,yt⟩) w e w':=by
 obtain⟨g,kv,rfl,hh,hg,hkv⟩:=node_at h
 obtain⟨c0,c1,c2,c3,cf⟩:=box4' hh
 obtain⟨ak,kk,rfl⟩:=ownsRow_slice hkv
 obtain⟨g',cap,hv,hb',hg'⟩:=hkv.form (by simp)
 injection hv with e1 e2 e3
 subst e1 e3
 have r0:w.cell? ⟨g',0,none⟩=some v1:=row_cell hkv 0 _ rfl
 have r1:w.cell? ⟨g',1,none⟩=some v2:=row_cell hkv 1 _ rfl
 have hgn:g≠w.heap.size:=by omega
 have hgn':g'≠w.heap.size:=by omega
 clear h hh
 obtain⟨m1,m2⟩:=sign_notleaf hs
 unfold isLeafB at m1
 simp only [Bool.or_eq_false_iff] at m1
 obtain⟨⟨⟨⟨⟨⟨n1,n2⟩,n3⟩,n4⟩,n5⟩,n6⟩,n7⟩:=m1
 have n8:(op.toList==[110])=false:=sign_not hs [110] rfl
 have n9:(op.toList==[33])=false:=sign_not hs [33] rfl
 clear m2
 have HB0:Hid (Below w.heap.size w (w.alloc (.cells #[.int .u8 0,.bool false,.int .i64 0,.string ⟨#[]⟩] 102))):=hide ((Below.refl w.heap.size w).alloc (Nat.le_refl _) (.cells #[.int .u8 0,.bool false,.int .i64 0,.string ⟨#[]⟩] 102))
 have HX:Hid ((w.alloc (.cells #[.int .u8 0,.bool false,.int .i64 0,.string ⟨#[]⟩] 102)).heap[w.heap.size]?=some (.cells #[.int .u8 0,.bool false,.int .i64 0,.string ⟨#[]⟩] 102)):=hide (heap_alloc_new w _)
 have HZ:Hid (w.heap.size<(w.alloc (.cells #[.int .u8 0,.bool false,.int .i64 0,.string ⟨#[]⟩] 102)).heap.size):=hide (by simp)
 have HZ1:Hid (w.heap.size≤(w.alloc (.cells #[.int .u8 0,.bool false,.int .i64 0,.string ⟨#[]⟩] 102)).heap.size):=hide (by simp<;>omega)
 have HG:Hid (w.heap.size≤w.heap.size):=hide (by omega)
 have HC:=hide (h1 _ HB0.out)
 have HY:=hide h2
 clear h1 h2
 have hk:=kc_zero xk
 have hky:=kc_zero yk
 have hres:Hid (pairM op ⟨xk,xb,xn,xt⟩ ⟨yk,yb,yn,yt⟩=bothM op ⟨xk,xb,xn,xt⟩ ⟨yk,yb,yn,yt⟩):=hide (by unfold pairM;rw [hz,hand,hor,hyz];rfl)
 rw [hz] at hk
 rw [hyz] at hky
 have HKK:=hide (And.intro hk hky)
 clear hk hky
 go_enter Tryz.func55,Tryz.ntmps55
 go_wp2_with fail
 refine HC.out.mono ?_
 rintro e w1 ⟨rfl,hB1⟩
 have hBw:=HB0.out.trans (hB1.mono HZ1.out)
 have hbx:=(hB1.block _ HZ.out).trans HX.out
 have hWx:=hBw.alloc hBw.size (.cells #[.int .u8 (kc xk),.bool xb,.int .i64 xn,.string xt] 102)
 have d0:(w1.alloc (.cells #[.int .u8 (kc xk),.bool xb,.int .i64 xn,.string xt] 102)).cell? ⟨g,0,none⟩=_:=(hWx.cell (p:=⟨g,0,none⟩) hg).trans c0
 have d3:(w1.alloc (.cells #[.int .u8 (kc xk),.bool xb,.int .i64 xn,.string xt] 102)).cell? ⟨g,3,none⟩=_:=(hWx.cell (p:=⟨g,3,none⟩) hg).trans c3
 obtain⟨y0,y1,y2,y3,f0,f1,f2,f3⟩:=boxw ((Below.heap_alloc w1 (.cells #[.int .u8 (kc xk),.bool xb,.int .i64 xn,.string xt] 102) _ (lt_of_get hbx)).trans hbx)
 have HBX:=hide ((Below.heap_alloc w1 (.cells #[.int .u8 (kc xk),.bool xb,.int .i64 xn,.string xt] 102) _ (lt_of_get hbx)).trans hbx)
 have HBW:=hide hWx
 have hsz1:w.heap.size≤w1.heap.size:=hBw.size
 have hne1:w1.heap.size≠w.heap.size:=by have:=lt_of_get hbx;omega
 clear hWx hbx hBw hB1
 have d1:(w1.alloc (.cells #[.int .u8 (kc xk),.bool xb,.int .i64 xn,.string xt] 102)).cell? ⟨g',1,none⟩=_:=(HBW.out.cell (p:=⟨g',1,none⟩) hg').trans r1
 obtain⟨hk,hky⟩:=HKK.out
 go_wp2_with fail
 refine(HY.out _ HBW.out).mono ?_
 rintro e w2 ⟨rfl,hB2⟩
 have hB3:=HBW.out.trans (hB2.mono HBW.out.size)
 have hW3:=hB3.alloc hB3.size (.cells #[.int .u8 (kc yk),.bool yb,.int .i64 yn,.string yt] 102)
 have hbx2:=(hB2.block w.heap.size (lt_of_get HBX.out)).trans HBX.out
 have hxb2:w2.heap[w1.heap.size]?=some (.cells #[.int .u8 (kc xk),.bool xb,.int .i64 xn,.string xt] 102):=(hB2.block w1.heap.size (by simp)).trans (heap_alloc_new w1 _)
 have hbx3:=(Below.heap_alloc w2 (.cells #[.int .u8 (kc yk),.bool yb,.int .i64 yn,.string yt] 102) _ (lt_of_get hbx2)).trans hbx2
 have hxb3:=(Below.heap_alloc w2 (.cells #[.int .u8 (kc yk),.bool yb,.int .i64 yn,.string yt] 102) _ (lt_of_get hxb2)).trans hxb2
 clear d0 d1 d3 y0 y1 y2 y3 f0 f1 f2 f3
 have d0:(w2.alloc (.cells #[.int .u8 (kc yk),.bool yb,.int .i64 yn,.string yt] 102)).cell? ⟨g,0,none⟩=_:=(hW3.cell (p:=⟨g,0,none⟩) hg).trans c0
 obtain⟨y0,y1,y2,y3,f0,f1,f2,f3⟩:=boxw hbx3
 obtain⟨x0,x1,x2,x3,_,_,_,_⟩:=boxw hxb3
 have HBX3:=hide hbx3
 have HW3:=hide hW3
 clear hbx2 hxb2 hbx3 hxb3 hW3 hB3 hB2
 have HC2:=hide (fun W=>both_any op ⟨xk,xb,xn,xt⟩ ⟨yk,yb,yn,yt⟩ W hx hy hs hand hor)
 generalize hX:bothM op ⟨xk,xb,xn,xt⟩ ⟨yk,yb,yn,yt⟩=X at*
 clear hX
 go_wp2_with fail
 go_region_with (go_at_call 100;refine(HC2.out _).mono ?_;rintro e w4 ⟨rfl,hB4⟩;(have hbx4:=(hB4.block w.heap.size (lt_of_get HBX3.out)).trans HBX3.out);(have HB4:=hide hB4);(obtain⟨u0,u1,u2,u3,t0,t1,t2,t3⟩:=boxw hbx4);(have HBX4:=hide hbx4);(clear hB4 hbx4))
 all_goals go_wp2_with fail
 all_goals (obtain⟨z0,z1,z2,z3⟩:=stored4 HBX4.out (.int .u8 (kc X.kind)) (.bool X.truth) (.int .i64 X.num) (.string X.text))
 all_goals refine bodyPost_ret (v:= .agg #[.int .u8 (kc X.kind),.bool X.truth,.int .i64 X.num,.string X.text]) (by simp [results,Tryz.results55,go_sem,z0,z1,z2,z3]) rfl ?_
 all_goals exact⟨by rw [hres.out]<;>rfl,below4 (below_dr HW3.out HB4.out) (Nat.le_refl _) _ _ _ _⟩
theorem worth_pair {X:Nat→Prop}{w:World}{v:Value}{op tx:ByteArray}{a:Int}{v1 v2:Value}(h:NodeX X w v op tx a [v1,v2])(lv:Value)(hs:isSignB op=true)(x y:Wt)(hx:x.text.size≤400000000)(hy:y.text.size≤400000000)(h1: ∀W,Below w.heap.size w W→Calls Tryz.prog 55 #[v1,lv] W fun e w'=>DPost x W e w')(h2: ∀W,Below w.heap.size w W→Calls Tryz.prog 55 #[v2,lv] W fun e w'=>DPost y W e w'):Calls Tryz.prog 55 #[v,lv] w fun e w'=>DPost (pairM op x y) w e w':=by
 obtain⟨xk,xb,xn,xt⟩:=x
 obtain⟨yk,yb,yn,yt⟩:=y
 cases hz:(xk==0) with
 |true=>exact worth_pairE h lv hs xk xb xn xt yk yb yn yt hx hy h1 h2 hz
 |false=>
  cases hand:(op.toList==[38,38]) with
  |true=>
   cases xb with
   |true=>exact worth_and_true h lv hs xk xn xt yk yb yn yt hx hy h1 h2 hz hand
   |false=>exact worth_and_false h lv hs xk xn xt yk yb yn yt hx hy h1 h2 hz hand
  |false=>
   cases hor:(op.toList==[124,124]) with
   |true=>
    cases xb with
    |true=>exact worth_or_true h lv hs xk xn xt yk yb yn yt hx hy h1 h2 hz hor
    |false=>exact worth_or_false h lv hs xk xn xt yk yb yn yt hx hy h1 h2 hz hor
   |false=>
    cases hyz:(yk==0) with
    |true=>exact worth_pairY h lv hs xk xb xn xt yk yb yn yt hx hy h1 h2 hz hand hor hyz
    |false=>exact worth_pairB h lv hs xk xb xn xt yk yb yn yt hx hy h1 h2 hz hand hor hyz
end Go.Proofs.YtkoohcilbpdgeaaGreatDoor
