import Derived.Test.YtkoohcilbpdgeaaGreatDoorC23
set_option linter.all false
set_option linter.unusedVariables false
set_option linter.unusedSimpArgs false
set_option linter.unnecessarySimpa false
set_option linter.constructorNameAsVariable false
set_option linter.deprecated false
set_option maxRecDepth 100000
set_option maxHeartbeats 6400000
namespace Go.Proofs.YtkoohcilbpdgeaaGreatDoor
open Go Go.RowKit
attribute [local go_sem] wrap64_byte
theorem kc_zero (k:Int):(kc k==101)=(k==0):=by
 unfold kc
 by_cases h:k=0
 ·simp [h]
 ·rw [if_neg h]
  have:(k==0)=false:=by simpa using h
  rw [this]
  split
  ·rfl
  ·split<;>rfl
theorem worth_num {X:Nat→Prop}{w:World}{v:Value}{tx:ByteArray}{a:Int}{kids:List Value}(h:NodeX X w v ⟨#[110,117,109]⟩ tx a kids)(lv:Value)(hs:tx.size≤600):Calls Tryz.prog 55 #[v,lv] w fun e w'=>DPost (nsM tx) w e w':=by
 obtain⟨g,kv,rfl,hh,hg,_⟩:=node_at h
 obtain⟨c0,c1,c2,c3,cf⟩:=box4' hh
 have hgn:g≠w.heap.size:=by omega
 clear h hh
 have HB0:Hid (Below w.heap.size w (w.alloc (.cells #[.int .u8 0,.bool false,.int .i64 0,.string ⟨#[]⟩] 102))):=hide ((Below.refl w.heap.size w).alloc (Nat.le_refl _) (.cells #[.int .u8 0,.bool false,.int .i64 0,.string ⟨#[]⟩] 102))
 have HX:Hid ((w.alloc (.cells #[.int .u8 0,.bool false,.int .i64 0,.string ⟨#[]⟩] 102)).heap[w.heap.size]?=some (.cells #[.int .u8 0,.bool false,.int .i64 0,.string ⟨#[]⟩] 102)):=hide (heap_alloc_new w _)
 have HZ:Hid (w.heap.size<(w.alloc (.cells #[.int .u8 0,.bool false,.int .i64 0,.string ⟨#[]⟩] 102)).heap.size):=hide (by simp)
 have HZ1:Hid (w.heap.size≤(w.alloc (.cells #[.int .u8 0,.bool false,.int .i64 0,.string ⟨#[]⟩] 102)).heap.size):=hide (by simp<;>omega)
 have HG:Hid (w.heap.size≤w.heap.size):=hide (by omega)
 have HC:=hide (numberR_any tx (w.alloc (.cells #[.int .u8 0,.bool false,.int .i64 0,.string ⟨#[]⟩] 102)) hs)
 generalize hX:nsM tx=X at*
 clear hX
 go_enter Tryz.func55,Tryz.ntmps55
 go_wp2_with fail
 refine HC.out.mono ?_
 rintro e w1 ⟨rfl,hB1⟩
 have hbx:=(hB1.block _ HZ.out).trans HX.out
 obtain⟨y0,y1,y2,y3,g0,g1,g2,g3⟩:=boxw hbx
 obtain⟨z0,z1,z2,z3⟩:=stored4 hbx (.int .u8 (kc X.kind)) (.bool X.truth) (.int .i64 X.num) (.string X.text)
 have HB2:=hide (below4 (HB0.out.trans (hB1.mono HZ1.out)) HG.out (.int .u8 (kc X.kind)) (.bool X.truth) (.int .i64 X.num) (.string X.text))
 clear hbx hB1
 go_wp2_with fail
 refine bodyPost_ret (v:= .agg #[.int .u8 (kc X.kind),.bool X.truth,.int .i64 X.num,.string X.text]) (by simp [results,Tryz.results55,go_sem,z0,z1,z2,z3]) rfl ?_
 exact⟨rfl,HB2.out⟩
theorem worth_str {X:Nat→Prop}{w:World}{v:Value}{tx:ByteArray}{a:Int}{kids:List Value}(h:NodeX X w v ⟨#[115,116,114]⟩ tx a kids)(lv:Value):Calls Tryz.prog 55 #[v,lv] w fun e w'=>DPost (wStr tx) w e w':=by
 obtain⟨g,kv,rfl,hh,hg,_⟩:=node_at h
 obtain⟨c0,c1,c2,c3,cf⟩:=box4' hh
 have hgn:g≠w.heap.size:=by omega
 clear h hh
 have HB0:Hid (Below w.heap.size w (w.alloc (.cells #[.int .u8 0,.bool false,.int .i64 0,.string ⟨#[]⟩] 102))):=hide ((Below.refl w.heap.size w).alloc (Nat.le_refl _) (.cells #[.int .u8 0,.bool false,.int .i64 0,.string ⟨#[]⟩] 102))
 have HX:Hid ((w.alloc (.cells #[.int .u8 0,.bool false,.int .i64 0,.string ⟨#[]⟩] 102)).heap[w.heap.size]?=some (.cells #[.int .u8 0,.bool false,.int .i64 0,.string ⟨#[]⟩] 102)):=hide (heap_alloc_new w _)
 have HZ:Hid (w.heap.size<(w.alloc (.cells #[.int .u8 0,.bool false,.int .i64 0,.string ⟨#[]⟩] 102)).heap.size):=hide (by simp)
 have HZ1:Hid (w.heap.size≤(w.alloc (.cells #[.int .u8 0,.bool false,.int .i64 0,.string ⟨#[]⟩] 102)).heap.size):=hide (by simp<;>omega)
 have HG:Hid (w.heap.size≤w.heap.size):=hide (by omega)
 go_enter Tryz.func55,Tryz.ntmps55
 go_wp2_with fail
 refine bodyPost_ret (v:= .agg #[.int .u8 115,.bool false,.int .i64 0,.string tx]) (by simp [results,Tryz.results55,go_sem]) rfl ?_
 exact⟨rfl,(Below.refl w.heap.size w).alloc (Nat.le_refl _) _⟩
theorem worth_attr {X:Nat→Prop}{w:World}{v:Value}{tx:ByteArray}{a:Int}{kids:List Value}(h:NodeX X w v ⟨#[97,116,116,114]⟩ tx a kids)(lv:Value)(lb:Nat)(l:List (ByteArray×ByteArray))(hl:w.ownsRow lb 144 2 lv l.length ((l.map prCells).flatten))(hll:l.length≤100000):Calls Tryz.prog 55 #[v,lv] w fun e w'=>DPost (wStr (valM tx l)) w e w':=by
 obtain⟨g,kv,rfl,hh,hg,_⟩:=node_at h
 obtain⟨c0,c1,c2,c3,cf⟩:=box4' hh
 have hgn:g≠w.heap.size:=by omega
 clear h hh
 have HB0:Hid (Below w.heap.size w (w.alloc (.cells #[.int .u8 0,.bool false,.int .i64 0,.string ⟨#[]⟩] 102))):=hide ((Below.refl w.heap.size w).alloc (Nat.le_refl _) (.cells #[.int .u8 0,.bool false,.int .i64 0,.string ⟨#[]⟩] 102))
 have HX:Hid ((w.alloc (.cells #[.int .u8 0,.bool false,.int .i64 0,.string ⟨#[]⟩] 102)).heap[w.heap.size]?=some (.cells #[.int .u8 0,.bool false,.int .i64 0,.string ⟨#[]⟩] 102)):=hide (heap_alloc_new w _)
 have HZ:Hid (w.heap.size<(w.alloc (.cells #[.int .u8 0,.bool false,.int .i64 0,.string ⟨#[]⟩] 102)).heap.size):=hide (by simp)
 have HZ1:Hid (w.heap.size≤(w.alloc (.cells #[.int .u8 0,.bool false,.int .i64 0,.string ⟨#[]⟩] 102)).heap.size):=hide (by simp<;>omega)
 have HG:Hid (w.heap.size≤w.heap.size):=hide (by omega)
 have HV:=hide (of_any lb l lv tx (w.alloc (.cells #[.int .u8 0,.bool false,.int .i64 0,.string ⟨#[]⟩] 102)) (hl.alloc _) hll)
 obtain⟨al,kl,rfl⟩:=ownsRow_slice hl
 clear hl
 generalize valM tx l=vv at*
 go_enter Tryz.func55,Tryz.ntmps55
 go_wp2_with fail
 refine HV.out.mono ?_
 rintro e w9 ⟨rfl,rfl⟩
 go_wp2_with fail
 refine bodyPost_ret (v:= .agg #[.int .u8 115,.bool false,.int .i64 0,.string vv]) (by simp [results,Tryz.results55,go_sem]) rfl ?_
 exact⟨rfl,(Below.refl w.heap.size w).alloc (Nat.le_refl _) _⟩
theorem worth_at {X:Nat→Prop}{w:World}{v:Value}{tx:ByteArray}{a:Int}{kids:List Value}(h:NodeX X w v ⟨#[97,116]⟩ tx a kids)(lv:Value)(lb:Nat)(l:List (ByteArray×ByteArray))(hl:w.ownsRow lb 144 2 lv l.length ((l.map prCells).flatten))(hll:l.length≤100000)(hls: ∀p∈l,p.2.size≤600):Calls Tryz.prog 55 #[v,lv] w fun e w'=>DPost (nsM (valM tx l)) w e w':=by
 obtain⟨g,kv,rfl,hh,hg,_⟩:=node_at h
 obtain⟨c0,c1,c2,c3,cf⟩:=box4' hh
 have hgn:g≠w.heap.size:=by omega
 clear h hh
 have HB0:Hid (Below w.heap.size w (w.alloc (.cells #[.int .u8 0,.bool false,.int .i64 0,.string ⟨#[]⟩] 102))):=hide ((Below.refl w.heap.size w).alloc (Nat.le_refl _) (.cells #[.int .u8 0,.bool false,.int .i64 0,.string ⟨#[]⟩] 102))
 have HX:Hid ((w.alloc (.cells #[.int .u8 0,.bool false,.int .i64 0,.string ⟨#[]⟩] 102)).heap[w.heap.size]?=some (.cells #[.int .u8 0,.bool false,.int .i64 0,.string ⟨#[]⟩] 102)):=hide (heap_alloc_new w _)
 have HZ:Hid (w.heap.size<(w.alloc (.cells #[.int .u8 0,.bool false,.int .i64 0,.string ⟨#[]⟩] 102)).heap.size):=hide (by simp)
 have HZ1:Hid (w.heap.size≤(w.alloc (.cells #[.int .u8 0,.bool false,.int .i64 0,.string ⟨#[]⟩] 102)).heap.size):=hide (by simp<;>omega)
 have HG:Hid (w.heap.size≤w.heap.size):=hide (by omega)
 have HV:=hide (of_any lb l lv tx (w.alloc (.cells #[.int .u8 0,.bool false,.int .i64 0,.string ⟨#[]⟩] 102)) (hl.alloc _) hll)
 have HC:=hide (numberR_any (valM tx l) (w.alloc (.cells #[.int .u8 0,.bool false,.int .i64 0,.string ⟨#[]⟩] 102)) (valM_size tx 600 l hls))
 obtain⟨al,kl,rfl⟩:=ownsRow_slice hl
 clear hl
 generalize hX:nsM (valM tx l)=X at*
 clear hX
 generalize valM tx l=vv at*
 go_enter Tryz.func55,Tryz.ntmps55
 go_wp2_with fail
 refine HV.out.mono ?_
 rintro e w9 ⟨rfl,rfl⟩
 go_wp2_with fail
 refine HC.out.mono ?_
 rintro e w1 ⟨rfl,hB1⟩
 have hbx:=(hB1.block _ HZ.out).trans HX.out
 obtain⟨y0,y1,y2,y3,g0,g1,g2,g3⟩:=boxw hbx
 obtain⟨z0,z1,z2,z3⟩:=stored4 hbx (.int .u8 (kc X.kind)) (.bool X.truth) (.int .i64 X.num) (.string X.text)
 have HB2:=hide (below4 (HB0.out.trans (hB1.mono HZ1.out)) HG.out (.int .u8 (kc X.kind)) (.bool X.truth) (.int .i64 X.num) (.string X.text))
 clear hbx hB1
 go_wp2_with fail
 refine bodyPost_ret (v:= .agg #[.int .u8 (kc X.kind),.bool X.truth,.int .i64 X.num,.string X.text]) (by simp [results,Tryz.results55,go_sem,z0,z1,z2,z3]) rfl ?_
 exact⟨rfl,HB2.out⟩
theorem worth_true {X:Nat→Prop}{w:World}{v:Value}{tx:ByteArray}{a:Int}{kids:List Value}(h:NodeX X w v ⟨#[116,114,117,101]⟩ tx a kids)(lv:Value):Calls Tryz.prog 55 #[v,lv] w fun e w'=>DPost (wBool true) w e w':=by
 obtain⟨g,kv,rfl,hh,hg,_⟩:=node_at h
 obtain⟨c0,c1,c2,c3,cf⟩:=box4' hh
 have hgn:g≠w.heap.size:=by omega
 clear h hh
 have HB0:Hid (Below w.heap.size w (w.alloc (.cells #[.int .u8 0,.bool false,.int .i64 0,.string ⟨#[]⟩] 102))):=hide ((Below.refl w.heap.size w).alloc (Nat.le_refl _) (.cells #[.int .u8 0,.bool false,.int .i64 0,.string ⟨#[]⟩] 102))
 have HX:Hid ((w.alloc (.cells #[.int .u8 0,.bool false,.int .i64 0,.string ⟨#[]⟩] 102)).heap[w.heap.size]?=some (.cells #[.int .u8 0,.bool false,.int .i64 0,.string ⟨#[]⟩] 102)):=hide (heap_alloc_new w _)
 have HZ:Hid (w.heap.size<(w.alloc (.cells #[.int .u8 0,.bool false,.int .i64 0,.string ⟨#[]⟩] 102)).heap.size):=hide (by simp)
 have HZ1:Hid (w.heap.size≤(w.alloc (.cells #[.int .u8 0,.bool false,.int .i64 0,.string ⟨#[]⟩] 102)).heap.size):=hide (by simp<;>omega)
 have HG:Hid (w.heap.size≤w.heap.size):=hide (by omega)
 go_enter Tryz.func55,Tryz.ntmps55
 go_wp2_with fail
 refine bodyPost_ret (v:= .agg #[.int .u8 98,.bool true,.int .i64 0,.string ⟨#[]⟩]) (by simp [results,Tryz.results55,go_sem]) rfl ?_
 exact⟨rfl,(Below.refl w.heap.size w).alloc (Nat.le_refl _) _⟩
theorem worth_false {X:Nat→Prop}{w:World}{v:Value}{tx:ByteArray}{a:Int}{kids:List Value}(h:NodeX X w v ⟨#[102,97,108,115,101]⟩ tx a kids)(lv:Value):Calls Tryz.prog 55 #[v,lv] w fun e w'=>DPost (wBool false) w e w':=by
 obtain⟨g,kv,rfl,hh,hg,_⟩:=node_at h
 obtain⟨c0,c1,c2,c3,cf⟩:=box4' hh
 have hgn:g≠w.heap.size:=by omega
 clear h hh
 have HB0:Hid (Below w.heap.size w (w.alloc (.cells #[.int .u8 0,.bool false,.int .i64 0,.string ⟨#[]⟩] 102))):=hide ((Below.refl w.heap.size w).alloc (Nat.le_refl _) (.cells #[.int .u8 0,.bool false,.int .i64 0,.string ⟨#[]⟩] 102))
 have HX:Hid ((w.alloc (.cells #[.int .u8 0,.bool false,.int .i64 0,.string ⟨#[]⟩] 102)).heap[w.heap.size]?=some (.cells #[.int .u8 0,.bool false,.int .i64 0,.string ⟨#[]⟩] 102)):=hide (heap_alloc_new w _)
 have HZ:Hid (w.heap.size<(w.alloc (.cells #[.int .u8 0,.bool false,.int .i64 0,.string ⟨#[]⟩] 102)).heap.size):=hide (by simp)
 have HZ1:Hid (w.heap.size≤(w.alloc (.cells #[.int .u8 0,.bool false,.int .i64 0,.string ⟨#[]⟩] 102)).heap.size):=hide (by simp<;>omega)
 have HG:Hid (w.heap.size≤w.heap.size):=hide (by omega)
 go_enter Tryz.func55,Tryz.ntmps55
 go_wp2_with fail
 refine bodyPost_ret (v:= .agg #[.int .u8 98,.bool false,.int .i64 0,.string ⟨#[]⟩]) (by simp [results,Tryz.results55,go_sem]) rfl ?_
 exact⟨rfl,(Below.refl w.heap.size w).alloc (Nat.le_refl _) _⟩
theorem lt_of_get {w:World}{g:Nat}{o:Obj}(h:w.heap[g]?=some o):g<w.heap.size:=(Array.getElem?_eq_some_iff.1 h).1
theorem worth_neg {X:Nat→Prop}{w:World}{v:Value}{tx:ByteArray}{a:Int}{v1:Value}(h:NodeX X w v ⟨#[110]⟩ tx a [v1])(lv:Value)(xk:Int)(xb:Bool)(xn:Int)(xt:ByteArray)(hn: -999999999≤xn∧xn≤999999999)(h1: ∀W,Below w.heap.size w W→Calls Tryz.prog 55 #[v1,lv] W fun e w'=>DPost ⟨xk,xb,xn,xt⟩ W e w'):Calls Tryz.prog 55 #[v,lv] w fun e w'=>DPost (prefM ⟨#[45]⟩ ⟨xk,xb,xn,xt⟩) w e w':=by
 obtain⟨g,kv,rfl,hh,hg,hkv⟩:=node_at h
 obtain⟨c0,c1,c2,c3,cf⟩:=box4' hh
 obtain⟨ak,kk,rfl⟩:=ownsRow_slice hkv
 obtain⟨g',cap,hv,hb',hg'⟩:=hkv.form (by simp)
 injection hv with e1 e2 e3
 subst e1 e3
 have r0:w.cell? ⟨g',0,none⟩=some v1:=row_cell hkv 0 _ rfl
 have hgn:g≠w.heap.size:=by omega
 have hgn':g'≠w.heap.size:=by omega
 clear h hh
 have HB0:Hid (Below w.heap.size w (w.alloc (.cells #[.int .u8 0,.bool false,.int .i64 0,.string ⟨#[]⟩] 102))):=hide ((Below.refl w.heap.size w).alloc (Nat.le_refl _) (.cells #[.int .u8 0,.bool false,.int .i64 0,.string ⟨#[]⟩] 102))
 have HX:Hid ((w.alloc (.cells #[.int .u8 0,.bool false,.int .i64 0,.string ⟨#[]⟩] 102)).heap[w.heap.size]?=some (.cells #[.int .u8 0,.bool false,.int .i64 0,.string ⟨#[]⟩] 102)):=hide (heap_alloc_new w _)
 have HZ:Hid (w.heap.size<(w.alloc (.cells #[.int .u8 0,.bool false,.int .i64 0,.string ⟨#[]⟩] 102)).heap.size):=hide (by simp)
 have HZ1:Hid (w.heap.size≤(w.alloc (.cells #[.int .u8 0,.bool false,.int .i64 0,.string ⟨#[]⟩] 102)).heap.size):=hide (by simp<;>omega)
 have HG:Hid (w.heap.size≤w.heap.size):=hide (by omega)
 have HC:=hide (h1 _ HB0.out)
 clear h1
 have hk:=kc_zero xk
 cases hz:(xk==0)
 case true=>
  have hres:Hid (prefM ⟨#[45]⟩ ⟨xk,xb,xn,xt⟩=⟨xk,xb,xn,xt⟩):=hide (by unfold prefM;rw [hz];rfl)
  rw [hz] at hk
  have HKK:=hide hk
  clear hk
  go_enter Tryz.func55,Tryz.ntmps55
  go_wp2_with fail
  refine HC.out.mono ?_
  rintro e w1 ⟨rfl,hB1⟩
  have hBw:=HB0.out.trans (hB1.mono HZ1.out)
  have hbx:=(hB1.block _ HZ.out).trans HX.out
  have hWx:=hBw.alloc hBw.size (.cells #[.int .u8 (kc xk),.bool xb,.int .i64 xn,.string xt] 102)
  have d0:(w1.alloc (.cells #[.int .u8 (kc xk),.bool xb,.int .i64 xn,.string xt] 102)).cell? ⟨g,0,none⟩=_:=(hWx.cell (p:=⟨g,0,none⟩) hg).trans c0
  have d3:(w1.alloc (.cells #[.int .u8 (kc xk),.bool xb,.int .i64 xn,.string xt] 102)).cell? ⟨g,3,none⟩=_:=(hWx.cell (p:=⟨g,3,none⟩) hg).trans c3
  obtain⟨y0,y1,y2,y3,f0,f1,f2,f3⟩:=boxw ((Below.heap_alloc w1 (.cells #[.int .u8 (kc xk),.bool xb,.int .i64 xn,.string xt] 102) _ (lt_of_get hbx)).trans hbx)
  have HBX:=hide ((Below.heap_alloc w1 (.cells #[.int .u8 (kc xk),.bool xb,.int .i64 xn,.string xt] 102) _ (lt_of_get hbx)).trans hbx)
  have HBW:=hide hWx
  have hsz1:w.heap.size≤w1.heap.size:=hBw.size
  have hne1:w1.heap.size≠w.heap.size:=by have:=lt_of_get hbx;omega
  clear hWx hbx hBw hB1
  have hk:=HKK.out
  go_wp2_with fail
  obtain⟨z0,z1,z2,z3⟩:=stored4 HBX.out (.int .u8 (kc xk)) (.bool xb) (.int .i64 xn) (.string xt)
  refine bodyPost_ret (v:= .agg #[.int .u8 (kc xk),.bool xb,.int .i64 xn,.string xt]) (by simp [results,Tryz.results55,go_sem,z0,z1,z2,z3]) rfl ?_
  exact⟨by rw [hres.out]<;>rfl,below4 HBW.out (Nat.le_refl _) (.int .u8 (kc xk)) (.bool xb) (.int .i64 xn) (.string xt)⟩
 have hres:Hid (prefM ⟨#[45]⟩ ⟨xk,xb,xn,xt⟩=⟨2,false,-xn,⟨#[]⟩⟩):=hide (by unfold prefM;rw [hz,show((⟨#[45]⟩:ByteArray).toList==[33])=false by rw [ByteArray.toList_eq];rfl];show wNum (wrap64 (-xn))=_;rw [show wrap64 (-xn)= -xn from IntWalk.wrap64_in _ (by omega)];unfold wNum;rw [if_neg (by omega)])
 rw [hz] at hk
 have HKK:=hide hk
 clear hk
 go_enter Tryz.func55,Tryz.ntmps55
 go_wp2_with fail
 refine HC.out.mono ?_
 rintro e w1 ⟨rfl,hB1⟩
 have hBw:=HB0.out.trans (hB1.mono HZ1.out)
 have hbx:=(hB1.block _ HZ.out).trans HX.out
 have hWx:=hBw.alloc hBw.size (.cells #[.int .u8 (kc xk),.bool xb,.int .i64 xn,.string xt] 102)
 have d0:(w1.alloc (.cells #[.int .u8 (kc xk),.bool xb,.int .i64 xn,.string xt] 102)).cell? ⟨g,0,none⟩=_:=(hWx.cell (p:=⟨g,0,none⟩) hg).trans c0
 have d3:(w1.alloc (.cells #[.int .u8 (kc xk),.bool xb,.int .i64 xn,.string xt] 102)).cell? ⟨g,3,none⟩=_:=(hWx.cell (p:=⟨g,3,none⟩) hg).trans c3
 obtain⟨y0,y1,y2,y3,f0,f1,f2,f3⟩:=boxw ((Below.heap_alloc w1 (.cells #[.int .u8 (kc xk),.bool xb,.int .i64 xn,.string xt] 102) _ (lt_of_get hbx)).trans hbx)
 have HBX:=hide ((Below.heap_alloc w1 (.cells #[.int .u8 (kc xk),.bool xb,.int .i64 xn,.string xt] 102) _ (lt_of_get hbx)).trans hbx)
 have HBW:=hide hWx
 have hsz1:w.heap.size≤w1.heap.size:=hBw.size
 have hne1:w1.heap.size≠w.heap.size:=by have:=lt_of_get hbx;omega
 clear hWx hbx hBw hB1
 have hk:=HKK.out
 go_wp2_with fail
 obtain⟨z0,z1,z2,z3⟩:=stored4 HBX.out (.int .u8 110) (.bool false) (.int .i64 (-xn)) (.string ⟨#[]⟩)
 refine bodyPost_ret (v:= .agg #[.int .u8 110,.bool false,.int .i64 (-xn),.string ⟨#[]⟩]) (by simp [results,Tryz.results55,go_sem,z0,z1,z2,z3]) rfl ?_
 exact⟨by rw [hres.out]<;>rfl,below4 HBW.out (Nat.le_refl _) (.int .u8 110) (.bool false) (.int .i64 (-xn)) (.string ⟨#[]⟩)⟩
theorem worth_not {X:Nat→Prop}{w:World}{v:Value}{tx:ByteArray}{a:Int}{v1:Value}(h:NodeX X w v ⟨#[33]⟩ tx a [v1])(lv:Value)(xk:Int)(xb:Bool)(xn:Int)(xt:ByteArray)(hn: -999999999≤xn∧xn≤999999999)(h1: ∀W,Below w.heap.size w W→Calls Tryz.prog 55 #[v1,lv] W fun e w'=>DPost ⟨xk,xb,xn,xt⟩ W e w'):Calls Tryz.prog 55 #[v,lv] w fun e w'=>DPost (prefM ⟨#[33]⟩ ⟨xk,xb,xn,xt⟩) w e w':=by
 obtain⟨g,kv,rfl,hh,hg,hkv⟩:=node_at h
 obtain⟨c0,c1,c2,c3,cf⟩:=box4' hh
 obtain⟨ak,kk,rfl⟩:=ownsRow_slice hkv
 obtain⟨g',cap,hv,hb',hg'⟩:=hkv.form (by simp)
 injection hv with e1 e2 e3
 subst e1 e3
 have r0:w.cell? ⟨g',0,none⟩=some v1:=row_cell hkv 0 _ rfl
 have hgn:g≠w.heap.size:=by omega
 have hgn':g'≠w.heap.size:=by omega
 clear h hh
 have HB0:Hid (Below w.heap.size w (w.alloc (.cells #[.int .u8 0,.bool false,.int .i64 0,.string ⟨#[]⟩] 102))):=hide ((Below.refl w.heap.size w).alloc (Nat.le_refl _) (.cells #[.int .u8 0,.bool false,.int .i64 0,.string ⟨#[]⟩] 102))
 have HX:Hid ((w.alloc (.cells #[.int .u8 0,.bool false,.int .i64 0,.string ⟨#[]⟩] 102)).heap[w.heap.size]?=some (.cells #[.int .u8 0,.bool false,.int .i64 0,.string ⟨#[]⟩] 102)):=hide (heap_alloc_new w _)
 have HZ:Hid (w.heap.size<(w.alloc (.cells #[.int .u8 0,.bool false,.int .i64 0,.string ⟨#[]⟩] 102)).heap.size):=hide (by simp)
 have HZ1:Hid (w.heap.size≤(w.alloc (.cells #[.int .u8 0,.bool false,.int .i64 0,.string ⟨#[]⟩] 102)).heap.size):=hide (by simp<;>omega)
 have HG:Hid (w.heap.size≤w.heap.size):=hide (by omega)
 have HC:=hide (h1 _ HB0.out)
 clear h1
 have hk:=kc_zero xk
 cases hz:(xk==0)
 case true=>
  have hres:Hid (prefM ⟨#[33]⟩ ⟨xk,xb,xn,xt⟩=⟨xk,xb,xn,xt⟩):=hide (by unfold prefM;rw [hz];rfl)
  rw [hz] at hk
  have HKK:=hide hk
  clear hk
  go_enter Tryz.func55,Tryz.ntmps55
  go_wp2_with fail
  refine HC.out.mono ?_
  rintro e w1 ⟨rfl,hB1⟩
  have hBw:=HB0.out.trans (hB1.mono HZ1.out)
  have hbx:=(hB1.block _ HZ.out).trans HX.out
  have hWx:=hBw.alloc hBw.size (.cells #[.int .u8 (kc xk),.bool xb,.int .i64 xn,.string xt] 102)
  have d0:(w1.alloc (.cells #[.int .u8 (kc xk),.bool xb,.int .i64 xn,.string xt] 102)).cell? ⟨g,0,none⟩=_:=(hWx.cell (p:=⟨g,0,none⟩) hg).trans c0
  have d3:(w1.alloc (.cells #[.int .u8 (kc xk),.bool xb,.int .i64 xn,.string xt] 102)).cell? ⟨g,3,none⟩=_:=(hWx.cell (p:=⟨g,3,none⟩) hg).trans c3
  obtain⟨y0,y1,y2,y3,f0,f1,f2,f3⟩:=boxw ((Below.heap_alloc w1 (.cells #[.int .u8 (kc xk),.bool xb,.int .i64 xn,.string xt] 102) _ (lt_of_get hbx)).trans hbx)
  have HBX:=hide ((Below.heap_alloc w1 (.cells #[.int .u8 (kc xk),.bool xb,.int .i64 xn,.string xt] 102) _ (lt_of_get hbx)).trans hbx)
  have HBW:=hide hWx
  have hsz1:w.heap.size≤w1.heap.size:=hBw.size
  have hne1:w1.heap.size≠w.heap.size:=by have:=lt_of_get hbx;omega
  clear hWx hbx hBw hB1
  have hk:=HKK.out
  go_wp2_with fail
  obtain⟨z0,z1,z2,z3⟩:=stored4 HBX.out (.int .u8 (kc xk)) (.bool xb) (.int .i64 xn) (.string xt)
  refine bodyPost_ret (v:= .agg #[.int .u8 (kc xk),.bool xb,.int .i64 xn,.string xt]) (by simp [results,Tryz.results55,go_sem,z0,z1,z2,z3]) rfl ?_
  exact⟨by rw [hres.out]<;>rfl,below4 HBW.out (Nat.le_refl _) (.int .u8 (kc xk)) (.bool xb) (.int .i64 xn) (.string xt)⟩
 have hres:Hid (prefM ⟨#[33]⟩ ⟨xk,xb,xn,xt⟩=wBool (!xb)):=hide (by unfold prefM;rw [hz,show((⟨#[33]⟩:ByteArray).toList==[33])=true by rw [ByteArray.toList_eq];rfl];rfl)
 rw [hz] at hk
 have HKK:=hide hk
 clear hk
 go_enter Tryz.func55,Tryz.ntmps55
 go_wp2_with fail
 refine HC.out.mono ?_
 rintro e w1 ⟨rfl,hB1⟩
 have hBw:=HB0.out.trans (hB1.mono HZ1.out)
 have hbx:=(hB1.block _ HZ.out).trans HX.out
 have hWx:=hBw.alloc hBw.size (.cells #[.int .u8 (kc xk),.bool xb,.int .i64 xn,.string xt] 102)
 have d0:(w1.alloc (.cells #[.int .u8 (kc xk),.bool xb,.int .i64 xn,.string xt] 102)).cell? ⟨g,0,none⟩=_:=(hWx.cell (p:=⟨g,0,none⟩) hg).trans c0
 have d3:(w1.alloc (.cells #[.int .u8 (kc xk),.bool xb,.int .i64 xn,.string xt] 102)).cell? ⟨g,3,none⟩=_:=(hWx.cell (p:=⟨g,3,none⟩) hg).trans c3
 obtain⟨y0,y1,y2,y3,f0,f1,f2,f3⟩:=boxw ((Below.heap_alloc w1 (.cells #[.int .u8 (kc xk),.bool xb,.int .i64 xn,.string xt] 102) _ (lt_of_get hbx)).trans hbx)
 have HBX:=hide ((Below.heap_alloc w1 (.cells #[.int .u8 (kc xk),.bool xb,.int .i64 xn,.string xt] 102) _ (lt_of_get hbx)).trans hbx)
 have HBW:=hide hWx
 have hsz1:w.heap.size≤w1.heap.size:=hBw.size
 have hne1:w1.heap.size≠w.heap.size:=by have:=lt_of_get hbx;omega
 clear hWx hbx hBw hB1
 have hk:=HKK.out
 go_wp2_with fail
 obtain⟨z0,z1,z2,z3⟩:=stored4 HBX.out (.int .u8 98) (.bool (!xb)) (.int .i64 0) (.string ⟨#[]⟩)
 refine bodyPost_ret (v:= .agg #[.int .u8 98,.bool (!xb),.int .i64 0,.string ⟨#[]⟩]) (by simp [results,Tryz.results55,go_sem,z0,z1,z2,z3]) rfl ?_
 exact⟨by rw [hres.out]<;>rfl,below4 HBW.out (Nat.le_refl _) (.int .u8 98) (.bool (!xb)) (.int .i64 0) (.string ⟨#[]⟩)⟩
end Go.Proofs.YtkoohcilbpdgeaaGreatDoor
