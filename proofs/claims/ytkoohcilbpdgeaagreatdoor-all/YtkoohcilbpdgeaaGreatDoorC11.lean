import Derived.Deep.DeepCutAuto
import Derived.Deep.RegionWith
import Derived.Laws.OwnMore
import Derived.Test.YtkoohcilbpdgeaaGreatDoorC10
set_option linter.all false
set_option linter.unusedVariables false
set_option linter.unusedSimpArgs false
set_option linter.unnecessarySimpa false
set_option linter.constructorNameAsVariable false
set_option linter.deprecated false
set_option maxRecDepth 100000
set_option maxHeartbeats 6400000
namespace Go.Proofs.YtkoohcilbpdgeaaGreatDoor
open Go Go.RowKit
attribute [local go_sem] wrap64_byte
def LOk (st:St):Prop:=st.L.length≤100000∧ ∀x∈st.L,x.items.length≤100000
theorem z4F (gb base lb vb ib:Nat)(st:St)(V:Nat→Value)(iv cv:List Value)(l:List (zeV×zeV))(av:Value)(vals:List zeV)(vv:Value)(qs:List zeV)(qv:Value)(given:List Int)(gv:Value)(w:World)(h:Gd w gb base lb vb st V iv cv l av vals vv qs qv)(hg:w.ownsRow ib 3 1 gv given.length (given.map (Value.int .i64)))(hgl:given.length≤100000)(hA:st.A.length≤100000)(hv2:1≤vals.length)(hvl:vals.length≤100000)(hql:qs.length≤100000)(hL:LOk st):
  Calls Tryz.prog 108 #[.pointer (some ⟨gb,0,none⟩),gv] w fun e w'=>z3a (jB (stM st.A qs (vals.length - 1) given) (vals.length - 1) st.L []) w e w':=by
 obtain⟨hL,hLi⟩:=hL
 obtain⟨en,hbx⟩:=h.box
 obtain⟨a4,k4,e4⟩:=za (h.tree.own 4 (by omega) (by omega))
 obtain⟨ag0,kg0,rfl⟩:=za hg
 have hgb:=zj hbx
 have b2:=(z39 hbx).2.2.1
 rw [e4] at b2
 have HG:=z8 h
 have HGV:=z8 hg
 obtain⟨i0,hi,hz0,hz1,hz2⟩:=info_parts info3
 have HM:=z8 (World.ownsRow_made (base:=w.heap.size) (e:=3) (size:=1) w #[] 0 (zeK _) (by decide) (by simp))
 have HB0:Hid (Below w.heap.size w (w.alloc (.cells #[] 3))):=z8 ((zeU _ _).alloc (zeK _) _)
 clear h hbx hg
 generalize hsg:(stM st.A qs (vals.length - 1) given)=sg at*
 have HSG:=z8 hsg
 clear hsg
 go_enter Tryz.func108,Tryz.ntmps108
 go_wp2_with fail
 go_loopg [5,6] (st.L.length+1) (fun k tv jv wr=> ∃(i:Nat),k+i=st.L.length+1∧i≤st.L.length∧jv= .int .i64 i∧Hid (wr.ownsRow w.heap.size 3 1 tv i ((jB sg (vals.length - 1) (st.L.take i) []).map (Value.int .i64)))∧Below w.heap.size w wr)
 case atStart=>exact⟨0,rfl,zeR _,rfl,z8 HM.out,HB0.out⟩
 case round=>
  obtain⟨i,hk,hiC,rfl,HOW,hbel⟩:=hrel
  have hHK:=z8 hk
  clear hk
  obtain⟨ag,kg,rfl⟩:=za HOW.out
  have d2:wr.cell? ⟨gb,2,none⟩=some (.slice a4 (nOf st 4) k4):=(hbel.cell (p:=⟨gb,2,none⟩) hgb).trans b2
  have hn4:nOf st 4=st.L.length:=rfl
  rw [hn4] at d2
  have hz0':w.heap.size≤wr.heap.size:=hbel.size
  have HBL:=z8 hbel
  by_cases hlt:i<st.L.length
  ·have hG2:=HG.out.keep hbel
   have hg2:=zb HGV.out fun k e=>hbel.block k (HGV.out.lt k e).2
   obtain⟨x,hx⟩: ∃x,st.L[i]?=some x:=⟨st.L[i],zeH hlt⟩
   have hil:=hG2.tree.il
   obtain⟨u,hu⟩: ∃u,iv[i]?=some u:=⟨iv[i]'(by omega),zeH (by omega)⟩
   have hrow:wr.ownsRow base 160 7 (.slice a4 st.L.length k4) st.L.length ((List.zipWith Lc.cells st.L iv).flatten):=by
    have q:=hG2.tree.own 4 (by omega) (by omega)
    rw [e4] at q
    exact q
   have hur:=hG2.tree.items i x u hx hu
   obtain⟨au,ku,rfl⟩:=za hur
   obtain⟨g,cap,hvv,hbb,hgg⟩:=hrow.form (by omega)
   injection hvv with e1 e2 e3
   subst e1 e3
   have hcell: ∀j z,(x.cells (.slice au x.items.length ku))[j]?=some z→j<7→wr.cell? ⟨g,i*7+j,none⟩=some z:=fun j z hz hj=>zf hrow _ _ ((z5f st.L iv i j x _ hx hu hj).trans hz)
   have q0:wr.cell? ⟨g,i*7,none⟩=some (.int .i64 x.form):=hcell 0 _ rfl (by omega)
   have q1:=hcell 1 _ rfl (by omega)
   have q2:=hcell 2 _ rfl (by omega)
   have q3:=hcell 3 _ rfl (by omega)
   have q4:=hcell 4 _ rfl (by omega)
   have q5:=hcell 5 _ rfl (by omega)
   have q6:=hcell 6 _ rfl (by omega)
   have hst:=z8 (z5K sg (vals.length - 1) hx)
   have hxi:=hLi x (zeP hx)
   have hul:(jB sg (vals.length - 1) (st.L.take i) []).length=i:=by rw [z15];simp;omega
   have HUL:=z8 hul
   have hlt':(i:Int)<st.L.length:=by omega
   clear hul hx hu hil hrow hbel hcell
   generalize jB sg (vals.length - 1) (st.L.take i) []=U at*
   have hown0:wr.ownsRow w.heap.size 3 1 (.slice ag i kg) U.length (U.map (Value.int .i64)):=by rw [HUL.out];exact HOW.out
   have HLL:=z8 (z5R gb base lb vb ib st V iv cv l av vals vv qs qv given _ w.heap.size base U (.slice ag i kg) x _ wr hG2 hg2 hgl hA hv2 hvl hql hown0 (by have:=HUL.out;omega) hur hxi)
   rw [HSG.out] at HLL
   have HOWN:=z8 hown0
   clear hG2 hown0 hg2 hur
   generalize hz:llM sg (vals.length - 1) U x=z at*
   clear hz
   go_wp2_with fail
   refine HLL.out.mono ?_
   rintro e w2 ⟨rfl,hB2⟩
   have hown2:=zb HOWN.out fun k e=>hB2.block k (HOWN.out.lt k e).2
   rw [HUL.out] at hown2
   have HB2:=z8 (HBL.out.trans (hB2.mono hz0'))
   have hw2:w.heap.size≤w2.heap.size:=HB2.out.size
   clear hB2 HLL q0 q1 q2 q3 q4 q5 q6
   go_wp2_with (at_builtin;go_must (refine wpList_append_lies _ rfl (.tmp 31) (.tmp 33) 60 rfl w.heap.size 3 i0 _ 1 8 Tryz.underlying60 hi hz0 hz1 hz2 rfl (by omega) _ i _ rfl (hown2.alloc _) ⟨w2.heap.size,0,none⟩ 1 1 [.int .i64 z] rfl rfl ?news ?one (by omega) ?mm ?bys ?base (w2.heap.size+1) (by simp) ?rest))
   case news=>exact World.news_of_block (heap_alloc_new w2 _)
   case one=>intro u hu;simp at hu;subst hu;rfl
   case mm=>unfold maxLen;omega
   case bys=>omega
   case base=>simp;omega
   case rest=>
    intro gb2 cap2 w3 hown3 hgrow hat hlt2
    have hB3:=z8 (Below.grown (HB2.out.alloc hw2 _) hgrow (by simp;omega) fun k e=>(hown2.lt k e).1)
    have hown4:Hid (w3.ownsRow w.heap.size 3 1 (.slice (some ⟨gb2,0,none⟩) (i+1) cap2) (i+1) ((jB sg (vals.length - 1) (st.L.take (i+1)) []).map (Value.int .i64))):=z8 (by rw [hst.out];simpa using hown3)
    clear hown3 hgrow hat
    go_wp2_with fail
    have hk:=hHK.out
    go_roundg (st.L.length - i)
    case measure=>omega
    case rel=>exact⟨i+1,by omega,by omega,by go_num,hown4,hB3.out⟩
  ·have hlt': ¬(i:Int)<st.L.length:=by omega
   have hiC':i=st.L.length:=by omega
   have hfin:wr.ownsRow w.heap.size 3 1 (.slice ag i kg) (jB sg (vals.length - 1) st.L []).length ((jB sg (vals.length - 1) st.L []).map (Value.int .i64)):=by
    have hq:=HOW.out
    rw [z15]
    rw [hiC',List.take_length] at hq
    simpa [hiC'] using hq
   have HF:=z8 hfin
   clear hfin hiC' hbel
   go_wp2_with fail
   go_ret
   exact⟨_,rfl,HF.out,HBL.out⟩
theorem zaF (A:List As)(W ls:List Int){i:Nat}{x:As}(h:A[i]?=some x):ltM (A.take (i+1)) W ls=ltM (A.take i) W ls++[z3j (zc W x.conds) (zc ls x.to_)]:=by
 rw [List.take_add_one,h]
 simp [ltM]
theorem z7X (gb base lb vb ib:Nat)(st:St)(V:Nat→Value)(iv cv:List Value)(l:List (zeV×zeV))(av:Value)(vals:List zeV)(vv:Value)(qs:List zeV)(qv:Value)(given:List Int)(gv:Value)(wb:Nat)(W:List Int)(wv:Value)(w:World)(h:Gd w gb base lb vb st V iv cv l av vals vv qs qv)(hg:w.ownsRow ib 3 1 gv given.length (given.map (Value.int .i64)))(hgl:given.length≤100000)(hA:st.A.length≤100000)(hv2:1≤vals.length)(hvl:vals.length≤100000)(hql:qs.length≤100000)(hL:LOk st)(hw:w.ownsRow wb 3 1 wv W.length (W.map (Value.int .i64)))(hwl:W.length≤100000):
  Calls Tryz.prog 65 #[.pointer (some ⟨gb,0,none⟩),wv,gv] w fun e w'=>z3a (ltM st.A W (jB (stM st.A qs (vals.length - 1) given) (vals.length - 1) st.L [])) w e w':=by
 have HLS:=z8 (fun n=>z4F gb base lb vb ib st V iv cv l av vals vv qs qv given gv (w.drewN n) (h.drewN n) (zb (w':=w.drewN n) hg fun k e=>rfl) hgl hA hv2 hvl hql hL)
 have hul:(jB (stM st.A qs (vals.length - 1) given) (vals.length - 1) st.L []).length≤100000:=by rw [z15];simpa using hL.1
 obtain⟨en,hbx⟩:=h.box
 obtain⟨a3,k3,e3⟩:=za (h.tree.own 3 (by omega) (by omega))
 obtain⟨ag0,kg0,rfl⟩:=za hg
 obtain⟨aw,kw,rfl⟩:=za hw
 have hgb:=zj hbx
 have b1:=(z39 hbx).2.1
 rw [e3] at b1
 have HG:=z8 h
 have HWV:=z8 hw
 clear h hbx hg hw
 generalize jB (stM st.A qs (vals.length - 1) given) (vals.length - 1) st.L []=LS at*
 go_enter Tryz.func65,Tryz.ntmps65
 go_wp2_with fail
 refine(HLS.out 0).mono ?_
 rintro e wc ⟨lv,rfl,hlo,hlb⟩
 have hlb:Below w.heap.size w wc:=⟨hlb.os,hlb.tape,hlb.output,hlb.size,hlb.block⟩
 have hlo:wc.ownsRow w.heap.size 3 1 lv LS.length (LS.map (Value.int .i64)):=hlo
 obtain⟨al,kl,rfl⟩:=za hlo
 have HB:=z8 hlb
 have HLO:=z8 hlo
 have hzc:w.heap.size≤wc.heap.size:=hlb.size
 have hgc:gb<wc.heap.size:=by omega
 have d1:wc.cell? ⟨gb,1,none⟩=some (.slice a3 (nOf st 3) k3):=(hlb.cell (p:=⟨gb,1,none⟩) hgb).trans b1
 obtain⟨i0,hi,hz0,hz1,hz2⟩:=info_parts info3
 have HM:=z8 (World.ownsRow_made (base:=wc.heap.size) (e:=3) (size:=1) wc #[] 0 (zeK _) (by decide) (by simp))
 have HB0:Hid (Below wc.heap.size wc (wc.alloc (.cells #[] 3))):=z8 ((zeU _ _).alloc (zeK _) _)
 have HR:Hid (wc.ownsRow base 84 3 (.slice a3 st.A.length k3) st.A.length ((st.A.map As.cells).flatten)):=z8 (by
  have q:=(HG.out.keep hlb).tree.own 3 (by omega) (by omega)
  rw [e3] at q
  exact q)
 have HWC:=z8 (zb HWV.out fun k e=>hlb.block k (HWV.out.lt k e).2)
 clear hlb hlo HLS HWV HG
 go_wp2_with fail
 go_loopg [8,9] (st.A.length+1) (fun k tv jv wr=> ∃(i:Nat),k+i=st.A.length+1∧i≤st.A.length∧jv= .int .i64 i∧Hid (wr.ownsRow wc.heap.size 3 1 tv i ((ltM (st.A.take i) W LS).map (Value.int .i64)))∧Below wc.heap.size wc wr)
 case atStart=>exact⟨0,rfl,zeR _,rfl,z8 HM.out,HB0.out⟩
 case round=>
  obtain⟨i,hk,hiC,rfl,HOW,hbel⟩:=hrel
  have hHK:=z8 hk
  clear hk
  obtain⟨ag,kg,rfl⟩:=za HOW.out
  have d1':wr.cell? ⟨gb,1,none⟩=some (.slice a3 (nOf st 3) k3):=(hbel.cell (p:=⟨gb,1,none⟩) hgc).trans d1
  have hn3:nOf st 3=st.A.length:=rfl
  rw [hn3] at d1'
  have hz0':wc.heap.size≤wr.heap.size:=hbel.size
  have HBL:=z8 hbel
  by_cases hlt:i<st.A.length
  ·obtain⟨x,hx⟩: ∃x,st.A[i]?=some x:=⟨st.A[i],zeH hlt⟩
   obtain⟨g,cap,hvv,hbb,hgg⟩:=HR.out.form (by omega)
   injection hvv with u1 u2 u3
   subst u1 u3
   have hcell: ∀j z,x.cells[j]?=some z→j<3→wr.cell? ⟨g,i*3+j,none⟩=some z:=fun j z hz hj=>(hbel.cell (p:=⟨g,i*3+j,none⟩) hgg).trans (zf HR.out _ _ ((zI As.cells 3 As.cells3 st.A i j x hx hj).trans hz))
   have q0:wr.cell? ⟨g,i*3,none⟩=some (.string x.by_):=hcell 0 _ rfl (by omega)
   have q1:=hcell 1 _ rfl (by omega)
   have q2:=hcell 2 _ rfl (by omega)
   have hst:=z8 (zaF st.A W LS hx)
   have hlt':(i:Int)<st.A.length:=by omega
   have hBn:=hbel.alloc hbel.size (.cells #[.string x.by_,.int .i64 x.to_,.int .i64 x.conds] 84)
   have HBN:=z8 hBn
   have hzn:(wr.alloc (.cells #[.string x.by_,.int .i64 x.to_,.int .i64 x.conds] 84)).heap.size=wr.heap.size+1:=by simp
   have hown0:(wr.alloc (.cells #[.string x.by_,.int .i64 x.to_,.int .i64 x.conds] 84)).ownsRow wc.heap.size 3 1 (.slice ag i kg) i ((ltM (st.A.take i) W LS).map (Value.int .i64)):=HOW.out.alloc _
   have HL1:=z8 (ji wb W _ x.conds (wr.alloc (.cells #[.string x.by_,.int .i64 x.to_,.int .i64 x.conds] 84)) (zb HWC.out fun k e=>hBn.block k (HWC.out.lt k e).2) hwl)
   have HL2:=z8 (ji w.heap.size LS _ x.to_ (wr.alloc (.cells #[.string x.by_,.int .i64 x.to_,.int .i64 x.conds] 84)) (zb HLO.out fun k e=>hBn.block k (HLO.out.lt k e).2) hul)
   have HOW0:=z8 hown0
   clear hx hbel hcell hBn hown0
   generalize zc W x.conds=t1 at*
   generalize zc LS x.to_=t2 at*
   have HLO3:=z8 (fun W'=>z68 t1 t2 W')
   generalize z3j t1 t2=z at*
   go_wp2_with fail
   refine HL1.out.mono ?_
   rintro e w2 ⟨rfl,rfl⟩
   go_wp2_with fail
   refine HL2.out.mono ?_
   rintro e w2 ⟨rfl,rfl⟩
   go_wp2_with fail
   refine(HLO3.out _).mono ?_
   rintro e w2 ⟨rfl,rfl⟩
   clear HL1 HL2 HLO3
   generalize (wr.alloc (.cells #[.string x.by_,.int .i64 x.to_,.int .i64 x.conds] 84))=w2 at*
   have hw2:wc.heap.size≤w2.heap.size:=by omega
   clear hzn
   go_wp2_with (at_builtin;go_must (refine wpList_append_lies _ rfl (.tmp 47) (.tmp 49) 60 rfl wc.heap.size 3 i0 _ 1 8 Tryz.underlying60 hi hz0 hz1 hz2 rfl (by omega) _ i _ rfl (HOW0.out.alloc _) ⟨w2.heap.size,0,none⟩ 1 1 [.int .i64 z] rfl rfl ?news ?one (by omega) ?mm ?bys ?base (w2.heap.size+1) (by simp) ?rest))
   case news=>exact World.news_of_block (heap_alloc_new w2 _)
   case one=>intro u hu;simp at hu;subst hu;rfl
   case mm=>unfold maxLen;omega
   case bys=>omega
   case base=>simp;omega
   case rest=>
    intro gb2 cap2 w3 hown3 hgrow hat hlt2
    have hB3:=z8 (Below.grown (HBN.out.alloc hw2 _) hgrow (by simp;omega) fun k e=>(HOW0.out.lt k e).1)
    have hown4:Hid (w3.ownsRow wc.heap.size 3 1 (.slice (some ⟨gb2,0,none⟩) (i+1) cap2) (i+1) ((ltM (st.A.take (i+1)) W LS).map (Value.int .i64))):=z8 (by rw [hst.out];simpa using hown3)
    clear hown3 hgrow hat
    go_wp2_with fail
    have hk:=hHK.out
    go_roundg (st.A.length - i)
    case measure=>omega
    case rel=>exact⟨i+1,by omega,by omega,by go_num,hown4,hB3.out⟩
  ·have hlt': ¬(i:Int)<st.A.length:=by omega
   have hiC':i=st.A.length:=by omega
   have hfin:wr.ownsRow w.heap.size 3 1 (.slice ag i kg) (ltM st.A W LS).length ((ltM st.A W LS).map (Value.int .i64)):=by
    have hq:=HOW.out
    rw [hiC',List.take_length] at hq
    have e:(ltM st.A W LS).length=i:=by simp [ltM,hiC']
    rw [e,hiC']
    exact zq hq hzc
   have HF:=z8 hfin
   have HBE:=z8 (HB.out.trans (hbel.mono HB.out.size))
   clear hfin hiC' hbel
   go_wp2_with fail
   go_ret
   exact⟨_,rfl,HF.out,HBE.out⟩
theorem z1u (gb base lb vb:Nat)(st:St)(V:Nat→Value)(iv cv:List Value)(l:List (zeV×zeV))(av:Value)(vals:List zeV)(vv:Value)(qs:List zeV)(qv:Value)(w:World)(h:Gd w gb base lb vb st V iv cv l av vals vv qs qv)(hE:st.E.length≤100000)(hC:st.C.length≤100000)(hCl: ∀c∈st.C,c.length≤100000)(hvl:vals.length≤100000)(hll:l.length≤100000)(hls: ∀p∈l,p.2.size≤600)(hEs: ∀x∈st.E,x.text.size≤600)
  (hW: ∀x∈ze l st.E [],x.text.size≤100000000) (hA:st.A.length≤100000) (hv2:1≤vals.length) (hql:qs.length≤100000) (hL:LOk st):
  Calls Tryz.prog 35 #[.pointer (some ⟨gb,0,none⟩)] w fun e w'=>z3a (gvM st.A st.L qs (vals.length - 1) (jE vals (ze l st.E []) st.C []) st.A.length) w e w':=by
 have HCL:=z8 (z1p gb base lb vb st V iv cv l av vals vv qs qv w h hE hC hCl hvl hll hls hEs hW)
 have hLl:(jE vals (ze l st.E []) st.C []).length≤100000:=by rw [z0a];simpa using hC
 generalize (jE vals (ze l st.E []) st.C [])=LV at*
 obtain⟨en,hbx⟩:=h.box
 obtain⟨a3,k3,e3⟩:=za (h.tree.own 3 (by omega) (by omega))
 have hgb:=zj hbx
 have b1:=(z39 hbx).2.1
 rw [e3] at b1
 have HG:=z8 h
 clear h hbx hls hEs hW e3
 go_enter Tryz.func35,Tryz.ntmps35
 go_wp2_with fail
 refine HCL.out.mono ?_
 rintro e wc ⟨lv,rfl,hlo,hlb⟩
 obtain⟨al,kl,rfl⟩:=za hlo
 have hzc:w.heap.size≤wc.heap.size:=hlb.size
 have hgc:gb<wc.heap.size:=by omega
 have d1:wc.cell? ⟨gb,1,none⟩=some (.slice a3 (nOf st 3) k3):=(hlb.cell (p:=⟨gb,1,none⟩) hgb).trans b1
 have HG1:=z8 (HG.out.keep hlb)
 have HB:=z8 hlb
 have HLO:=z8 hlo
 have HM:=z8 (World.ownsRow_made (base:=wc.heap.size) (e:=3) (size:=1) wc #[] 0 (zeK _) (by decide) (by simp))
 have HB0:Hid (Below wc.heap.size wc (wc.alloc (.cells #[] 3))):=z8 ((zeU _ _).alloc (zeK _) _)
 clear hlb hlo HCL HG b1
 go_wp2_with fail
 go_loopg [4,5] (st.A.length+1) (fun k tv jv wr=> ∃(i:Nat),k+i=st.A.length+1∧i≤st.A.length∧jv= .int .i64 i∧Hid (wr.ownsRow wc.heap.size 3 1 tv (gvM st.A st.L qs (vals.length - 1) LV i).length ((gvM st.A st.L qs (vals.length - 1) LV i).map (Value.int .i64)))∧Below wc.heap.size wc wr)
 case atStart=>exact⟨0,rfl,zeR _,rfl,z8 HM.out,HB0.out⟩
 case round=>
  obtain⟨i,hk,hiC,rfl,HOW,hbel⟩:=hrel
  have hHK:=z8 hk
  clear hk
  obtain⟨ag,kg,rfl⟩:=za HOW.out
  have d1':wr.cell? ⟨gb,1,none⟩=some (.slice a3 (nOf st 3) k3):=(hbel.cell (p:=⟨gb,1,none⟩) hgc).trans d1
  have hn3:nOf st 3=st.A.length:=rfl
  rw [hn3] at d1'
  have HBL:=z8 hbel
  by_cases hlt:i<st.A.length
  ·have hgl:(gvM st.A st.L qs (vals.length - 1) LV i).length≤100000:=by
    cases i with
    |zero=>exact zeR _
    |succ r=>rw [z7F];exact hA
   have HLI:=z8 (z7X gb base lb vb wc.heap.size st V iv cv l av vals vv qs qv (gvM st.A st.L qs (vals.length - 1) LV i) _ w.heap.size LV _ wr (HG1.out.keep hbel) HOW.out hgl hA hv2 hvl hql hL (zb HLO.out fun k e=>hbel.block k (HLO.out.lt k e).2) hLl)
   have hst:Hid (ltM st.A LV (jB (stM st.A qs (vals.length - 1) (gvM st.A st.L qs (vals.length - 1) LV i)) (vals.length - 1) st.L [])=gvM st.A st.L qs (vals.length - 1) LV (i+1)):=z8 rfl
   rw [hst.out] at HLI
   have hlt':(i:Int)<st.A.length:=by omega
   clear hbel hst
   generalize gvM st.A st.L qs (vals.length - 1) LV i=G0 at*
   generalize hG1:gvM st.A st.L qs (vals.length - 1) LV (i+1)=G1 at*
   have HG1':=z8 hG1
   clear hG1
   go_wp2_with fail
   refine HLI.out.mono ?_
   rintro e w2 ⟨v2,rfl,ho2,hB2⟩
   obtain⟨a2,k2,rfl⟩:=za ho2
   have HO2:=z8 (zq ho2 HBL.out.size)
   have HB2:=z8 (HBL.out.trans (hB2.mono HBL.out.size))
   clear ho2 hB2 HLI
   go_wp2_with fail
   have hk:=hHK.out
   go_roundg (st.A.length - i)
   case measure=>omega
   case rel=>exact⟨i+1,by omega,by omega,by go_num,by rw [HG1'.out];exact HO2,HB2.out⟩
  ·have hlt': ¬(i:Int)<st.A.length:=by omega
   have hiC':i=st.A.length:=by omega
   have HF:Hid (wr.ownsRow w.heap.size 3 1 (.slice ag (gvM st.A st.L qs (vals.length - 1) LV i).length kg) (gvM st.A st.L qs (vals.length - 1) LV st.A.length).length ((gvM st.A st.L qs (vals.length - 1) LV st.A.length).map (Value.int .i64))):=z8 (by
    have hq:=HOW.out
    rw [hiC'] at hq ⊢
    exact zq hq hzc)
   have HBE:=z8 (HB.out.trans (hbel.mono HB.out.size))
   clear hiC' hbel
   go_wp2_with fail
   go_ret
   exact⟨_,rfl,HF.out,HBE.out⟩
def quM (s a v q:zeV)(st:St):zeV×Int:=
 if grM s a v q st !=0 then(⟨#[]⟩,grM s a v q st) else
 (vaM (vlM v).1 (stM st.A (rqM q).1 ((vlM v).1.length - 1) (gvM st.A st.L (rqM q).1 ((vlM v).1.length - 1) (jE (vlM v).1 (ze (raM a).1 st.E []) st.C []) st.A.length) pol),0)
theorem zaD (s a v q:zeV)(st:St)(w:World)(h:Calls Tryz.prog 34 #[.string s,.string a,.string v,.string q] w fun e w'=>z1O s a v q st w e w')(hE:st.E.length≤100000)(hA:st.A.length≤100000)(hC:st.C.length≤100000)(hCl: ∀c∈st.C,c.length≤100000)(hvl:(vlM v).1.length≤100000)(hll:(raM a).1.length≤100000)(hls: ∀p∈(raM a).1,p.2.size≤600)(hEs: ∀x∈st.E,x.text.size≤600)(hL:LOk st)
  (hW:grM s a v q st=0→ ∀x∈ze (raM a).1 st.E [],x.text.size≤100000000) (hv2:grM s a v q st=0→1≤(vlM v).1.length):
  Calls Tryz.prog 19 #[.string s,.string a,.string v,.string q] w fun e w'=>jF (quM s a v q st).1 (quM s a v q st).2 w e w':=by
 have HC:=z8 h
 have hql:(rqM q).1.length≤100000:=by have:=z2O q;omega
 clear h
 go_enter Tryz.func19,Tryz.ntmps19
 go_wp2_with fail
 refine HC.out.mono ?_
 rintro e w1 ⟨x1,x2,x3,x4,x5,x6,x7,rfl,hB1,⟨a1,n1,k1,rfl⟩,⟨a2,n2,k2,rfl⟩,⟨a3,n3,k3,rfl⟩,⟨a4,n4,k4,rfl⟩,⟨a5,n5,k5,rfl⟩,⟨a6,n6,k6,rfl⟩,⟨a7,n7,k7,rfl⟩,hG⟩
 have hco:Hid (quM s a v q st=if grM s a v q st !=0 then(⟨#[]⟩,grM s a v q st) else
  (vaM (vlM v).1 (stM st.A (rqM q).1 ((vlM v).1.length - 1) (gvM st.A st.L (rqM q).1 ((vlM v).1.length - 1) (jE (vlM v).1 (ze (raM a).1 st.E []) st.C []) st.A.length) pol),0)):=z8 rfl
 generalize grM s a v q st=E at*
 have hB2:=hB1.alloc hB1.size (.cells #[.int .i64 E,.slice a1 n1 k1,.slice a2 n2 k2,.slice a3 n3 k3,.slice a4 n4 k4,.slice a5 n5 k5,.slice a6 n6 k6,.slice a7 n7 k7] 58)
 have hX2:=heap_alloc_new w1 (.cells #[.int .i64 E,.slice a1 n1 k1,.slice a2 n2 k2,.slice a3 n3 k3,.slice a4 n4 k4,.slice a5 n5 k5,.slice a6 n6 k6,.slice a7 n7 k7] 58)
 have HB2:=z8 hB2
 cases hEz:(E !=0)
 case true=>
  have hres:Hid (quM s a v q st=(⟨#[]⟩,E)):=z8 (by rw [hco.out,hEz];rfl)
  clear hG hB1 hX2 hB2
  go_wp2_with fail
  go_quiet (fail)
  go_wp2_with fail
  go_ret2
  exact⟨by rw [hres.out];rfl,⟨HB2.out.os,HB2.out.tape,HB2.out.output,HB2.out.size,HB2.out.block⟩⟩
 have hE0:E=0:=by simpa using hEz
 subst hE0
 obtain⟨V,iv,cv,e1,e2,e3,e4,hT,hl,hvv,hqq⟩:=hG rfl
 have hn6:n6=(vlM v).1.length:=by
  obtain⟨qa,qk,q⟩:=za hvv
  injection q with _ q _
 have hGd:Gd (w1.alloc (.cells #[.int .i64 0,.slice a1 n1 k1,.slice a2 n2 k2,.slice a3 n3 k3,.slice a4 n4 k4,.slice a5 n5 k5,.slice a6 n6 k6,.slice a7 n7 k7] 58)) w1.heap.size w.heap.size w.heap.size w.heap.size st V iv cv (raM a).1 (.slice a5 n5 k5) (vlM v).1 (.slice a6 n6 k6) (rqM q).1 (.slice a7 n7 k7):=
  ⟨⟨0,by rw [←e1,←e2,←e3,←e4];exact hX2⟩,hT.same fun k _ hk=>zeM _ _ _ hk,hl.alloc _,hvv.alloc _,hqq.alloc _⟩
 have HGL:=z8 (z1u _ _ _ _ st V iv cv (raM a).1 _ (vlM v).1 _ (rqM q).1 _ _ hGd hE hC hCl hvl hll hls hEs (hW rfl) hA (hv2 rfl) hql hL)
 have hres:Hid (quM s a v q st=(vaM (vlM v).1 (stM st.A (rqM q).1 ((vlM v).1.length - 1) (gvM st.A st.L (rqM q).1 ((vlM v).1.length - 1) (jE (vlM v).1 (ze (raM a).1 st.E []) st.C []) st.A.length) pol),0)):=z8 (by rw [hco.out];rfl)
 have hgl:(gvM st.A st.L (rqM q).1 ((vlM v).1.length - 1) (jE (vlM v).1 (ze (raM a).1 st.E []) st.C []) st.A.length).length≤100000:=by
  cases st.A.length with
  |zero=>exact zeR _
  |succ r=>rw [z7F];exact hA
 generalize gvM st.A st.L (rqM q).1 ((vlM v).1.length - 1) (jE (vlM v).1 (ze (raM a).1 st.E []) st.C []) st.A.length=GV at*
 have HGD:=z8 hGd
 have hz1:w.heap.size≤w1.heap.size:=hB1.size
 have HN:=z8 hn6
 have hv2':=hv2 rfl
 clear hco hG hEz hB1 hB2 hT hl hvv hqq e1 e2 e3 e4 hGd hX2 hn6 hW hv2
 go_wp2_with fail
 refine HGL.out.mono ?_
 rintro e w2 ⟨lv,rfl,hlv,hB3⟩
 have hG2:=HGD.out.keep hB3
 obtain⟨al,kl,rfl⟩:=za hlv
 have HST:=z8 (z31 _ _ _ _ _ st V iv cv (raM a).1 _ (vlM v).1 _ (rqM q).1 _ GV _ pol w2 hG2 hlv hgl hA hv2' hvl hql)
 unfold pol at HST hres
 have hc6:w2.cell? ⟨w1.heap.size,6,none⟩=some (.slice a6 (vlM v).1.length k6):=by
  obtain⟨e,he⟩:=hG2.box
  rw [←HN.out]
  exact(z39 he).2.2.2.2.2.2.1
 have hv3:w2.ownsRow w.heap.size 9 1 (.slice a6 (vlM v).1.length k6) (vlM v).1.length ((vlM v).1.map Value.string):=by have q:=hG2.vals;rw [HN.out] at q;exact q
 have HVA:=z8 (fun i=>z3C w1.heap.size w.heap.size (vlM v).1 a6 k6 i w2 hc6 hv3 hvl)
 have HB3:=z8 (HB2.out.trans (hB3.mono HB2.out.size))
 clear hG2 hB3 hlv hc6 hv3 HGL
 generalize stM st.A (rqM q).1 ((vlM v).1.length - 1) GV ⟨#[80,79,76,73,67,89]⟩=lev at*
 go_wp2_with fail
 refine HST.out.mono ?_
 rintro e w3 ⟨rfl,rfl⟩
 have HVL:=z8 (HVA.out lev)
 generalize vaM (vlM v).1 lev=D at*
 clear HVA HST
 go_wp2_with fail
 refine HVL.out.mono ?_
 rintro e w4 ⟨rfl,rfl⟩
 go_wp2_with fail
 go_ret2
 exact⟨by rw [hres.out];rfl,HB3.out⟩
theorem info154:(Tryz.prog.info? 154).map (fun i=>(i.zero,i.size,i.bytes))=some (some (.agg #[.string ⟨#[]⟩,.int .i64 0]),2,24):=by kernel_rfl
def z1c (p:zeV×Int):List Value:=[.string p.1,.int .i64 p.2]
theorem z3B (p:zeV×Int):(z1c p).length=2:=rfl
def Sds (w:World)(base:Nat)(v:Value)(l:List (zeV×Int)):Prop:=w.ownsRow base 154 2 v l.length ((l.map z1c).flatten)
theorem Sds.slice {w:World}{base:Nat}{v:Value}{l:List (zeV×Int)}(h:Sds w base v l): ∃a c,v= .slice a l.length c:=za h
theorem Sds.cell {w:World}{base g cap:Nat}{l:List (zeV×Int)}(h:Sds w base (.slice (some ⟨g,0,none⟩) l.length cap) l){i:Nat}{p:zeV×Int}(hp:l[i]?=some p):w.cell? ⟨g,i*2,none⟩=some (.string p.1)∧w.cell? ⟨g,i*2+1,none⟩=some (.int .i64 p.2):=
 ⟨zf h _ _ (zI z1c 2 z3B l i 0 p hp (by omega)),zf h _ _ (zI z1c 2 z3B l i 1 p hp (by omega))⟩
theorem Sds.same {w w':World}{base:Nat}{v:Value}{l:List (zeV×Int)}(h:Sds w base v l)(hk: ∀k,v.ownBlock=some k→w'.heap[k]?=w.heap[k]?):Sds w' base v l:=zb h hk
theorem z54 (base:Nat)(l:List (zeV×Int))(v:Value)(nm:zeV)(w:World)(h:Sds w base v l)(hlen:l.length≤100000):
  Calls Tryz.prog 60 #[v,.string nm] w fun e w'=>e= .returned (.int .i64 (atM l nm))∧w'=w:=by
 obtain⟨a0,c0,rfl⟩:=h.slice
 have HW:=z8 h
 clear h
 go_enter Tryz.func60,Tryz.ntmps60
 go_wp2_with fail
 go_loopg [5] (l.length+1) (fun k iv wr=> ∃(i:Nat),k+i=l.length+1∧i≤l.length∧iv= .int .i64 i∧wr=w∧Hid (atM (l.drop i) nm=atM l nm))
 case atStart=>exact⟨0,rfl,zeR _,rfl,rfl,z8 rfl⟩
 case round=>
  obtain⟨i,hk,hiE,rfl,rfl,hfin⟩:=hrel
  have hHK:=z8 hk
  clear hk
  by_cases hlt:i<l.length
  ·obtain⟨g,cap,hv,hb,hg⟩:=World.ownsRow.form HW.out (by omega)
   injection hv with e1 e2 e3
   subst e1 e3
   obtain⟨x,hx⟩: ∃x,l[i]?=some x:=⟨l[i],zeH hlt⟩
   obtain⟨q0,q1⟩:=HW.out.cell hx
   have hlt':(i:Int)<l.length:=by omega
   have hst:Hid (atM (l.drop i) nm=if x.1.toList==nm.toList then x.2 else atM (l.drop (i+1)) nm):=z8 (by
    obtain⟨hl,hx'⟩:=zeI.1 hx
    rw [zeO hl,hx']
    rfl)
   clear hx
   cases hq:(x.1.toList==nm.toList)
   ·go_wp2_with fail
    have hk:=hHK.out
    go_roundg (l.length - i)
    case measure=>omega
    case rel=>exact⟨i+1,by omega,by omega,by go_num,rfl,z8 (by rw [←hfin.out,hst.out,hq];rfl)⟩
   ·have hres:Hid (atM l nm=x.2):=z8 (by rw [←hfin.out,hst.out,hq];rfl)
    go_wp2_with fail
    go_ret
    exact⟨by rw [hres.out];rfl,rfl⟩
  ·have hlt': ¬(i:Int)<l.length:=by omega
   have hres:Hid (atM l nm=0):=z8 (by rw [←hfin.out,zeN (by omega)];rfl)
   go_wp2_with fail
   go_ret
   exact⟨by rw [hres.out];rfl,rfl⟩
theorem zbm (base:Nat)(vs:List Int)(v:Value)(kk:Int)(w:World)(h:w.ownsRow base 3 1 v vs.length (vs.map (Value.int .i64)))(hlen:vs.length≤100000):
  Calls Tryz.prog 144 #[v,.int .i64 kk] w fun e w'=>e= .returned (.int .i64 (z30 vs kk vs 0))∧ ∃n,w'=w.drewN n:=by
 obtain⟨a0,c0,rfl⟩:=za h
 have HW:=z8 h
 clear h
 go_enter Tryz.func144,Tryz.ntmps144
 go_wp2_with fail
 go_loopg [5,6] (vs.length+1) (fun k bv iv wr=> ∃(i m:Nat) (b:Int),k+i=vs.length+1∧i≤vs.length∧bv= .int .i64 b∧iv= .int .i64 i∧wr=w.drewN m∧Hid (z30 vs kk (vs.drop i) b=z30 vs kk vs 0))
 case atStart=>exact⟨0,0,0,rfl,zeR _,rfl,rfl,rfl,z8 rfl⟩
 case round=>
  obtain⟨i,m,b,hk,hiE,rfl,rfl,rfl,hfin⟩:=hrel
  have hHK:=z8 hk
  clear hk
  by_cases hlt:i<vs.length
  ·obtain⟨g,cap,hv,hb,hg⟩:=HW.out.form (by omega)
   injection hv with e1 e2 e3
   subst e1 e3
   obtain⟨x,hx⟩: ∃x,vs[i]?=some x:=⟨vs[i],zeH hlt⟩
   have q0:w.cell? ⟨g,i,none⟩=some (.int .i64 x):=zf HW.out _ _ (by simp [hx])
   have hlt':(i:Int)<vs.length:=by omega
   have hst:Hid (z30 vs kk (vs.drop i) b=z30 vs kk (vs.drop (i+1)) (if decide (kk≤z1W x vs 0)&&decide (b<x) then x else b)):=z8 (by
    obtain⟨hl,hx'⟩:=zeI.1 hx
    rw [zeO hl,hx']
    rfl)
   clear hx
   obtain⟨gk0,hgk0⟩: ∃gk0,gk0=gk:=⟨_,rfl⟩
   have HGK0:=z8 hgk0
   clear hgk0
   go_wp2_with fail
   go_loopg [7,8] (vs.length+1) (fun k nv jv wr2=> ∃(j m2:Nat) (n:Int),k+j=vs.length+1∧j≤vs.length∧nv= .int .i64 n∧jv= .int .i64 j∧wr2=w.drewN m2∧0≤n∧n≤j∧Hid (z1W x (vs.drop j) n=z1W x vs 0))
   case atStart=>exact⟨0,m,0,rfl,zeR _,rfl,rfl,rfl,by omega,by omega,z8 rfl⟩
   case round=>
    obtain⟨j,m2,n,hkj,hjc,rfl,rfl,rfl,hn0,hn1,hfj⟩:=hrel
    have HKJ:=z8 hkj
    clear hkj
    by_cases hjl:j<vs.length
    ·obtain⟨y,hy⟩: ∃y,vs[j]?=some y:=⟨vs[j],zeH hjl⟩
     have p0:w.cell? ⟨g,j,none⟩=some (.int .i64 y):=zf HW.out _ _ (by simp [hy])
     have hjl':(j:Int)<vs.length:=by omega
     have hsj:Hid (z1W x (vs.drop j) n=z1W x (vs.drop (j+1)) (if x≤y then n+1 else n)):=z8 (by
      obtain⟨hl,hx'⟩:=zeI.1 hy
      rw [zeO hl,hx']
      rfl)
     clear hy
     by_cases hxy:x≤y
     ·have HS:Hid (z1W x (vs.drop j) n=z1W x (vs.drop (j+1)) (n+1)):=z8 (by rw [hsj.out,if_pos hxy])
      go_wp2_with fail
      go_quiet (fail)
      go_wp2_with fail
      have hk:=HKJ.out
      go_roundg (vs.length - j)
      case measure=>omega
      case rel=>exact⟨j+1,_,n+1,by omega,by omega,by go_num,by go_num,rfl,by omega,by omega,z8 (by rw [←hfj.out,HS.out])⟩
     ·have HS:Hid (z1W x (vs.drop j) n=z1W x (vs.drop (j+1)) n):=z8 (by rw [hsj.out,if_neg hxy])
      go_wp2_with fail
      go_quiet (fail)
      go_wp2_with fail
      have hk:=HKJ.out
      go_roundg (vs.length - j)
      case measure=>omega
      case rel=>exact⟨j+1,_,n,by omega,by omega,by go_num,by go_num,rfl,by omega,by omega,z8 (by rw [←hfj.out,HS.out])⟩
    ·have hjl': ¬(j:Int)<vs.length:=by omega
     have hcn:Hid (z1W x vs 0=n):=z8 (by rw [←hfj.out,zeN (by omega)];rfl)
     by_cases hkn:kk≤n
     ·by_cases hbx:b<x
      ·have HS:Hid (z30 vs kk (vs.drop (i+1)) x=z30 vs kk vs 0):=z8 (by rw [←hfin.out,hst.out,hcn.out];simp [hkn,hbx])
       go_wp2_with fail
       have hk:=hHK.out
       have hg0:=HGK0.out
       go_roundg (gk0 - 1)
       case measure=>omega
       case rel=>exact⟨i+1,_,x,by omega,by omega,by go_num,by go_num,rfl,HS⟩
      ·have HS:Hid (z30 vs kk (vs.drop (i+1)) b=z30 vs kk vs 0):=z8 (by rw [←hfin.out,hst.out,hcn.out];simp [hbx])
       go_wp2_with fail
       have hk:=hHK.out
       have hg0:=HGK0.out
       go_roundg (gk0 - 1)
       case measure=>omega
       case rel=>exact⟨i+1,_,b,by omega,by omega,by go_num,by go_num,rfl,HS⟩
     ·have HS:Hid (z30 vs kk (vs.drop (i+1)) b=z30 vs kk vs 0):=z8 (by rw [←hfin.out,hst.out,hcn.out];simp [hkn])
      go_wp2_with fail
      have hk:=hHK.out
      have hg0:=HGK0.out
      go_roundg (gk0 - 1)
      case measure=>omega
      case rel=>exact⟨i+1,_,b,by omega,by omega,by go_num,by go_num,rfl,HS⟩
  ·have hlt': ¬(i:Int)<vs.length:=by omega
   have hres:Hid (z30 vs kk vs 0=b):=z8 (by rw [←hfin.out,zeN (by omega)];rfl)
   go_wp2_with fail
   go_ret
   exact⟨by rw [hres.out];rfl,m,rfl⟩
theorem zb9: ∀(l:List (zeV×Int)) (i:Nat) (p:zeV×Int) (x:Int),l[i]?=some p→((l.set i (p.1,x)).map z1c).flatten=((l.map z1c).flatten).set (i*2+1) (.int .i64 x):=by
 intro l
 induction l with
 |nil=>intro i p x h;simp at h
 |cons q l ih=>
  intro i p x h
  cases i with
  |zero=>
   have e:q=p:=by simpa using h
   subst e
   rfl
  |succ i=>
   have:=ih i p x (by simpa using h)
   rw [show(i+1)*2+1=i*2+1+1+1 by omega]
   show z1c q++((l.set i (p.1,x)).map z1c).flatten=_
   rw [this]
   rfl
def zcY (l:List (zeV×Int))(nm:zeV)(x:Int)(base:Nat)(w:World)(e:Ending)(w':World):Prop:= ∃v,e= .returned (.tuple #[v,.bool (rsM l nm x).2])∧Sds w' base v (rsM l nm x).1∧Below base w w'
theorem z2M (base:Nat)(l:List (zeV×Int))(v:Value)(nm:zeV)(x:Int)(w:World)(h:Sds w base v l)(hb:base≤w.heap.size)(hlen:l.length≤100000):
  Calls Tryz.prog 105 #[v,.string nm,.int .i64 x] w fun e w'=>zcY l nm x base w e w':=by
 obtain⟨a0,c0,rfl⟩:=h.slice
 have HW:=z8 h
 clear h
 obtain⟨i0,hi,hz0,hz1,hz2⟩:=info_parts info154
 go_enter Tryz.func105,Tryz.ntmps105
 go_wp2_with fail
 go_loopg [8] (l.length+1) (fun k iv wr=> ∃(i:Nat),k+i=l.length+1∧i≤l.length∧iv= .int .i64 i∧wr=w∧Hid (rsM l nm x=(l.take i++(rsM (l.drop i) nm x).1,(rsM (l.drop i) nm x).2)))
 case atStart=>exact⟨0,rfl,zeR _,rfl,rfl,z8 (by simp)⟩
 case round=>
  obtain⟨i,hk,hiE,rfl,rfl,hfin⟩:=hrel
  have hHK:=z8 hk
  clear hk
  by_cases hlt:i<l.length
  ·obtain⟨g,cap,hv,hbg,hg⟩:=World.ownsRow.form HW.out (by omega)
   injection hv with e1 e2 e3
   subst e1 e3
   obtain⟨p,hx⟩: ∃p,l[i]?=some p:=⟨l[i],zeH hlt⟩
   obtain⟨q0,q1⟩:=HW.out.cell hx
   have f1:=World.ownsRow.frozenAt HW.out (i*2+1)
   have hlt':(i:Int)<l.length:=by omega
   have hdr:Hid (l.drop i=p::l.drop (i+1)):=z8 (by
    obtain⟨hl,hx'⟩:=zeI.1 hx
    rw [zeO hl,hx'])
   have hta:Hid (l.take (i+1)=l.take i++[p]):=z8 (by rw [List.take_add_one,hx];rfl)
   cases hq:(p.1.toList==nm.toList)
   ·have HS:Hid (rsM l nm x=(l.take (i+1)++(rsM (l.drop (i+1)) nm x).1,(rsM (l.drop (i+1)) nm x).2)):=z8 (by
     rw [hfin.out,hdr.out]
     simp only [rsM,hq]
     simp [hta.out])
    clear hx hfin hdr hta
    go_wp2_with fail
    have hk:=hHK.out
    go_roundg (l.length - i)
    case measure=>omega
    case rel=>exact⟨i+1,by omega,by omega,by go_num,rfl,HS⟩
   ·by_cases hle:x≤p.2
    ·have hres:Hid (rsM l nm x=(l,false)):=z8 (by
      rw [hfin.out]
      conv=>lhs;rw [hdr.out]
      simp only [rsM,hq,hle,if_true]
      rw [←hdr.out,List.take_append_drop])
     clear hx hfin hdr hta
     go_wp2_with fail
     go_ret2
     exact⟨.slice (some ⟨g,0,none⟩) l.length c0,by rw [hres.out];rfl,by rw [hres.out];exact HW.out,zeU _ _⟩
    ·have hres:Hid (rsM l nm x=(l.set i (p.1,x),true)):=z8 (by
      rw [hfin.out]
      conv=>lhs;rw [hdr.out]
      simp only [rsM,hq,hle,if_true,if_false]
      rw [List.set_eq_take_append_cons_drop,if_pos hlt])
     have HST:Hid (Sds (wr.setCell ⟨g,i*2+1,none⟩ (.int .i64 x)) base (.slice (some ⟨g,0,none⟩) l.length c0) (l.set i (p.1,x))):=z8 (by
      have q:=(World.ownsRow.stored HW.out (i*2+1) (.int .i64 x)).1
      unfold Sds
      rw [zb9 l i p x hx,List.length_set]
      exact q)
     have HB:=z8 ((zeU base wr).setCell (p:=⟨g,i*2+1,none⟩) hbg (.int .i64 x))
     clear hx hfin hdr hta
     go_wp2_with fail
     go_ret2
     exact⟨.slice (some ⟨g,0,none⟩) l.length c0,by rw [hres.out];rfl,by rw [hres.out];exact HST.out,HB.out⟩
  ·have hlt': ¬(i:Int)<l.length:=by omega
   have hres:Hid (rsM l nm x=(l++[(nm,x)],decide (0<x))):=z8 (by rw [hfin.out,zeN (by omega),List.take_of_length_le (by omega)];rfl)
   clear hfin
   go_wp2_with (at_builtin;go_must (refine wpList_append_lies _ rfl (.tmp 36) (.tmp 40) 107 rfl base 154 i0 _ 2 24 Tryz.underlying107 hi hz0 hz1 hz2 rfl (by omega) _ l.length _ rfl (World.ownsRow.alloc HW.out _) ⟨wr.heap.size,0,none⟩ 1 1 [.string nm,.int .i64 x] rfl rfl ?news ?one (by omega) ?mm ?bys ?base (wr.heap.size+1) (by simp) ?rest))
   case one=>exact⟨rfl,rfl⟩
   case mm=>unfold maxLen;omega
   case bys=>omega
   case base=>omega
   case rest=>
    intro gb2 cap2 w3 hown3 hgrow hat hlt2
    have hB3:=z8 (Below.grown ((zeU base wr).alloc hb _) hgrow (by simp;omega) fun k e=>(World.ownsRow.lt HW.out k e).1)
    have hown4:Hid (Sds w3 base (.slice (some ⟨gb2,0,none⟩) (l.length+1) cap2) (l++[(nm,x)])):=z8 (by
     unfold Sds
     simpa [z1c] using hown3)
    clear hown3 hgrow hat
    go_wp2_with fail
    go_ret2
    exact⟨.slice (some ⟨gb2,0,none⟩) (l.length+1) cap2,by rw [hres.out];simp,by rw [hres.out];exact hown4.out,hB3.out⟩
def AskL (op tx:zeV)(k:Int):Prop:=(op=⟨#[124,124]⟩∧k=1)∨(op=⟨#[38,38]⟩∧k=2)∨(op=sOf∧ ∃c:UInt8,tx=⟨#[c]⟩∧(c.toNat:Int)- 48=k∧48≤c.toNat∧c.toNat≤57)
theorem AskL.name {op tx:zeV}{k:Int}(h:AskL op tx k):(op.toList==[110,97,109,101])=false:=by
 rcases h with⟨rfl,_⟩|⟨rfl,_⟩|⟨rfl,_⟩<;>(rw [zeJ];decide)
theorem z3u {X:Nat→Prop}{w:World}{v:Value}{op tx:zeV}{p:Int}{vs:List Value}(h:NodeX X w v op tx p vs)(hlen:vs.length≤100000)(sv:Value)(hsv:z7z sv)(zs:List Int)(hzs:zs.length=vs.length)(k:Int)(hk:AskL op tx k)
  (hsub: ∀(i:Nat) (u:Value) (z:Int),vs[i]?=some u→zs[i]?=some z→(∃g,u= .pointer (some ⟨g,0,none⟩))∧ ∀W,Below w.heap.size w W→Calls Tryz.prog 106 #[u,sv] W fun e w'=>e= .returned (.int .i64 z)∧Below W.heap.size W w'):
  Calls Tryz.prog 106 #[v,sv] w fun e w'=>e= .returned (.int .i64 (z30 zs k zs 0))∧Below w.heap.size w w':=by
 obtain⟨g,kv0,rfl,hh,hg,hkv⟩:=zL h
 obtain⟨ak,kk,rfl⟩:=za hkv
 obtain⟨as0,ns,ks,rfl⟩:=hsv
 obtain⟨c0,c1,c2,c3,cf⟩:=zR hh
 have HC:=z8 hsub
 have HK:=z8 hkv
 have hnm:=hk.name
 obtain⟨i0,hi,hz0,hz1,hz2⟩:=info_parts info3
 clear h hh hsub hkv cf c2
 go_enter Tryz.func106,Tryz.ntmps106
 go_wp2_with fail
 go_loopg [5,6] (vs.length+1) (fun k tv iv wr=> ∃(i:Nat),k+i=vs.length+1∧i≤vs.length∧iv= .int .i64 i∧Hid (wr.ownsRow w.heap.size 3 1 tv i ((zs.take i).map (Value.int .i64)))∧Hid (Below w.heap.size w wr))
 case atStart=>exact⟨0,rfl,zeR _,rfl,z8 (World.ownsRow_nil _ _ _ _),z8 (zeU _ _)⟩
 case round=>
  obtain⟨i,hki,hil,rfl,HOW,HB⟩:=hrel
  have hHK:=z8 hki
  clear hki
  obtain⟨ag,kg,rfl⟩:=za HOW.out
  have d0:wr.cell? ⟨g,0,none⟩=some (.string op):=(HB.out.cell (p:=⟨g,0,none⟩) hg).trans c0
  have d1:wr.cell? ⟨g,1,none⟩=some (.string tx):=(HB.out.cell (p:=⟨g,1,none⟩) hg).trans c1
  have d3:wr.cell? ⟨g,3,none⟩=some (.slice ak vs.length kk):=(HB.out.cell (p:=⟨g,3,none⟩) hg).trans c3
  have hz0':w.heap.size≤wr.heap.size:=HB.out.size
  by_cases hlt:i<vs.length
  ·obtain⟨u,hu⟩: ∃u,vs[i]?=some u:=⟨vs[i],zeH hlt⟩
   obtain⟨z,hz⟩: ∃z,zs[i]?=some z:=⟨zs[i]'(by omega),zeH (by omega)⟩
   have hkr:=HK.out
   obtain⟨gr,cap,hvv,hbb,hgg⟩:=hkr.form (by omega)
   injection hvv with e1 e2 e3
   subst e1 e3
   have r0:wr.cell? ⟨gr,i,none⟩=some u:=(HB.out.cell (p:=⟨gr,i,none⟩) hgg).trans (zf hkr _ _ hu)
   obtain⟨⟨gu,rfl⟩,hcall⟩:=HC.out i u z hu hz
   have HCA:=z8 (hcall wr HB.out)
   have hst:Hid (zs.take (i+1)=zs.take i++[z]):=z8 (by rw [List.take_add_one,hz];rfl)
   have hlt':(i:Int)<vs.length:=by omega
   clear hu hz hkr hcall d0 d1
   go_wp2_with fail
   refine HCA.out.mono ?_
   rintro e w2 ⟨rfl,hB2⟩
   have hown2:=zb HOW.out fun k e=>hB2.block k (HOW.out.lt k e).2
   have HB2:=z8 (HB.out.trans (hB2.mono hz0'))
   have hw2:w.heap.size≤w2.heap.size:=HB2.out.size
   clear hB2 HCA
   go_wp2_with (at_builtin;go_must (refine wpList_append_lies _ rfl (.tmp 37) (.tmp 39) 60 rfl w.heap.size 3 i0 _ 1 8 Tryz.underlying60 hi hz0 hz1 hz2 rfl (by omega) _ i _ rfl (hown2.alloc _) ⟨w2.heap.size,0,none⟩ 1 1 [.int .i64 z] rfl rfl ?news ?one (by omega) ?mm ?bys ?base (w2.heap.size+1) (by simp) ?rest))
   case news=>exact World.news_of_block (heap_alloc_new w2 _)
   case one=>intro u hu;simp at hu;subst hu;rfl
   case mm=>unfold maxLen;omega
   case bys=>omega
   case base=>simp;omega
   case rest=>
    intro gb2 cap2 w3 hown3 hgrow hat hlt2
    have hB3:=z8 (Below.grown (HB2.out.alloc hw2 _) hgrow (by simp;omega) fun k e=>(hown2.lt k e).1)
    have hown4:Hid (w3.ownsRow w.heap.size 3 1 (.slice (some ⟨gb2,0,none⟩) (i+1) cap2) (i+1) ((zs.take (i+1)).map (Value.int .i64))):=z8 (by rw [hst.out];simpa using hown3)
    clear hown3 hgrow hat
    go_wp2_with fail
    have hk:=hHK.out
    go_roundg (vs.length - i)
    case measure=>omega
    case rel=>exact⟨i+1,by omega,by omega,by go_num,hown4,hB3⟩
  ·have hlt': ¬(i:Int)<vs.length:=by omega
   have hiv:i=zs.length:=by omega
   have hrow:wr.ownsRow w.heap.size 3 1 (.slice ag i kg) zs.length (zs.map (Value.int .i64)):=by
    have q:=HOW.out
    rw [hiv] at q ⊢
    rw [List.take_length] at q
    exact q
   have HKT:=z8 (fun k n=>zbm w.heap.size zs _ k (wr.drewN n) (zb (w':=wr.drewN n) hrow fun k e=>rfl) (by omega))
   clear hrow hiv HC HK HOW c0 c1 c3
   rcases hk with⟨rfl,rfl⟩|⟨rfl,rfl⟩|⟨rfl,c,rfl,rfl,hc1,hc2⟩
   ·go_wp2_with fail
    refine(HKT.out 1 0).mono ?_
    rintro e w2 ⟨rfl,n2,rfl⟩
    go_wp2_with fail
    go_ret
    exact⟨rfl,⟨HB.out.os,HB.out.tape,HB.out.output,HB.out.size,HB.out.block⟩⟩
   ·go_wp2_with fail
    refine(HKT.out 2 0).mono ?_
    rintro e w2 ⟨rfl,n2,rfl⟩
    go_wp2_with fail
    go_ret
    exact⟨rfl,⟨HB.out.os,HB.out.tape,HB.out.output,HB.out.size,HB.out.block⟩⟩
   ·unfold sOf at*
    have hcv: ∀h0:0<(ByteArray.mk #[c]).size,((((ByteArray.mk #[c])[0]'h0).toNat:Int)- 48)%256=(c.toNat:Int)- 48:=fun _=>by
     show((c.toNat:Int)- 48)%256=_
     omega
    go_wp2_with fail
    refine(HKT.out _ 0).mono ?_
    rintro e w2 ⟨rfl,n2,rfl⟩
    go_wp2_with fail
    go_ret
    exact⟨rfl,⟨HB.out.os,HB.out.tape,HB.out.output,HB.out.size,HB.out.block⟩⟩
theorem zbc (sg:zeV→Int)(top:Nat): ∀(xs:List Lc) (ls:List Int),∃t,jB sg top xs ls=ls++t:=by
 intro xs
 induction xs with
 |nil=>intro ls;exact⟨[],by simp [jB]⟩
 |cons x xs ih=>
  intro ls
  obtain⟨t,ht⟩:=ih (ls++[llM sg top ls x])
  exact⟨[llM sg top ls x]++t,by unfold jB;rw [ht,List.append_assoc]⟩
theorem zbK (sg:zeV→Int)(top:Nat){L:List Lc}{i:Nat}{x:Lc}(h:L[i]?=some x):
  zc (jB sg top L []) (i:Int)=llM sg top (jB sg top (L.take i) []) x∧ ∀j:Nat,j<i→zc (jB sg top (L.take i) []) (j:Int)=zc (jB sg top L []) (j:Int):=by
 obtain⟨hl,hx⟩:=zeI.1 h
 have e:jB sg top L []=jB sg top (L.drop (i+1)) (jB sg top (L.take i) []++[llM sg top (jB sg top (L.take i) []) x]):=by
  conv=>lhs;rw [←List.take_append_drop (i+1) L,z3R,z5K sg top h]
 have hlen:(jB sg top (L.take i) []).length=i:=by rw [z15];simp;omega
 obtain⟨t,ht⟩:=zbc sg top (L.drop (i+1)) (jB sg top (L.take i) []++[llM sg top (jB sg top (L.take i) []) x])
 rw [e,ht]
 refine⟨?_,fun j hj=> ?_⟩
 ·rw [z1x,if_pos (by simp [hlen]),z1x,if_neg (by omega),hlen,Nat.sub_self,z2S];rfl
 ·rw [z1x,if_pos (by simp [hlen];omega),z1x,if_pos (by omega)]
theorem z0X {X:Nat→Prop}{w:World}{L:List Lc}: ∀{f:Nat} {v:Value} {a i:Nat},RefLX X w L f v a i→a≤i:=by
 intro f
 induction f with
 |zero=>intro v a i h;exact absurd h id
 |succ f ih=>
  intro v a i ⟨x,hx,h⟩
  rcases h with⟨h1,h2,p,h3⟩|⟨h1,v1,v2,j,k,p,h2,h3,h4,h8,h5,h6,h7⟩|⟨h1,vs,c,h2,h3,h4,h5,h6⟩
  ·omega
  ·have:=ih h6;have:=ih h7;omega
  ·have gen: ∀(vs:List Value) (is:List Int) (a e:Nat),SegV (fun v a i=>RefLX X w L f v a i) vs is a e→a≤e:=by
    intro vs
    induction vs with
    |nil=>
     intro is a e h
     cases is with
     |nil=>have h:a=e:=h;omega
     |cons i is=>exact absurd h id
    |cons v vs ih2=>
     intro is a e h
     cases is with
     |nil=>exact absurd h id
     |cons i is=>
      obtain⟨j,_,q2,q3⟩:=h
      have:=ih q2;have:=ih2 is _ _ q3;omega
   exact gen _ _ _ _ h6
theorem z1F {X:Nat→Prop}{w:World}{L:List Lc}{f:Nat}{v:Value}{a i:Nat}(h:RefLX X w L f v a i): ∃g,v= .pointer (some ⟨g,0,none⟩):=by
 cases f with
 |zero=>exact absurd h id
 |succ f=>
  obtain⟨x,hx,h⟩:=h
  rcases h with⟨h1,h2,p,h3⟩|⟨h1,v1,v2,j,k,p,h2,h3,h4,h8,h5,h6,h7⟩|⟨h1,vs,c,h2,h3,h4,h5,h6⟩
  ·obtain⟨g,_,e,_⟩:=h3.ex;exact⟨g,e⟩
  ·obtain⟨g,_,e,_⟩:=h5.ex;exact⟨g,e⟩
  ·obtain⟨g,_,e,_⟩:=h5.ex;exact⟨g,e⟩
theorem z4X {X:Nat→Prop}{w:World}{L:List Lc}{f:Nat}: ∀(vs:List Value) (is:List Int) (a e:Nat),SegV (fun v a i=>RefLX X w L f v a i) vs is a e→a≤e∧(∀it∈is,∃j:Nat,it=(j:Int)∧j<e)∧ ∀(n:Nat) (v:Value) (it:Int),vs[n]?=some v→is[n]?=some it→ ∃a' j:Nat,it=(j:Int)∧RefLX X w L f v a' j:=by
 intro vs
 induction vs with
 |nil=>
  intro is a e h
  cases is with
  |nil=>have h:a=e:=h;exact⟨by omega,fun it h=>(by cases h),fun n v it h=>by simp at h⟩
  |cons i is=>exact absurd h id
 |cons v vs ih=>
  intro is a e h
  cases is with
  |nil=>exact absurd h id
  |cons i is=>
   obtain⟨j,q1,q2,q3⟩:=h
   have:=z0X q2
   obtain⟨r1,r2,r3⟩:=ih is _ _ q3
   refine⟨by omega,fun it h=> ?_,fun n u it h1 h2=> ?_⟩
   ·rcases List.mem_cons.1 h with e|e
    ·exact⟨j,by rw [e,q1],by omega⟩
    ·exact r2 it e
   ·cases n with
    |zero=>
     have e1:v=u:=by simpa using h1
     have e2:i=it:=by simpa using h2
     subst e1 e2
     exact⟨a,j,q1,q2⟩
    |succ n=>exact r3 n u it (by simpa using h1) (by simpa using h2)
theorem z6u {X:Nat→Prop}{w:World}{v:Value}{tx:zeV}{p:Int}{vs:List Value}(h:NodeX X w v z1g tx p vs)(base:Nat)(sl:List (zeV×Int))(sv:Value)(hs:Sds w base sv sl)(hsl:sl.length≤100000):
  Calls Tryz.prog 106 #[v,sv] w fun e w'=>e= .returned (.int .i64 (atM sl tx))∧Below w.heap.size w w':=by
 obtain⟨g,kv0,rfl,hh,hg,hkv⟩:=zL h
 obtain⟨c0,c1,c2,c3,cf⟩:=zR hh
 have HA:=z8 (fun n=>z54 base sl sv tx (w.drewN n) (hs.same fun k e=>rfl) hsl)
 obtain⟨as0,ks,rfl⟩:=hs.slice
 unfold z1g at c0
 clear h hh hkv cf c2 c3 hs
 go_enter Tryz.func106,Tryz.ntmps106
 go_wp2_with fail
 refine(HA.out 0).mono ?_
 rintro e w2 ⟨rfl,rfl⟩
 go_wp2_with fail
 go_ret
 exact⟨rfl,⟨rfl,rfl,rfl,zeK _,fun _ _=>rfl⟩⟩
theorem z9u {X:Nat→Prop}{L:List Lc}(hcnt: ∀x∈L,x.form=2→1≤x.count)(hit: ∀x∈L,x.items.length≤100000)(base:Nat)(sl:List (zeV×Int))(sv:Value)(hsl:sl.length≤100000)(top:Nat)(hr: ∀nm,0≤atM sl nm∧atM sl nm≤top):
  ∀(f:Nat) (v:Value) (a i:Nat) (w:World),RefLX X w L f v a i→Sds w base sv sl→Calls Tryz.prog 106 #[v,sv] w fun e w'=>e= .returned (.int .i64 (zc (jB (atM sl) top L []) (i:Int)))∧Below w.heap.size w w':=by
 have hrg:=z5i (L:=L) hr
 intro f
 induction f with
 |zero=>intro v a i w h;exact absurd h id
 |succ f ih=>
  intro v a i w ⟨x,hx,h⟩ hs
  have hkeep: ∀{W:World},Below w.heap.size w W→Sds W base sv sl:=fun hB=>hs.same fun k e=>hB.block k (World.ownsRow.lt hs k e).2
  obtain⟨hat,hpre⟩:=zbK (atM sl) top hx
  have hsv:z7z sv:=by obtain⟨a0,c0,e⟩:=hs.slice;exact⟨a0,_,c0,e⟩
  rcases h with⟨h1,h2,p,h3⟩|⟨h1,v1,v2,j,k,p,h2,h3,h4,h8,h5,h6,h7⟩|⟨h1,vs,c,h2,h3,h4,h5,h6⟩
  ·rw [hat]
   have e:llM (atM sl) top (jB (atM sl) top (L.take i) []) x=atM sl x.text:=by unfold llM;simp [h1]
   rw [e]
   exact z6u h3 base sl sv hs hsl
  ·have hj:=z0X h6
   have hk:=z0X h7
   have e1:=hpre j (by omega)
   have e2:=hpre k (by omega)
   have key: ∀kk,AskL x.text ⟨#[]⟩ kk→Calls Tryz.prog 106 #[v,sv] w fun e w'=>e= .returned (.int .i64 (z30 [zc (jB (atM sl) top L []) (j:Int),zc (jB (atM sl) top L []) (k:Int)] kk [zc (jB (atM sl) top L []) (j:Int),zc (jB (atM sl) top L []) (k:Int)] 0))∧Below w.heap.size w w':=fun kk hkk=>by
    refine z3u h5 (by simp) sv hsv _ rfl kk hkk fun n u z hu hz=> ?_
    match n,hu,hz with
    |0,hu,hz=>
     have q1:v1=u:=by simpa using hu
     have q2:zc (jB (atM sl) top L []) (j:Int)=z:=by simpa using hz
     subst q1 q2
     exact⟨z1F h6,fun W hB=>ih v1 a j W (h6.keepX (zi hB)) (hkeep hB)⟩
    |1,hu,hz=>
     have q1:v2=u:=by simpa using hu
     have q2:zc (jB (atM sl) top L []) (k:Int)=z:=by simpa using hz
     subst q1 q2
     exact⟨z1F h7,fun W hB=>ih v2 (j+1) k W (h7.keepX (zi hB)) (hkeep hB)⟩
    |n+2,hu,hz=>simp at hu
   have r1:=hrg (j:Int)
   have r2:=hrg (k:Int)
   rw [hat]
   rcases h8 with ht|ht
   ·have e:llM (atM sl) top (jB (atM sl) top (L.take i) []) x=z30 [zc (jB (atM sl) top L []) (j:Int),zc (jB (atM sl) top L []) (k:Int)] 1 [zc (jB (atM sl) top L []) (j:Int),zc (jB (atM sl) top L []) (k:Int)] 0:=by
     rw [zdx r1.1 r2.1]
     unfold llM
     rw [h1,h3,h4,e1,e2,ht,zeJ]
     rfl
    rw [e]
    exact key 1 (.inl ⟨ht,rfl⟩)
   ·have e:llM (atM sl) top (jB (atM sl) top (L.take i) []) x=z30 [zc (jB (atM sl) top L []) (j:Int),zc (jB (atM sl) top L []) (k:Int)] 2 [zc (jB (atM sl) top L []) (j:Int),zc (jB (atM sl) top L []) (k:Int)] 0:=by
     rw [zc3 r1.1 r2.1]
     unfold llM
     rw [h1,h3,h4,e1,e2,ht,zeJ]
     rfl
    rw [e]
    exact key 2 (.inr (.inl ⟨ht,rfl⟩))
  ·have hlen:=SegV.length _ _ _ _ h6
   obtain⟨_,r2,r3⟩:=z4X _ _ _ _ h6
   have hxm:=zeP hx
   have e:llM (atM sl) top (jB (atM sl) top (L.take i) []) x=z30 (x.items.map (zc (jB (atM sl) top L []))) x.count (x.items.map (zc (jB (atM sl) top L []))) 0:=by
    have em:x.items.map (zc (jB (atM sl) top L []))=x.items.map (zc (jB (atM sl) top (L.take i) [])):=List.map_congr_left fun it hi=>by
     obtain⟨j,rfl,hj⟩:=r2 it hi
     exact(hpre j hj).symm
    rw [em,zcK _ _ (hcnt x hxm h1) top fun i'=>(z5i hr (L.take i) i').2]
    unfold llM
    rw [h1]
    rfl
   rw [hat,e]
   refine z3u h5 (by rw [hlen];exact hit x hxm) sv hsv _ (by rw [List.length_map,hlen]) x.count (.inr (.inr ⟨rfl,c,rfl,h2,h3,h4⟩)) fun n u z hu hz=> ?_
   rw [List.getElem?_map] at hz
   cases hq:x.items[n]? with
   |none=>rw [hq] at hz;cases hz
   |some it=>
    rw [hq] at hz
    have hz:zc (jB (atM sl) top L []) it=z:=by simpa using hz
    obtain⟨a',j,rfl,hj⟩:=r3 n u it hu hq
    subst hz
    exact⟨z1F hj,fun W hB=>ih u a' j W (hj.keepX (zi hB)) (hkeep hB)⟩
def r0M (top:Int):List zeV→List (zeV×Int)→List (zeV×Int)
 |[],s=>s
 |q::qs,s=>r0M top qs (rsM s q top).1
theorem zap (nm q:zeV)(qs:List zeV)(i:Nat):(plM nm (q::qs) i≠ -1)↔(nm=q∨plM nm qs 0≠ -1):=by
 have gen: ∀(l:List zeV) (i j:Nat),plM nm l i= -1↔plM nm l j= -1:=by
  intro l
  induction l with
  |nil=>intro i j;simp [plM]
  |cons x l ih=>
   intro i j
   unfold plM
   split
   ·constructor<;>intro h<;>omega
   ·exact ih _ _
 have e1:plM nm (q::qs) i=if q.toList==nm.toList then(i:Int) else plM nm qs (i+1):=rfl
 rw [e1]
 split
 ·rename_i h
  have e:q=nm:=jH (by simpa using h)
  constructor
  ·intro _;exact .inl e.symm
  ·intro _;omega
 ·rename_i h
  have e:nm≠q:=fun e=>h (by simp [e])
  rw [Ne,gen qs (i+1) 0]
  simp [e]
theorem ze9 {top:Nat}: ∀(qs:List zeV) (s:List (zeV×Int)),(∀nm,atM s nm≤top)→ ∀nm,(plM nm qs 0≠ -1→atM (r0M top qs s) nm=top)∧(plM nm qs 0= -1→atM (r0M top qs s) nm=atM s nm):=by
 intro qs
 induction qs with
 |nil=>intro s _ nm;exact⟨fun h=>absurd rfl h,fun _=>rfl⟩
 |cons q qs ih=>
  intro s hs nm
  have h1: ∀m,atM (rsM s q top).1 m=if m=q then(top:Int) else atM s m:=fun m=>by
   rw [z2Z _ _ _ _ (by omega)]
   have:=hs q
   split
   ·split<;>omega
   ·rfl
  have h2: ∀m,atM (rsM s q top).1 m≤top:=fun m=>by rw [h1];have:=hs m;split<;>omega
  obtain⟨r1,r2⟩:=ih _ h2 nm
  have hc:=zap nm q qs 0
  refine⟨fun h=> ?_,fun h=> ?_⟩
  ·show atM (r0M top qs (rsM s q top).1) nm=top
   by_cases hq:plM nm qs 0= -1
   ·rw [r2 hq,h1]
    rcases hc.1 h with e|e
    ·rw [if_pos e]
    ·exact absurd hq e
   ·exact r1 hq
  ·show atM (r0M top qs (rsM s q top).1) nm=atM s nm
   have hn: ¬(nm=q∨plM nm qs 0≠ -1):=fun e=>(hc.2 e) h
   have hq:plM nm qs 0= -1:=by
    by_cases e:plM nm qs 0= -1
    ·exact e
    ·exact absurd (.inr e) hn
   rw [r2 hq,h1,if_neg fun e=>hn (.inl e)]
theorem zds (A:List As)(L:List Lc)(qs:List zeV)(top:Nat)(W:List Int)(hW:Lvr top W):Std A L qs top W (r0M top qs []):=by
 have h:=ze9 (top:=top) qs [] (fun nm=>by show(0:Int)≤top;omega)
 refine⟨fun nm=> ?_,fun nm hq=>(h nm).1 hq,fun nm=> ?_⟩
 ·by_cases hq:plM nm qs 0= -1
  ·rw [(h nm).2 hq];show(0:Int)≤0∧(0:Int)≤top;omega
  ·rw [(h nm).1 hq];omega
 ·by_cases hq:plM nm qs 0= -1
  ·rw [(h nm).2 hq];exact(z2L (z6c hW _) nm).1
  ·rw [(h nm).1 hq];unfold stM;rw [if_pos (by simpa using hq)];exact Int.le_refl _
def zcW (st:St)(al:List (zeV×zeV))(vals qs:List zeV)(w:World)(e:Ending)(w':World):Prop:= ∃sl v,e= .returned v∧Sds w' w.heap.size v sl∧(∀nm,atM sl nm=stM st.A qs (vals.length - 1) (gvM st.A st.L qs (vals.length - 1) (jE vals (ze al st.E []) st.C []) st.A.length) nm)∧sl.length≤1000∧Below w.heap.size w w'
theorem z2F {X:Nat→Prop}(st:St)(f:Nat)(ps:List PP)(lb ab vb:Nat)(lv av:Value)(al:List (zeV×zeV))(vals qs:List zeV)(vv:Value)(qv:Value)(w:World)
  (hl:w.ownsRow lb 91 3 lv st.A.length (zab ps st.A)) (hseg:SegA (fun p x a b e g=>AsX X w st.L st.E st.C f p x a b e g) ps st.A 0 0 st.L.length st.E.length) (ha:w.ownsRow ab 144 2 av al.length ((al.map zu).flatten)) (hv:w.ownsRow vb 9 1 vv vals.length (vals.map Value.string)) (hq:w.ownsRow vb 9 1 qv qs.length (qs.map Value.string))
  (hg:jh st.E) (hcov:z7E st) (hA:st.A.length≤8) (hCl: ∀c∈st.C,c.length≤100000) (hvl:vals.length≤5) (hv2:1≤vals.length) (hql:qs.length≤4) (hll:al.length≤100000) (hls: ∀p∈al,p.2.size≤600) (hEs: ∀x∈st.E,x.text.size≤600)
  (hW: ∀x∈ze al st.E [],x.text.size≤100000000∧ -999999999≤x.num∧x.num≤999999999) (hcnt: ∀x∈st.L,x.form=2→1≤x.count) (hit: ∀x∈st.L,x.items.length≤100000):
  Calls Tryz.prog 59 #[lv,av,vv,qv] w fun e w'=>zcW st al vals qs w e w':=by
 have hWr:Lvr (vals.length - 1) (jE vals (ze al st.E []) st.C []):=z4m fun x hx=>by
  have:=z1D vals (ze al st.E []) (by omega) st.C [] (fun x h=>by cases h) x hx
  omega
 obtain⟨fk,hcv⟩:=hcov
 obtain⟨AA,A0,A1,AP⟩:=SegB.parts _ _ _ hcv
 obtain⟨a0,k0,rfl⟩:=za hl
 obtain⟨a1,k1,rfl⟩:=za ha
 obtain⟨a2,k2,rfl⟩:=za hv
 obtain⟨a3,k3,rfl⟩:=za hq
 have hCX:=z8 fun(v:Value) (ci a e f2 a2':Nat) (W:World)=>z7f (X:=X) hg al (.slice a1 al.length k1) ab hll hls hEs hW vals vb a2 k2 (by omega) hCl f v ci a e f2 a2' W
 have hSL:=z8 fun(sl:List (zeV×Int)) (sv:Value) (hsl:sl.length≤100000) (hr: ∀nm,0≤atM sl nm∧atM sl nm≤(((vals.length - 1):Nat):Int))=>z9u (X:=X) (L:=st.L) hcnt hit w.heap.size sl sv hsl (vals.length - 1) hr f
 have hstd0:=z8 (zds st.A st.L qs (vals.length - 1) (jE vals (ze al st.E []) st.C []) hWr)
 have HWR:=z8 hWr
 have HR:=z8 (zeL hl (zeL ha (zeL hv hq)))
 have HS:=z8 hseg
 have hpl:=z8 (SegA.len _ _ _ _ _ _ hseg)
 have HAP:=z8 AP
 clear hl ha hv hq hseg hg hCl hls hEs hW hcnt hit A0 A1 AP hcv hWr
 generalize hLV:(jE vals (ze al st.E []) st.C [])=LV at*
 have HLV:=z8 hLV
 clear hLV
 go_enter Tryz.func59,Tryz.ntmps59
 go_wp2_with fail
 go_loopg [9,10] (qs.length+1) (fun k sv iv wr=> ∃(i:Nat) (sl:List (zeV×Int)),k+i=qs.length+1∧i≤qs.length∧iv= .int .i64 i∧Hid (Sds wr w.heap.size sv sl)∧Hid (Below w.heap.size w wr)∧sl.length≤i∧Hid (r0M (((vals.length - 1):Nat):Int) (qs.drop i) sl=r0M (((vals.length - 1):Nat):Int) qs []))
 case atStart=>exact⟨0,[],rfl,zeR _,rfl,z8 (World.ownsRow_nil _ _ _ _),z8 (zeU _ _),zeK _,z8 rfl⟩
 case round=>
  obtain⟨i,sl,hk,hiq,rfl,HSD,HB,hsl,hfin⟩:=hrel
  have hHK:=z8 hk
  clear hk
  obtain⟨ag,kg,rfl⟩:=HSD.out.slice
  have hz0:w.heap.size≤wr.heap.size:=HB.out.size
  by_cases hlt:i<qs.length
  ·obtain⟨g,cap,hvv,hbb,hgg⟩:=HR.out.2.2.2.form (by omega)
   injection hvv with e1 e2 e3
   subst e1 e3
   obtain⟨x,hx⟩: ∃x,qs[i]?=some x:=⟨qs[i],zeH hlt⟩
   have q0:wr.cell? ⟨g,i,none⟩=some (.string x):=(HB.out.cell (p:=⟨g,i,none⟩) hgg).trans (zf HR.out.2.2.2 _ _ (by simp [hx]))
   have hst:Hid (r0M (((vals.length - 1):Nat):Int) (qs.drop i) sl=r0M (((vals.length - 1):Nat):Int) (qs.drop (i+1)) (rsM sl x (((vals.length - 1):Nat):Int)).1):=z8 (by
    obtain⟨hl,hx'⟩:=zeI.1 hx
    rw [zeO hl,hx']
    rfl)
   have hlt':(i:Int)<qs.length:=by omega
   have hRA:=z2M w.heap.size sl _ x (((vals.length - 1):Nat):Int) wr HSD.out hz0 (by omega)
   rw [show((((vals.length - 1):Nat)):Int)=(vals.length:Int)- 1 by omega] at hRA
   have HRA:=z8 hRA
   clear hx hRA
   go_wp2_with fail
   refine HRA.out.mono ?_
   rintro e w2 ⟨v2,rfl,hs2,hB2⟩
   obtain⟨b2,c2,rfl⟩:=hs2.slice
   have HS2:=z8 hs2
   have HB2:=z8 (HB.out.trans hB2)
   have hl2:=z8V sl x ((vals.length:Int)- 1)
   clear hs2 hB2 HRA
   go_wp2_with fail
   have hk:=hHK.out
   go_roundg (qs.length - i)
   case measure=>omega
   case rel=>exact⟨i+1,(rsM sl x ((vals.length:Int)- 1)).1,by omega,by omega,by go_num,HS2,HB2,by omega,z8 (by rw [←hfin.out,hst.out];congr 3;omega)⟩
  ·have hlt': ¬(i:Int)<qs.length:=by omega
   have hr0:sl=r0M (((vals.length - 1):Nat):Int) qs []:=by rw [←hfin.out,zeN (by omega)];rfl
   have hstd:Hid (Std st.A st.L qs (vals.length - 1) LV sl):=z8 (by rw [hr0];exact hstd0.out)
   have hlk:=z8r (top:=(vals.length - 1)) (s:=sl) (fun nm=>(hstd.out.rng nm).1) st.A
   have hlk2:z1Z (vals.length - 1) sl st.A≤32:=zeS hlk (zeS (Nat.mul_le_mul hA (show vals.length - 1≤4 by omega)) (by omega))
   clear hr0 hfin hstd0 hlk
   go_wp2_with fail
   go_loopg [9,11] 40 (fun k sv mv wr=> ∃(sl:List (zeV×Int)) (more:Bool),mv= .bool more∧Hid (Sds wr w.heap.size sv sl)∧Hid (Below w.heap.size w wr)∧Hid (Std st.A st.L qs (vals.length - 1) LV sl)∧sl.length+8*k≤400∧1≤k∧Hid ((more=true∧z1Z (vals.length - 1) sl st.A+2≤k)∨(more=false∧ ∀a∈st.A,zH st.L (vals.length - 1) LV sl a≤atM sl a.by_)))
   case atStart=>exact⟨sl,true,rfl,HSD,HB,hstd,by omega,by omega,z8 (.inl ⟨rfl,by omega⟩)⟩
   case round=>
    obtain⟨sl,more,rfl,HSD,HB,hstd,hlen,hk1,HC⟩:=hrel
    obtain⟨ag,kg,rfl⟩:=HSD.out.slice
    cases more
    case false=>
     have hfin: ∀a∈st.A,zH st.L (vals.length - 1) LV sl a≤atM sl a.by_:=by
      rcases HC.out with⟨e,_⟩|⟨_,h⟩
      ·cases e
      ·exact h
     have hres:=z8 (za3 HWR.out hstd.out hfin)
     clear hfin
     go_wp2_with fail
     go_ret
     exact⟨sl,_,rfl,HSD.out,by rw [HLV.out];exact hres.out,by omega,HB.out⟩
    case true=>
     have hlack:z1Z (vals.length - 1) sl st.A+2≤gk:=by
      rcases HC.out with⟨_,h⟩|⟨e,_⟩
      ·exact h
      ·cases e
     have HLK:=z8 hlack
     have HLEN:=z8 hlen
     obtain⟨gk0,hgk0⟩: ∃gk0,gk0=gk:=⟨_,rfl⟩
     have HGK0:=z8 hgk0
     clear hgk0 hlack HC hlk2
     have hl400:sl.length≤400:=by omega
     go_wp2_with fail
     go_loopg [9,11,12] (st.A.length+1) (fun k sv mv iv wr2=> ∃(i:Nat) (s2:List (zeV×Int)) (m2:Bool),k+i=st.A.length+1∧i≤st.A.length∧iv= .int .i64 i∧mv= .bool m2∧Hid (Sds wr2 w.heap.size sv s2)∧Hid (Below w.heap.size w wr2)∧Hid (Std st.A st.L qs (vals.length - 1) LV s2)∧s2.length≤sl.length+i∧Hid (swM st.L (vals.length - 1) LV (st.A.drop i) s2 m2=swM st.L (vals.length - 1) LV st.A sl false))
     case atStart=>exact⟨0,sl,false,rfl,zeR _,rfl,rfl,HSD,HB,hstd,by omega,z8 rfl⟩
     case round=>
      obtain⟨i,s2,m2,hki,hiA,rfl,rfl,HS2,HB2,hstd2,hl2,hfin⟩:=hrel
      have hHKI:=z8 hki
      clear hki
      obtain⟨b2,c2,rfl⟩:=HS2.out.slice
      have hz2:w.heap.size≤wr.heap.size:=HB2.out.size
      by_cases hlt:i<st.A.length
      ·obtain⟨g,cap,hvx,hbb,hgl⟩:=HR.out.1.form (by omega)
       injection hvx with e1 e2 e3
       subst e1 e3
       obtain⟨pp,hpp⟩: ∃pp,ps[i]?=some pp:=⟨ps[i]'(by have:=hpl.out;omega),zeH _⟩
       obtain⟨x,a',b',e',g',hx,li,ci,r1,r2,r3,r4,r5⟩:=SegA.get _ _ _ _ _ _ i pp HS.out hpp
       have c0:w.cell? ⟨g,i*3,none⟩=some (.string x.by_):=zf HR.out.1 _ _ ((z0b hpp hx (j:=0) (by omega)).trans rfl)
       have c1:w.cell? ⟨g,i*3+1,none⟩=some (.pointer pp.1):=zf HR.out.1 _ _ ((z0b hpp hx (by omega)).trans rfl)
       have c2':w.cell? ⟨g,i*3+2,none⟩=some (.pointer pp.2):=zf HR.out.1 _ _ ((z0b hpp hx (by omega)).trans rfl)
       have q2:wr.cell? ⟨g,i*3+2,none⟩=some (.pointer pp.2):=(HB2.out.cell (p:=⟨g,i*3+2,none⟩) hgl).trans c2'
       obtain⟨kx,z1,z2,z3⟩:=HAP.out i x hx
       have hkc:kx=ci:=by rw [r2] at z1;omega
       subst hkc
       have keepR: ∀{base e size n:Nat} {v:Value} {xs:List Value},w.ownsRow base e size v n xs→wr.ownsRow base e size v n xs:=fun h=>zb h fun k e=>HB2.out.block k (h.lt k e).2
       have HCC:=z8 (hCX.out (.pointer pp.2) kx b' g' fk (AA i) wr (r5.keepX (zi HB2.out)) z2 (keepR HR.out.2.1) (keepR HR.out.2.2.1))
       have hxm:=zeP hx
       have hgv:Hid (zH st.L (vals.length - 1) LV s2 x=z3j (zc LV kx) (zc (jB (atM s2) (vals.length - 1) st.L []) li)):=z8 (by unfold zH;rw [r1,r2])
       have hstd5:Hid (Std st.A st.L qs (vals.length - 1) LV (rsM s2 x.by_ (zH st.L (vals.length - 1) LV s2 x)).1):=z8 (zar HWR.out hstd2.out hxm)
       have hlen5:=z8V s2 x.by_ (zH st.L (vals.length - 1) LV s2 x)
       have hst:Hid (swM st.L (vals.length - 1) LV (st.A.drop i) s2 m2=swM st.L (vals.length - 1) LV (st.A.drop (i+1)) (rsM s2 x.by_ (zH st.L (vals.length - 1) LV s2 x)).1 (m2||(rsM s2 x.by_ (zH st.L (vals.length - 1) LV s2 x)).2)):=z8 (by
        obtain⟨hl,hx'⟩:=zeI.1 hx
        rw [zeO hl,hx']
        rfl)
       have HLL:=z8 (fun W hW hS=>hSL.out s2 (.slice b2 s2.length c2) (by omega) hstd2.out.rng (.pointer pp.1) a' li W hW hS)
       have HR4:=z8 r4
       have hlt':(i:Int)<st.A.length:=by omega
       clear hx hpp z1 z2 z3 r1 r2 r3 r4 r5 hxm keepR
       generalize hcd:zc LV kx=cx at*
       clear hcd
       go_wp2_with fail
       refine HCC.out.mono ?_
       rintro e w3 ⟨rfl,hB3⟩
       have HS3:=z8 (HS2.out.same fun k e=>hB3.block k (World.ownsRow.lt HS2.out k e).2)
       have HB3:=z8 (HB2.out.trans (hB3.mono hz2))
       have hz3:w.heap.size≤w3.heap.size:=HB3.out.size
       have q1:w3.cell? ⟨g,i*3+1,none⟩=some (.pointer pp.1):=(HB3.out.cell (p:=⟨g,i*3+1,none⟩) hgl).trans c1
       have HL3:=z8 (HLL.out w3 (HR4.out.keepX (zi HB3.out)) HS3.out)
       clear hB3 HLL HCC q2
       generalize zc (jB (atM s2) (vals.length - 1) st.L []) li=ly at*
       go_wp2_with fail
       refine HL3.out.mono ?_
       rintro e w4 ⟨rfl,hB4⟩
       clear HL3
       by_cases hyx:ly<cx
       ·have hz:Hid (zH st.L (vals.length - 1) LV s2 x=ly):=z8 (by rw [hgv.out,←z9e,if_pos hyx])
        have HRA:=z8 (z2M w.heap.size s2 _ x.by_ (zH st.L (vals.length - 1) LV s2 x) w4 (HS3.out.same fun k e=>hB4.block k (World.ownsRow.lt HS3.out k e).2) (zeS hz3 hB4.size) (by omega))
        rw [hz.out] at HRA
        have HB4:=z8 (HB3.out.trans (hB4.mono hz3))
        have c5:w4.cell? ⟨g,i*3,none⟩=some (.string x.by_):=(HB4.out.cell (p:=⟨g,i*3,none⟩) hgl).trans c0
        clear hB4
        go_wp2_with fail
        refine HRA.out.mono ?_
        rintro e w5 ⟨v5,rfl,hs5,hB5⟩
        obtain⟨b5,k5,rfl⟩:=hs5.slice
        have HS5:=z8 hs5
        have HB5:=z8 (HB4.out.trans hB5)
        clear hs5 hB5 HRA
        cases hup:(rsM s2 x.by_ (zH st.L (vals.length - 1) LV s2 x)).2
        all_goals rw [hz.out] at hup
        all_goals rw [hup]
        all_goals cases m2
        all_goals go_wp2_with fail
        all_goals have hk:=hHKI.out
        all_goals go_roundg (st.A.length - i)
        all_goals first|omega|skip
        all_goals exact⟨i+1,(rsM s2 x.by_ (zH st.L (vals.length - 1) LV s2 x)).1,_,by omega,by omega,by go_num,rfl,by rw [hz.out];exact HS5,HB5,hstd5,by omega,z8 (by rw [←hfin.out,hst.out,hz.out,hup];rfl)⟩
       ·have hz:Hid (zH st.L (vals.length - 1) LV s2 x=cx):=z8 (by rw [hgv.out,←z9e,if_neg hyx])
        have HRA:=z8 (z2M w.heap.size s2 _ x.by_ (zH st.L (vals.length - 1) LV s2 x) w4 (HS3.out.same fun k e=>hB4.block k (World.ownsRow.lt HS3.out k e).2) (zeS hz3 hB4.size) (by omega))
        rw [hz.out] at HRA
        have HB4:=z8 (HB3.out.trans (hB4.mono hz3))
        have c5:w4.cell? ⟨g,i*3,none⟩=some (.string x.by_):=(HB4.out.cell (p:=⟨g,i*3,none⟩) hgl).trans c0
        clear hB4
        go_wp2_with fail
        refine HRA.out.mono ?_
        rintro e w5 ⟨v5,rfl,hs5,hB5⟩
        obtain⟨b5,k5,rfl⟩:=hs5.slice
        have HS5:=z8 hs5
        have HB5:=z8 (HB4.out.trans hB5)
        clear hs5 hB5 HRA
        cases hup:(rsM s2 x.by_ (zH st.L (vals.length - 1) LV s2 x)).2
        all_goals rw [hz.out] at hup
        all_goals rw [hup]
        all_goals cases m2
        all_goals go_wp2_with fail
        all_goals have hk:=hHKI.out
        all_goals go_roundg (st.A.length - i)
        all_goals first|omega|skip
        all_goals exact⟨i+1,(rsM s2 x.by_ (zH st.L (vals.length - 1) LV s2 x)).1,_,by omega,by omega,by go_num,rfl,by rw [hz.out];exact HS5,HB5,hstd5,by omega,z8 (by rw [←hfin.out,hst.out,hz.out,hup];rfl)⟩
      ·have hlt': ¬(i:Int)<st.A.length:=by omega
       have hsw:(s2,m2)=swM st.L (vals.length - 1) LV st.A sl false:=by rw [←hfin.out,zeN (by omega)];rfl
       have hs2e:s2=(swM st.L (vals.length - 1) LV st.A sl false).1:=by rw [←hsw]
       have hm2e:m2=(swM st.L (vals.length - 1) LV st.A sl false).2:=by rw [←hsw]
       have hlk:=zc8 (A:=st.A) (L:=st.L) HWR.out st.A sl false (fun a h=>h) hstd.out.rng
       have hstl:=zaK (L:=st.L) HWR.out st.A sl false hstd.out.rng
       have HC2:Hid ((m2=true∧z1Z (vals.length - 1) s2 st.A+2≤gk0 - 1)∨(m2=false∧ ∀a∈st.A,zH st.L (vals.length - 1) LV s2 a≤atM s2 a.by_)):=z8 (by
        have hg0:=HGK0.out
        have hL:=HLK.out
        cases hm:m2
        ·right
         rw [←hm2e,←hs2e] at hstl
         obtain⟨t1,t2⟩:=hstl hm
         refine⟨rfl,fun a ha=> ?_⟩
         have e2: ∀s',atM s'=atM sl→zH st.L (vals.length - 1) LV s' a=zH st.L (vals.length - 1) LV sl a:=fun s' hs=>by unfold zH;rw [hs]
         rw [e2 _ t1,t1]
         exact t2 a ha
        ·left
         rw [←hm2e,←hs2e] at hlk
         rcases hlk.2 hm with q|q
         ·cases q
         ·exact⟨rfl,by omega⟩)
       clear hsw hs2e hm2e hlk hstl hfin
       go_wp2_with fail
       have hg0:=HGK0.out
       have hL:=HLK.out
       have hN:=HLEN.out
       go_roundg (gk0 - 1)
       case measure=>omega
       case rel=>exact⟨s2,m2,rfl,HS2,HB2,hstd2,by omega,by omega,HC2⟩
theorem zc0 {q:zeV}{l:List zeV}{ok:Bool}(h:(ok=false∧(rnM q).2=true∧q.size≠0)∨(rnM q=(l,false)∧q.size≠0∧ok=(decide (0≤l.length)&&decide (l.length≤4)))∨(q.size=0∧l=[]∧ok=decide (0=0))):
  (rqM q).2= !(ok&&decide (plM pol l 0<0))∧((rqM q).2=false→(rqM q).1=l):=by
 rcases h with⟨rfl,h2,h3⟩|⟨h1,h2,rfl⟩|⟨h1,rfl,rfl⟩
 ·have e:rqM q=([],true):=by unfold rqM;rw [if_neg h3,h2];rfl
  rw [e]
  exact⟨rfl,fun e=>by cases e⟩
 ·have hp:=z2n pol l 0
  by_cases h4:4<l.length
  ·have e:rqM q=([],true):=by unfold rqM;rw [if_neg h2,h1];simp [h4]
   rw [e]
   refine⟨?_,fun e=>by cases e⟩
   have: ¬l.length≤4:=by omega
   simp [this]
  ·by_cases h5:plM pol l 0= -1
   ·have e:rqM q=(l,false):=by unfold rqM;rw [if_neg h2,h1];simp [h4,h5]
    rw [e]
    refine⟨?_,fun _=>rfl⟩
    have:l.length≤4:=by omega
    simp [this,h5]
   ·have e:rqM q=([],true):=by unfold rqM;rw [if_neg h2,h1];simp [h5]
    rw [e]
    refine⟨?_,fun e=>by cases e⟩
    have: ¬plM pol l 0<0:=by omega
    simp [this]
 ·have e:rqM q=([],false):=by unfold rqM;rw [if_pos h1]
  rw [e]
  exact⟨rfl,fun _=>rfl⟩
theorem z3w (s a v q:zeV)(st:St)(w:World)(hs:s.size≤maxLen)(ha:a.size≤maxLen)(hv:v.size≤maxLen)(hq:q.size≤maxLen)(h:600<s.size∨100<a.size∨60<v.size∨60<q.size):Calls Tryz.prog 57 #[.string s,.string a,.string v,.string q,.bool true] w fun e w'=>z0Q s a v q st w e w':=by
 unfold maxLen at hs ha hv hq
 have hres:Hid (grM s a v q st=1):=z8 (by unfold grM;rw [if_pos];simp;omega)
 have fin: ∀(W':World),Below w.heap.size w W'→z0Q s a v q st w (.returned (.tuple #[.slice none 0 0,.slice none 0 0,.slice none 0 0,.slice none 0 0,.int .i64 1])) W':=fun W' hb=>⟨_,_,_,_,by rw [hres.out],hb,zh,zh,zh,zh,fun e=>by rw [hres.out] at e;cases e⟩
 have FIN:=z8 fin
 clear fin hres
 by_cases h1:600<s.size
 ·have h1':(600:Int)<s.size:=by omega
  go_enter Tryz.func57,Tryz.ntmps57
  go_wp2_with fail
  (try simp only [Exit.inBlock,Exit.then])
  refine bodyPost_ret (zz rfl _ _ _) rfl ?_
  exact FIN.out _ (zeU _ _)
 have h1': ¬(600:Int)<s.size:=by omega
 by_cases h2:100<a.size
 ·have h2':(100:Int)<a.size:=by omega
  go_enter Tryz.func57,Tryz.ntmps57
  go_wp2_with fail
  (try simp only [Exit.inBlock,Exit.then])
  refine bodyPost_ret (zz rfl _ _ _) rfl ?_
  exact FIN.out _ (zeU _ _)
 have h2': ¬(100:Int)<a.size:=by omega
 by_cases h3:60<v.size
 ·have h3':(60:Int)<v.size:=by omega
  go_enter Tryz.func57,Tryz.ntmps57
  go_wp2_with fail
  (try simp only [Exit.inBlock,Exit.then])
  refine bodyPost_ret (zz rfl _ _ _) rfl ?_
  exact FIN.out _ (zeU _ _)
 have h3': ¬(60:Int)<v.size:=by omega
 have h4':(60:Int)<q.size:=by omega
 go_enter Tryz.func57,Tryz.ntmps57
 go_wp2_with fail
 (try simp only [Exit.inBlock,Exit.then])
 refine bodyPost_ret (zz rfl _ _ _) rfl ?_
 exact FIN.out _ (zeU _ _)
theorem z67 (s a v q:zeV)(st:St)(w:World)(hs:s.size≤600)(ha:a.size≤100)(hv:v.size≤60)(hq:q.size≤60)(h:Calls Tryz.prog 49 #[.string s] w fun e w'=>z2T s st w e w')(hg:jh st.E)(hcov:z7E st)(hA:st.A.length≤100000)(hCl: ∀c∈st.C,c.length≤100000)(hvl:(vlM v).1.length≤100000):
  Calls Tryz.prog 57 #[.string s,.string a,.string v,.string q,.bool true] w fun e w'=>z0Q s a v q st w e w':=by
 have hs': ¬(600:Int)<s.size:=by omega
 have ha': ¬(100:Int)<a.size:=by omega
 have hv': ¬(60:Int)<v.size:=by omega
 have hq': ¬(60:Int)<q.size:=by omega
 have hgr:Hid (grM s a v q st=if(ckM s st).1 !=0 then(ckM s st).1 else if(raM a).2||(vlM v).2||(rqM q).2 then 6 else if hoM (vlM v).1 st.C then 7 else 0):=z8 (by unfold grM;rw [if_neg];simp;omega)
 have H:=z8 h
 have HG:=z8 (zeL hg hCl)
 have HA:=z8 (fun W=>z0Y a W (by omega))
 have HV:=z8 (fun W=>z4v v W (by omega))
 obtain⟨fk,hcov⟩:=hcov
 obtain⟨A,A0,A1,AP⟩:=SegB.parts _ _ _ hcov
 have hAle: ∀i,i<st.A.length→A i≤A (i+1):=fun i hi=>by
  obtain⟨k,_,q2,q3⟩:=AP i _ (zeH hi)
  have:=q2.a_le
  omega
 have HP:=z8 (zeL AP (z9h (vals:=(vlM v).1) A0 A1 hAle))
 clear h hg hCl hcov A0 A1 AP hAle
 go_enter Tryz.func57,Tryz.ntmps57
 go_wp2_with fail
 refine H.out.mono ?_
 rintro e w1 ⟨lv,rfl,hB,⟨a1,n1,k1,hlv⟩,htr⟩
 subst hlv
 have HB1:=z8 hB
 have HTR:=z8 htr
 clear hB htr H
 generalize ckM s st=ck at*
 obtain⟨ck1,ck2⟩:=ck
 simp only at*
 cases hz:(ck1 !=0)
 case true=>
  have hres:Hid (grM s a v q st=ck1):=z8 (by rw [hgr.out,hz];rfl)
  go_wp2_with fail
  (try simp only [Exit.inBlock,Exit.then])
  refine bodyPost_ret (zz rfl _ _ _) rfl ?_
  exact⟨_,_,_,_,by rw [hres.out];simp,HB1.out,zh,zh,zh,zh,fun e=>by rw [hres.out] at e;subst e;simp at hz⟩
 have hck0:ck1=0:=by simpa using hz
 subst hck0
 obtain⟨f2,ps,how,hseg⟩:=HTR.out rfl
 have hn1:n1=st.A.length:=by
  obtain⟨a2,k2,e2⟩:=zO how
  injection e2
 subst hn1
 have HW:=z8 how
 have HS:=z8 hseg
 have hpl:=z8 (SegA.len _ _ _ _ _ _ hseg)
 have HA1:=z8 (HA.out w1)
 clear how hseg HTR hz HA
 go_wp2_with fail
 refine HA1.out.mono ?_
 rintro e w2 ⟨a2,n2,k2,rfl,hB2,hO2⟩
 have HB2:=z8 hB2
 have HO2:=z8 hO2
 have HB12:=z8 (HB1.out.trans (hB2.mono HB1.out.size))
 have HV1:=z8 (HV.out w2)
 clear hB2 hO2 HV HA1
 go_wp2_with fail
 refine HV1.out.mono ?_
 rintro e w3 ⟨a3,n3,k3,rfl,hB3,hO3⟩
 have HB3:=z8 hB3
 have HO3:=z8 hO3
 have HB13:=z8 (HB12.out.trans (hB3.mono HB12.out.size))
 have HB23:=z8 (HB2.out.trans (hB3.mono HB2.out.size))
 clear hB3 hO3 HV1
 have HN:=z8 (z6g q 0 4 w3 (by omega) (by omega) (by omega))
 go_wp2_with fail
 refine HN.out.mono ?_
 rintro e w5 ⟨a5,n5,k5,l5,ok,rfl,hB5,hO5,hl5,hcs⟩
 have hn5:n5=l5.length:=by
  obtain⟨qa,qk,q⟩:=za hO5
  injection q with _ q _
 subst hn5
 have HPL:=z8 (z2E _ l5 _ pol w5 hO5 (by omega))
 have hpr:=z2n pol l5 0
 have hzq:Hid ((rqM q).2= !(ok&&decide (plM pol l5 0<0))∧((rqM q).2=false→(rqM q).1=l5)):=z8 (zc0 hcs)
 unfold pol at HPL hzq hpr
 generalize plM ⟨#[80,79,76,73,67,89]⟩ l5 0=pz at*
 have HO5:=z8 hO5
 have HB35:=z8 hB5
 have HB25:=z8 (HB3.out.trans (hB5.mono HB3.out.size))
 have HB15:=z8 (HB13.out.trans (hB5.mono HB13.out.size))
 have HB35':=z8 (HB23.out.trans (hB5.mono HB23.out.size))
 clear hB5 hO5 hcs HN hpr
 go_wp2_with fail
 refine HPL.out.mono ?_
 rintro e w6 ⟨rfl,rfl⟩
 clear HPL
 have hzz:Hid (∀b:Bool,(!(ok&&decide (pz<0)))=b→(rqM q).2=b):=z8 fun b e=>by rw [hzq.out.1,e]
 cases hzo:(ok&&decide (pz<0))
 case false=>
  have hrq:(rqM q).2=true:=hzz.out true (by rw [hzo];rfl)
  have hres:Hid (grM s a v q st=6):=z8 (by rw [hgr.out,hrq];simp)
  cases ok
  all_goals cases hra:(raM a).2
  all_goals cases hva:(vlM v).2
  all_goals by_cases hpz:pz<0
  all_goals first|(exfalso;simp [hpz] at hzo;done)|skip
  all_goals go_wp2_with fail
  all_goals (try simp only [Exit.inBlock,Exit.then])
  all_goals refine bodyPost_ret (zz rfl _ _ _) rfl ?_
  all_goals exact⟨_,_,_,_,by rw [hres.out];rfl,HB15.out,zh,zh,zh,zh,fun e=>by rw [hres.out] at e;cases e⟩
 have hrq:(rqM q).2=false:=hzz.out false (by rw [hzo];rfl)
 have hrl:Hid ((rqM q).1=l5):=z8 (hzq.out.2 hrq)
 have hok:ok=true∧pz<0:=by simpa using hzo
 obtain⟨rfl,hpz⟩:=hok
 clear hzo hzz hzq
 cases hra:(raM a).2
 case true=>
  have hres:Hid (grM s a v q st=6):=z8 (by rw [hgr.out,hra];rfl)
  go_wp2_with fail
  (try simp only [Exit.inBlock,Exit.then])
  refine bodyPost_ret (zz rfl _ _ _) rfl ?_
  exact⟨_,_,_,_,by rw [hres.out];rfl,HB15.out,zh,zh,zh,zh,fun e=>by rw [hres.out] at e;cases e⟩
 cases hva:(vlM v).2
 case true=>
  have hres:Hid (grM s a v q st=6):=z8 (by rw [hgr.out,hra,hva,hrq];rfl)
  go_wp2_with fail
  (try simp only [Exit.inBlock,Exit.then])
  refine bodyPost_ret (zz rfl _ _ _) rfl ?_
  exact⟨_,_,_,_,by rw [hres.out];rfl,HB15.out,zh,zh,zh,zh,fun e=>by rw [hres.out] at e;cases e⟩
 have hgr2:Hid (grM s a v q st=if hoM (vlM v).1 st.C then 7 else 0):=z8 (by rw [hgr.out,hra,hva,hrq];rfl)
 have HO2':=z8 (HO2.out hra)
 have HO3':=z8 (HO3.out hva)
 have hn3:n3=(vlM v).1.length:=by
  obtain⟨qa,qk,q⟩:=za HO3'.out
  injection q with _ q _
 subst hn3
 clear hgr HO2 HO3 hra hva
 go_wp2_with fail
 go_loopg [25] (st.A.length+1) (fun n iv wr=> ∃i:Nat,n+i=st.A.length+1∧i≤st.A.length∧iv= .int .i64 i∧Hid (Below w6.heap.size w6 wr)∧Hid (z2C (fun i=>okB (vlM v).1 st.C (A i) (A (i+1))) (st.A.length - i) i= !hoM (vlM v).1 st.C))
 case atStart=>exact⟨0,rfl,zeR _,rfl,z8 (zeU _ _),z8 HP.out.2⟩
 case round=>
  obtain⟨i,hk,hiE,rfl,HBR,hfin⟩:=hrel
  have hHK:=z8 hk
  clear hk
  by_cases hlt:i<st.A.length
  ·obtain⟨g,cap,hvx,hb,hgl⟩:=HW.out.form (by omega)
   injection hvx with e1 e2 e3
   subst e1 e3
   obtain⟨pp,hpp⟩: ∃pp,ps[i]?=some pp:=⟨ps[i]'(by have:=hpl.out;omega),zeH _⟩
   obtain⟨x,a',b',e',g',hx,li,ci,r1,r2,r3,r4,r5⟩:=SegA.get _ _ _ _ _ _ i pp HS.out hpp
   have c2:w1.cell? ⟨g,i*3+2,none⟩=some (.pointer pp.2):=zf HW.out _ _ ((z0b hpp hx (by omega)).trans rfl)
   have hB1r:=HB35'.out.trans (HBR.out.mono HB35'.out.size)
   have q2:=(hB1r.cell (p:=⟨g,i*3+2,none⟩) hgl).trans c2
   obtain⟨kx,z1,z2,z3⟩:=HP.out.1 i x hx
   have hkc:kx=ci:=by rw [r2] at z1;omega
   subst hkc
   have hC:=z65 HG.out.1 (vlM v).1 _ (.slice a3 (vlM v).1.length k3) hvl HG.out.2 f2 _ kx b' g' fk (A i) wr (r5.keepX (zi hB1r)) z2 (zb HO3'.out fun q e=>(HB35.out.trans (HBR.out.mono HB35.out.size)).block q (HO3'.out.lt q e).2)
   rw [←z3] at hC
   have HC:=z8 hC
   have hst:Hid ((!hoM (vlM v).1 st.C)=(okB (vlM v).1 st.C (A i) (A (i+1))&&z2C (fun i=>okB (vlM v).1 st.C (A i) (A (i+1))) (st.A.length -(i+1)) (i+1))):=z8 (by
    rw [←hfin.out]
    obtain⟨m,hm⟩: ∃m,st.A.length - i=m+1:=⟨st.A.length - i - 1,by omega⟩
    rw [hm,show st.A.length -(i+1)=m by omega]
    rfl)
   have hlt':(i:Int)<st.A.length:=by omega
   have HWB:=z8 (HB15.out.trans (HBR.out.mono HB15.out.size))
   clear hC hB1r c2 hpp hx r4 r5 hfin z1 z2 z3 r1 r2 r3
   cases hbi:okB (vlM v).1 st.C (A i) (A (i+1))
   case true=>
    rw [hbi] at HC
    have HS2:Hid (z2C (fun i=>okB (vlM v).1 st.C (A i) (A (i+1))) (st.A.length -(i+1)) (i+1)= !hoM (vlM v).1 st.C):=z8 (by rw [hst.out,hbi];rfl)
    clear hbi hst
    go_wp2_with fail
    refine HC.out.mono ?_
    rintro e w4 ⟨rfl,hB4⟩
    have HB4:=z8 (HBR.out.trans (hB4.mono HBR.out.size))
    clear hB4
    go_wp2_with fail
    have hk:=hHK.out
    go_roundg (st.A.length - i)
    case measure=>omega
    case rel=>exact⟨i+1,by omega,by omega,by go_num,HB4,HS2⟩
   case false=>
    rw [hbi] at HC
    have hres:Hid (grM s a v q st=7):=z8 (by
     have:hoM (vlM v).1 st.C=true:=by have q:=hst.out;rw [hbi] at q;simpa using q
     rw [hgr2.out,this];rfl)
    clear hbi hst
    go_wp2_with fail
    refine HC.out.mono ?_
    rintro e w4 ⟨rfl,hB4⟩
    have HB4:=z8 (HWB.out.trans (hB4.mono HWB.out.size))
    clear hB4
    go_wp2_with fail
    (try simp only [Exit.inBlock,Exit.then])
    refine bodyPost_ret (zz rfl _ _ _) rfl ?_
    exact⟨_,_,_,_,by rw [hres.out];rfl,HB4.out,zh,zh,zh,zh,fun e=>by rw [hres.out] at e;cases e⟩
  ·have hlt': ¬(i:Int)<st.A.length:=by omega
   have hres:Hid (grM s a v q st=0):=z8 (by
    have:hoM (vlM v).1 st.C=false:=by
     have q:=hfin.out
     rw [show st.A.length - i=0 by omega] at q
     have q:true= !hoM (vlM v).1 st.C:=q
     cases hh:hoM (vlM v).1 st.C
     ·rfl
     ·rw [hh] at q;cases q
    rw [hgr2.out,this];rfl)
   have hB1r:=z8 (HB35'.out.trans (HBR.out.mono HB35'.out.size))
   have hB2r:=z8 (HB25.out.trans (HBR.out.mono HB25.out.size))
   have hB3r:=z8 (HB35.out.trans (HBR.out.mono HB35.out.size))
   have HWB:=z8 (HB15.out.trans (HBR.out.mono HB15.out.size))
   go_wp2_with fail
   (try simp only [Exit.inBlock,Exit.then])
   refine bodyPost_ret (zz rfl _ _ _) rfl ?_
   refine⟨_,_,_,_,by rw [hres.out];rfl,HWB.out,⟨_,_,_,rfl⟩,⟨_,_,_,rfl⟩,⟨_,_,_,rfl⟩,⟨_,_,_,rfl⟩,fun _=>⟨f2,ps,?_,?_,?_,?_,?_⟩⟩
   ·exact zb HW.out fun q e=>hB1r.out.block q (HW.out.lt q e).2
   ·exact SegA.imp (fun p x a b e g ⟨i,ci,q1,q2,q3,q4,q5⟩=>⟨i,ci,q1,q2,q3,q4.keepX (zi hB1r.out),q5.keepX (zi hB1r.out)⟩) _ _ _ _ _ _ HS.out
   ·exact zq (zb HO2'.out fun q e=>hB2r.out.block q (HO2'.out.lt q e).2) HB1.out.size
   ·exact zq (zb HO3'.out fun q e=>hB3r.out.block q (HO3'.out.lt q e).2) HB12.out.size
   ·rw [hrl.out];exact zq (zb HO5.out fun q e=>HBR.out.block q (HO5.out.lt q e).2) HB13.out.size
theorem z1e {s:zeV}{st:St}(h:(ckM s st).1=0):s.size≤600∧st.bad=false∧st.A.length≤8∧cfM st.L (-1)= -1:=by
 unfold ckM at h
 split at h
 ·cases h
 ·split at h
  ·cases h
  ·split at h
   ·cases h
   ·split at h
    ·cases h
    ·rename_i h1 h2 h3 h4
     exact⟨by omega,by simpa using h2,by omega,by simpa using h4⟩
theorem z9n {s:zeV}{n:Nat}{st:St}(hM:MR s n st0=some st)(hck:(ckM s st).1=0): ∀x∈st.L,x.form=2→1≤x.count:=by
 obtain⟨hs,_,_,hcf⟩:=z1e hck
 obtain⟨e,w',fr,⟨lv,_,_,_,h⟩,_⟩:=z02 s n st (World.holding Tryz.prog default ⟨#[],#[],[]⟩) hM hs []
 obtain⟨f,ps,_,h⟩:=h hck
 have hg:=z2I s n st0 st hM z8x
 have hmf:=zeo (fun x hx=>(hg.l x hx).2) ps st.A 0 0 st.L.length st.E.length 0 st.at_ h hg.o
 have hr:=hmf.cf
 rw [hcf] at hr
 intro x hx hf
 obtain⟨j,hj⟩:=List.mem_iff_getElem?.1 hx
 have hjl:=(zeI.1 hj).1
 have hno:z3e x=false:=by
  rcases hmf.min with⟨_,q⟩|⟨j',y,_,q1,q2,q3,q4,_⟩
  ·exact q j x (zeR _) hjl hj
  ·have:=(hmf.span j' y (zeR _) q1 q2 q3).1
   omega
 unfold z3e at hno
 rw [hf] at hno
 simp at hno
 exact hno.1
theorem z4J {v:zeV}:(vlM v).1.length≤5:=by
 unfold vlM
 split
 ·exact zeR _
 ·rename_i q
  simp only [Bool.or_eq_true,not_or,decide_eq_true_eq] at q
  show(rnM v).1.length≤5
  omega
theorem z9M (s a v q:zeV)(st:St)(w:World)(h:Calls Tryz.prog 57 #[.string s,.string a,.string v,.string q,.bool true] w fun e w'=>z0Q s a v q st w e w')(hg:jh st.E)(hcov:z7E st)(hCl: ∀c∈st.C,c.length≤100000)(hll:(raM a).1.length≤100000)(hls: ∀p∈(raM a).1,p.2.size≤600)(hEs: ∀x∈st.E,x.text.size≤600)(hit: ∀x∈st.L,x.items.length≤100000)
  (hW:grM s a v q st=0→ ∀x∈ze (raM a).1 st.E [],x.text.size≤100000000∧ -999999999≤x.num∧x.num≤999999999) (hcnt:grM s a v q st=0→ ∀x∈st.L,x.form=2→1≤x.count):
  Calls Tryz.prog 32 #[.string s,.string a,.string v,.string q] w fun e w'=>jF (quM s a v q st).1 (quM s a v q st).2 w e w':=by
 have HC:=z8 h
 have hco:Hid (quM s a v q st=if grM s a v q st !=0 then(⟨#[]⟩,grM s a v q st) else
  (vaM (vlM v).1 (stM st.A (rqM q).1 ((vlM v).1.length - 1) (gvM st.A st.L (rqM q).1 ((vlM v).1.length - 1) (jE (vlM v).1 (ze (raM a).1 st.E []) st.C []) st.A.length) pol),0)):=z8 rfl
 have HG:=z8 (zeL hg (zeL hcov (zeL hCl (zeL hls (zeL hEs (zeL hit (zeL hW hcnt)))))))
 have hzz:=z8 (@z03 s a v q st)
 clear h hg hcov hCl hls hEs hit hW hcnt
 go_enter Tryz.func32,Tryz.ntmps32
 go_wp2_with fail
 refine HC.out.mono ?_
 rintro e w1 ⟨x1,x2,x3,x4,rfl,hB1,⟨a1,n1,k1,rfl⟩,⟨a2,n2,k2,rfl⟩,⟨a3,n3,k3,rfl⟩,⟨a4,n4,k4,rfl⟩,hQ⟩
 have HB1:=z8 hB1
 have HQ:=z8 hQ
 clear hB1 hQ HC
 generalize grM s a v q st=E at*
 cases hEz:(E !=0)
 case true=>
  have hres:Hid (quM s a v q st=(⟨#[]⟩,E)):=z8 (by rw [hco.out,hEz];rfl)
  go_wp2_with fail
  go_ret2
  exact⟨by rw [hres.out];rfl,HB1.out⟩
 have hE0:E=0:=by simpa using hEz
 subst hE0
 obtain⟨f,ps,how,hseg,hO2,hO3,hO4⟩:=HQ.out rfl
 obtain⟨hvz,_,hck,_,_,_⟩:=hzz.out rfl
 have hv2:=z3q hvz
 have hA8:=(z1e hck).2.2.1
 obtain⟨hg,hcov,hCl,hls,hEs,hit,hW,hcnt⟩:=HG.out
 have HSN:=z8 (z2F st f ps _ _ _ _ _ (raM a).1 (vlM v).1 (rqM q).1 _ _ w1 how hseg hO2 hO3 hO4 hg hcov hA8 hCl z4J (by omega) (z2O q) hll hls hEs (hW rfl) (hcnt rfl) hit)
 have hn3:n3=(vlM v).1.length:=by
  obtain⟨qa,qk,q⟩:=za hO3
  injection q with _ q _
 subst hn3
 have hWr:Lvr ((vlM v).1.length - 1) (jE (vlM v).1 (ze (raM a).1 st.E []) st.C []):=z4m fun x hx=>by
  have:=z1D (vlM v).1 (ze (raM a).1 st.E []) (by omega) st.C [] (fun x h=>by cases h) x hx
  omega
 have hrg:=z2L (A:=st.A) (qs:=(rqM q).1) (z6c (A:=st.A) (L:=st.L) (qs:=(rqM q).1) hWr st.A.length) pol
 have hco2:Hid (quM s a v q st=(vaM (vlM v).1 (stM st.A (rqM q).1 ((vlM v).1.length - 1) (gvM st.A st.L (rqM q).1 ((vlM v).1.length - 1) (jE (vlM v).1 (ze (raM a).1 st.E []) st.C []) st.A.length) pol),0)):=z8 (by rw [hco.out];rfl)
 have HO3:=z8 hO3
 clear hco HG hW hcnt hit hls hEs hCl hcov hg how hseg hO2 hO3 hO4 HQ hEz hzz hWr
 go_wp2_with fail
 refine HSN.out.mono ?_
 rintro e w2 ⟨sl,v5,rfl,hsd,hat,hsl,hB2⟩
 obtain⟨b5,k5,rfl⟩:=hsd.slice
 have hat5:=hat pol
 have HAT:=z8 (fun N=>z54 _ sl _ pol (w2.drewN N) (hsd.same fun k e=>rfl) (by omega))
 have hres:Hid (quM s a v q st=(vaM (vlM v).1 (atM sl pol),0)):=z8 (by rw [hco2.out,hat5])
 rw [←hat5] at hrg
 have HB2:=z8 (HB1.out.trans (hB2.mono HB1.out.size))
 have hO3:=zb HO3.out fun k e=>hB2.block k (HO3.out.lt k e).2
 unfold pol at HAT hres hrg
 generalize atM sl ⟨#[80,79,76,73,67,89]⟩=lev at*
 obtain⟨m,rfl⟩:=Int.eq_ofNat_of_zero_le hrg.1
 have hm:m<(vlM v).1.length:=by omega
 obtain⟨y,hy⟩: ∃y,(vlM v).1[m]?=some y:=⟨(vlM v).1[m],zeH hm⟩
 have hres2:Hid (quM s a v q st=(y,0)):=z8 (by
  rw [hres.out]
  unfold vaM
  rw [if_neg (by omega)]
  simp [List.getD,hy])
 obtain⟨g3,cap3,hv3,hb3,hg3⟩:=hO3.form (by omega)
 injection hv3 with e1 e2 e3
 subst e1 e3
 have c3:w2.cell? ⟨g3,m,none⟩=some (.string y):=zf hO3 _ _ (by rw [List.getElem?_map,hy];rfl)
 have hm':(m:Int)<(vlM v).1.length:=by omega
 clear hres hco2 hat hat5 hsd hB2 hO3 HO3 HSN hy hrg
 go_wp2_with fail
 refine(HAT.out 0).mono ?_
 rintro e w3 ⟨rfl,rfl⟩
 go_wp2_with fail
 go_ret2
 exact⟨by rw [hres2.out];rfl,HB2.out⟩
theorem zbn (s a v q:zeV)(st:St)(w:World)(h:Calls Tryz.prog 34 #[.string s,.string a,.string v,.string q] w fun e w'=>z1O s a v q st w e w')(E:Int)(hE:grM s a v q st=E)(hn:(E !=0)=true):
  Calls Tryz.prog 19 #[.string s,.string a,.string v,.string q] w fun e w'=>jF ⟨#[]⟩ E w e w':=by
 have HC:=z8 h
 have HE:=z8 hE
 clear h hE
 go_enter Tryz.func19,Tryz.ntmps19
 go_wp2_with fail
 refine HC.out.mono ?_
 rintro e w1 ⟨x1,x2,x3,x4,x5,x6,x7,rfl,hB1,⟨a1,n1,k1,rfl⟩,⟨a2,n2,k2,rfl⟩,⟨a3,n3,k3,rfl⟩,⟨a4,n4,k4,rfl⟩,⟨a5,n5,k5,rfl⟩,⟨a6,n6,k6,rfl⟩,⟨a7,n7,k7,rfl⟩,hG⟩
 rw [HE.out] at*
 have HB2:=z8 (hB1.alloc hB1.size (.cells #[.int .i64 E,.slice a1 n1 k1,.slice a2 n2 k2,.slice a3 n3 k3,.slice a4 n4 k4,.slice a5 n5 k5,.slice a6 n6 k6,.slice a7 n7 k7] 58))
 clear hG hB1 HC HE
 go_wp2_with fail
 go_quiet (fail)
 go_wp2_with fail
 go_ret2
 exact⟨rfl,⟨HB2.out.os,HB2.out.tape,HB2.out.output,HB2.out.size,HB2.out.block⟩⟩
theorem z9F (s a v q:zeV)(st:St)(w:World)(h:Calls Tryz.prog 57 #[.string s,.string a,.string v,.string q,.bool true] w fun e w'=>z0Q s a v q st w e w')(E:Int)(hE:grM s a v q st=E)(hn:(E !=0)=true):
  Calls Tryz.prog 32 #[.string s,.string a,.string v,.string q] w fun e w'=>jF ⟨#[]⟩ E w e w':=by
 have HC:=z8 h
 have HE:=z8 hE
 clear h hE
 go_enter Tryz.func32,Tryz.ntmps32
 go_wp2_with fail
 refine HC.out.mono ?_
 rintro e w1 ⟨x1,x2,x3,x4,rfl,hB1,⟨a1,n1,k1,rfl⟩,⟨a2,n2,k2,rfl⟩,⟨a3,n3,k3,rfl⟩,⟨a4,n4,k4,rfl⟩,hQ⟩
 rw [HE.out] at*
 have HB1:=z8 hB1
 clear hB1 hQ HC HE
 go_wp2_with fail
 go_ret2
 exact⟨rfl,HB1.out⟩
structure Ask (s a v q:zeV)(st:St):Prop where
 gr: ∀w,Calls Tryz.prog 34 #[.string s,.string a,.string v,.string q] w fun e w'=>z1O s a v q st w e w'
 ak: ∀w,Calls Tryz.prog 57 #[.string s,.string a,.string v,.string q,.bool true] w fun e w'=>z0Q s a v q st w e w'
 mr: ∃n,MR s n st0=some st
 ea:st.A.length≤10010
 el:st.L.length≤10010
 ee:st.E.length≤10010
 ec:st.C.length≤10010
 cl: ∀c∈st.C,c.length≤100000
 cov:z7E st
 gd:z6h st
 es: ∀x∈st.E,x.text.size≤600
 ra:(∀p∈(raM a).1,p.2.size≤600)∧(raM a).1.length≤100000
 w:grM s a v q st=0→ ∀x∈ze (raM a).1 st.E [],x.text.size≤100000000∧ -999999999≤x.num∧x.num≤999999999
theorem z5v (s a v q:zeV)(hs:s.size≤600)(ha:a.size≤100)(hv:v.size≤60)(hq:q.size≤60): ∃st,Ask s a v q st:=by
 obtain⟨n,st,hM,hA,hL,hE,hC⟩:=z7V s hs
 have hz:Sz st:=zan s hs n st0 st hM ⟨fun x h=>(by cases h),fun x h=>(by cases h),fun x h=>(by cases h),fun x h=>(by cases h)⟩
 have hcl:=zbA s n st0 st hM (fun c h=>by cases h)
 have hcv:=zbH s n st0 st hM zej
 have hgd:=z2I s n st0 st hM z8x
 have hvl:=z3Z v
 exact⟨st,fun w=>z2Q s a v q st w hs ha hv hq (fun W=>z0c s n st W hM hs (by omega) (by omega) (by omega)) (by omega) hcl hvl,
  fun w=>z67 s a v q st w hs ha hv hq (z02 s n st w hM hs) hgd.e hcv (by omega) hcl hvl,⟨n,hM⟩,hA,hL,hE,hC,hcl,hcv,hgd,hz.1,z1r a (by omega),fun h0=>z5S (a:=a) (v:=v) (q:=q) hM (by omega) h0⟩
theorem Ask.two {s a v q:zeV}{st:St}(h:grM s a v q st=0):2≤(vlM v).1.length:=z3q (z03 h).1
theorem Ask.lok {s a v q:zeV}{st:St}(h:Ask s a v q st):LOk st:=⟨by have:=h.el;omega,fun x hx=>(h.gd.l x hx).1⟩
theorem Ask.cnt {s a v q:zeV}{st:St}(h:Ask s a v q st)(h0:grM s a v q st=0): ∀x∈st.L,x.form=2→1≤x.count:=by
 obtain⟨n,hM⟩:=h.mr
 exact z9n hM (z03 h0).2.2.1
theorem Ask.query {s a v q:zeV}{st:St}(h:Ask s a v q st)(w:World):Calls Tryz.prog 19 #[.string s,.string a,.string v,.string q] w fun e w'=>jF (quM s a v q st).1 (quM s a v q st).2 w e w':=
 zaD s a v q st w (h.gr w) (by have:=h.ee;omega) (by have:=h.ea;omega) (by have:=h.ec;omega) h.cl (z3Z v) h.ra.2 h.ra.1 h.es h.lok (fun h0 x hx=>(h.w h0 x hx).1) (fun h0=>by have:=Ask.two h0;omega)
theorem Ask.queryR {s a v q:zeV}{st:St}(h:Ask s a v q st)(w:World):Calls Tryz.prog 32 #[.string s,.string a,.string v,.string q] w fun e w'=>jF (quM s a v q st).1 (quM s a v q st).2 w e w':=
 z9M s a v q st w (h.ak w) h.gd.e h.cov h.cl h.ra.2 h.ra.1 h.es (fun x hx=>(h.gd.l x hx).1) h.w h.cnt
theorem z7S {s a v q:zeV}(h: ¬(s.size≤600∧a.size≤100∧v.size≤60∧q.size≤60))(st:St):grM s a v q st=1:=by unfold grM;rw [if_pos];simp;omega
theorem z8A (s a v q:zeV)(hs:s.size≤maxLen)(ha:a.size≤maxLen)(hv:v.size≤maxLen)(hq:q.size≤maxLen): ∃(t:zeV) (r:Int),(∀w,Calls Tryz.prog 19 #[.string s,.string a,.string v,.string q] w fun e w'=>jF t r w e w')∧(∀w,Calls Tryz.prog 32 #[.string s,.string a,.string v,.string q] w fun e w'=>jF t r w e w'):=by
 by_cases h:s.size≤600∧a.size≤100∧v.size≤60∧q.size≤60
 ·obtain⟨st,hA⟩:=z5v s a v q h.1 h.2.1 h.2.2.1 h.2.2.2
  exact⟨_,_,hA.query,hA.queryR⟩
 ·have h1:=z7S h st0
  exact⟨⟨#[]⟩,1,fun w=>zbn s a v q st0 w (z25 s a v q st0 w hs ha hv hq (by omega)) 1 h1 rfl,fun w=>z9F s a v q st0 w (z3w s a v q st0 w hs ha hv hq (by omega)) 1 h1 rfl⟩
theorem z6J (n:Int)(S A V Q:zeV)(hS:S.size≤maxLen)(hA:A.size≤maxLen)(hV:V.size≤maxLen)(hQ:Q.size≤maxLen)(w:World):
  Calls Tryz.prog 18 #[.agg #[.int .i64 5,.int .i64 n,.string S,.string A,.string V,.string Q]] w fun e w'=>e= .returned (.bool true)∧Below w.heap.size w w':=by
 obtain⟨t,k,h7,h8⟩:=z8A S A V Q hS hA hV hQ
 have H:=z8 (zeL h7 h8)
 clear h7 h8 hS hA hV hQ
 have hB0:Below w.heap.size w (w.alloc (.cells #[.int .i64 5,.int .i64 n,.string S,.string A,.string V,.string Q] 27)):=(zeU _ _).alloc (zeK _) _
 have hg0:=heap_alloc_new w (.cells #[.int .i64 5,.int .i64 n,.string S,.string A,.string V,.string Q] 27)
 have hz0:w.heap.size<(w.alloc (.cells #[.int .i64 5,.int .i64 n,.string S,.string A,.string V,.string Q] 27)).heap.size:=by simp
 have H0:=z8 (zeL hB0 (zeL hg0 hz0))
 clear hB0 hg0 hz0
 go_enter Tryz.func18,Tryz.ntmps18
 go_wp2_with fail
 obtain⟨hB0,hg0,hz0⟩:=H0.out
 clear H0
 generalize (w.alloc (.cells #[.int .i64 5,.int .i64 n,.string S,.string A,.string V,.string Q] 27))=W0 at*
 refine(H.out.1 W0).mono ?_
 rintro e w1 ⟨rfl,hB1⟩
 have hg1:=(hB1.block _ hz0).trans hg0
 have hB01:=hB0.trans (hB1.mono (Nat.le_of_lt hz0))
 obtain⟨y0,y1,y2,y3,y4,y5⟩:=z88 hg1
 have HB1:=z8 hB01
 have hz1:w.heap.size≤w1.heap.size:=hB01.size
 clear hB1 hB01 hg1 hg0 hB0 hz0
 go_wp2_with fail
 refine(H.out.2 w1).mono ?_
 rintro e w2 ⟨rfl,hB2⟩
 have HB2:=z8 (HB1.out.trans (hB2.mono hz1))
 clear hB2
 go_wp2_with (go_at_call 23;refine(z2N _ _).mono ?_;rintro e w3 ⟨rfl,rfl⟩)
 go_ret
 exact⟨by simp,HB2.out⟩
def neM (names:List zeV)(ls:List Int):List As→Nat→Int→Int
 |[],_,b=>b
 |x::xs,i,b=>neM names ls xs (i+1) (if zc ls i==0||plM x.by_ names 0== -1 then b else if b== -1||decide (zc ls i<zc ls b) then(i:Int) else b)
def z4z (A:List As)(ln:Nat→List zeV)(qs:List zeV)(ls:List Int)(i:Nat):Int:=
 if(ln i).any fun nm=>plM nm qs 0 != -1 then 1 else if neM (ln i) ls A 0 (-1)== -1 then 0 else 1+zc ls (neM (ln i) ls A 0 (-1))
def lgM (A:List As)(ln:Nat→List zeV)(qs:List zeV)(g ls:List Int):List Int:=(List.range A.length).map fun(i:Nat)=>if 0<zc g (i:Int) then z4z A ln qs ls i else 0
def rwM (A:List As)(ln:Nat→List zeV)(qs:List zeV)(g:List Int):Nat→List Int
 |0=>[]
 |r+1=>lgM A ln qs g (rwM A ln qs g r)
theorem zbI (A:List As)(ln:Nat→List zeV)(qs:List zeV)(g:List Int)(r:Nat):(rwM A ln qs g (r+1)).length=A.length:=by unfold rwM lgM;simp
theorem z8c (A:List As)(ln:Nat→List zeV)(qs:List zeV)(g ls:List Int)(i:Nat):zc (lgM A ln qs g ls) (i:Int)=if i<A.length then(if 0<zc g (i:Int) then z4z A ln qs ls i else 0) else 0:=by
 rw [z2S]
 unfold lgM
 simp only [List.getD,List.getElem?_map]
 by_cases h:i<A.length
 ·rw [List.getElem?_range h,if_pos h];rfl
 ·rw [List.getElem?_eq_none (by simpa using h),if_neg h];rfl
def z9a (names:List zeV)(ls:List Int)(i:Nat)(x:As):Prop:=zc ls (i:Int)≠0∧plM x.by_ names 0≠ -1
theorem zd7 (names:List zeV)(ls:List Int): ∀(B:List As) (i:Nat) (b:Int),(b= -1∨0≤b)→
  (neM names ls B i b=b∧(∀(j:Nat) (x:As),B[j]?=some x→z9a names ls (i+j) x→b≠ -1∧zc ls b≤zc ls ((i+j:Nat):Int)))∨
  (∃(j:Nat) (x:As),B[j]?=some x∧neM names ls B i b=((i+j:Nat):Int)∧z9a names ls (i+j) x∧(b= -1∨zc ls ((i+j:Nat):Int)≤zc ls b)∧ ∀(k:Nat) (y:As),B[k]?=some y→z9a names ls (i+k) y→zc ls ((i+j:Nat):Int)≤zc ls ((i+k:Nat):Int)):=by
 intro B
 induction B with
 |nil=>intro i b _;exact .inl ⟨rfl,fun j x h=>by simp at h⟩
 |cons x B ih=>
  intro i b hb
  have e1:neM names ls (x::B) i b=neM names ls B (i+1) (if zc ls i==0||plM x.by_ names 0== -1 then b else if b== -1||decide (zc ls i<zc ls b) then(i:Int) else b):=rfl
  rw [e1]
  by_cases hc:(zc ls i==0||plM x.by_ names 0== -1)=true
  ·rw [if_pos hc]
   have hnc: ¬z9a names ls (i+0) x:=fun⟨q1,q2⟩=>by
    have q1:zc ls (i:Int)≠0:=q1
    simp [q1,q2] at hc
   rcases ih (i+1) b hb with⟨h1,h2⟩|⟨j,y,h1,h2,h3,h4,h5⟩
   ·refine .inl ⟨h1,fun j y hj hcj=> ?_⟩
    cases j with
    |zero=>
     have e:x=y:=by simpa using hj
     subst e;exact absurd hcj hnc
    |succ j=>rw [show i+(j+1)=i+1+j by omega] at*;exact h2 j y (by simpa using hj) hcj
   ·refine .inr ⟨j+1,y,by simpa using h1,by rw [show i+(j+1)=i+1+j by omega];exact h2,by rw [show i+(j+1)=i+1+j by omega];exact h3,by rw [show i+(j+1)=i+1+j by omega];exact h4,fun k z hk hck=> ?_⟩
    rw [show i+(j+1)=i+1+j by omega]
    cases k with
    |zero=>
     have e:x=z:=by simpa using hk
     subst e;exact absurd hck hnc
    |succ k=>rw [show i+(k+1)=i+1+k by omega] at*;exact h5 k z (by simpa using hk) hck
  ·rw [if_neg hc]
   have hcd:z9a names ls (i+0) x:=by
    simp only [Bool.or_eq_true,not_or,beq_iff_eq] at hc
    exact hc
   by_cases hd:(b== -1||decide (zc ls i<zc ls b))=true
   ·rw [if_pos hd]
    have hd':b= -1∨zc ls (i:Int)<zc ls b:=by simpa using hd
    rcases ih (i+1) i (.inr (by omega)) with⟨h1,h2⟩|⟨j,y,h1,h2,h3,h4,h5⟩
    ·refine .inr ⟨0,x,rfl,h1,hcd,by rcases hd' with q|q;exact .inl q;exact .inr (by show zc ls (i:Int)≤_;omega),fun k z hk hck=> ?_⟩
     cases k with
     |zero=>exact Int.le_refl _
     |succ k=>rw [show i+(k+1)=i+1+k by omega] at*;exact(h2 k z (by simpa using hk) hck).2
    ·refine .inr ⟨j+1,y,by simpa using h1,by rw [show i+(j+1)=i+1+j by omega];exact h2,by rw [show i+(j+1)=i+1+j by omega];exact h3,?_,fun k z hk hck=> ?_⟩
     ·rw [show i+(j+1)=i+1+j by omega]
      rcases hd' with q|q
      ·exact .inl q
      ·rcases h4 with q2|q2
       ·omega
       ·exact .inr (by omega)
     ·rw [show i+(j+1)=i+1+j by omega]
      cases k with
      |zero=>
       rcases h4 with q2|q2
       ·omega
       ·exact q2
      |succ k=>rw [show i+(k+1)=i+1+k by omega] at*;exact h5 k z (by simpa using hk) hck
   ·rw [if_neg hd]
    have hd':b≠ -1∧zc ls b≤zc ls (i:Int):=by
     simp only [Bool.or_eq_true,not_or,beq_iff_eq,decide_eq_true_eq] at hd
     exact⟨hd.1,by omega⟩
    rcases ih (i+1) b hb with⟨h1,h2⟩|⟨j,y,h1,h2,h3,h4,h5⟩
    ·refine .inl ⟨h1,fun j y hj hcj=> ?_⟩
     cases j with
     |zero=>exact hd'
     |succ j=>rw [show i+(j+1)=i+1+j by omega] at*;exact h2 j y (by simpa using hj) hcj
    ·refine .inr ⟨j+1,y,by simpa using h1,by rw [show i+(j+1)=i+1+j by omega];exact h2,by rw [show i+(j+1)=i+1+j by omega];exact h3,by rw [show i+(j+1)=i+1+j by omega];exact h4,fun k z hk hck=> ?_⟩
     rw [show i+(j+1)=i+1+j by omega]
     cases k with
     |zero=>
      rcases h4 with q2|q2
      ·exact absurd q2 hd'.1
      ·show _≤zc ls (i:Int);omega
     |succ k=>rw [show i+(k+1)=i+1+k by omega] at*;exact h5 k z (by simpa using hk) hck
theorem z21 (names:List zeV)(ls:List Int)(A:List As):
  (neM names ls A 0 (-1)= -1∧ ∀(j:Nat) (x:As),A[j]?=some x→ ¬z9a names ls j x)∨
  (∃(j:Nat) (x:As),A[j]?=some x∧neM names ls A 0 (-1)=(j:Int)∧z9a names ls j x∧ ∀(k:Nat) (y:As),A[k]?=some y→z9a names ls k y→zc ls (j:Int)≤zc ls (k:Int)):=by
 rcases zd7 names ls A 0 (-1) (.inl rfl) with⟨h1,h2⟩|⟨j,x,h1,h2,h3,_,h5⟩
 ·exact .inl ⟨h1,fun j x hj hc=>(h2 j x hj (by simpa using hc)).1 rfl⟩
 ·exact .inr ⟨j,x,h1,by simpa using h2,by simpa using h3,fun k y hk hc=>by simpa using h5 k y hk (by simpa using hc)⟩
section
variable {A:List As} {ln:Nat→List zeV} {qs:List zeV} {g:List Int}
theorem z0P: ∀(r:Nat) (i:Nat),0≤zc (rwM A ln qs g r) (i:Int)∧zc (rwM A ln qs g r) (i:Int)≤r:=by
 intro r
 induction r with
 |zero=>intro i;unfold rwM;rw [z2h];omega
 |succ r ih=>
  intro i
  unfold rwM
  rw [z8c]
  split
  ·split
   ·unfold z4z
    split
    ·omega
    ·split
     ·omega
     ·rename_i h
      rcases z21 (ln i) (rwM A ln qs g r) A with⟨e,_⟩|⟨j,x,_,e,_,_⟩
      ·rw [e] at h;exact absurd rfl h
      ·rw [e];have:=ih j;omega
   ·omega
  ·omega
theorem z3o {r i:Nat}(h:zc (rwM A ln qs g r) (i:Int)≠0):i<A.length∧0<zc g (i:Int):=by
 cases r with
 |zero=>unfold rwM at h;rw [z2h] at h;exact absurd rfl h
 |succ r=>
  unfold rwM at h
  rw [z8c] at h
  split at h
  ·split at h
   ·exact⟨‹_›,‹_›⟩
   ·exact absurd rfl h
  ·exact absurd rfl h
theorem z8L {r:Nat}(hC: ∀i:Nat,(zc (rwM A ln qs g r) (i:Int)≠0→zc (rwM A ln qs g (r+1)) (i:Int)=zc (rwM A ln qs g r) (i:Int))∧(zc (rwM A ln qs g r) (i:Int)=0→zc (rwM A ln qs g (r+1)) (i:Int)=0∨zc (rwM A ln qs g (r+1)) (i:Int)=((r+1:Nat):Int)))(names:List zeV):
  (∀(j:Nat) (x:As),A[j]?=some x→ ¬z9a names (rwM A ln qs g r) j x)∧(neM names (rwM A ln qs g (r+1)) A 0 (-1)= -1∨ ∃j:Nat,neM names (rwM A ln qs g (r+1)) A 0 (-1)=(j:Int)∧zc (rwM A ln qs g (r+1)) (j:Int)=((r+1:Nat):Int))∧neM names (rwM A ln qs g r) A 0 (-1)= -1∨
  (∃(f f':Nat) (y:As),neM names (rwM A ln qs g r) A 0 (-1)=(f:Int)∧neM names (rwM A ln qs g (r+1)) A 0 (-1)=(f':Int)∧A[f']?=some y∧plM y.by_ names 0≠ -1∧zc (rwM A ln qs g r) (f:Int)≠0∧zc (rwM A ln qs g (r+1)) (f':Int)=zc (rwM A ln qs g r) (f:Int)):=by
 rcases z21 names (rwM A ln qs g r) A with⟨e,h⟩|⟨f,x,hf,e,hc,hmin⟩
 ·refine .inl ⟨h,?_,e⟩
  rcases z21 names (rwM A ln qs g (r+1)) A with⟨e2,_⟩|⟨f',y,hf',e2,hc2,_⟩
  ·exact .inl e2
  ·refine .inr ⟨f',e2,?_⟩
   have h0:zc (rwM A ln qs g r) (f':Int)=0:=by
    by_cases q:zc (rwM A ln qs g r) (f':Int)=0
    ·exact q
    ·exact absurd ⟨q,hc2.2⟩ (h f' y hf')
   rcases(hC f').2 h0 with q|q
   ·exact absurd q hc2.1
   ·exact q
 ·refine .inr ?_
  have hf1:=(hC f).1 hc.1
  have hcf:z9a names (rwM A ln qs g (r+1)) f x:=⟨by rw [hf1];exact hc.1,hc.2⟩
  rcases z21 names (rwM A ln qs g (r+1)) A with⟨_,h⟩|⟨f',y,hf',e2,hc2,hmin2⟩
  ·exact absurd hcf (h f x hf)
  ·refine⟨f,f',y,e,e2,hf',hc2.2,hc.1,?_⟩
   have h1:=hmin2 f x hf hcf
   by_cases q:zc (rwM A ln qs g r) (f':Int)=0
   ·rcases(hC f').2 q with q2|q2
    ·exact absurd q2 hc2.1
    ·have:=(z0P (A:=A) (ln:=ln) (qs:=qs) (g:=g) r f).2
     omega
   ·have h2:=hmin f' y hf' ⟨q,hc2.2⟩
    have:=(hC f').1 q
    omega
theorem zaE: ∀(r:Nat) (i:Nat),(zc (rwM A ln qs g r) (i:Int)≠0→zc (rwM A ln qs g (r+1)) (i:Int)=zc (rwM A ln qs g r) (i:Int))∧(zc (rwM A ln qs g r) (i:Int)=0→zc (rwM A ln qs g (r+1)) (i:Int)=0∨zc (rwM A ln qs g (r+1)) (i:Int)=((r+1:Nat):Int)):=by
 intro r
 induction r with
 |zero=>
  intro i
  refine⟨fun h=> ?_,fun _=> ?_⟩
  ·unfold rwM at h;rw [z2h] at h;exact absurd rfl h
  ·have h1:=z0P (A:=A) (ln:=ln) (qs:=qs) (g:=g) 1 i
   show zc (rwM A ln qs g 1) (i:Int)=0∨zc (rwM A ln qs g 1) (i:Int)=((0+1:Nat):Int)
   omega
 |succ r ih=>
  intro i
  have e1:zc (rwM A ln qs g (r+1)) (i:Int)=if i<A.length then(if 0<zc g (i:Int) then z4z A ln qs (rwM A ln qs g r) i else 0) else 0:=z8c ..
  have e2:zc (rwM A ln qs g (r+1+1)) (i:Int)=if i<A.length then(if 0<zc g (i:Int) then z4z A ln qs (rwM A ln qs g (r+1)) i else 0) else 0:=z8c ..
  rw [e1,e2]
  by_cases hi:i<A.length
  ·rw [if_pos hi,if_pos hi]
   by_cases hg:0<zc g (i:Int)
   ·rw [if_pos hg,if_pos hg]
    unfold z4z
    by_cases hr:((ln i).any fun nm=>plM nm qs 0 != -1)=true
    ·rw [if_pos hr,if_pos hr]
     exact⟨fun _=>rfl,fun h=>by omega⟩
    ·rw [if_neg hr,if_neg hr]
     rcases z8L ih (ln i) with⟨_,h2,h3⟩|⟨f,f',y,h1,h2,h3,h4,h5,h6⟩
     ·rw [if_pos (by rw [h3];rfl)]
      refine⟨fun h=>absurd rfl h,fun _=> ?_⟩
      rcases h2 with q|⟨j,q1,q2⟩
      ·rw [if_pos (by rw [q];rfl)];exact .inl rfl
      ·rw [if_neg (by rw [q1];simp),q1,q2];right;omega
     ·rw [if_neg (by rw [h1];simp),if_neg (by rw [h2];simp),h1,h2,h6]
      have:=z0P (A:=A) (ln:=ln) (qs:=qs) (g:=g) r f
      exact⟨fun _=>rfl,fun h=>by omega⟩
   ·rw [if_neg hg,if_neg hg];exact⟨fun h=>absurd rfl h,fun _=> .inl rfl⟩
  ·rw [if_neg hi,if_neg hi];exact⟨fun h=>absurd rfl h,fun _=> .inl rfl⟩
theorem z9Z {r i:Nat}{m:Int}(hm:zc (rwM A ln qs g r) (i:Int)=m)(h0:m≠0):
  (m=1∧((ln i).any fun nm=>plM nm qs 0 != -1)=true)∨(2≤m∧ ∃(f:Nat) (y:As),neM (ln i) (rwM A ln qs g r) A 0 (-1)=(f:Int)∧A[f]?=some y∧plM y.by_ (ln i) 0≠ -1∧zc (rwM A ln qs g r) (f:Int)=m - 1):=by
 obtain⟨hi,hg⟩:=z3o (r:=r) (by rw [hm];exact h0)
 cases r with
 |zero=>unfold rwM at hm;rw [z2h] at hm;exact absurd hm.symm h0
 |succ r=>
  have e1:zc (rwM A ln qs g (r+1)) (i:Int)=if i<A.length then(if 0<zc g (i:Int) then z4z A ln qs (rwM A ln qs g r) i else 0) else 0:=z8c ..
  rw [if_pos hi,if_pos hg] at e1
  unfold z4z at e1
  by_cases hr:((ln i).any fun nm=>plM nm qs 0 != -1)=true
  ·rw [if_pos hr] at e1
   exact .inl ⟨by omega,hr⟩
  ·rw [if_neg hr] at e1
   rcases z8L (zaE r) (ln i) with⟨_,_,h3⟩|⟨f,f',y,h1,h2,h3,h4,h5,h6⟩
   ·rw [if_pos (by rw [h3];rfl)] at e1;exact absurd (hm.symm.trans e1) h0
   ·rw [if_neg (by rw [h1];simp),h1] at e1
    have:=z0P (A:=A) (ln:=ln) (qs:=qs) (g:=g) r f
    exact .inr ⟨by omega,f',y,h2,h3,h4,by omega⟩
def z6n (A:List As)(ln:Nat→List zeV)(ls:List Int):Nat→Int→List Int
 |0,_=>[]
 |k+1,nx=>nx::z6n A ln ls k (neM (if nx<0 then [] else ln nx.toNat) ls A 0 (-1))
def Row (A:List As)(ln:Nat→List zeV)(qs:List zeV)(g ls:List Int):Int→List Int→Prop
 |_,[]=>False
 |m,[k]=>m=1∧ ∃(i:Nat) (x:As),k=(i:Int)∧A[i]?=some x∧0<zc g (i:Int)∧zc ls (i:Int)=m∧((ln i).any fun nm=>plM nm qs 0 != -1)=true
 |m,k::k2::ks=> ∃(i j:Nat) (x y:As),k=(i:Int)∧k2=(j:Int)∧A[i]?=some x∧0<zc g (i:Int)∧zc ls (i:Int)=m∧A[j]?=some y∧plM y.by_ (ln i) 0≠ -1∧Row A ln qs g ls (m - 1) (k2::ks)
theorem zdv {r:Nat}: ∀(k i:Nat),zc (rwM A ln qs g r) (i:Int)=((k+1:Nat):Int)→Row A ln qs g (rwM A ln qs g r) ((k+1:Nat):Int) (z6n A ln (rwM A ln qs g r) (k+1) i):=by
 intro k
 induction k with
 |zero=>
  intro i h
  obtain⟨hi,hg⟩:=z3o (r:=r) (i:=i) (by rw [h];omega)
  rcases z9Z h (by omega) with⟨_,h2⟩|⟨h2,_⟩
  ·exact⟨rfl,i,_,rfl,zeH hi,hg,h,h2⟩
  ·omega
 |succ k ih=>
  intro i h
  obtain⟨hi,hg⟩:=z3o (r:=r) (i:=i) (by rw [h];omega)
  rcases z9Z h (by omega) with⟨h1,_⟩|⟨_,f,y,h2,h3,h4,h5⟩
  ·omega
  ·have h6:=ih f (by rw [h5];omega)
   have e:z6n A ln (rwM A ln qs g r) (k+1+1) i=(i:Int)::z6n A ln (rwM A ln qs g r) (k+1) f:=by
    show(i:Int)::z6n A ln _ (k+1) (neM (if(i:Int)<0 then [] else ln (i:Int).toNat) _ A 0 (-1))=_
    rw [if_neg (by omega),Int.toNat_natCast,h2]
   rw [e]
   have e2: ∃t,z6n A ln (rwM A ln qs g r) (k+1) f=(f:Int)::t:=⟨_,rfl⟩
   obtain⟨t,e2⟩:=e2
   rw [e2] at h6 ⊢
   exact⟨i,f,_,y,rfl,rfl,zeH hi,hg,h,h3,h4,by rw [show(((k+1+1:Nat):Int)- 1)=((k+1:Nat):Int) by omega];exact h6⟩
theorem z9K {ls:List Int}: ∀(ks:List Int) (m:Int),Row A ln qs g ls m ks→ ∀k∈ks,∃(i:Nat) (x:As),k=(i:Int)∧A[i]?=some x∧0<zc g (i:Int)∧zc ls k≤m:=by
 intro ks
 induction ks with
 |nil=>intro m h;exact absurd h id
 |cons k ks ih=>
  intro m h q hq
  cases ks with
  |nil=>
   obtain⟨_,i,x,rfl,h1,h2,h3,_⟩:=h
   have e:q=(i:Int):=by simpa using hq
   subst e
   exact⟨i,x,rfl,h1,h2,by omega⟩
  |cons k2 ks=>
   obtain⟨i,j,x,y,rfl,rfl,h1,h2,h3,h4,h5,h6⟩:=h
   rcases List.mem_cons.1 hq with e|e
   ·subst e;exact⟨i,x,rfl,h1,h2,by omega⟩
   ·obtain⟨i',x',z1,z2,z3,z4⟩:=ih (m - 1) h6 q e
    exact⟨i',x',z1,z2,z3,by omega⟩
theorem zbs {ls:List Int}{k m:Int}{ks:List Int}(h:Row A ln qs g ls m (k::ks)):zc ls k=m:=by
 cases ks with
 |nil=>obtain⟨_,i,x,rfl,_,_,h3,_⟩:=h;exact h3
 |cons k2 ks=>obtain⟨i,j,x,y,rfl,_,_,_,h3,_⟩:=h;exact h3
theorem zcv {ls:List Int}: ∀(ks:List Int) (m:Int),Row A ln qs g ls m ks→ ∀(t t':Nat) (k:Int),t'<t→ks[t]?=some k→ks[t']?≠some k:=by
 intro ks
 induction ks with
 |nil=>intro m h;exact absurd h id
 |cons k ks ih=>
  intro m h t t' q ht h1 h2
  cases t with
  |zero=>omega
  |succ t=>
   have h1:ks[t]?=some q:=by simpa using h1
   cases ks with
   |nil=>simp at h1
   |cons k2 ks=>
    have hh:=zbs h
    obtain⟨i,j,x,y,rfl,rfl,_,_,_,_,_,h6⟩:=h
    cases t' with
    |zero=>
     have e:(i:Int)=q:=by simpa using h2
     obtain⟨_,_,_,_,_,hle⟩:=z9K _ _ h6 q (zeP h1)
     rw [e] at hh
     omega
    |succ t'=>exact ih (m - 1) h6 t t' q (by omega) h1 (by simpa using h2)
theorem zcs {ls:List Int}: ∀(ks:List Int) (m:Int),Row A ln qs g ls m ks→ ∀(t:Nat) (k k':Int),ks[t]?=some k→ks[t+1]?=some k'→ ∃(i j:Nat) (y:As),k=(i:Int)∧k'=(j:Int)∧A[j]?=some y∧plM y.by_ (ln i) 0≠ -1:=by
 intro ks
 induction ks with
 |nil=>intro m h;exact absurd h id
 |cons k ks ih=>
  intro m h t q q' h1 h2
  cases ks with
  |nil=>simp at h2
  |cons k2 ks=>
   obtain⟨i,j,x,y,rfl,rfl,_,_,_,z4,z5,h6⟩:=h
   cases t with
   |zero=>
    have e1:(i:Int)=q:=by simpa using h1
    have e2:(j:Int)=q':=by simpa using h2
    exact⟨i,j,y,e1.symm,e2.symm,z4,z5⟩
   |succ t=>exact ih (m - 1) h6 t q q' (by simpa using h1) (by simpa using h2)
theorem zak {ls:List Int}: ∀(ks:List Int) (m:Int),Row A ln qs g ls m ks→ ∀k,ks.getLast?=some k→ ∃i:Nat,k=(i:Int)∧((ln i).any fun nm=>plM nm qs 0 != -1)=true:=by
 intro ks
 induction ks with
 |nil=>intro m h;exact absurd h id
 |cons k ks ih=>
  intro m h q hq
  cases ks with
  |nil=>
   obtain⟨_,i,x,rfl,_,_,_,h4⟩:=h
   have e:(i:Int)=q:=by simpa using hq
   exact⟨i,e.symm,h4⟩
  |cons k2 ks=>
   obtain⟨i,j,x,y,rfl,rfl,_,_,_,_,_,h6⟩:=h
   exact ih (m - 1) h6 q (by simpa using hq)
end
def z2P (x:Lc):Option zeV:=if x.form==0 then some x.text else none
def z1U (L:List Lc)(a e:Nat):List zeV:=((L.take e).drop a).filterMap z2P
theorem z0q {L:List Lc}{a e:Nat}{nm:zeV}:nm∈z1U L a e↔ ∃(j:Nat) (x:Lc),a≤j∧j<e∧L[j]?=some x∧x.form=0∧x.text=nm:=by
 unfold z1U
 rw [List.mem_filterMap]
 constructor
 ·rintro⟨x,hx,hn⟩
  obtain⟨j,hj⟩:=List.mem_iff_getElem?.1 hx
  rw [List.getElem?_drop] at hj
  obtain⟨hl,he⟩:=zeI.1 hj
  have hlt:a+j<e:=by rw [List.length_take] at hl;omega
  rw [List.getElem?_take_of_lt hlt] at hj
  unfold z2P at hn
  split at hn
  ·rename_i hf
   exact⟨a+j,x,by omega,hlt,hj,by simpa using hf,by simpa using hn⟩
  ·cases hn
 ·rintro⟨j,x,h1,h2,h3,h4,rfl⟩
  refine⟨x,List.mem_iff_getElem?.2 ⟨j - a,?_⟩,by unfold z2P;rw [h4];rfl⟩
  rw [List.getElem?_drop,show a+(j - a)=j by omega,List.getElem?_take_of_lt h2]
  exact h3
theorem z9x {L:List Lc}{a e:Nat}{x:Lc}(h:L[e]?=some x)(ha:a≤e):z1U L a (e+1)=z1U L a e++(z2P x).toList:=by
 unfold z1U
 have hl:=(zeI.1 h).1
 rw [List.take_add_one,h,List.drop_append_of_le_length (by rw [List.length_take];omega),List.filterMap_append]
 congr 1
 first|done|(show List.filterMap z2P [x]=_;cases hq:z2P x<;>simp [List.filterMap,hq])
def z2b (A:List As)(i:Nat):Int:=if i=0 then 0 else(A.getD (i - 1) ⟨⟨#[]⟩,0,0⟩).to_+1
def lnM (A:List As)(L:List Lc)(i:Nat):List zeV:=match A[i]? with
 |some x=>z1U L (z2b A i).toNat (x.to_+1).toNat
 |none=>[]
def Tos (A:List As)(L:List Lc):Prop:= ∀(i:Nat) (x:As),A[i]?=some x→ ∃a t:Nat,z2b A i=(a:Int)∧x.to_=(t:Int)∧a≤t∧t<L.length
theorem z7T {X:Nat→Prop}{w:World}{L:List Lc}{E:List Ex}{C:List (List Cl)}{f:Nat}: ∀(ps:List PP) (xs:List As) (a b e g:Nat),SegA (fun p x a b e g=>AsX X w L E C f p x a b e g) ps xs a b e g→a≤e∧ ∀(i:Nat) (x:As) (p:PP),xs[i]?=some x→ps[i]?=some p→ ∃a' t:Nat,(if i=0 then(a:Int) else(xs.getD (i - 1) ⟨⟨#[]⟩,0,0⟩).to_+1)=(a':Int)∧x.to_=(t:Int)∧a'≤t∧t<e∧RefLX X w L f (.pointer p.1) a' t:=by
 intro ps
 induction ps with
 |nil=>
  intro xs a b e g h
  cases xs with
  |nil=>obtain⟨rfl,_⟩:=h;exact⟨zeK _,fun i x p h=>by simp at h⟩
  |cons c cs=>exact absurd h id
 |cons u ps ih=>
  intro xs a b e g h
  cases xs with
  |nil=>exact absurd h id
  |cons x xs=>
   obtain⟨m,n,⟨i,ci,q1,_,q3,q4,_⟩,h3⟩:=h
   have hle:=z0X q4
   obtain⟨r1,r2⟩:=ih xs m n e g h3
   refine⟨by omega,fun k y p hk hp=> ?_⟩
   cases k with
   |zero=>
    have e1:x=y:=by simpa using hk
    have e2:u=p:=by simpa using hp
    subst e1 e2
    exact⟨a,i,rfl,q1,hle,by omega,q4⟩
   |succ k=>
    obtain⟨a',t,z1,z2,z3,z4,z5⟩:=r2 k y p (by simpa using hk) (by simpa using hp)
    refine⟨a',t,?_,z2,z3,z4,z5⟩
    rw [if_neg (by omega)]
    cases k with
    |zero=>
     rw [if_pos rfl] at z1
     show x.to_+1=_
     rw [q1];omega
    |succ k=>
     rw [if_neg (by omega)] at z1
     exact z1
theorem zc7 {X:Nat→Prop}{w:World}{L:List Lc}(hcnt: ∀x∈L,x.form=2→1≤x.count)(sg:zeV→Int)(top:Nat): ∀(f:Nat) (v:Value) (a i:Nat),RefLX X w L f v a i→1≤zc (jB sg top L []) (i:Int)→ ∃nm∈z1U L a (i+1),1≤sg nm:=by
 have up: ∀{a a' i i':Nat},a≤a'→i'≤i→(∃nm∈z1U L a' (i'+1),1≤sg nm)→ ∃nm∈z1U L a (i+1),1≤sg nm:=by
  intro a a' i i' h1 h2 ⟨nm,h3,h4⟩
  obtain⟨j,x,q1,q2,q3,q4,q5⟩:=z0q.1 h3
  exact⟨nm,z0q.2 ⟨j,x,by omega,by omega,q3,q4,q5⟩,h4⟩
 intro f
 induction f with
 |zero=>intro v a i h;exact absurd h id
 |succ f ih=>
  intro v a i ⟨x,hx,h⟩ h0
  obtain⟨hat,hpre⟩:=zbK sg top hx
  rw [hat] at h0
  unfold llM at h0
  rcases h with⟨h1,h2,p,h3⟩|⟨h1,v1,v2,j,k,p,h2,h3,h4,h8,h5,h6,h7⟩|⟨h1,vs,c,h2,h3,h4,h5,h6⟩
  ·rw [h1] at h0
   exact⟨x.text,z0q.2 ⟨i,x,by omega,by omega,hx,h1,rfl⟩,by simpa using h0⟩
  ·have hj:=z0X h6
   have hk:=z0X h7
   have e1:=hpre j (by omega)
   have e2:=hpre k (by omega)
   rw [h1,h3,h4,e1,e2] at h0
   have hor:1≤zc (jB sg top L []) (j:Int)∨1≤zc (jB sg top L []) (k:Int):=by
    have h0:(1:Int)≤if x.text.toList==[38,38] then z3j (zc (jB sg top L []) (j:Int)) (zc (jB sg top L []) (k:Int)) else z7n (zc (jB sg top L []) (j:Int)) (zc (jB sg top L []) (k:Int)):=h0
    split at h0
    ·exact .inl (z0A.1 h0).1
    ·exact z55.1 h0
   rcases hor with q|q
   ·exact up (by omega) (by omega) (ih v1 a j h6 q)
   ·exact up (by omega) (by omega) (ih v2 (j+1) k h7 q)
  ·rw [h1] at h0
   have h0:((1:Nat):Int)≤cdM (jB sg top (L.take i) []) x.items x.count top:=h0
   have hc:=(z7I _ _ _ (by omega) top).1 h0
   have hc1:=hcnt x (zeP hx) h1
   obtain⟨r1,r2,r3⟩:=z4X _ _ _ _ h6
   have hex: ∃it∈x.items,1≤zc (jB sg top (L.take i) []) it:=by
    by_cases hq: ∃it∈x.items,1≤zc (jB sg top (L.take i) []) it
    ·exact hq
    ·exfalso
     have:z3J (jB sg top (L.take i) []) ((1:Nat):Int) x.items 0=0:=by
      rw [z96]
      refine z3s _ fun y hy hl=> ?_
      obtain⟨it,hi,rfl⟩:=List.mem_map.1 hy
      exact hq ⟨it,hi,hl⟩
     omega
   obtain⟨it,hi,hv⟩:=hex
   obtain⟨n,hn⟩:=List.mem_iff_getElem?.1 hi
   have hlen:=SegV.length _ _ _ _ h6
   have hnl:=(zeI.1 hn).1
   obtain⟨j',e1,hj'⟩:=r2 it hi
   rw [e1,hpre j' hj'] at hv
   have gen: ∀(vs:List Value) (is:List Int) (a e:Nat),SegV (fun v a i=>RefLX X w L f v a i) vs is a e→ ∀it∈is,∃(v:Value) (a' j:Nat),it=(j:Int)∧a≤a'∧j<e∧RefLX X w L f v a' j:=by
    intro vs
    induction vs with
    |nil=>
     intro is a e h it hi
     cases is with
     |nil=>cases hi
     |cons i is=>exact absurd h id
    |cons v vs ih2=>
     intro is a e h it hi
     cases is with
     |nil=>exact absurd h id
     |cons i is=>
      obtain⟨j,q1,q2,q3⟩:=h
      have hle:=z0X q2
      have hle2:=(z4X _ _ _ _ q3).1
      rcases List.mem_cons.1 hi with e|e
      ·exact⟨v,a,j,by rw [e,q1],by omega,by omega,q2⟩
      ·obtain⟨v',a',j',z1,z2,z3,z4⟩:=ih2 is _ _ q3 it e
       exact⟨v',a',j',z1,by omega,z3,z4⟩
   obtain⟨v',a',j2,z1,z2,z3,z4⟩:=gen _ _ _ _ h6 it hi
   have:j2=j':=by omega
   subst this
   exact up z2 (by omega) (ih v' a' j2 z4 hv)
def zdM (A:List As)(L:List Lc)(top:Nat):Prop:= ∀(sg:zeV→Int) (i:Nat) (x:As),A[i]?=some x→1≤zc (jB sg top L []) x.to_→ ∃nm∈lnM A L i,1≤sg nm
theorem z5d {A:List As}{L:List Lc}{i:Nat}{x:As}(hx:A[i]?=some x){a t:Nat}(h1:z2b A i=(a:Int))(h2:x.to_=(t:Int)):lnM A L i=z1U L a (t+1):=by
 unfold lnM
 rw [hx]
 show z1U L (z2b A i).toNat (x.to_+1).toNat=_
 rw [h1,h2]
 congr 1
theorem zaC {X:Nat→Prop}{w:World}{L:List Lc}{E:List Ex}{C:List (List Cl)}{f:Nat}{ps:List PP}{A:List As}(hcnt: ∀x∈L,x.form=2→1≤x.count)(top:Nat)(h:SegA (fun p x a b e g=>AsX X w L E C f p x a b e g) ps A 0 0 L.length E.length):zdM A L top∧Tos A L:=by
 have hl:=SegA.len _ _ _ _ _ _ h
 have hh:=(z7T ps A 0 0 _ _ h).2
 have tr: ∀(i:Nat) (x:As),A[i]?=some x→ ∃(p:PP) (a t:Nat),z2b A i=(a:Int)∧x.to_=(t:Int)∧a≤t∧t<L.length∧RefLX X w L f (.pointer p.1) a t:=fun i x hx=>by
  have hi:=(zeI.1 hx).1
  obtain⟨a,t,z1,z2,z3,z4,z5⟩:=hh i x (ps[i]'(by omega)) hx (zeH _)
  exact⟨_,a,t,z1,z2,z3,z4,z5⟩
 refine⟨fun sg i x hx h1=> ?_,fun i x hx=> ?_⟩
 ·obtain⟨p,a,t,z1,z2,z3,z4,z5⟩:=tr i x hx
  rw [z5d hx z1 z2]
  rw [z2] at h1
  exact zc7 hcnt sg top f _ a t z5 h1
 ·obtain⟨p,a,t,z1,z2,z3,z4,z5⟩:=tr i x hx
  exact⟨a,t,z1,z2,z3,z4⟩
theorem z9q {nm:zeV}: ∀(l:List zeV) (i:Nat),nm∈l→plM nm l i≠ -1:=by
 intro l
 induction l with
 |nil=>intro i h;cases h
 |cons x l ih=>
  intro i h
  unfold plM
  split
  ·omega
  ·rename_i hq
   rcases List.mem_cons.1 h with e|e
   ·exact absurd (by simp [e]) hq
   ·exact ih (i+1) e
theorem z58 {nm:zeV}: ∀(l:List zeV) (i:Nat),plM nm l i≠ -1→nm∈l:=by
 intro l
 induction l with
 |nil=>intro i h;exact absurd rfl h
 |cons x l ih=>
  intro i h
  unfold plM at h
  split at h
  ·rename_i hq
   have e:x=nm:=jH (by simpa using hq)
   exact e▸List.mem_cons_self
  ·exact List.mem_cons_of_mem _ (ih _ h)
theorem zeg {A:List As}{L:List Lc}{qs:List zeV}{top:Nat}{W:List Int}(hp:zdM A L top): ∀r,r≤A.length→ ∀(i:Nat) (x:As),A[i]?=some x→1≤zc (gvM A L qs top W r) (i:Int)→zc (rwM A (lnM A L) qs (gvM A L qs top W A.length) r) (i:Int)≠0:=by
 intro r
 induction r with
 |zero=>intro _ i x _ h;unfold gvM at h;rw [z2h] at h;omega
 |succ r ih=>
  intro hr i x hx h
  have hi:=(zeI.1 hx).1
  have hg:0<zc (gvM A L qs top W A.length) (i:Int):=by
   have:=zdy (A:=A) (L:=L) (qs:=qs) (top:=top) (W:=W) (k:=1) (zeK _) hr (i:Int) h
   omega
  have h1:1≤zc (ltM A W (jB (stM A qs top (gvM A L qs top W r)) top L [])) (i:Int):=h
  unfold ltM at h1
  rw [z6i,hx] at h1
  have h1:=(z0A.1 h1).2
  obtain⟨nm,hn,hs⟩:=hp _ i x hx h1
  have e1:zc (rwM A (lnM A L) qs (gvM A L qs top W A.length) (r+1)) (i:Int)=if i<A.length then(if 0<zc (gvM A L qs top W A.length) (i:Int) then z4z A (lnM A L) qs (rwM A (lnM A L) qs (gvM A L qs top W A.length) r) i else 0) else 0:=z8c ..
  rw [e1,if_pos hi,if_pos hg]
  unfold z4z
  by_cases hq:((lnM A L i).any fun nm=>plM nm qs 0 != -1)=true
  ·rw [if_pos hq];omega
  ·rw [if_neg hq]
   rcases(z1s (Int.le_refl 1)).1 hs with⟨q1,_⟩|⟨_,j,y,q2,q3,q4⟩
   ·exact absurd (List.any_eq_true.2 ⟨nm,hn,by simpa using q1⟩) hq
   ·have h2:=ih (by omega) j y q2 q4
    have hc:z9a (lnM A L i) (rwM A (lnM A L) qs (gvM A L qs top W A.length) r) j y:=⟨h2,z9q _ _ (by rw [jH q3];exact hn)⟩
    rcases z21 (lnM A L i) (rwM A (lnM A L) qs (gvM A L qs top W A.length) r) A with⟨_,hno⟩|⟨f,z,_,e2,_,_⟩
    ·exact absurd hc (hno j y q2)
    ·rw [e2,if_neg (by simp)]
     have:=z0P (A:=A) (ln:=lnM A L) (qs:=qs) (g:=gvM A L qs top W A.length) r f
     omega
def zd8 (x:Lc)(w:World)(e:Ending)(w':World):Prop:= ∃a k,e= .returned (.agg #[.int .i64 x.form,.string x.text,.int .i64 x.left,.int .i64 x.right,.int .i64 x.place,.int .i64 x.count,.slice a x.items.length k])∧Below w.heap.size w w'
theorem zcf (tb o base:Nat)(st:St)(V:Nat→Value)(iv cv:List Value)(i:Nat)(x:Lc)(w:World)(hc:w.cell? ⟨tb,o+1,none⟩=some (V 4))(ht:TreeV w base st V iv cv)(hel:st.L.length≤100000)(hx:st.L[i]?=some x):
  Calls Tryz.prog 112 #[.pointer (some ⟨tb,o,none⟩),.int .i64 i] w fun e w'=>zd8 x w e w':=by
 have HB:=z8 (zeU w.heap.size w)
 have hblt:=zd hc
 have how:=ht.own 4 (by omega) (by omega)
 have hlt:i<st.L.length:=(zeI.1 hx).1
 obtain⟨u,hu⟩: ∃u,iv[i]?=some u:=⟨iv[i]'(by have:=ht.il;omega),zeH (by have:=ht.il;omega)⟩
 have hit:=ht.items i x u hx hu
 obtain⟨a6,k6,rfl⟩:=za hit
 obtain⟨a5,k5,e5⟩: ∃a k,V 4= .slice a st.L.length k:=za how
 have how:w.ownsRow base 160 7 (.slice a5 st.L.length k5) st.L.length ((List.zipWith Lc.cells st.L iv).flatten):=e5▸how
 rw [e5] at hc
 obtain⟨g,cap,hv,hb,hg⟩:=how.form (by omega)
 injection hv with e1 e2 e3
 subst e1 e3
 have hcell: ∀j z,(x.cells (.slice a6 x.items.length k6))[j]?=some z→j<7→w.cell? ⟨g,i*7+j,none⟩=some z:=fun j z hz hj=>
  zf how _ _ ((z5f st.L iv i j x _ hx hu hj).trans hz)
 have q0:w.cell? ⟨g,i*7,none⟩=some (.int .i64 x.form):=hcell 0 _ rfl (by omega)
 have q1:=hcell 1 _ rfl (by omega)
 have q2:=hcell 2 _ rfl (by omega)
 have q3:=hcell 3 _ rfl (by omega)
 have q4:=hcell 4 _ rfl (by omega)
 have q5:=hcell 5 _ rfl (by omega)
 have q6:=hcell 6 _ rfl (by omega)
 have hlt':(i:Int)<st.L.length:=by omega
 clear hcell how hx ht e5 hit hu
 go_enter Tryz.func112,Tryz.ntmps112
 go_wp2_with fail
 exact bodyPost_ret (v:= .agg #[.int .i64 x.form,.string x.text,.int .i64 x.left,.int .i64 x.right,.int .i64 x.place,.int .i64 x.count,.slice a6 x.items.length k6]) (by simp [results,Tryz.results112,go_sem]) rfl ⟨a6,k6,rfl,HB.out.alloc (zeK _) _⟩
def zbN (l:List zeV)(w:World)(e:Ending)(w':World):Prop:= ∃v,e= .returned v∧w'.ownsRow w.heap.size 9 1 v l.length (l.map Value.string)∧Below w.heap.size w w'
theorem zay (L:List Lc)(a:Nat):z1U L a a=[]:=by
 unfold z1U
 rw [zeN (by rw [List.length_take];omega)]
 rfl
theorem z7s (L:List Lc)(a e:Nat):(z1U L a e).length≤e - a:=by
 unfold z1U
 refine zeS (List.length_filterMap_le _ _) ?_
 rw [List.length_drop,List.length_take]
 omega
theorem z6O (tb o base:Nat)(st:St)(V:Nat→Value)(iv cv:List Value)(i:Nat)(w:World)(hc0:w.cell? ⟨tb,o,none⟩=some (V 3))(hc:w.cell? ⟨tb,o+1,none⟩=some (V 4))(ht:TreeV w base st V iv cv)(hel:st.L.length≤100000)(hal:st.A.length≤100000)(hto:Tos st.A st.L)(hi:i<st.A.length):
  Calls Tryz.prog 71 #[.pointer (some ⟨tb,o,none⟩),.int .i64 i] w fun e w'=>zbN (lnM st.A st.L i) w e w':=by
 obtain⟨x,hx⟩: ∃x,st.A[i]?=some x:=⟨st.A[i],zeH hi⟩
 obtain⟨a,t,hfa,htt,hat,htl⟩:=hto i x hx
 have hln:=z8 (z5d (L:=st.L) hx hfa htt)
 have hrow0:=ht.own 3 (by omega) (by omega)
 obtain⟨a3,k3,e3⟩:=za hrow0
 have hn3:nOf st 3=st.A.length:=rfl
 have hrow:w.ownsRow base 84 3 (.slice a3 st.A.length k3) st.A.length ((st.A.map As.cells).flatten):=by rw [e3] at hrow0;exact hrow0
 have hblt:=zd hc
 have HC4:=z8 hc
 rw [e3,hn3] at hc0
 obtain⟨g,cap,hv,hb,hg⟩:=hrow.form (by omega)
 injection hv with u1 u2 u3
 subst u1 u3
 have c1:w.cell? ⟨g,i*3+1,none⟩=some (.int .i64 t):=by
  rw [←htt]
  exact zf hrow _ _ (zI As.cells 3 As.cells3 st.A i 1 x hx (by omega))
 have HT:=z8 ht
 have hi':(i:Int)<st.A.length:=by omega
 have hfr:Hid (0<i→ ∃z:Int,w.cell? ⟨g,(i - 1)*3+1,none⟩=some (.int .i64 z)∧z+1=(a:Int)):=z8 fun h0=>by
  obtain⟨y,hy⟩: ∃y,st.A[i - 1]?=some y:=⟨st.A[i - 1],zeH (by omega)⟩
  refine⟨y.to_,zf hrow _ _ (zI As.cells 3 As.cells3 st.A (i - 1) 1 y hy (by omega)),?_⟩
  unfold z2b at hfa
  rw [if_neg (by omega)] at hfa
  simpa [List.getD,hy] using hfa
 have hf0:Hid (i=0→a=0):=z8 fun h0=>by
  unfold z2b at hfa
  rw [if_pos h0] at hfa
  omega
 obtain⟨i0,hii,hz0,hz1,hz2⟩:=info_parts info9
 have HM:=z8 (World.ownsRow_made (base:=w.heap.size) (e:=9) (size:=1) w #[] 0 (zeK _) (by decide) (by simp))
 have HB0:Hid (Below w.heap.size w (w.alloc (.cells #[] 9))):=z8 ((zeU _ _).alloc (zeK _) _)
 clear hc hrow hrow0 ht hx hfa htt e3 hn3 hto
 go_enter Tryz.func71,Tryz.ntmps71
 go_upto_if 23 with fail
 go_cut [6] (fun fv wx=>fv= .int .i64 a∧wx=w.alloc (.cells #[] 9))
 case first=>
  by_cases h0:i=0
  ·have ha0:=hf0.out h0
   subst h0 ha0
   go_wp2_with fail
   go_meet
   exact⟨rfl,rfl⟩
  ·obtain⟨z,hz,hza⟩:=hfr.out (by omega)
   have hpos:(0:Int)<(i:Int):=by omega
   have hza':Hid (z+1=(a:Int)):=z8 hza
   have hzb:z+1≤100000:=by omega
   have hzc:0≤z+1:=by omega
   clear hza
   go_wp2_with fail
   go_meet
   exact⟨by rw [←hza'.out],rfl⟩
 case rest=>
  obtain⟨rfl,rfl⟩:=hcut
  clear hfr hf0
  go_wp2_with fail
  go_loopg [5,7] (t+2 - a) (fun n nv kv wr=> ∃k:Nat,n+k=t+2∧a≤k∧k≤t+1∧kv= .int .i64 k∧Hid (wr.ownsRow w.heap.size 9 1 nv (z1U st.L a k).length ((z1U st.L a k).map Value.string))∧Hid (Below w.heap.size w wr))
  case atStart=>exact⟨a,by omega,zeK _,by omega,rfl,z8 (by rw [zay];exact HM.out),HB0⟩
  case round=>
   obtain⟨k,hk,hak,hkt,rfl,HOW,HB⟩:=hrel
   have hHK:=z8 hk
   clear hk
   obtain⟨ag,kg,rfl⟩:=za HOW.out
   have hz0':w.heap.size≤wr.heap.size:=HB.out.size
   have d0:wr.cell? ⟨tb,o,none⟩=some (.slice (some ⟨g,0,none⟩) st.A.length k3):=(HB.out.cell (p:=⟨tb,o,none⟩) hblt).trans hc0
   have d1:wr.cell? ⟨g,i*3+1,none⟩=some (.int .i64 t):=(HB.out.cell (p:=⟨g,i*3+1,none⟩) hg).trans c1
   by_cases hlt:k≤t
   ·obtain⟨y,hy⟩: ∃y,st.L[k]?=some y:=⟨st.L[k]'(by omega),zeH _⟩
    have HLA:=z8 (fun n=>zcf tb o base st V iv cv k y (wr.drewN n) ((HB.out.cell (p:=⟨tb,o+1,none⟩) hblt).trans HC4.out) ((HT.out.same fun q _ hq=>HB.out.block q hq).same fun q _ hq=>rfl) hel hy)
    have hst:=z8 (z9x hy hak)
    have hnl:=z7s st.L a k
    have hlt':(k:Int)≤t:=by omega
    clear hy
    go_wp2_with fail
    refine(HLA.out 0).mono ?_
    rintro e w2 ⟨a6,k6,rfl,hB2⟩
    have hBw:Below wr.heap.size wr w2:=⟨hB2.os,hB2.tape,hB2.output,hB2.size,hB2.block⟩
    clear hB2
    have hB2:=HB.out.trans (hBw.mono hz0')
    have hown2:=zb HOW.out fun q e=>hBw.block q (HOW.out.lt q e).2
    have hB3:=hB2.alloc hB2.size (.cells #[.int .i64 y.form,.string y.text,.int .i64 y.left,.int .i64 y.right,.int .i64 y.place,.int .i64 y.count,.slice a6 y.items.length k6] 160)
    have HOWN:=z8 (hown2.alloc (.cells #[.int .i64 y.form,.string y.text,.int .i64 y.left,.int .i64 y.right,.int .i64 y.place,.int .i64 y.count,.slice a6 y.items.length k6] 160))
    have HB3:=z8 hB3
    have hw3:w.heap.size≤(w2.alloc (.cells #[.int .i64 y.form,.string y.text,.int .i64 y.left,.int .i64 y.right,.int .i64 y.place,.int .i64 y.count,.slice a6 y.items.length k6] 160)).heap.size:=hB3.size
    have hw2:w.heap.size≤w2.heap.size:=hB2.size
    clear hown2 hB2 hB3 HLA hBw
    cases hf:(y.form==0)
    ·have hst2:Hid (z1U st.L a (k+1)=z1U st.L a k):=z8 (by rw [hst.out];unfold z2P;rw [hf];simp)
     go_wp2_with fail
     have hk:=hHK.out
     go_roundg (t+1 - k)
     case measure=>omega
     case rel=>exact⟨k+1,by omega,by omega,by omega,by go_num,by rw [hst2.out];exact HOWN,HB3⟩
    ·have hst2:Hid (z1U st.L a (k+1)=z1U st.L a k++[y.text]):=z8 (by rw [hst.out];unfold z2P;rw [hf];rfl)
     have hna:=z8 (World.news_of_block (heap_alloc_new (w2.alloc (.cells #[.int .i64 y.form,.string y.text,.int .i64 y.left,.int .i64 y.right,.int .i64 y.place,.int .i64 y.count,.slice a6 y.items.length k6] 160)) (.cells #[.string y.text] 9)))
     go_wp2_with (at_builtin;go_must (refine wpList_append_lies _ rfl (.tmp 53) (.tmp 56) 56 rfl w.heap.size 9 i0 _ 1 16 Tryz.underlying56 hii hz0 hz1 hz2 rfl (by omega) _ (z1U st.L a k).length _ rfl (HOWN.out.alloc _) ⟨w2.heap.size+1,0,none⟩ 1 1 [.string y.text] rfl rfl ?news ?one (by omega) ?mm ?bys ?base (w2.heap.size+1+1) (by simp) ?rest))
     case news=>simpa using hna.out
     case one=>intro u hu;simp at hu;subst hu;rfl
     case mm=>unfold maxLen;omega
     case bys=>omega
     case base=>simp;omega
     case rest=>
      intro gb2 cap2 w3 hown3 hgrow hat hlt2
      have hB4:=z8 (Below.grown (HB3.out.alloc hw3 _) hgrow (by simp;omega) fun q e=>(HOWN.out.lt q e).1)
      have hown4:Hid (w3.ownsRow w.heap.size 9 1 (.slice (some ⟨gb2,0,none⟩) ((z1U st.L a k).length+1) cap2) (z1U st.L a (k+1)).length ((z1U st.L a (k+1)).map Value.string)):=z8 (by rw [hst2.out];simpa using hown3)
      clear hown3 hgrow hat
      go_wp2_with fail
      have hk:=hHK.out
      go_roundg (t+1 - k)
      case measure=>omega
      case rel=>exact⟨k+1,by omega,by omega,by omega,by go_num,hown4,hB4⟩
   ·have hlt': ¬(k:Int)≤t:=by omega
    have hkk:k=t+1:=by omega
    have HF:Hid (lnM st.A st.L i=z1U st.L a k):=z8 (by rw [hln.out,hkk])
    clear hkk
    go_wp2_with fail
    go_ret
    exact⟨_,rfl,by rw [HF.out];exact HOW.out,HB.out⟩
theorem z3b (tb o base:Nat)(st:St)(V:Nat→Value)(iv cv:List Value)(i:Int)(w:World)(hc0:w.cell? ⟨tb,o,none⟩=some (V 3))(hc:w.cell? ⟨tb,o+1,none⟩=some (V 4))(ht:TreeV w base st V iv cv)(hel:st.L.length≤100000)(hal:st.A.length≤100000)(hto:Tos st.A st.L):
  Calls Tryz.prog 71 #[.pointer (some ⟨tb,o,none⟩),.int .i64 i] w fun e w'=>zbN (if i<0 then [] else lnM st.A st.L i.toNat) w e w':=by
 have HM:=z8 (World.ownsRow_made (base:=w.heap.size) (e:=9) (size:=1) w #[] 0 (zeK _) (by decide) (by simp))
 have HB0:Hid (Below w.heap.size w (w.alloc (.cells #[] 9))):=z8 ((zeU _ _).alloc (zeK _) _)
 by_cases h0:i<0
 ·rw [if_pos h0]
  clear hc hc0 ht
  go_enter Tryz.func71,Tryz.ntmps71
  go_wp2_with fail
  go_ret
  exact⟨_,rfl,HM.out,HB0.out⟩
 ·obtain⟨j,rfl⟩:=Int.eq_ofNat_of_zero_le (show 0≤i by omega)
  rw [if_neg h0,Int.toNat_natCast]
  by_cases h1:j<st.A.length
  ·exact z6O tb o base st V iv cv j w hc0 hc ht hel hal hto h1
  ·have hr:Hid (lnM st.A st.L j=[]):=z8 (by unfold lnM;rw [List.getElem?_eq_none (by omega)])
   obtain⟨a3,k3,e3⟩:=za (ht.own 3 (by omega) (by omega))
   have hn3:nOf st 3=st.A.length:=rfl
   rw [e3,hn3] at hc0
   have h1':(st.A.length:Int)≤(j:Int):=by omega
   have hblt:=zd hc
   rw [hr.out]
   clear hc ht hr
   go_enter Tryz.func71,Tryz.ntmps71
   go_wp2_with fail
   go_ret
   exact⟨_,rfl,HM.out,HB0.out⟩
theorem z27 (gb base lb vb:Nat)(st:St)(V:Nat→Value)(iv cv:List Value)(l:List (zeV×zeV))(av:Value)(vals:List zeV)(vv:Value)(qs:List zeV)(qv:Value)(nb ib:Nat)(names:List zeV)(nv:Value)(lens:List Int)(lv:Value)(w:World)(h:Gd w gb base lb vb st V iv cv l av vals vv qs qv)(hn:w.ownsRow nb 9 1 nv names.length (names.map Value.string))(hnl:names.length≤100000)(hl:w.ownsRow ib 3 1 lv lens.length (lens.map (Value.int .i64)))(hll:lens.length≤100000)(hA:st.A.length≤100000):
  Calls Tryz.prog 69 #[.pointer (some ⟨gb,0,none⟩),nv,lv] w fun e w'=>e= .returned (.int .i64 (neM names lens st.A 0 (-1)))∧ ∃n,w'=w.drewN n:=by
 obtain⟨en,hbx⟩:=h.box
 have hrow:=h.tree.own 3 (by omega) (by omega)
 obtain⟨a3,k3,e3⟩:=za hrow
 obtain⟨an,kn,rfl⟩:=za hn
 obtain⟨al,kl,rfl⟩:=za hl
 have hn3:nOf st 3=st.A.length:=rfl
 have hrow:w.ownsRow base 84 3 (.slice a3 st.A.length k3) st.A.length ((st.A.map As.cells).flatten):=by rw [e3] at hrow;exact hrow
 have b1:=(z39 hbx).2.1
 rw [e3,hn3] at b1
 have HP:=z8 (fun(nm:zeV) (n:Nat)=>jZ nb names _ nm (w.drewN n) (zb (w':=w.drewN n) hn fun k e=>rfl) hnl)
 have HL:=z8 (fun(i:Int) (n:Nat)=>ji ib lens _ i (w.drewN n) (zb (w':=w.drewN n) hl fun k e=>rfl) hll)
 have HR:=z8 hrow
 clear h hn hl hrow hbx e3 hn3
 go_enter Tryz.func69,Tryz.ntmps69
 go_wp2_with fail
 go_loopg [7,8] (st.A.length+1) (fun k bv iv wr=> ∃(i m:Nat) (b:Int),k+i=st.A.length+1∧i≤st.A.length∧iv= .int .i64 i∧bv= .int .i64 b∧wr=w.drewN m∧b<i∧Hid (neM names lens (st.A.drop i) i b=neM names lens st.A 0 (-1)))
 case atStart=>exact⟨0,0,-1,rfl,zeR _,rfl,rfl,rfl,by omega,z8 rfl⟩
 case round=>
  obtain⟨i,m,b,hk,hil,rfl,rfl,rfl,hbi,hfin⟩:=hrel
  have hHK:=z8 hk
  clear hk
  by_cases hlt:i<st.A.length
  ·obtain⟨g,cap,hvv,hbb,hgg⟩:=HR.out.form (by omega)
   injection hvv with u1 u2 u3
   subst u1 u3
   obtain⟨x,hx⟩: ∃x,st.A[i]?=some x:=⟨st.A[i],zeH hlt⟩
   have q0:w.cell? ⟨g,i*3,none⟩=some (.string x.by_):=zf HR.out _ _ (zI As.cells 3 As.cells3 st.A i 0 x hx (by omega))
   have hst:Hid (neM names lens (st.A.drop i) i b=neM names lens (st.A.drop (i+1)) (i+1) (if zc lens i==0||plM x.by_ names 0== -1 then b else if b== -1||decide (zc lens i<zc lens b) then(i:Int) else b)):=z8 (by
    obtain⟨hl,hx'⟩:=zeI.1 hx
    rw [zeO hl,hx']
    rfl)
   have hlt':(i:Int)<st.A.length:=by omega
   have HLI:=z8 (HL.out i m)
   have HPI:=z8 (HP.out x.by_)
   have HLB:=z8 (HL.out b)
   clear hx
   generalize zc lens i=t at*
   generalize plM x.by_ names 0=p at*
   generalize zc lens b=tb at*
   go_wp2_with fail
   refine HLI.out.mono ?_
   rintro e w2 ⟨rfl,rfl⟩
   clear HLI
   have fin: ∀z:Int,(if t==0||p== -1 then b else if b== -1||decide (t<tb) then(i:Int) else b)=z→Hid (neM names lens (st.A.drop (i+1)) (i+1) z=neM names lens st.A 0 (-1)):=fun z hz=>z8 (by rw [←hfin.out,hst.out,hz])
   have FIN:=z8 fin
   clear fin hst hfin
   cases ht:(t==0)
   case true=>
    go_wp2_with fail
    have hk:=hHK.out
    go_roundg (st.A.length - i)
    case measure=>omega
    case rel=>exact⟨i+1,_,b,by omega,by omega,by go_num,rfl,rfl,by omega,FIN.out b (by rw [ht];rfl)⟩
   case false=>
   cases hp:(p== -1)
   case true=>
    go_wp2_with (go_at_call 66;refine(HPI.out _).mono ?_;rintro e w2 ⟨rfl,rfl⟩)
    have hk:=hHK.out
    go_roundg (st.A.length - i)
    case measure=>omega
    case rel=>exact⟨i+1,_,b,by omega,by omega,by go_num,rfl,rfl,by omega,FIN.out b (by rw [ht,hp];rfl)⟩
   case false=>
   cases hb:(b== -1)
   case true=>
    go_wp2_with (go_at_call 66;refine(HPI.out _).mono ?_;rintro e w2 ⟨rfl,rfl⟩)
    have hk:=hHK.out
    go_roundg (st.A.length - i)
    case measure=>omega
    case rel=>exact⟨i+1,_,i,by omega,by omega,by go_num,rfl,rfl,by omega,FIN.out i (by rw [ht,hp,hb];rfl)⟩
   case false=>
   by_cases htb:t<tb
   ·go_wp2_with (first|(go_at_call 66;refine(HPI.out _).mono ?_;rintro e w2 ⟨rfl,rfl⟩)|(go_at_call 48;refine(HLB.out _).mono ?_;rintro e w2 ⟨rfl,rfl⟩))
    have hk:=hHK.out
    go_roundg (st.A.length - i)
    case measure=>omega
    case rel=>exact⟨i+1,_,i,by omega,by omega,by go_num,rfl,rfl,by omega,FIN.out i (by rw [ht,hp,hb,decide_eq_true htb];rfl)⟩
   ·go_wp2_with (first|(go_at_call 66;refine(HPI.out _).mono ?_;rintro e w2 ⟨rfl,rfl⟩)|(go_at_call 48;refine(HLB.out _).mono ?_;rintro e w2 ⟨rfl,rfl⟩))
    have hk:=hHK.out
    go_roundg (st.A.length - i)
    case measure=>omega
    case rel=>exact⟨i+1,_,b,by omega,by omega,by go_num,rfl,rfl,by omega,FIN.out b (by rw [ht,hp,hb,decide_eq_false (by omega)];rfl)⟩
  ·have hlt': ¬(i:Int)<st.A.length:=by omega
   have hres:Hid (neM names lens st.A 0 (-1)=b):=z8 (by rw [←hfin.out,zeN (by omega)];rfl)
   go_wp2_with fail
   go_ret
   exact⟨by rw [hres.out];rfl,m,rfl⟩
end Go.Proofs.YtkoohcilbpdgeaaGreatDoor
