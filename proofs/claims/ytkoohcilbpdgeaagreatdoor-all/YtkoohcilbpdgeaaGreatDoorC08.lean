import Derived.Deep.RegionWith
import Derived.Test.YtkoohcilbpdgeaaGreatDoorC07
set_option linter.all false
set_option linter.unusedVariables false
set_option linter.unusedSimpArgs false
set_option linter.unnecessarySimpa false
set_option linter.constructorNameAsVariable false
set_option linter.deprecated false
set_option maxRecDepth 100000
set_option maxHeartbeats 6400000
namespace Go.Proofs.YtkoohcilbpdgeaaGreatDoor
open Go Go.RowKit
attribute [local go_sem] wrap64_byte
def st1 (s:zeV):St:={st0 with at_:=skip s 0 false}
def zdt (s:zeV)(w:World)(r:Int)(st':St)(e:Ending)(w':World):Prop:= ∃V iv cv,e= .returned (.tuple #[.agg #[.string s,.int .i64 st'.at_,.bool (z1n s st'.at_ st'.bad),V 3,V 4,V 5,V 6],.int .i64 r])∧TreeV w' w.heap.size st' V iv cv∧Below w.heap.size w w'
theorem zbu {w:World}{b:Nat}{s:zeV}(hs:s.size≤600)
  (h:w.heap[b]?=some (.cells #[.string s,.int .i64 0,.bool false,.slice none 0 0,.slice none 0 0,.slice none 0 0,.slice none 0 0] 66)):Rd w b s 0 false:=by
 obtain⟨q0,q1,q2,_,_,_,_,qf⟩:=z92 h
 exact⟨q0,q1,q2,qf _,qf _,zeR _,hs⟩
theorem TreeV.re {w:World}{base:Nat}{st:St}{V:Nat→Value}{iv cv:List Value}(a:Nat)(d:Bool)(h:TreeV w base {at_:=a,bad:=d,A:=st.A,L:=st.L,E:=st.E,C:=st.C} V iv cv):TreeV w base st V iv cv:=⟨h.own,h.il,h.cl,h.items,h.clauses⟩
theorem z2R (s:zeV)(n:Nat)(r:Int)(st':St)(w:World)(hM:M s n 0 0 (st1 s)=some (r,st'))(hs:s.size≤600):
  Calls Tryz.prog 39 #[.string s] w fun e w'=>zdt s w r st' e w':=by
 have HM:=z8 hM
 clear hM
 have hg0:((w.alloc (.cells z2g 66)).alloc (.cells #[.string s,.int .i64 0,.bool false,.slice none 0 0,.slice none 0 0,.slice none 0 0,.slice none 0 0] 66)).heap[w.heap.size+1]?=some (.cells #[.string s,.int .i64 0,.bool false,.slice none 0 0,.slice none 0 0,.slice none 0 0,.slice none 0 0] 66):=by
  have h:=heap_alloc_new (w.alloc (.cells z2g 66)) (.cells #[.string s,.int .i64 0,.bool false,.slice none 0 0,.slice none 0 0,.slice none 0 0,.slice none 0 0] 66)
  simp only [World.alloc,Array.size_push] at h
  exact h
 have hI0:Inv (fun k=>k≤w.heap.size) ((w.alloc (.cells z2g 66)).alloc (.cells #[.string s,.int .i64 0,.bool false,.slice none 0 0,.slice none 0 0,.slice none 0 0,.slice none 0 0] 66)) (w.heap.size+1) s st0:=z62 hs (by omega) hg0
 have hb0:((w.alloc (.cells z2g 66)).alloc (.cells #[.string s,.int .i64 0,.bool false,.slice none 0 0,.slice none 0 0,.slice none 0 0,.slice none 0 0] 66)).heap[w.heap.size]?=some (.cells z2g 66):=by
  rw [zeM _ _ _ (by simp)]
  exact heap_alloc_new w _
 have hF0:Fr (fun k=>k<w.heap.size) w ((w.alloc (.cells z2g 66)).alloc (.cells #[.string s,.int .i64 0,.bool false,.slice none 0 0,.slice none 0 0,.slice none 0 0,.slice none 0 0] 66)):=
  ((Fr.refl _ w).alloc (fun k h=>h) _).alloc (fun k h=>by have h:k<w.heap.size:=h;simp;omega) _
 unfold z2g at hI0 hb0 hF0
 have HH:=z8 (zeL hI0 (zeL hb0 hF0))
 clear hI0 hb0 hF0 hg0
 go_enter Tryz.func39,Tryz.ntmps39
 go_wp2_with fail
 obtain⟨hI0,hb0,hF0⟩:=HH.out
 clear HH
 generalize ((w.alloc (.cells #[.string ⟨#[]⟩,.int .i64 0,.bool false,.slice none 0 0,.slice none 0 0,.slice none 0 0,.slice none 0 0] 66)).alloc (.cells #[.string s,.int .i64 0,.bool false,.slice none 0 0,.slice none 0 0,.slice none 0 0,.slice none 0 0] 66))=W0 at*
 refine(z0Z _ _ _ _ _ hI0.rd).mono ?_
 rintro e w1 ⟨rfl,hr1,hs1⟩
 have hI1:Inv (fun k=>k≤w.heap.size) w1 (w.heap.size+1) s (st1 s):=hI0.sc hr1 hs1
 have hF1:=hs1.fr (X:=fun k=>k≤w.heap.size) (by omega)
 clear hr1 hs1
 go_wp2_with fail
 refine((zda s n).1 _ _ _ w1 r st' HM.out hI1 (fun j h=>by have:=hI1.lt;have h:j≤w.heap.size:=h;omega)).mono ?_
 rintro e w2 ⟨rfl,hI2,hF2⟩
 have hF3:=hF1.trans hF2
 clear hI1 hF1 hF2 hI0
 go_wp2_with fail
 refine(z2H _ _ _ _ _ hI2.rd).mono ?_
 rintro e w3 ⟨rfl,hr3,hs3⟩
 have hI3:Inv (fun k=>k≤w.heap.size) w3 (w.heap.size+1) s {st' with at_:=st'.at_,bad:=z1n s st'.at_ st'.bad}:=hI2.sc hr3 hs3
 have hf:=hF3.trans (hs3.fr (X:=fun k=>k≤w.heap.size) (by omega))
 clear hs3 hF3 hI2
 obtain⟨c0,c1,c2,f1,f2,hle,hsz⟩:=id hr3
 obtain⟨V,iv,cv,g⟩:=hI3
 have q3:=g.rows.cell 3 (by omega) (by omega)
 have q4:=g.rows.cell 4 (by omega) (by omega)
 have q5:=g.rows.cell 5 (by omega) (by omega)
 have q6:=g.rows.cell 6 (by omega) (by omega)
 obtain⟨a3,k3,e3⟩:=za (g.rows.own 3 (by omega) (by omega))
 obtain⟨a4,k4,e4⟩:=za (g.rows.own 4 (by omega) (by omega))
 obtain⟨a5,k5,e5⟩:=za (g.rows.own 5 (by omega) (by omega))
 obtain⟨a6,k6,e6⟩:=za (g.rows.own 6 (by omega) (by omega))
 rw [e3] at q3
 rw [e4] at q4
 rw [e5] at q5
 rw [e6] at q6
 obtain⟨b0,b1,b2,b3,b4,b5,b6,bf⟩:=z92 ((hf.block w.heap.size (zeK _)).trans hb0)
 have hFw:=hF0.trans (hf.mono fun k (h:k<w.heap.size)=>Nat.le_of_lt h)
 have HE:=z8 (zeL e3 (zeL e4 (zeL e5 e6)))
 have HG:=z8 (zeL g hFw)
 clear e3 e4 e5 e6 g hf hFw hF0 HM hr3
 generalize hbd:z1n s st'.at_ st'.bad=bd at*
 have HBD:=z8 hbd
 clear hbd
 go_wp2_with fail
 refine bodyPost_ret (v:= .tuple #[.agg #[.string s,.int .i64 st'.at_,.bool bd,.slice a3 (nOf {at_:=st'.at_,bad:=bd,A:=st'.A,L:=st'.L,E:=st'.E,C:=st'.C} 3) k3,.slice a4 (nOf {at_:=st'.at_,bad:=bd,A:=st'.A,L:=st'.L,E:=st'.E,C:=st'.C} 4) k4,.slice a5 (nOf {at_:=st'.at_,bad:=bd,A:=st'.A,L:=st'.L,E:=st'.E,C:=st'.C} 5) k5,.slice a6 (nOf {at_:=st'.at_,bad:=bd,A:=st'.A,L:=st'.L,E:=st'.E,C:=st'.C} 6) k6],.int .i64 r]) ?_ rfl ⟨V,iv,cv,?_,?_,?_⟩
 ·simp [results,Tryz.results39,go_sem,b0,b1,b2,b3,b4,b5,b6]
 ·rw [HE.out.1,HE.out.2.1,HE.out.2.2.1,HE.out.2.2.2,HBD.out]
 ·exact TreeV.re (st:=st') st'.at_ bd (HG.out.1.tree (by omega) fun k hk=>by
   simp only [World.setCell,Array.getElem?_modify]
   repeat rw [if_neg (by omega)])
 ·have hFw:=HG.out.2
  exact((((((Below.setCell ⟨hFw.os,hFw.tape,hFw.output,hFw.size,hFw.block⟩ (zeK _) _).setCell (zeK _) _).setCell (zeK _) _).setCell (zeK _) _).setCell (zeK _) _).setCell (zeK _) _).setCell (zeK _) _
def jF (t:zeV)(k:Int)(w:World)(e:Ending)(w':World):Prop:=e= .returned (.tuple #[.string t,.int .i64 k])∧Below w.heap.size w w'
theorem z7Y (s a:zeV)(w:World)(hs:s.size≤maxLen)(ha:a.size≤maxLen)(h:600<s.size∨100<a.size):Calls Tryz.prog 21 #[.string s,.string a] w fun e w'=>jF ⟨#[]⟩ 1 w e w':=by
 unfold maxLen at hs ha
 by_cases h1:600<s.size
 ·have h1':(600:Int)<s.size:=by omega
  go_enter Tryz.func21,Tryz.ntmps21
  go_wp2_with fail
  go_ret2
  exact⟨rfl,zeU _ _⟩
 ·have h1': ¬(600:Int)<s.size:=by omega
  have h2':(100:Int)<a.size:=by omega
  go_enter Tryz.func21,Tryz.ntmps21
  go_wp2_with fail
  go_ret2
  exact⟨rfl,zeU _ _⟩
def woM (s a:zeV)(r:Int)(st:St):zeV×Int:=
 if z1n s st.at_ st.bad then(⟨#[]⟩,2) else if tfM st.E [] != -1 then(⟨#[]⟩,5) else if(raM a).2 then(⟨#[]⟩,6) else(prM (wAt (ze (raM a).1 st.E []) r),0)
theorem z70 (s a:zeV)(n:Nat)(r:Int)(st:St)(w:World)(hM:M s n 0 0 (st1 s)=some (r,st))(hs:s.size≤600)(ha:a.size≤100)(hlen:st.E.length≤100000)
  (hll:(raM a).1.length≤100000) (hls: ∀p∈(raM a).1,p.2.size≤600) (hE: ∀x∈st.E,x.text.size≤600) (hW: ∀x∈ze (raM a).1 st.E [],x.text.size≤100000000∧ -999999999≤x.num∧x.num≤999999999) (ht:Tab w):
  Calls Tryz.prog 21 #[.string s,.string a] w fun e w'=>jF (woM s a r st).1 (woM s a r st).2 w e w':=by
 have HR:=z8 (z2R s n r st w hM hs)
 have HW:=z8 (zeL hE hW)
 have hs': ¬(600:Int)<s.size:=by omega
 have ha': ¬(100:Int)<a.size:=by omega
 have HT:=z8 ht
 clear hM hE hW ht
 go_enter Tryz.func21,Tryz.ntmps21
 go_wp2_with fail
 refine HR.out.mono ?_
 rintro e w1 ⟨V,iv,cv,rfl,hT1,hB1⟩
 have hown:=hT1.own 5 (by omega) (by omega)
 obtain⟨a3,k3,e3⟩:=za (hT1.own 3 (by omega) (by omega))
 obtain⟨a4,k4,e4⟩:=za (hT1.own 4 (by omega) (by omega))
 obtain⟨a5,k5,e5⟩:=za hown
 obtain⟨a6,k6,e6⟩:=za (hT1.own 6 (by omega) (by omega))
 have hown:w1.ownsRow w.heap.size 120 5 (V 5) st.E.length ((st.E.map Ex.cells).flatten):=hown
 rw [e5] at hown
 rw [e3,e4,e5,e6]
 generalize nOf st 3=n3 at*
 generalize nOf st 4=n4 at*
 generalize hn5:nOf st 5=n5 at*
 generalize nOf st 6=n6 at*
 have hn5':Hid (n5=st.E.length):=z8 hn5.symm
 clear hn5 e3 e4 e5 e6 hT1 HR
 have hB1':=hB1
 cases hen:z1n s st.at_ st.bad
 case true=>
  have hres:Hid (woM s a r st=(⟨#[]⟩,2)):=z8 (by unfold woM;rw [hen];rfl)
  have HB:=z8 (hB1.alloc hB1.size (.cells #[.string s,.int .i64 st.at_,.bool true,.slice a3 n3 k3,.slice a4 n4 k4,.slice a5 n5 k5,.slice a6 n6 k6] 66))
  clear hB1 hB1'
  go_wp2_with fail
  go_ret2
  exact⟨by rw [hres.out];rfl,HB.out⟩
 have hB2:=hB1.alloc hB1.size (.cells #[.string s,.int .i64 st.at_,.bool false,.slice a3 n3 k3,.slice a4 n4 k4,.slice a5 n5 k5,.slice a6 n6 k6] 66)
 have hbx:=heap_alloc_new w1 (.cells #[.string s,.int .i64 st.at_,.bool false,.slice a3 n3 k3,.slice a4 n4 k4,.slice a5 n5 k5,.slice a6 n6 k6] 66)
 have hown2:=hown.alloc (.cells #[.string s,.int .i64 st.at_,.bool false,.slice a3 n3 k3,.slice a4 n4 k4,.slice a5 n5 k5,.slice a6 n6 k6] 66)
 rw [←hn5'.out] at hown2
 have hz1:w.heap.size≤w1.heap.size:=hB1.size
 have HX:=z8 (zeL hB2 (zeL hbx hown2))
 clear hB2 hbx hown2 hown hB1 hB1'
 go_wp2_with fail
 obtain⟨hB2,hbx,hown2⟩:=HX.out
 clear HX
 have hzz:(w1.alloc (.cells #[.string s,.int .i64 st.at_,.bool false,.slice a3 n3 k3,.slice a4 n4 k4,.slice a5 n5 k5,.slice a6 n6 k6] 66)).heap.size=w1.heap.size+1:=by simp
 generalize (w1.alloc (.cells #[.string s,.int .i64 st.at_,.bool false,.slice a3 n3 k3,.slice a4 n4 k4,.slice a5 n5 k5,.slice a6 n6 k6] 66))=W2 at*
 obtain⟨b0,b1,b2,b3,b4,b5,b6,bf⟩:=z92 hbx
 have hown3:W2.ownsRow w.heap.size 120 5 (.slice a5 n5 k5) st.E.length ((st.E.map Ex.cells).flatten):=by rw [←hn5'.out];exact hown2
 refine(z2t w.heap.size w1.heap.size st.E _ W2 b5 hown3 hlen).mono ?_
 rintro e w3 ⟨rfl,hB3⟩
 cases htf:(tfM st.E [] != -1)
 case true=>
  have hres:Hid (woM s a r st=(⟨#[]⟩,5)):=z8 (by unfold woM;rw [hen,htf];rfl)
  have HB:=z8 (hB2.trans (hB3.mono (by omega)))
  clear hB3 hB2
  go_wp2_with fail
  go_ret2
  exact⟨by rw [hres.out];rfl,HB.out⟩
 have hB23:=hB2.trans (hB3.mono (by omega))
 have hbx3:=(hB3.block w1.heap.size (by omega)).trans hbx
 have hown4:=zb hown3 fun k e=>hB3.block k (hown3.lt k e).2
 have hz3:w1.heap.size<w3.heap.size:=by have:=hB3.size;omega
 have HX:=z8 (zeL hB23 (zeL hbx3 hown4))
 clear hB2 hB3 hbx hown3 hown2 hB23 hbx3 hown4 b0 b1 b2 b3 b4 b5 b6 bf
 have HR6:Hid ((raM a).2=true→woM s a r st=(⟨#[]⟩,6)):=z8 (fun h=>by unfold woM;rw [hen,htf,h];rfl)
 have HR0:Hid ((raM a).2=false→woM s a r st=(prM (wAt (ze (raM a).1 st.E []) r),0)):=z8 (fun h=>by unfold woM;rw [hen,htf,h];rfl)
 generalize tfM st.E []=tf at*
 go_wp2_with fail
 refine(z2d a w3 (by omega)).mono ?_
 rintro e w4 ⟨lv,rfl,hl4,hB4⟩
 obtain⟨hB23,hbx3,hown4⟩:=HX.out
 clear HX
 obtain⟨al,kl,rfl⟩:=za hl4
 cases hra:(raM a).2
 case true=>
  have hres:Hid (woM s a r st=(⟨#[]⟩,6)):=z8 (HR6.out hra)
  have HB:=z8 (hB23.trans (hB4.mono (by omega)))
  clear hB4 hB23
  go_wp2_with fail
  go_ret2
  exact⟨by rw [hres.out];rfl,HB.out⟩
 have hres:Hid (woM s a r st=(prM (wAt (ze (raM a).1 st.E []) r),0)):=z8 (HR0.out hra)
 clear HR6 HR0
 have hB24:=hB23.trans (hB4.mono (by omega))
 have hbx4:=(hB4.block w1.heap.size (by omega)).trans hbx3
 have hown5:=zb hown4 fun k e=>hB4.block k (hown4.lt k e).2
 have hz4:w1.heap.size<w4.heap.size:=by have:=hB4.size;omega
 have HX:=z8 (zeL hB24 (zeL hbx4 hown5))
 have HL:=z8 hl4
 clear hB4 hB23 hbx3 hown4 hB24 hbx4 hown5 hl4
 go_wp2_with fail
 obtain⟨hB24,hbx4,hown5⟩:=HX.out
 clear HX
 obtain⟨b0,b1,b2,b3,b4,b5,b6,bf⟩:=z92 hbx4
 refine(z4l w.heap.size w1.heap.size 3 w3.heap.size st.E _ (raM a).1 _ w4 b5 hown5 hlen HL.out hll hls HW.out.1 (fun x hx=>(HW.out.2 x hx).1)).mono ?_
 rintro e w5 ⟨wv,rfl,hw5,hB5⟩
 have hB25:=hB24.trans (hB5.mono (by omega))
 have hwl:(ze (raM a).1 st.E []).length≤100000:=by rw [jw];simpa using hlen
 have hbnd:(wAt (ze (raM a).1 st.E []) r).text.size≤100000000∧ -999999999≤(wAt (ze (raM a).1 st.E []) r).num∧(wAt (ze (raM a).1 st.E []) r).num≤999999999:=by
  rcases z26 (ze (raM a).1 st.E []) r with q|q
  ·rw [q];decide
  ·exact HW.out.2 _ q
 have HWA:=z8 (z0C w5.heap.size (ze (raM a).1 st.E []) wv r w5)
 obtain⟨aw,kw,hwv⟩:=za hw5
 have HW5:=z8 (z0C w4.heap.size (ze (raM a).1 st.E []) wv r w5 hw5 hwl)
 clear HWA
 generalize (ze (raM a).1 st.E [])=WW at*
 subst hwv
 have HX:=z8 hB25
 clear hB25 hB24 hB5 hw5 hbx4 hown5 b0 b1 b2 b3 b4 b5 b6 bf
 go_wp2_with fail
 refine HW5.out.mono ?_
 rintro e w6 ⟨rfl,hB6⟩
 generalize wAt WW r=O at*
 have hz5:w.heap.size≤w5.heap.size:=HX.out.size
 have hz6:w5.heap.size≤w6.heap.size:=hB6.size
 have hB26:=HX.out.trans (hB6.mono hz5)
 have hB7:=hB26.alloc (by omega) (.cells #[.int .i64 O.kind,.bool O.truth,.int .i64 O.num,.string O.text] 75)
 have HC:=z8 (z6t O _ (HT.out.below hB7) hbnd.2 (by omega))
 have HB7:=z8 hB7
 clear hB7 hB26 hB6
 go_wp2_with fail
 refine HC.out.mono ?_
 rintro e w7 ⟨rfl,hB8⟩
 have HB8:=z8 (HB7.out.trans (hB8.mono (by simp;omega)))
 generalize prM O=D at*
 clear hB8
 go_wp2_with fail
 go_ret2
 exact⟨by rw [hres.out];rfl,HB8.out⟩
theorem z9O (s a:zeV)(n:Nat)(r:Int)(st:St)(w:World)(hM:M s n 0 0 (st1 s)=some (r,st))(hs:s.size≤600)(ha:a.size≤100)(hb:st.bad=true):Calls Tryz.prog 21 #[.string s,.string a] w fun e w'=>jF ⟨#[]⟩ 2 w e w':=by
 have HR:=z8 (z2R s n r st w hM hs)
 have hs': ¬(600:Int)<s.size:=by omega
 have ha': ¬(100:Int)<a.size:=by omega
 have hen:Hid (z1n s st.at_ st.bad=true):=z8 (by unfold z1n;rw [hb];rfl)
 clear hM hb
 go_enter Tryz.func21,Tryz.ntmps21
 go_wp2_with fail
 refine HR.out.mono ?_
 rintro e w1 ⟨V,iv,cv,rfl,hT1,hB1⟩
 obtain⟨a3,k3,e3⟩:=za (hT1.own 3 (by omega) (by omega))
 obtain⟨a4,k4,e4⟩:=za (hT1.own 4 (by omega) (by omega))
 obtain⟨a5,k5,e5⟩:=za (hT1.own 5 (by omega) (by omega))
 obtain⟨a6,k6,e6⟩:=za (hT1.own 6 (by omega) (by omega))
 rw [e3,e4,e5,e6,hen.out]
 generalize nOf st 3=n3 at*
 generalize nOf st 4=n4 at*
 generalize nOf st 5=n5 at*
 generalize nOf st 6=n6 at*
 have HB:=z8 (hB1.alloc hB1.size (.cells #[.string s,.int .i64 st.at_,.bool true,.slice a3 n3 k3,.slice a4 n4 k4,.slice a5 n5 k5,.slice a6 n6 k6] 66))
 clear e3 e4 e5 e6 hT1 hB1 HR
 go_wp2_with fail
 go_ret2
 exact⟨rfl,HB.out⟩
def kc (k:Int):Int:=if k=0 then 101 else if k=1 then 98 else if k=2 then 110 else 115
def jp (x:Wt)(w:World)(e:Ending)(w':World):Prop:=e= .returned (.agg #[.int .u8 (kc x.kind),.bool x.truth,.int .i64 x.num,.string x.text])∧Below w.heap.size w w'
theorem zbJ (base:Nat)(l:List (zeV×zeV))(v:Value)(nm:zeV)(w:World)(h:w.ownsRow base 144 2 v l.length ((l.map zu).flatten))(hlen:l.length≤100000):
  Calls Tryz.prog 99 #[v,.string nm] w fun e w'=>e= .returned (.string (z1L nm l))∧w'=w:=by
 obtain⟨a0,c0,rfl⟩:=za h
 have HW:=z8 h
 clear h
 go_enter Tryz.func99,Tryz.ntmps99
 go_wp2_with fail
 go_loopg [5] (l.length+1) (fun k iv wr=> ∃(i:Nat),k+i=l.length+1∧i≤l.length∧iv= .int .i64 i∧wr=w∧Hid (z1L nm (l.drop i)=z1L nm l))
 case atStart=>exact⟨0,rfl,zeR _,rfl,rfl,rfl⟩
 case round=>
  obtain⟨i,hk,hiE,rfl,rfl,hfin⟩:=hrel
  have hHK:=z8 hk
  clear hk
  by_cases hlt:i<l.length
  ·obtain⟨g,cap,hv,hb,hg⟩:=HW.out.form (by omega)
   injection hv with e1 e2 e3
   subst e1 e3
   obtain⟨x,hx⟩: ∃x,l[i]?=some x:=⟨l[i],zeH hlt⟩
   have q0:wr.cell? ⟨g,i*2,none⟩=some (.string x.1):=zf HW.out _ _ (zI zu 2 z00 l i 0 x hx (by omega))
   have q1:wr.cell? ⟨g,i*2+1,none⟩=some (.string x.2):=zf HW.out _ _ (zI zu 2 z00 l i 1 x hx (by omega))
   have hlt':(i:Int)<l.length:=by omega
   have hst:Hid (z1L nm (l.drop i)=if x.1.toList==nm.toList then x.2 else z1L nm (l.drop (i+1))):=z8 (by
    obtain⟨hl,hx'⟩:=zeI.1 hx
    rw [zeO hl,hx']
    rfl)
   cases hq:(x.1.toList==nm.toList)
   ·go_wp2_with fail
    have hk:=hHK.out
    go_roundg (l.length - i)
    case measure=>omega
    case rel=>exact⟨i+1,by omega,by omega,by go_num,rfl,z8 (by rw [←hfin.out,hst.out,hq];rfl)⟩
   ·go_wp2_with fail
    go_ret
    exact⟨by rw [←hfin.out,hst.out,hq];simp,rfl⟩
  ·have hlt': ¬(i:Int)<l.length:=by omega
   go_wp2_with fail
   go_ret
   exact⟨by rw [←hfin.out,zeN (by omega)];simp [z1L],rfl⟩
theorem z2A (n:Int)(w:World):Calls Tryz.prog 143 #[.int .i64 n] w fun e w'=>jp (jU n) w e w':=by
 have hB:=z8 fun o:Obj=>(zeU w.heap.size w).alloc (zeK _) o
 by_cases h1:999999999<n
 ·have hx:Hid (jU n=z0K):=z8 (by unfold jU;rw [if_pos (.inl h1)])
  go_enter Tryz.func143,Tryz.ntmps143
  go_wp2_with fail
  refine bodyPost_ret (v:= .agg #[.int .u8 101,.bool false,.int .i64 0,.string ⟨#[]⟩]) (by simp [results,Tryz.results143,go_sem]) rfl ?_
  exact⟨by rw [hx.out];rfl,hB.out _⟩
 ·by_cases h2:n< -999999999
  ·have hx:Hid (jU n=z0K):=z8 (by unfold jU;rw [if_pos (.inr h2)])
   go_enter Tryz.func143,Tryz.ntmps143
   go_wp2_with fail
   refine bodyPost_ret (v:= .agg #[.int .u8 101,.bool false,.int .i64 0,.string ⟨#[]⟩]) (by simp [results,Tryz.results143,go_sem]) rfl ?_
   exact⟨by rw [hx.out];rfl,hB.out _⟩
  ·have hx:Hid (jU n=⟨2,false,n,⟨#[]⟩⟩):=z8 (by unfold jU;rw [if_neg (by omega)])
   go_enter Tryz.func143,Tryz.ntmps143
   go_wp2_with fail
   refine bodyPost_ret (v:= .agg #[.int .u8 110,.bool false,.int .i64 n,.string ⟨#[]⟩]) (by simp [results,Tryz.results143,go_sem]) rfl ?_
   exact⟨by rw [hx.out];rfl,hB.out _⟩
theorem z2u {u:zeV}(h:u.size=0):u=⟨#[]⟩:=by
 obtain⟨d⟩:=u
 have hd:d= #[]:=Array.eq_empty_of_size_eq_zero h
 rw [hd]
theorem z8j {p:Int→Bool}{s:zeV}{d:Bool}{j:Nat}(h:p (pk s j d)=false): ∀k a,a≤j→run p s d k a≤j:=by
 intro k
 induction k with
 |zero=>intro a h1;exact h1
 |succ k ih=>
  intro a h1
  unfold run
  by_cases hc:p (pk s a d)=true
  ·rw [if_pos hc]
   have:a≠j:=fun e=>by rw [e,h] at hc;cases hc
   exact ih (a+1) (by omega)
  ·rw [if_neg hc];exact h1
theorem z3N {p:Int→Bool}{s:zeV}{d:Bool}{r:Nat}(hr:p (pk s r d)=false): ∀k a,a≤r→r≤a+k→(∀j,a≤j→j<r→p (pk s j d)=true)→run p s d k a=r:=by
 intro k
 induction k with
 |zero=>
   intro a h1 h2 _;have:a=r:=by omega
   subst this;rfl
 |succ k ih=>
  intro a h1 h2 h3
  unfold run
  by_cases hc:a=r
  ·subst hc;rw [if_neg (by simp [hr])]
  ·rw [if_pos (h3 a (zeK _) (by omega))]
   exact ih (a+1) (by omega) (by omega) fun j q1 q2=>h3 j (by omega) q2
theorem z4x (t:zeV):pk t t.size false= -1:=by simp [pk]
theorem z7N {t:zeV}{m:Nat}(hm:m=if pk t (zJ t) false==48 then 1 else 9)(h:run zg t false m (zJ t)<t.size):nsM t=z0K:=by
 unfold nsM zA
 rw [←hm]
 simp only
 have h1:(jR zg m t (zJ t) false).1=run zg t false m (zJ t):=by unfold jR;simp only;split<;>rfl
 have h2:z1n t (jR zg m t (zJ t) false).1 (jR zg m t (zJ t) false).2.1=true:=by unfold z1n;rw [h1];simp [h]
 rw [h2];rfl
theorem z7k {t:zeV}{i:Nat}(hi:zJ t+i<t.size)(h:zg (pk t (zJ t+i) false)=false∨9≤i):nsM t=z0K:=by
 refine z7N rfl ?_
 rcases h with h|h
 ·exact Nat.lt_of_le_of_lt (z8j h _ _ (by omega)) hi
 ·have:=z9J zg t false (if pk t (zJ t) false==48 then 1 else 9) (zJ t)
  have:(if pk t (zJ t) false==48 then 1 else 9)≤9:=by split<;>omega
  omega
theorem z7Q {t:zeV}(h:zJ t=t.size):nsM t=z0K:=by
 unfold nsM zA
 simp only
 rw [h]
 have h1: ∀m,jR zg m t t.size false=(t.size,true,⟨#[]⟩):=fun m=>jT (jx (by rw [z4x];rfl)) (.inl rfl)
 rw [h1];rfl
theorem z9m {t:zeV}(h:pk t (zJ t) false=48)(h2:zJ t+1<t.size∨z7P t=true):nsM t=z0K:=by
 have hlt:=(z06 (s:=t) (a:=zJ t) (d:=false) (by omega)).2
 have hm:(if pk t (zJ t) false==48 then 1 else 9)=1:=by rw [h];rfl
 by_cases h3:zJ t+1<t.size
 ·refine z7N hm.symm ?_
  have:=z9J zg t false 1 (zJ t)
  omega
 ·have hn:=h2.resolve_left h3
  have hsz:t.size=zJ t+1:=by omega
  have hd:zg (pk t (zJ t) false)=true:=by rw [h];rfl
  have hr:run zg t false 1 (zJ t)=zJ t+1:=by rw [z1w hd];rfl
  have hb:jR zg 1 t (zJ t) false=(zJ t+1,false,t.extract (zJ t) (zJ t+1)):=z0M hr (by omega) (by rw [←hsz,z4x];rfl)
  have hx:((t.extract (zJ t) (zJ t+1)).toList==[48])=true:=by
   have q:=ze8 (s:=t) (p:=zJ t) 48 (by omega)
   rw [q,h];rfl
  unfold nsM zA
  rw [hm,hb]
  simp only
  rw [hx,hn]
  simp
theorem zcq {t:zeV}(h0:zJ t<t.size)(h9:t.size≤zJ t+9)(hd: ∀i,zJ t+i<t.size→zg (pk t (zJ t+i) false)=true)(hz:pk t (zJ t) false=48→ ¬zJ t+1<t.size∧z7P t=false):
  nsM t=jU (if z7P t then - z0V (t.extract (zJ t) t.size).toList else z0V (t.extract (zJ t) t.size).toList):=by
 have hdd: ∀j,zJ t≤j→j<t.size→zg (pk t j false)=true:=fun j h1 h2=>by
  have:=hd (j - zJ t) (by omega)
  rwa [show zJ t+(j - zJ t)=j by omega] at this
 have hr:run zg t false (if pk t (zJ t) false==48 then 1 else 9) (zJ t)=t.size:=by
  refine z3N (by rw [z4x];rfl) _ _ (by omega) ?_ hdd
  cases hq:(pk t (zJ t) false==48) with
  |true=>have:=hz (by simpa using hq);simp;omega
  |false=>simp;omega
 have hb:zA t (zJ t) false=(t.size,false,t.extract (zJ t) t.size):=z0M hr (by omega) (by rw [z4x];rfl)
 unfold nsM
 rw [hb]
 simp only
 have h1:z1n t t.size false=false:=by simp [z1n]
 have h2:(z7P t&&(t.extract (zJ t) t.size).toList==[48])=false:=by
  cases hn:z7P t with
  |false=>rfl
  |true=>
   cases hq:((t.extract (zJ t) t.size).toList==[48]) with
   |false=>rfl
   |true=>
    have e1:(t.extract (zJ t) t.size).toList=[48]:=by simpa using hq
    have hl:t.size=zJ t+1:=by
     have:=congrArg List.length e1
     rw [z1i] at this
     simp at this
     have hsz:t.data.size=t.size:=rfl
     omega
    rw [hl] at hq
    rw [ze8 (s:=t) (p:=zJ t) 48 (by omega)] at hq
    have:=hz (by simpa using hq)
    rw [hn] at this
    cases this.2
 rw [h1,h2];rfl
theorem z7c (t:zeV)(w:World)(hs:t.size≤600)(hn:z7P t=true):Calls Tryz.prog 98 #[.string t] w fun e w'=>jp (nsM t) w e w':=by
 have HB0:=z8 fun o:Obj=>(zeU w.heap.size w).alloc (zeK _) o
 have hf:zJ t=1:=by unfold zJ;rw [hn];rfl
 have hpk:(pk t 0 false==45)=true:=hn
 have hlt0:=(z06 (s:=t) (a:=0) (d:=false) (fun e=>by rw [e] at hpk;cases hpk)).2
 have h45:((t[0].toNat:Int)==45)=true:=by simpa [pk,hlt0] using hpk
 have hne:(t.toList==([]:List UInt8))=false:=by
  rw [zeJ]
  cases hq:(t.data.toList==([]:List UInt8)) with
  |false=>rfl
  |true=>simp at hq;exact absurd (show t.size=0 by simp [ByteArray.size,hq]) (by omega)
 have hnl: ¬t.toList=[]:=by simpa using hne
 have HU:Hid ((t.extract 1 t.size).size=t.size - 1∧ ∀i (h:i<(t.extract 1 t.size).size),((t.extract 1 t.size)[i].toNat:Int)=pk t (1+i) false):=z8 (by
  have hsz:(t.extract 1 t.size).size=t.size - 1:=by simp
  refine⟨hsz,fun i h=> ?_⟩
  have h1:1+i<t.size:=by omega
  have:pk t (1+i) false=(t[1+i].toNat:Int):=by simp [pk,h1]
  rw [this]
  simp [ByteArray.getElem_extract])
 have HEX:Hid ((t.extract (zJ t) t.size).toList=(t.extract 1 t.size).toList):=z8 (by rw [hf])
 have hz0:(w.alloc (.cells #[.int .u8 0,.bool false,.int .i64 0,.string ⟨#[]⟩] 102)).heap.size=w.heap.size+1:=by simp
 have HBX:=z8 (HB0.out (.cells #[.int .u8 0,.bool false,.int .i64 0,.string ⟨#[]⟩] 102))
 have HX:=z8 (heap_alloc_new w (.cells #[.int .u8 0,.bool false,.int .i64 0,.string ⟨#[]⟩] 102))
 have H0:=z8 hz0
 clear hz0
 go_enter Tryz.func98,Tryz.ntmps98
 go_wp2_with fail
 have hz0:=H0.out
 generalize (w.alloc (.cells #[.int .u8 0,.bool false,.int .i64 0,.string ⟨#[]⟩] 102))=W1 at*
 generalize t.extract 1 t.size=u at*
 have hus1:u.size+1≤t.size:=by have:=HU.out.1;omega
 have hus2:t.size≤u.size+1:=by have:=HU.out.1;omega
 have hul:u.size≤600:=by omega
 obtain⟨y0,y1,y2,y3,g0,g1,g2,g3⟩:=zZ HX.out
 go_loopg [5,6] (u.size+1) (fun k nv iv wr=> ∃i:Nat,k+i=u.size+1∧i≤u.size∧i≤9∧iv= .int .i64 i∧nv= .int .i64 (z0V (u.toList.take i))∧wr=W1∧Hid (zbE (u.toList.take i)))
 case atStart=>exact⟨0,rfl,zeR _,by omega,rfl,rfl,rfl,z8 (fun c hc=>by simp at hc)⟩
 case round=>
  obtain⟨i,hk,hil,hi9,rfl,rfl,rfl,hdg⟩:=hrel
  have HK:=z8 hk
  clear hk
  by_cases hlt:i<u.size
  ·have hlt':(i:Int)<u.size:=by omega
   have hpi:Hid ((u[i].toNat:Int)=pk t (1+i) false):=z8 (HU.out.2 i hlt)
   have hrng:0≤(u[i].toNat:Int)∧(u[i].toNat:Int)≤255:=by have:=u[i].toNat_lt;omega
   cases hdd:zg (u[i].toNat:Int)
   case false=>
    have hres:Hid (nsM t=z0K):=z8 (z7k (i:=i) (by rw [hf];omega) (.inl (by rw [hf,←hpi.out];exact hdd)))
    go_wp2_with (go_at_call 142;refine(jc _ _ hrng).mono ?_;rintro e w2 ⟨rfl,rfl⟩)
    obtain⟨z0,z1,z2,z3⟩:=zn HX.out (.int .u8 101) (.bool false) (.int .i64 0) (.string ⟨#[]⟩)
    refine bodyPost_ret (v:= .agg #[.int .u8 101,.bool false,.int .i64 0,.string ⟨#[]⟩]) (by simp [results,Tryz.results98,go_sem,z0,z1,z2,z3]) rfl ?_
    exact⟨by rw [hres.out];rfl,zv HBX.out (zeK _) _ _ _ _⟩
   case true=>
   by_cases h9:9≤i
   ·have h9':(9:Int)≤i:=by omega
    have hres:Hid (nsM t=z0K):=z8 (z7k (i:=i) (by rw [hf];omega) (.inr h9))
    go_wp2_with (go_at_call 142;refine(jc _ _ hrng).mono ?_;rintro e w2 ⟨rfl,rfl⟩)
    obtain⟨z0,z1,z2,z3⟩:=zn HX.out (.int .u8 101) (.bool false) (.int .i64 0) (.string ⟨#[]⟩)
    refine bodyPost_ret (v:= .agg #[.int .u8 101,.bool false,.int .i64 0,.string ⟨#[]⟩]) (by simp [results,Tryz.results98,go_sem,z0,z1,z2,z3]) rfl ?_
    exact⟨by rw [hres.out];rfl,zv HBX.out (zeK _) _ _ _ _⟩
   ·have h9': ¬(9:Int)≤i:=by omega
    have hget:u.toList[i]?=some u[i]:=by rw [zeJ,zeH (show i<u.data.toList.length from hlt)];rfl
    have hc:48≤u[i].toNat∧u[i].toNat≤57:=by simp [zg] at hdd;omega
    have hdg':Hid (zbE (u.toList.take (i+1))):=z8 (by
     rw [List.take_add_one,hget]
     intro c hcm
     rcases List.mem_append.1 hcm with q|q
     ·exact hdg.out c q
     ·simp at q;subst q;exact hc)
    have hr1:=z0m (u.toList.take i) hdg.out (by rw [List.length_take];omega)
    have hst:Hid (z0V (u.toList.take (i+1))=z0V (u.toList.take i)*10+((u[i].toNat:Int)- 48)):=z8 (by rw [List.take_add_one,hget];exact z1t _ _)
    have hr2:=z0m (u.toList.take (i+1)) hdg'.out (by rw [List.length_take];omega)
    rw [hst.out] at hr2
    generalize z0V (u.toList.take i)=n at*
    have hc1:48≤(u[i].toNat:Int):=by omega
    have hc2:(u[i].toNat:Int)≤57:=by omega
    go_wp2_with (go_at_call 142;refine(jc _ _ hrng).mono ?_;rintro e w2 ⟨rfl,rfl⟩)
    have hk:=HK.out
    go_roundg (u.size - i)
    case measure=>omega
    case rel=>exact⟨i+1,by omega,by omega,by omega,by go_num,by rw [hst.out];go_num,rfl,hdg'⟩
  ·have hlt': ¬(i:Int)<u.size:=by omega
   have hiu:i=u.size:=by omega
   have hall:u.toList.take i=u.toList:=List.take_of_length_le (by rw [zeJ];show u.size≤i;omega)
   rw [hall] at hdg ⊢
   have hu9:u.size≤9:=by omega
   clear hiu hall
   have hr1:=z0m u.toList hdg.out (by rw [zeJ];show u.size≤9;omega)
   by_cases hz:u.size=0
   ·have hu0:u=⟨#[]⟩:=z2u hz
    have hres:Hid (nsM t=z0K):=z8 (z7Q (by rw [hf];omega))
    subst hu0
    generalize z0V (ByteArray.mk #[]).toList=n at*
    go_wp2_with fail
    obtain⟨z0,z1,z2,z3⟩:=zn HX.out (.int .u8 101) (.bool false) (.int .i64 0) (.string ⟨#[]⟩)
    refine bodyPost_ret (v:= .agg #[.int .u8 101,.bool false,.int .i64 0,.string ⟨#[]⟩]) (by simp [results,Tryz.results98,go_sem,z0,z1,z2,z3]) rfl ?_
    exact⟨by rw [hres.out];rfl,zv HBX.out (zeK _) _ _ _ _⟩
   ·have hz':0<u.size:=by omega
    have hune:(u.toList==([]:List UInt8))=false:=by
     rw [zeJ]
     cases hq:(u.data.toList==([]:List UInt8)) with
     |false=>rfl
     |true=>simp at hq;exact absurd (show u.size=0 by simp [ByteArray.size,hq]) hz
    have hp0:=z8 (HU.out.2 0 hz')
    cases h48:((u[0].toNat:Int)==48)
    case true=>
     have hpz:pk t (zJ t) false=48:=by rw [hf];have:=hp0.out;simp at h48 this;omega
     have hres:Hid (nsM t=z0K):=z8 (z9m hpz (.inr hn))
     by_cases hu1:1<u.size
     ·have hu1':(1:Int)<u.size:=by omega
      generalize z0V u.toList=n at*
      go_wp2_with fail
      obtain⟨z0,z1,z2,z3⟩:=zn HX.out (.int .u8 101) (.bool false) (.int .i64 0) (.string ⟨#[]⟩)
      refine bodyPost_ret (v:= .agg #[.int .u8 101,.bool false,.int .i64 0,.string ⟨#[]⟩]) (by simp [results,Tryz.results98,go_sem,z0,z1,z2,z3]) rfl ?_
      exact⟨by rw [hres.out];rfl,zv HBX.out (zeK _) _ _ _ _⟩
     ·have hu1': ¬(1:Int)<u.size:=by omega
      generalize z0V u.toList=n at*
      go_wp2_with fail
      obtain⟨z0,z1,z2,z3⟩:=zn HX.out (.int .u8 101) (.bool false) (.int .i64 0) (.string ⟨#[]⟩)
      refine bodyPost_ret (v:= .agg #[.int .u8 101,.bool false,.int .i64 0,.string ⟨#[]⟩]) (by simp [results,Tryz.results98,go_sem,z0,z1,z2,z3]) rfl ?_
      exact⟨by rw [hres.out];rfl,zv HBX.out (zeK _) _ _ _ _⟩
    case false=>
     have hres:Hid (nsM t=jU (- z0V u.toList)):=z8 (by
      have q:=zcq (t:=t) (by rw [hf];omega) (by rw [hf];omega) (fun j hj=>by
       rw [hf] at hj ⊢
       have hj':j<u.size:=by omega
       rw [←HU.out.2 j hj']
       have:=hdg.out u[j] (zeP (i:=j) (by rw [zeJ,zeH (show j<u.data.toList.length from hj')];rfl))
       simp [zg];omega) (fun e=>by rw [hf] at e;have:=hp0.out;simp at h48 this;omega)
      rw [hn,HEX.out] at q
      exact q)
     generalize z0V u.toList=n at*
     have hwn:Hid (jU (-n)=⟨2,false,(-n),⟨#[]⟩⟩):=z8 (by unfold jU;rw [if_neg (by omega)])
     go_wp2_with fail
     obtain⟨z0,z1,z2,z3⟩:=zn HX.out (.int .u8 110) (.bool false) (.int .i64 (-n)) (.string ⟨#[]⟩)
     refine bodyPost_ret (v:= .agg #[.int .u8 110,.bool false,.int .i64 (-n),.string ⟨#[]⟩]) (by simp [results,Tryz.results98,go_sem,z0,z1,z2,z3]) rfl ?_
     exact⟨by rw [hres.out,hwn.out];rfl,zv HBX.out (zeK _) _ _ _ _⟩
theorem z6W (t:zeV)(w:World)(hs:t.size≤600)(hn:z7P t=false)(hlt0:0<t.size):Calls Tryz.prog 98 #[.string t] w fun e w'=>jp (nsM t) w e w':=by
 have HB0:=z8 fun o:Obj=>(zeU w.heap.size w).alloc (zeK _) o
 have hf:zJ t=0:=by unfold zJ;rw [hn];rfl
 have hpk:(pk t 0 false==45)=false:=hn
 have HU:Hid (t.size=t.size - 0∧ ∀i (h:i<t.size),(t[i].toNat:Int)=pk t (0+i) false):=z8 ⟨by omega,fun i h=>by simp [pk,h]⟩
 have HEX:Hid ((t.extract (zJ t) t.size).toList=t.toList):=z8 (by rw [hf,z1i,zeJ];exact List.take_of_length_le (zeK _))
 have hz0:(w.alloc (.cells #[.int .u8 0,.bool false,.int .i64 0,.string ⟨#[]⟩] 102)).heap.size=w.heap.size+1:=by simp
 have HBX:=z8 (HB0.out (.cells #[.int .u8 0,.bool false,.int .i64 0,.string ⟨#[]⟩] 102))
 have HX:=z8 (heap_alloc_new w (.cells #[.int .u8 0,.bool false,.int .i64 0,.string ⟨#[]⟩] 102))
 have H0:=z8 hz0
 clear hz0
 have h45:((t[0].toNat:Int)==45)=false:=by simpa [pk,hlt0] using hpk
 have hne:(t.toList==([]:List UInt8))=false:=by
  rw [zeJ]
  cases hq:(t.data.toList==([]:List UInt8)) with
  |false=>rfl
  |true=>simp at hq;exact absurd (show t.size=0 by simp [ByteArray.size,hq]) (by omega)
 have hnl: ¬t.toList=[]:=by simpa using hne
 go_enter Tryz.func98,Tryz.ntmps98
 go_wp2_with fail
 have hz0:=H0.out
 generalize (w.alloc (.cells #[.int .u8 0,.bool false,.int .i64 0,.string ⟨#[]⟩] 102))=W1 at*
 clear h45 hne hnl
 have hus1:t.size+0≤t.size:=by have:=HU.out.1;omega
 have hus2:t.size≤t.size+0:=by have:=HU.out.1;omega
 have hul:t.size≤600:=by omega
 obtain⟨y0,y1,y2,y3,g0,g1,g2,g3⟩:=zZ HX.out
 go_loopg [5,6] (t.size+1) (fun k nv iv wr=> ∃i:Nat,k+i=t.size+1∧i≤t.size∧i≤9∧iv= .int .i64 i∧nv= .int .i64 (z0V (t.toList.take i))∧wr=W1∧Hid (zbE (t.toList.take i)))
 case atStart=>exact⟨0,rfl,zeR _,by omega,rfl,rfl,rfl,z8 (fun c hc=>by simp at hc)⟩
 case round=>
  obtain⟨i,hk,hil,hi9,rfl,rfl,rfl,hdg⟩:=hrel
  have HK:=z8 hk
  clear hk
  by_cases hlt:i<t.size
  ·have hlt':(i:Int)<t.size:=by omega
   have hpi:Hid ((t[i].toNat:Int)=pk t (0+i) false):=z8 (HU.out.2 i hlt)
   have hrng:0≤(t[i].toNat:Int)∧(t[i].toNat:Int)≤255:=by have:=t[i].toNat_lt;omega
   cases hdd:zg (t[i].toNat:Int)
   case false=>
    have hres:Hid (nsM t=z0K):=z8 (z7k (i:=i) (by rw [hf];omega) (.inl (by rw [hf,←hpi.out];exact hdd)))
    go_wp2_with (go_at_call 142;refine(jc _ _ hrng).mono ?_;rintro e w2 ⟨rfl,rfl⟩)
    obtain⟨z0,z1,z2,z3⟩:=zn HX.out (.int .u8 101) (.bool false) (.int .i64 0) (.string ⟨#[]⟩)
    refine bodyPost_ret (v:= .agg #[.int .u8 101,.bool false,.int .i64 0,.string ⟨#[]⟩]) (by simp [results,Tryz.results98,go_sem,z0,z1,z2,z3]) rfl ?_
    exact⟨by rw [hres.out];rfl,zv HBX.out (zeK _) _ _ _ _⟩
   case true=>
   by_cases h9:9≤i
   ·have h9':(9:Int)≤i:=by omega
    have hres:Hid (nsM t=z0K):=z8 (z7k (i:=i) (by rw [hf];omega) (.inr h9))
    go_wp2_with (go_at_call 142;refine(jc _ _ hrng).mono ?_;rintro e w2 ⟨rfl,rfl⟩)
    obtain⟨z0,z1,z2,z3⟩:=zn HX.out (.int .u8 101) (.bool false) (.int .i64 0) (.string ⟨#[]⟩)
    refine bodyPost_ret (v:= .agg #[.int .u8 101,.bool false,.int .i64 0,.string ⟨#[]⟩]) (by simp [results,Tryz.results98,go_sem,z0,z1,z2,z3]) rfl ?_
    exact⟨by rw [hres.out];rfl,zv HBX.out (zeK _) _ _ _ _⟩
   ·have h9': ¬(9:Int)≤i:=by omega
    have hget:t.toList[i]?=some t[i]:=by rw [zeJ,zeH (show i<t.data.toList.length from hlt)];rfl
    have hc:48≤t[i].toNat∧t[i].toNat≤57:=by simp [zg] at hdd;omega
    have hdg':Hid (zbE (t.toList.take (i+1))):=z8 (by
     rw [List.take_add_one,hget]
     intro c hcm
     rcases List.mem_append.1 hcm with q|q
     ·exact hdg.out c q
     ·simp at q;subst q;exact hc)
    have hr1:=z0m (t.toList.take i) hdg.out (by rw [List.length_take];omega)
    have hst:Hid (z0V (t.toList.take (i+1))=z0V (t.toList.take i)*10+((t[i].toNat:Int)- 48)):=z8 (by rw [List.take_add_one,hget];exact z1t _ _)
    have hr2:=z0m (t.toList.take (i+1)) hdg'.out (by rw [List.length_take];omega)
    rw [hst.out] at hr2
    generalize z0V (t.toList.take i)=n at*
    have hc1:48≤(t[i].toNat:Int):=by omega
    have hc2:(t[i].toNat:Int)≤57:=by omega
    go_wp2_with (go_at_call 142;refine(jc _ _ hrng).mono ?_;rintro e w2 ⟨rfl,rfl⟩)
    have hk:=HK.out
    go_roundg (t.size - i)
    case measure=>omega
    case rel=>exact⟨i+1,by omega,by omega,by omega,by go_num,by rw [hst.out];go_num,rfl,hdg'⟩
  ·have hlt': ¬(i:Int)<t.size:=by omega
   have hiu:i=t.size:=by omega
   have hall:t.toList.take i=t.toList:=List.take_of_length_le (by rw [zeJ];show t.size≤i;omega)
   rw [hall] at hdg ⊢
   have hu9:t.size≤9:=by omega
   clear hiu hall
   have hr1:=z0m t.toList hdg.out (by rw [zeJ];show t.size≤9;omega)
   by_cases hz:t.size=0
   ·exact absurd hz (by omega)
   ·have hz':0<t.size:=by omega
    have hune:(t.toList==([]:List UInt8))=false:=by
     rw [zeJ]
     cases hq:(t.data.toList==([]:List UInt8)) with
     |false=>rfl
     |true=>simp at hq;exact absurd (show t.size=0 by simp [ByteArray.size,hq]) hz
    have hp0:=z8 (HU.out.2 0 hz')
    cases h48:((t[0].toNat:Int)==48)
    case true=>
     have hpz:pk t (zJ t) false=48:=by rw [hf];have:=hp0.out;simp at h48 this;omega
     by_cases hu1:1<t.size
     ·have hu1':(1:Int)<t.size:=by omega
      have hres:Hid (nsM t=z0K):=z8 (z9m hpz (.inl (by rw [hf];omega)))
      generalize z0V t.toList=n at*
      go_wp2_with fail
      obtain⟨z0,z1,z2,z3⟩:=zn HX.out (.int .u8 101) (.bool false) (.int .i64 0) (.string ⟨#[]⟩)
      refine bodyPost_ret (v:= .agg #[.int .u8 101,.bool false,.int .i64 0,.string ⟨#[]⟩]) (by simp [results,Tryz.results98,go_sem,z0,z1,z2,z3]) rfl ?_
      exact⟨by rw [hres.out];rfl,zv HBX.out (zeK _) _ _ _ _⟩
     ·have hu1': ¬(1:Int)<t.size:=by omega
      have hres:Hid (nsM t=jU (z0V t.toList)):=z8 (by
       have q:=zcq (t:=t) (by rw [hf];omega) (by rw [hf];omega) (fun j hj=>by
        rw [hf] at hj ⊢
        have hj':j<t.size:=by omega
        rw [←HU.out.2 j hj']
        have:=hdg.out t[j] (zeP (i:=j) (by rw [zeJ,zeH (show j<t.data.toList.length from hj')];rfl))
        simp [zg];omega) (fun _=>⟨by rw [hf];omega,hn⟩)
       rw [hn,HEX.out] at q
       exact q)
      generalize z0V t.toList=n at*
      have hwn:Hid (jU n=⟨2,false,n,⟨#[]⟩⟩):=z8 (by unfold jU;rw [if_neg (by omega)])
      go_wp2_with fail
      obtain⟨z0,z1,z2,z3⟩:=zn HX.out (.int .u8 110) (.bool false) (.int .i64 n) (.string ⟨#[]⟩)
      refine bodyPost_ret (v:= .agg #[.int .u8 110,.bool false,.int .i64 n,.string ⟨#[]⟩]) (by simp [results,Tryz.results98,go_sem,z0,z1,z2,z3]) rfl ?_
      exact⟨by rw [hres.out,hwn.out];rfl,zv HBX.out (zeK _) _ _ _ _⟩
    case false=>
     have hres:Hid (nsM t=jU (z0V t.toList)):=z8 (by
      have q:=zcq (t:=t) (by rw [hf];omega) (by rw [hf];omega) (fun j hj=>by
       rw [hf] at hj ⊢
       have hj':j<t.size:=by omega
       rw [←HU.out.2 j hj']
       have:=hdg.out t[j] (zeP (i:=j) (by rw [zeJ,zeH (show j<t.data.toList.length from hj')];rfl))
       simp [zg];omega) (fun e=>by rw [hf] at e;have:=hp0.out;simp at h48 this;omega)
      rw [hn,HEX.out] at q
      exact q)
     generalize z0V t.toList=n at*
     have hwn:Hid (jU n=⟨2,false,n,⟨#[]⟩⟩):=z8 (by unfold jU;rw [if_neg (by omega)])
     go_wp2_with fail
     obtain⟨z0,z1,z2,z3⟩:=zn HX.out (.int .u8 110) (.bool false) (.int .i64 n) (.string ⟨#[]⟩)
     refine bodyPost_ret (v:= .agg #[.int .u8 110,.bool false,.int .i64 n,.string ⟨#[]⟩]) (by simp [results,Tryz.results98,go_sem,z0,z1,z2,z3]) rfl ?_
     exact⟨by rw [hres.out,hwn.out];rfl,zv HBX.out (zeK _) _ _ _ _⟩
theorem z4V (w:World):Calls Tryz.prog 98 #[.string ⟨#[]⟩] w fun e w'=>jp (nsM ⟨#[]⟩) w e w':=by
 have HB0:=z8 ((zeU w.heap.size w).alloc (zeK _) (.cells #[.int .u8 0,.bool false,.int .i64 0,.string ⟨#[]⟩] 102))
 have hres:Hid (nsM ⟨#[]⟩=z0K):=z8 (z7Q rfl)
 have HX:=z8 (heap_alloc_new w (.cells #[.int .u8 0,.bool false,.int .i64 0,.string ⟨#[]⟩] 102))
 obtain⟨y0,y1,y2,y3,g0,g1,g2,g3⟩:=zZ HX.out
 go_enter Tryz.func98,Tryz.ntmps98
 go_wp2_with fail
 go_loopg [5,6] 1 (fun k nv iv wr=>iv= .int .i64 0∧nv= .int .i64 0∧wr=(w.alloc (.cells #[.int .u8 0,.bool false,.int .i64 0,.string ⟨#[]⟩] 102)))
 case atStart=>exact⟨rfl,rfl,rfl⟩
 case round=>
  obtain⟨rfl,rfl,rfl⟩:=hrel
  go_wp2_with fail
  refine bodyPost_ret (v:= .agg #[.int .u8 101,.bool false,.int .i64 0,.string ⟨#[]⟩]) (by simp [results,Tryz.results98,go_sem]) rfl ?_
  refine⟨by rw [hres.out];rfl,?_⟩
  exact(zeU w.heap.size w).alloc (zeK _) _
theorem z3W (t:zeV)(w:World)(hs:t.size≤600):Calls Tryz.prog 98 #[.string t] w fun e w'=>jp (nsM t) w e w':=by
 cases hn:z7P t with
 |true=>exact z7c t w hs hn
 |false=>
  by_cases h0:0<t.size
  ·exact z6W t w hs hn h0
  ·rw [z2u (u:=t) (by omega)];exact z4V w
def z0z (t:zeV)(x y:Wt):Wt:=if j7 t then ju t x.num y.num else if t.toList==[46] then z4A (x.text++y.text) else z0u (z22 t x y)
theorem z66 (t:zeV)(xc:Int)(xk:Int)(xb:Bool)(xn:Int)(xt:zeV)(yc:Int)(yk:Int)(yb:Bool)(yn:Int)(yt:zeV)(w:World)(hx:xt.size≤400000000)(hy:yt.size≤400000000)(hc:j7 t=true∨(t.toList==[46])=true):Calls Tryz.prog 100 #[.string t,.agg #[.int .u8 xc,.bool xb,.int .i64 xn,.string xt],.agg #[.int .u8 yc,.bool yb,.int .i64 yn,.string yt]] w fun e w'=>jp (z0z t ⟨xk,xb,xn,xt⟩ ⟨yk,yb,yn,yt⟩) w e w':=by
 have HB0:Hid (Below w.heap.size w (((w.alloc (.cells #[.int .u8 xc,.bool xb,.int .i64 xn,.string xt] 102)).alloc (.cells #[.int .u8 yc,.bool yb,.int .i64 yn,.string yt] 102)).alloc (.cells #[.int .u8 0,.bool false,.int .i64 0,.string ⟨#[]⟩] 102))):=z8 ((((zeU w.heap.size w).alloc (zeK _) (.cells #[.int .u8 xc,.bool xb,.int .i64 xn,.string xt] 102)).alloc (by simp<;>omega) (.cells #[.int .u8 yc,.bool yb,.int .i64 yn,.string yt] 102)).alloc (by simp<;>omega) (.cells #[.int .u8 0,.bool false,.int .i64 0,.string ⟨#[]⟩] 102))
 have HX:Hid ((((w.alloc (.cells #[.int .u8 xc,.bool xb,.int .i64 xn,.string xt] 102)).alloc (.cells #[.int .u8 yc,.bool yb,.int .i64 yn,.string yt] 102)).alloc (.cells #[.int .u8 0,.bool false,.int .i64 0,.string ⟨#[]⟩] 102)).heap[w.heap.size+1+1]?=some (.cells #[.int .u8 0,.bool false,.int .i64 0,.string ⟨#[]⟩] 102)):=z8 (by have q:=heap_alloc_new ((w.alloc (.cells #[.int .u8 xc,.bool xb,.int .i64 xn,.string xt] 102)).alloc (.cells #[.int .u8 yc,.bool yb,.int .i64 yn,.string yt] 102)) (.cells #[.int .u8 0,.bool false,.int .i64 0,.string ⟨#[]⟩] 102);rw [show((w.alloc (.cells #[.int .u8 xc,.bool xb,.int .i64 xn,.string xt] 102)).alloc (.cells #[.int .u8 yc,.bool yb,.int .i64 yn,.string yt] 102)).heap.size=w.heap.size+1+1 by simp] at q;exact q)
 have HZ:Hid (w.heap.size+1+1<(((w.alloc (.cells #[.int .u8 xc,.bool xb,.int .i64 xn,.string xt] 102)).alloc (.cells #[.int .u8 yc,.bool yb,.int .i64 yn,.string yt] 102)).alloc (.cells #[.int .u8 0,.bool false,.int .i64 0,.string ⟨#[]⟩] 102)).heap.size):=z8 (by simp)
 have HZ1:Hid (w.heap.size≤(((w.alloc (.cells #[.int .u8 xc,.bool xb,.int .i64 xn,.string xt] 102)).alloc (.cells #[.int .u8 yc,.bool yb,.int .i64 yn,.string yt] 102)).alloc (.cells #[.int .u8 0,.bool false,.int .i64 0,.string ⟨#[]⟩] 102)).heap.size):=z8 (by simp<;>omega)
 have HG:Hid (w.heap.size≤w.heap.size+1+1):=z8 (by omega)
 cases h1:(t.toList==[43])
 case true=>
  have hcc:j7 t=true:=by unfold j7;simp [h1]
  have hres:Hid (z0z t ⟨xk,xb,xn,xt⟩ ⟨yk,yb,yn,yt⟩=jU (wrap64 (xn+yn))):=z8 (by unfold z0z;rw [hcc];show ju t xn yn=_;unfold ju;rw [h1];rfl)
  have HC:=z8 (z2A (wrap64 (xn+yn)) (((w.alloc (.cells #[.int .u8 xc,.bool xb,.int .i64 xn,.string xt] 102)).alloc (.cells #[.int .u8 yc,.bool yb,.int .i64 yn,.string yt] 102)).alloc (.cells #[.int .u8 0,.bool false,.int .i64 0,.string ⟨#[]⟩] 102)))
  generalize hX:jU (wrap64 (xn+yn))=X at*
  clear hX
  go_enter Tryz.func100,Tryz.ntmps100
  go_wp2_with fail
  refine HC.out.mono ?_
  rintro e w1 ⟨rfl,hB1⟩
  have hbx:=(hB1.block _ HZ.out).trans HX.out
  obtain⟨y0,y1,y2,y3,g0,g1,g2,g3⟩:=zZ hbx
  obtain⟨z0,z1,z2,z3⟩:=zn hbx (.int .u8 (kc X.kind)) (.bool X.truth) (.int .i64 X.num) (.string X.text)
  have HB2:=z8 (zv (HB0.out.trans (hB1.mono HZ1.out)) HG.out (.int .u8 (kc X.kind)) (.bool X.truth) (.int .i64 X.num) (.string X.text))
  clear hbx hB1
  go_wp2_with fail
  refine bodyPost_ret (v:= .agg #[.int .u8 (kc X.kind),.bool X.truth,.int .i64 X.num,.string X.text]) (by simp [results,Tryz.results100,go_sem,z0,z1,z2,z3]) rfl ?_
  exact⟨by rw [hres.out],HB2.out⟩
 cases h2:(t.toList==[45])
 case true=>
  have hcc:j7 t=true:=by unfold j7;simp [h2]
  have hres:Hid (z0z t ⟨xk,xb,xn,xt⟩ ⟨yk,yb,yn,yt⟩=jU (wrap64 (xn - yn))):=z8 (by unfold z0z;rw [hcc];show ju t xn yn=_;unfold ju;rw [h1,h2];rfl)
  have HC:=z8 (z2A (wrap64 (xn - yn)) (((w.alloc (.cells #[.int .u8 xc,.bool xb,.int .i64 xn,.string xt] 102)).alloc (.cells #[.int .u8 yc,.bool yb,.int .i64 yn,.string yt] 102)).alloc (.cells #[.int .u8 0,.bool false,.int .i64 0,.string ⟨#[]⟩] 102)))
  generalize hX:jU (wrap64 (xn - yn))=X at*
  clear hX
  go_enter Tryz.func100,Tryz.ntmps100
  go_wp2_with fail
  refine HC.out.mono ?_
  rintro e w1 ⟨rfl,hB1⟩
  have hbx:=(hB1.block _ HZ.out).trans HX.out
  obtain⟨y0,y1,y2,y3,g0,g1,g2,g3⟩:=zZ hbx
  obtain⟨z0,z1,z2,z3⟩:=zn hbx (.int .u8 (kc X.kind)) (.bool X.truth) (.int .i64 X.num) (.string X.text)
  have HB2:=z8 (zv (HB0.out.trans (hB1.mono HZ1.out)) HG.out (.int .u8 (kc X.kind)) (.bool X.truth) (.int .i64 X.num) (.string X.text))
  clear hbx hB1
  go_wp2_with fail
  refine bodyPost_ret (v:= .agg #[.int .u8 (kc X.kind),.bool X.truth,.int .i64 X.num,.string X.text]) (by simp [results,Tryz.results100,go_sem,z0,z1,z2,z3]) rfl ?_
  exact⟨by rw [hres.out],HB2.out⟩
 cases h3:(t.toList==[42])
 case true=>
  have hcc:j7 t=true:=by unfold j7;simp [h3]
  have hres:Hid (z0z t ⟨xk,xb,xn,xt⟩ ⟨yk,yb,yn,yt⟩=jU (wrap64 (xn*yn))):=z8 (by unfold z0z;rw [hcc];show ju t xn yn=_;unfold ju;rw [h1,h2,h3];rfl)
  have HC:=z8 (z2A (wrap64 (xn*yn)) (((w.alloc (.cells #[.int .u8 xc,.bool xb,.int .i64 xn,.string xt] 102)).alloc (.cells #[.int .u8 yc,.bool yb,.int .i64 yn,.string yt] 102)).alloc (.cells #[.int .u8 0,.bool false,.int .i64 0,.string ⟨#[]⟩] 102)))
  generalize hX:jU (wrap64 (xn*yn))=X at*
  clear hX
  go_enter Tryz.func100,Tryz.ntmps100
  go_wp2_with fail
  refine HC.out.mono ?_
  rintro e w1 ⟨rfl,hB1⟩
  have hbx:=(hB1.block _ HZ.out).trans HX.out
  obtain⟨y0,y1,y2,y3,g0,g1,g2,g3⟩:=zZ hbx
  obtain⟨z0,z1,z2,z3⟩:=zn hbx (.int .u8 (kc X.kind)) (.bool X.truth) (.int .i64 X.num) (.string X.text)
  have HB2:=z8 (zv (HB0.out.trans (hB1.mono HZ1.out)) HG.out (.int .u8 (kc X.kind)) (.bool X.truth) (.int .i64 X.num) (.string X.text))
  clear hbx hB1
  go_wp2_with fail
  refine bodyPost_ret (v:= .agg #[.int .u8 (kc X.kind),.bool X.truth,.int .i64 X.num,.string X.text]) (by simp [results,Tryz.results100,go_sem,z0,z1,z2,z3]) rfl ?_
  exact⟨by rw [hres.out],HB2.out⟩
 cases h4:(t.toList==[47])
 case true=>
  cases h0:(yn==0)
  case true=>
   have hcc:j7 t=true:=by unfold j7;simp [h4]
   have hres:Hid (z0z t ⟨xk,xb,xn,xt⟩ ⟨yk,yb,yn,yt⟩=z0K):=z8 (by unfold z0z;rw [hcc];show ju t xn yn=_;unfold ju;rw [h1,h2,h3,h0];rfl)
   go_enter Tryz.func100,Tryz.ntmps100
   go_wp2_with fail
   refine bodyPost_ret (v:= .agg #[.int .u8 101,.bool false,.int .i64 0,.string ⟨#[]⟩]) (by simp [results,Tryz.results100,go_sem]) rfl ?_
   exact⟨by rw [hres.out];rfl,((((zeU w.heap.size w).alloc (zeK _) _).alloc (by simp<;>omega) _).alloc (by simp<;>omega) _)⟩
  have h0': ¬yn=0:=by simpa using h0
  have hcc:j7 t=true:=by unfold j7;simp [h4]
  have hres:Hid (z0z t ⟨xk,xb,xn,xt⟩ ⟨yk,yb,yn,yt⟩=jU (wrap64 (xn.tdiv yn))):=z8 (by unfold z0z;rw [hcc];show ju t xn yn=_;unfold ju;rw [h1,h2,h3,h0,h4];rfl)
  have HC:=z8 (z2A (wrap64 (xn.tdiv yn)) (((w.alloc (.cells #[.int .u8 xc,.bool xb,.int .i64 xn,.string xt] 102)).alloc (.cells #[.int .u8 yc,.bool yb,.int .i64 yn,.string yt] 102)).alloc (.cells #[.int .u8 0,.bool false,.int .i64 0,.string ⟨#[]⟩] 102)))
  generalize hX:jU (wrap64 (xn.tdiv yn))=X at*
  clear hX
  go_enter Tryz.func100,Tryz.ntmps100
  go_wp2_with fail
  refine HC.out.mono ?_
  rintro e w1 ⟨rfl,hB1⟩
  have hbx:=(hB1.block _ HZ.out).trans HX.out
  obtain⟨y0,y1,y2,y3,g0,g1,g2,g3⟩:=zZ hbx
  obtain⟨z0,z1,z2,z3⟩:=zn hbx (.int .u8 (kc X.kind)) (.bool X.truth) (.int .i64 X.num) (.string X.text)
  have HB2:=z8 (zv (HB0.out.trans (hB1.mono HZ1.out)) HG.out (.int .u8 (kc X.kind)) (.bool X.truth) (.int .i64 X.num) (.string X.text))
  clear hbx hB1
  go_wp2_with fail
  refine bodyPost_ret (v:= .agg #[.int .u8 (kc X.kind),.bool X.truth,.int .i64 X.num,.string X.text]) (by simp [results,Tryz.results100,go_sem,z0,z1,z2,z3]) rfl ?_
  exact⟨by rw [hres.out],HB2.out⟩
 cases h5:(t.toList==[37])
 case true=>
  cases h0:(yn==0)
  case true=>
   have hcc:j7 t=true:=by unfold j7;simp [h5]
   have hres:Hid (z0z t ⟨xk,xb,xn,xt⟩ ⟨yk,yb,yn,yt⟩=z0K):=z8 (by unfold z0z;rw [hcc];show ju t xn yn=_;unfold ju;rw [h1,h2,h3,h0];rfl)
   go_enter Tryz.func100,Tryz.ntmps100
   go_wp2_with fail
   refine bodyPost_ret (v:= .agg #[.int .u8 101,.bool false,.int .i64 0,.string ⟨#[]⟩]) (by simp [results,Tryz.results100,go_sem]) rfl ?_
   exact⟨by rw [hres.out];rfl,((((zeU w.heap.size w).alloc (zeK _) _).alloc (by simp<;>omega) _).alloc (by simp<;>omega) _)⟩
  have h0': ¬yn=0:=by simpa using h0
  have hcc:j7 t=true:=by unfold j7;simp [h5]
  have hres:Hid (z0z t ⟨xk,xb,xn,xt⟩ ⟨yk,yb,yn,yt⟩=jU (xn.tmod yn)):=z8 (by unfold z0z;rw [hcc];show ju t xn yn=_;unfold ju;rw [h1,h2,h3,h0,h4];rfl)
  have HC:=z8 (z2A (xn.tmod yn) (((w.alloc (.cells #[.int .u8 xc,.bool xb,.int .i64 xn,.string xt] 102)).alloc (.cells #[.int .u8 yc,.bool yb,.int .i64 yn,.string yt] 102)).alloc (.cells #[.int .u8 0,.bool false,.int .i64 0,.string ⟨#[]⟩] 102)))
  generalize hX:jU (xn.tmod yn)=X at*
  clear hX
  go_enter Tryz.func100,Tryz.ntmps100
  go_wp2_with fail
  refine HC.out.mono ?_
  rintro e w1 ⟨rfl,hB1⟩
  have hbx:=(hB1.block _ HZ.out).trans HX.out
  obtain⟨y0,y1,y2,y3,g0,g1,g2,g3⟩:=zZ hbx
  obtain⟨z0,z1,z2,z3⟩:=zn hbx (.int .u8 (kc X.kind)) (.bool X.truth) (.int .i64 X.num) (.string X.text)
  have HB2:=z8 (zv (HB0.out.trans (hB1.mono HZ1.out)) HG.out (.int .u8 (kc X.kind)) (.bool X.truth) (.int .i64 X.num) (.string X.text))
  clear hbx hB1
  go_wp2_with fail
  refine bodyPost_ret (v:= .agg #[.int .u8 (kc X.kind),.bool X.truth,.int .i64 X.num,.string X.text]) (by simp [results,Tryz.results100,go_sem,z0,z1,z2,z3]) rfl ?_
  exact⟨by rw [hres.out],HB2.out⟩
 have hcf:j7 t=false:=by unfold j7;rw [h1,h2,h3,h4,h5];rfl
 have h6:(t.toList==[46])=true:=hc.resolve_left (by rw [hcf];decide)
 have hres:Hid (z0z t ⟨xk,xb,xn,xt⟩ ⟨yk,yb,yn,yt⟩=z4A (xt++yt)):=z8 (by unfold z0z;rw [hcf,h6];rfl)
 clear hc
 go_enter Tryz.func100,Tryz.ntmps100
 go_wp2_with fail
 refine bodyPost_ret (v:= .agg #[.int .u8 115,.bool false,.int .i64 0,.string (xt++yt)]) (by simp [results,Tryz.results100,go_sem]) rfl ?_
 exact⟨by rw [hres.out];rfl,((((zeU w.heap.size w).alloc (zeK _) _).alloc (by simp<;>omega) _).alloc (by simp<;>omega) _)⟩
theorem zaJ (t:zeV)(xc:Int)(xk:Int)(xb:Bool)(xn:Int)(xt:zeV)(yc:Int)(yk:Int)(yb:Bool)(yn:Int)(yt:zeV)(w:World)(hcf:j7 t=false)(h46:(t.toList==[46])=false)(hc:zY t=true):Calls Tryz.prog 100 #[.string t,.agg #[.int .u8 xc,.bool xb,.int .i64 xn,.string xt],.agg #[.int .u8 yc,.bool yb,.int .i64 yn,.string yt]] w fun e w'=>jp (z0z t ⟨xk,xb,xn,xt⟩ ⟨yk,yb,yn,yt⟩) w e w':=by
 have hres:Hid (z0z t ⟨xk,xb,xn,xt⟩ ⟨yk,yb,yn,yt⟩=z0u (z22 t ⟨xk,xb,xn,xt⟩ ⟨yk,yb,yn,yt⟩)):=z8 (by unfold z0z;rw [hcf,h46];rfl)
 have hx:(t.toList==[43])=false∧(t.toList==[45])=false∧(t.toList==[42])=false∧(t.toList==[47])=false∧(t.toList==[37])=false:=by
  unfold j7 at hcf
  simpa [Bool.or_eq_false_iff,and_assoc] using hcf
 obtain⟨p1,p2,p3,p4,p5⟩:=hx
 have HRES:=z8 hres
 clear hres hcf
 have hcase:(xn<yn∧(xn==yn)=false∧decide (xn<yn)=true)∨(¬xn<yn∧(xn==yn)=true∧decide (xn<yn)=false)∨(¬xn<yn∧(xn==yn)=false∧decide (xn<yn)=false):=by simp only [beq_eq_false_iff_ne,beq_iff_eq,ne_eq,decide_eq_true_eq,decide_eq_false_iff_not];omega
 cases g1:(t.toList==[61,61])
 case true=>
  cases hl:Op.bytesLess xt.toList yt.toList
  all_goals rcases hcase with⟨h1,h2,h3⟩|⟨h1,h2,h3⟩|⟨h1,h2,h3⟩
  all_goals
   have H3:=z8 (zeL h2 h3)
   clear h3
   go_enter Tryz.func100,Tryz.ntmps100
   go_wp2_with fail
   obtain⟨k2,k3⟩:=H3.out
   refine bodyPost_ret (v:= .agg #[.int .u8 98,.bool (z22 t ⟨xk,xb,xn,xt⟩ ⟨yk,yb,yn,yt⟩),.int .i64 0,.string ⟨#[]⟩]) (by simp [results,Tryz.results100,go_sem,z22,z1M,z1N,g1,k2,k3,hl]) rfl ?_
   exact⟨by rw [HRES.out];rfl,((((zeU w.heap.size w).alloc (zeK _) _).alloc (by simp<;>omega) _).alloc (by simp<;>omega) _)⟩
 cases g2:(t.toList==[33,61])
 case true=>
  cases hl:Op.bytesLess xt.toList yt.toList
  all_goals rcases hcase with⟨h1,h2,h3⟩|⟨h1,h2,h3⟩|⟨h1,h2,h3⟩
  all_goals
   have H3:=z8 (zeL h2 h3)
   clear h3
   go_enter Tryz.func100,Tryz.ntmps100
   go_wp2_with fail
   obtain⟨k2,k3⟩:=H3.out
   refine bodyPost_ret (v:= .agg #[.int .u8 98,.bool (z22 t ⟨xk,xb,xn,xt⟩ ⟨yk,yb,yn,yt⟩),.int .i64 0,.string ⟨#[]⟩]) (by simp [results,Tryz.results100,go_sem,z22,z1M,z1N,g1,g2,k2,k3,hl]) rfl ?_
   exact⟨by rw [HRES.out];rfl,((((zeU w.heap.size w).alloc (zeK _) _).alloc (by simp<;>omega) _).alloc (by simp<;>omega) _)⟩
 cases g3:(t.toList==[60])
 case true=>
  cases hl:Op.bytesLess xt.toList yt.toList
  all_goals rcases hcase with⟨h1,h2,h3⟩|⟨h1,h2,h3⟩|⟨h1,h2,h3⟩
  all_goals
   have H3:=z8 (zeL h2 h3)
   clear h3
   go_enter Tryz.func100,Tryz.ntmps100
   go_wp2_with fail
   obtain⟨k2,k3⟩:=H3.out
   refine bodyPost_ret (v:= .agg #[.int .u8 98,.bool (z22 t ⟨xk,xb,xn,xt⟩ ⟨yk,yb,yn,yt⟩),.int .i64 0,.string ⟨#[]⟩]) (by simp [results,Tryz.results100,go_sem,z22,z1M,z1N,g1,g2,g3,k2,k3,hl]) rfl ?_
   exact⟨by rw [HRES.out];rfl,((((zeU w.heap.size w).alloc (zeK _) _).alloc (by simp<;>omega) _).alloc (by simp<;>omega) _)⟩
 cases g4:(t.toList==[60,61])
 case true=>
  cases hl:Op.bytesLess xt.toList yt.toList
  all_goals rcases hcase with⟨h1,h2,h3⟩|⟨h1,h2,h3⟩|⟨h1,h2,h3⟩
  all_goals
   have H3:=z8 (zeL h2 h3)
   clear h3
   go_enter Tryz.func100,Tryz.ntmps100
   go_wp2_with fail
   obtain⟨k2,k3⟩:=H3.out
   refine bodyPost_ret (v:= .agg #[.int .u8 98,.bool (z22 t ⟨xk,xb,xn,xt⟩ ⟨yk,yb,yn,yt⟩),.int .i64 0,.string ⟨#[]⟩]) (by simp [results,Tryz.results100,go_sem,z22,z1M,z1N,g1,g2,g3,g4,k2,k3,hl]) rfl ?_
   exact⟨by rw [HRES.out];rfl,((((zeU w.heap.size w).alloc (zeK _) _).alloc (by simp<;>omega) _).alloc (by simp<;>omega) _)⟩
 cases g5:(t.toList==[62])
 case true=>
  cases hl:Op.bytesLess xt.toList yt.toList
  all_goals rcases hcase with⟨h1,h2,h3⟩|⟨h1,h2,h3⟩|⟨h1,h2,h3⟩
  all_goals
   have H3:=z8 (zeL h2 h3)
   clear h3
   go_enter Tryz.func100,Tryz.ntmps100
   go_wp2_with fail
   obtain⟨k2,k3⟩:=H3.out
   refine bodyPost_ret (v:= .agg #[.int .u8 98,.bool (z22 t ⟨xk,xb,xn,xt⟩ ⟨yk,yb,yn,yt⟩),.int .i64 0,.string ⟨#[]⟩]) (by simp [results,Tryz.results100,go_sem,z22,z1M,z1N,g1,g2,g3,g4,g5,k2,k3,hl]) rfl ?_
   exact⟨by rw [HRES.out];rfl,((((zeU w.heap.size w).alloc (zeK _) _).alloc (by simp<;>omega) _).alloc (by simp<;>omega) _)⟩
 have g6:(t.toList==[62,61])=true:=by
  unfold zY at hc
  rw [g1,g2,g3,g4,g5] at hc
  simpa using hc
 cases hl:Op.bytesLess xt.toList yt.toList
 all_goals rcases hcase with⟨h1,h2,h3⟩|⟨h1,h2,h3⟩|⟨h1,h2,h3⟩
 all_goals
  have H3:=z8 (zeL h2 h3)
  clear h3
  go_enter Tryz.func100,Tryz.ntmps100
  go_wp2_with fail
  obtain⟨k2,k3⟩:=H3.out
  refine bodyPost_ret (v:= .agg #[.int .u8 98,.bool (z22 t ⟨xk,xb,xn,xt⟩ ⟨yk,yb,yn,yt⟩),.int .i64 0,.string ⟨#[]⟩]) (by simp [results,Tryz.results100,go_sem,z22,z1M,z1N,g1,g2,g3,g4,g5,g6,k2,k3,hl]) rfl ?_
  exact⟨by rw [HRES.out];rfl,((((zeU w.heap.size w).alloc (zeK _) _).alloc (by simp<;>omega) _).alloc (by simp<;>omega) _)⟩
theorem z6a {op:zeV}(h:zG op=true)(h1:(op.toList==[38,38])=false)(h2:(op.toList==[124,124])=false):j7 op=true∨(op.toList==[46])=true∨(j7 op=false∧(op.toList==[46])=false∧zY op=true):=by
 unfold zG at h
 rw [h1,h2] at h
 unfold j7 zY
 revert h
 generalize (op.toList==[61,61])=a1
 generalize (op.toList==[33,61])=a2
 generalize (op.toList==[60])=a3
 generalize (op.toList==[60,61])=a4
 generalize (op.toList==[62])=a5
 generalize (op.toList==[62,61])=a6
 generalize (op.toList==[43])=a7
 generalize (op.toList==[45])=a8
 generalize (op.toList==[46])=a9
 generalize (op.toList==[42])=b1
 generalize (op.toList==[47])=b2
 generalize (op.toList==[37])=b3
 intro h
 cases a7<;>cases a8<;>cases b1<;>cases b2<;>cases b3<;>cases a9<;>simp_all
theorem zat (t:zeV)(x y:Wt)(w:World)(hx:x.text.size≤400000000)(hy:y.text.size≤400000000)(hs:zG t=true)(h1:(t.toList==[38,38])=false)(h2:(t.toList==[124,124])=false):
  Calls Tryz.prog 100 #[.string t,.agg #[.int .u8 (kc x.kind),.bool x.truth,.int .i64 x.num,.string x.text],.agg #[.int .u8 (kc y.kind),.bool y.truth,.int .i64 y.num,.string y.text]] w fun e w'=>jp (z0z t x y) w e w':=by
 rcases z6a hs h1 h2 with h|h|⟨h,k,m⟩
 ·exact z66 t _ x.kind _ _ _ _ y.kind _ _ _ w hx hy (.inl h)
 ·exact z66 t _ x.kind _ _ _ _ y.kind _ _ _ w hx hy (.inr h)
 ·exact zaJ t _ x.kind _ _ _ _ y.kind _ _ _ w h k m
theorem z0H (k:Int):(kc k==101)=(k==0):=by
 unfold kc
 by_cases h:k=0
 ·simp [h]
 ·rw [if_neg h]
  have:(k==0)=false:=by simpa using h
  rw [this]
  split
  ·rfl
  ·split<;>rfl
theorem z9I {X:Nat→Prop}{w:World}{v:Value}{tx:zeV}{a:Int}{kids:List Value}(h:NodeX X w v ⟨#[110,117,109]⟩ tx a kids)(lv:Value)(hs:tx.size≤600):Calls Tryz.prog 55 #[v,lv] w fun e w'=>jp (nsM tx) w e w':=by
 obtain⟨g,kv,rfl,hh,hg,_⟩:=zL h
 obtain⟨c0,c1,c2,c3,cf⟩:=zR hh
 have hgn:g≠w.heap.size:=by omega
 clear h hh
 have HB0:Hid (Below w.heap.size w (w.alloc (.cells #[.int .u8 0,.bool false,.int .i64 0,.string ⟨#[]⟩] 102))):=z8 ((zeU w.heap.size w).alloc (zeK _) (.cells #[.int .u8 0,.bool false,.int .i64 0,.string ⟨#[]⟩] 102))
 have HX:Hid ((w.alloc (.cells #[.int .u8 0,.bool false,.int .i64 0,.string ⟨#[]⟩] 102)).heap[w.heap.size]?=some (.cells #[.int .u8 0,.bool false,.int .i64 0,.string ⟨#[]⟩] 102)):=z8 (heap_alloc_new w _)
 have HZ:Hid (w.heap.size<(w.alloc (.cells #[.int .u8 0,.bool false,.int .i64 0,.string ⟨#[]⟩] 102)).heap.size):=z8 (by simp)
 have HZ1:Hid (w.heap.size≤(w.alloc (.cells #[.int .u8 0,.bool false,.int .i64 0,.string ⟨#[]⟩] 102)).heap.size):=z8 (by simp<;>omega)
 have HG:Hid (w.heap.size≤w.heap.size):=z8 (by omega)
 have HC:=z8 (z3W tx (w.alloc (.cells #[.int .u8 0,.bool false,.int .i64 0,.string ⟨#[]⟩] 102)) hs)
 generalize hX:nsM tx=X at*
 clear hX
 go_enter Tryz.func55,Tryz.ntmps55
 go_wp2_with fail
 refine HC.out.mono ?_
 rintro e w1 ⟨rfl,hB1⟩
 have hbx:=(hB1.block _ HZ.out).trans HX.out
 obtain⟨y0,y1,y2,y3,g0,g1,g2,g3⟩:=zZ hbx
 obtain⟨z0,z1,z2,z3⟩:=zn hbx (.int .u8 (kc X.kind)) (.bool X.truth) (.int .i64 X.num) (.string X.text)
 have HB2:=z8 (zv (HB0.out.trans (hB1.mono HZ1.out)) HG.out (.int .u8 (kc X.kind)) (.bool X.truth) (.int .i64 X.num) (.string X.text))
 clear hbx hB1
 go_wp2_with fail
 refine bodyPost_ret (v:= .agg #[.int .u8 (kc X.kind),.bool X.truth,.int .i64 X.num,.string X.text]) (by simp [results,Tryz.results55,go_sem,z0,z1,z2,z3]) rfl ?_
 exact⟨rfl,HB2.out⟩
theorem z93 {X:Nat→Prop}{w:World}{v:Value}{tx:zeV}{a:Int}{kids:List Value}(h:NodeX X w v ⟨#[115,116,114]⟩ tx a kids)(lv:Value):Calls Tryz.prog 55 #[v,lv] w fun e w'=>jp (z4A tx) w e w':=by
 obtain⟨g,kv,rfl,hh,hg,_⟩:=zL h
 obtain⟨c0,c1,c2,c3,cf⟩:=zR hh
 have hgn:g≠w.heap.size:=by omega
 clear h hh
 have HB0:Hid (Below w.heap.size w (w.alloc (.cells #[.int .u8 0,.bool false,.int .i64 0,.string ⟨#[]⟩] 102))):=z8 ((zeU w.heap.size w).alloc (zeK _) (.cells #[.int .u8 0,.bool false,.int .i64 0,.string ⟨#[]⟩] 102))
 have HX:Hid ((w.alloc (.cells #[.int .u8 0,.bool false,.int .i64 0,.string ⟨#[]⟩] 102)).heap[w.heap.size]?=some (.cells #[.int .u8 0,.bool false,.int .i64 0,.string ⟨#[]⟩] 102)):=z8 (heap_alloc_new w _)
 have HZ:Hid (w.heap.size<(w.alloc (.cells #[.int .u8 0,.bool false,.int .i64 0,.string ⟨#[]⟩] 102)).heap.size):=z8 (by simp)
 have HZ1:Hid (w.heap.size≤(w.alloc (.cells #[.int .u8 0,.bool false,.int .i64 0,.string ⟨#[]⟩] 102)).heap.size):=z8 (by simp<;>omega)
 have HG:Hid (w.heap.size≤w.heap.size):=z8 (by omega)
 go_enter Tryz.func55,Tryz.ntmps55
 go_wp2_with fail
 refine bodyPost_ret (v:= .agg #[.int .u8 115,.bool false,.int .i64 0,.string tx]) (by simp [results,Tryz.results55,go_sem]) rfl ?_
 exact⟨rfl,(zeU w.heap.size w).alloc (zeK _) _⟩
theorem z8a {X:Nat→Prop}{w:World}{v:Value}{tx:zeV}{a:Int}{kids:List Value}(h:NodeX X w v ⟨#[97,116,116,114]⟩ tx a kids)(lv:Value)(lb:Nat)(l:List (zeV×zeV))(hl:w.ownsRow lb 144 2 lv l.length ((l.map zu).flatten))(hll:l.length≤100000):Calls Tryz.prog 55 #[v,lv] w fun e w'=>jp (z4A (z1L tx l)) w e w':=by
 obtain⟨g,kv,rfl,hh,hg,_⟩:=zL h
 obtain⟨c0,c1,c2,c3,cf⟩:=zR hh
 have hgn:g≠w.heap.size:=by omega
 clear h hh
 have HB0:Hid (Below w.heap.size w (w.alloc (.cells #[.int .u8 0,.bool false,.int .i64 0,.string ⟨#[]⟩] 102))):=z8 ((zeU w.heap.size w).alloc (zeK _) (.cells #[.int .u8 0,.bool false,.int .i64 0,.string ⟨#[]⟩] 102))
 have HX:Hid ((w.alloc (.cells #[.int .u8 0,.bool false,.int .i64 0,.string ⟨#[]⟩] 102)).heap[w.heap.size]?=some (.cells #[.int .u8 0,.bool false,.int .i64 0,.string ⟨#[]⟩] 102)):=z8 (heap_alloc_new w _)
 have HZ:Hid (w.heap.size<(w.alloc (.cells #[.int .u8 0,.bool false,.int .i64 0,.string ⟨#[]⟩] 102)).heap.size):=z8 (by simp)
 have HZ1:Hid (w.heap.size≤(w.alloc (.cells #[.int .u8 0,.bool false,.int .i64 0,.string ⟨#[]⟩] 102)).heap.size):=z8 (by simp<;>omega)
 have HG:Hid (w.heap.size≤w.heap.size):=z8 (by omega)
 have HV:=z8 (zbJ lb l lv tx (w.alloc (.cells #[.int .u8 0,.bool false,.int .i64 0,.string ⟨#[]⟩] 102)) (hl.alloc _) hll)
 obtain⟨al,kl,rfl⟩:=za hl
 clear hl
 generalize z1L tx l=vv at*
 go_enter Tryz.func55,Tryz.ntmps55
 go_wp2_with fail
 refine HV.out.mono ?_
 rintro e w9 ⟨rfl,rfl⟩
 go_wp2_with fail
 refine bodyPost_ret (v:= .agg #[.int .u8 115,.bool false,.int .i64 0,.string vv]) (by simp [results,Tryz.results55,go_sem]) rfl ?_
 exact⟨rfl,(zeU w.heap.size w).alloc (zeK _) _⟩
theorem zbq {X:Nat→Prop}{w:World}{v:Value}{tx:zeV}{a:Int}{kids:List Value}(h:NodeX X w v ⟨#[97,116]⟩ tx a kids)(lv:Value)(lb:Nat)(l:List (zeV×zeV))(hl:w.ownsRow lb 144 2 lv l.length ((l.map zu).flatten))(hll:l.length≤100000)(hls: ∀p∈l,p.2.size≤600):Calls Tryz.prog 55 #[v,lv] w fun e w'=>jp (nsM (z1L tx l)) w e w':=by
 obtain⟨g,kv,rfl,hh,hg,_⟩:=zL h
 obtain⟨c0,c1,c2,c3,cf⟩:=zR hh
 have hgn:g≠w.heap.size:=by omega
 clear h hh
 have HB0:Hid (Below w.heap.size w (w.alloc (.cells #[.int .u8 0,.bool false,.int .i64 0,.string ⟨#[]⟩] 102))):=z8 ((zeU w.heap.size w).alloc (zeK _) (.cells #[.int .u8 0,.bool false,.int .i64 0,.string ⟨#[]⟩] 102))
 have HX:Hid ((w.alloc (.cells #[.int .u8 0,.bool false,.int .i64 0,.string ⟨#[]⟩] 102)).heap[w.heap.size]?=some (.cells #[.int .u8 0,.bool false,.int .i64 0,.string ⟨#[]⟩] 102)):=z8 (heap_alloc_new w _)
 have HZ:Hid (w.heap.size<(w.alloc (.cells #[.int .u8 0,.bool false,.int .i64 0,.string ⟨#[]⟩] 102)).heap.size):=z8 (by simp)
 have HZ1:Hid (w.heap.size≤(w.alloc (.cells #[.int .u8 0,.bool false,.int .i64 0,.string ⟨#[]⟩] 102)).heap.size):=z8 (by simp<;>omega)
 have HG:Hid (w.heap.size≤w.heap.size):=z8 (by omega)
 have HV:=z8 (zbJ lb l lv tx (w.alloc (.cells #[.int .u8 0,.bool false,.int .i64 0,.string ⟨#[]⟩] 102)) (hl.alloc _) hll)
 have HC:=z8 (z3W (z1L tx l) (w.alloc (.cells #[.int .u8 0,.bool false,.int .i64 0,.string ⟨#[]⟩] 102)) (z3V tx 600 l hls))
 obtain⟨al,kl,rfl⟩:=za hl
 clear hl
 generalize hX:nsM (z1L tx l)=X at*
 clear hX
 generalize z1L tx l=vv at*
 go_enter Tryz.func55,Tryz.ntmps55
 go_wp2_with fail
 refine HV.out.mono ?_
 rintro e w9 ⟨rfl,rfl⟩
 go_wp2_with fail
 refine HC.out.mono ?_
 rintro e w1 ⟨rfl,hB1⟩
 have hbx:=(hB1.block _ HZ.out).trans HX.out
 obtain⟨y0,y1,y2,y3,g0,g1,g2,g3⟩:=zZ hbx
 obtain⟨z0,z1,z2,z3⟩:=zn hbx (.int .u8 (kc X.kind)) (.bool X.truth) (.int .i64 X.num) (.string X.text)
 have HB2:=z8 (zv (HB0.out.trans (hB1.mono HZ1.out)) HG.out (.int .u8 (kc X.kind)) (.bool X.truth) (.int .i64 X.num) (.string X.text))
 clear hbx hB1
 go_wp2_with fail
 refine bodyPost_ret (v:= .agg #[.int .u8 (kc X.kind),.bool X.truth,.int .i64 X.num,.string X.text]) (by simp [results,Tryz.results55,go_sem,z0,z1,z2,z3]) rfl ?_
 exact⟨rfl,HB2.out⟩
theorem z7W {X:Nat→Prop}{w:World}{v:Value}{tx:zeV}{a:Int}{kids:List Value}(h:NodeX X w v ⟨#[116,114,117,101]⟩ tx a kids)(lv:Value):Calls Tryz.prog 55 #[v,lv] w fun e w'=>jp (z0u true) w e w':=by
 obtain⟨g,kv,rfl,hh,hg,_⟩:=zL h
 obtain⟨c0,c1,c2,c3,cf⟩:=zR hh
 have hgn:g≠w.heap.size:=by omega
 clear h hh
 have HB0:Hid (Below w.heap.size w (w.alloc (.cells #[.int .u8 0,.bool false,.int .i64 0,.string ⟨#[]⟩] 102))):=z8 ((zeU w.heap.size w).alloc (zeK _) (.cells #[.int .u8 0,.bool false,.int .i64 0,.string ⟨#[]⟩] 102))
 have HX:Hid ((w.alloc (.cells #[.int .u8 0,.bool false,.int .i64 0,.string ⟨#[]⟩] 102)).heap[w.heap.size]?=some (.cells #[.int .u8 0,.bool false,.int .i64 0,.string ⟨#[]⟩] 102)):=z8 (heap_alloc_new w _)
 have HZ:Hid (w.heap.size<(w.alloc (.cells #[.int .u8 0,.bool false,.int .i64 0,.string ⟨#[]⟩] 102)).heap.size):=z8 (by simp)
 have HZ1:Hid (w.heap.size≤(w.alloc (.cells #[.int .u8 0,.bool false,.int .i64 0,.string ⟨#[]⟩] 102)).heap.size):=z8 (by simp<;>omega)
 have HG:Hid (w.heap.size≤w.heap.size):=z8 (by omega)
 go_enter Tryz.func55,Tryz.ntmps55
 go_wp2_with fail
 refine bodyPost_ret (v:= .agg #[.int .u8 98,.bool true,.int .i64 0,.string ⟨#[]⟩]) (by simp [results,Tryz.results55,go_sem]) rfl ?_
 exact⟨rfl,(zeU w.heap.size w).alloc (zeK _) _⟩
theorem z6r {X:Nat→Prop}{w:World}{v:Value}{tx:zeV}{a:Int}{kids:List Value}(h:NodeX X w v ⟨#[102,97,108,115,101]⟩ tx a kids)(lv:Value):Calls Tryz.prog 55 #[v,lv] w fun e w'=>jp (z0u false) w e w':=by
 obtain⟨g,kv,rfl,hh,hg,_⟩:=zL h
 obtain⟨c0,c1,c2,c3,cf⟩:=zR hh
 have hgn:g≠w.heap.size:=by omega
 clear h hh
 have HB0:Hid (Below w.heap.size w (w.alloc (.cells #[.int .u8 0,.bool false,.int .i64 0,.string ⟨#[]⟩] 102))):=z8 ((zeU w.heap.size w).alloc (zeK _) (.cells #[.int .u8 0,.bool false,.int .i64 0,.string ⟨#[]⟩] 102))
 have HX:Hid ((w.alloc (.cells #[.int .u8 0,.bool false,.int .i64 0,.string ⟨#[]⟩] 102)).heap[w.heap.size]?=some (.cells #[.int .u8 0,.bool false,.int .i64 0,.string ⟨#[]⟩] 102)):=z8 (heap_alloc_new w _)
 have HZ:Hid (w.heap.size<(w.alloc (.cells #[.int .u8 0,.bool false,.int .i64 0,.string ⟨#[]⟩] 102)).heap.size):=z8 (by simp)
 have HZ1:Hid (w.heap.size≤(w.alloc (.cells #[.int .u8 0,.bool false,.int .i64 0,.string ⟨#[]⟩] 102)).heap.size):=z8 (by simp<;>omega)
 have HG:Hid (w.heap.size≤w.heap.size):=z8 (by omega)
 go_enter Tryz.func55,Tryz.ntmps55
 go_wp2_with fail
 refine bodyPost_ret (v:= .agg #[.int .u8 98,.bool false,.int .i64 0,.string ⟨#[]⟩]) (by simp [results,Tryz.results55,go_sem]) rfl ?_
 exact⟨rfl,(zeU w.heap.size w).alloc (zeK _) _⟩
theorem zj {w:World}{g:Nat}{o:Obj}(h:w.heap[g]?=some o):g<w.heap.size:=(Array.getElem?_eq_some_iff.1 h).1
theorem z9S {X:Nat→Prop}{w:World}{v:Value}{tx:zeV}{a:Int}{v1:Value}(h:NodeX X w v ⟨#[110]⟩ tx a [v1])(lv:Value)(xk:Int)(xb:Bool)(xn:Int)(xt:zeV)(hn: -999999999≤xn∧xn≤999999999)(h1: ∀W,Below w.heap.size w W→Calls Tryz.prog 55 #[v1,lv] W fun e w'=>jp ⟨xk,xb,xn,xt⟩ W e w'):Calls Tryz.prog 55 #[v,lv] w fun e w'=>jp (z0n ⟨#[45]⟩ ⟨xk,xb,xn,xt⟩) w e w':=by
 obtain⟨g,kv,rfl,hh,hg,hkv⟩:=zL h
 obtain⟨c0,c1,c2,c3,cf⟩:=zR hh
 obtain⟨ak,kk,rfl⟩:=za hkv
 obtain⟨g',cap,hv,hb',hg'⟩:=hkv.form (by simp)
 injection hv with e1 e2 e3
 subst e1 e3
 have r0:w.cell? ⟨g',0,none⟩=some v1:=zf hkv 0 _ rfl
 have hgn:g≠w.heap.size:=by omega
 have hgn':g'≠w.heap.size:=by omega
 clear h hh
 have HB0:Hid (Below w.heap.size w (w.alloc (.cells #[.int .u8 0,.bool false,.int .i64 0,.string ⟨#[]⟩] 102))):=z8 ((zeU w.heap.size w).alloc (zeK _) (.cells #[.int .u8 0,.bool false,.int .i64 0,.string ⟨#[]⟩] 102))
 have HX:Hid ((w.alloc (.cells #[.int .u8 0,.bool false,.int .i64 0,.string ⟨#[]⟩] 102)).heap[w.heap.size]?=some (.cells #[.int .u8 0,.bool false,.int .i64 0,.string ⟨#[]⟩] 102)):=z8 (heap_alloc_new w _)
 have HZ:Hid (w.heap.size<(w.alloc (.cells #[.int .u8 0,.bool false,.int .i64 0,.string ⟨#[]⟩] 102)).heap.size):=z8 (by simp)
 have HZ1:Hid (w.heap.size≤(w.alloc (.cells #[.int .u8 0,.bool false,.int .i64 0,.string ⟨#[]⟩] 102)).heap.size):=z8 (by simp<;>omega)
 have HG:Hid (w.heap.size≤w.heap.size):=z8 (by omega)
 have HC:=z8 (h1 _ HB0.out)
 clear h1
 have hk:=z0H xk
 cases hz:(xk==0)
 case true=>
  have hres:Hid (z0n ⟨#[45]⟩ ⟨xk,xb,xn,xt⟩=⟨xk,xb,xn,xt⟩):=z8 (by unfold z0n;rw [hz];rfl)
  rw [hz] at hk
  have HKK:=z8 hk
  clear hk
  go_enter Tryz.func55,Tryz.ntmps55
  go_wp2_with fail
  refine HC.out.mono ?_
  rintro e w1 ⟨rfl,hB1⟩
  have hBw:=HB0.out.trans (hB1.mono HZ1.out)
  have hbx:=(hB1.block _ HZ.out).trans HX.out
  have hWx:=hBw.alloc hBw.size (.cells #[.int .u8 (kc xk),.bool xb,.int .i64 xn,.string xt] 102)
  have d0:(w1.alloc (.cells #[.int .u8 (kc xk),.bool xb,.int .i64 xn,.string xt] 102)).cell? ⟨g,0,none⟩=_:=(hWx.cell (p:=⟨g,0,none⟩) hg).trans c0
  have d3:(w1.alloc (.cells #[.int .u8 (kc xk),.bool xb,.int .i64 xn,.string xt] 102)).cell? ⟨g,3,none⟩=_:=(hWx.cell (p:=⟨g,3,none⟩) hg).trans c3
  obtain⟨y0,y1,y2,y3,f0,f1,f2,f3⟩:=zZ ((zeM w1 (.cells #[.int .u8 (kc xk),.bool xb,.int .i64 xn,.string xt] 102) _ (zj hbx)).trans hbx)
  have HBX:=z8 ((zeM w1 (.cells #[.int .u8 (kc xk),.bool xb,.int .i64 xn,.string xt] 102) _ (zj hbx)).trans hbx)
  have HBW:=z8 hWx
  have hsz1:w.heap.size≤w1.heap.size:=hBw.size
  have hne1:w1.heap.size≠w.heap.size:=by have:=zj hbx;omega
  clear hWx hbx hBw hB1
  have hk:=HKK.out
  go_wp2_with fail
  obtain⟨z0,z1,z2,z3⟩:=zn HBX.out (.int .u8 (kc xk)) (.bool xb) (.int .i64 xn) (.string xt)
  refine bodyPost_ret (v:= .agg #[.int .u8 (kc xk),.bool xb,.int .i64 xn,.string xt]) (by simp [results,Tryz.results55,go_sem,z0,z1,z2,z3]) rfl ?_
  exact⟨by rw [hres.out]<;>rfl,zv HBW.out (zeK _) (.int .u8 (kc xk)) (.bool xb) (.int .i64 xn) (.string xt)⟩
 have hres:Hid (z0n ⟨#[45]⟩ ⟨xk,xb,xn,xt⟩=⟨2,false,-xn,⟨#[]⟩⟩):=z8 (by unfold z0n;rw [hz,show((⟨#[45]⟩:zeV).toList==[33])=false by rw [zeJ];rfl];show jU (wrap64 (-xn))=_;rw [show wrap64 (-xn)= -xn from IntWalk.wrap64_in _ (by omega)];unfold jU;rw [if_neg (by omega)])
 rw [hz] at hk
 have HKK:=z8 hk
 clear hk
 go_enter Tryz.func55,Tryz.ntmps55
 go_wp2_with fail
 refine HC.out.mono ?_
 rintro e w1 ⟨rfl,hB1⟩
 have hBw:=HB0.out.trans (hB1.mono HZ1.out)
 have hbx:=(hB1.block _ HZ.out).trans HX.out
 have hWx:=hBw.alloc hBw.size (.cells #[.int .u8 (kc xk),.bool xb,.int .i64 xn,.string xt] 102)
 have d0:(w1.alloc (.cells #[.int .u8 (kc xk),.bool xb,.int .i64 xn,.string xt] 102)).cell? ⟨g,0,none⟩=_:=(hWx.cell (p:=⟨g,0,none⟩) hg).trans c0
 have d3:(w1.alloc (.cells #[.int .u8 (kc xk),.bool xb,.int .i64 xn,.string xt] 102)).cell? ⟨g,3,none⟩=_:=(hWx.cell (p:=⟨g,3,none⟩) hg).trans c3
 obtain⟨y0,y1,y2,y3,f0,f1,f2,f3⟩:=zZ ((zeM w1 (.cells #[.int .u8 (kc xk),.bool xb,.int .i64 xn,.string xt] 102) _ (zj hbx)).trans hbx)
 have HBX:=z8 ((zeM w1 (.cells #[.int .u8 (kc xk),.bool xb,.int .i64 xn,.string xt] 102) _ (zj hbx)).trans hbx)
 have HBW:=z8 hWx
 have hsz1:w.heap.size≤w1.heap.size:=hBw.size
 have hne1:w1.heap.size≠w.heap.size:=by have:=zj hbx;omega
 clear hWx hbx hBw hB1
 have hk:=HKK.out
 go_wp2_with fail
 obtain⟨z0,z1,z2,z3⟩:=zn HBX.out (.int .u8 110) (.bool false) (.int .i64 (-xn)) (.string ⟨#[]⟩)
 refine bodyPost_ret (v:= .agg #[.int .u8 110,.bool false,.int .i64 (-xn),.string ⟨#[]⟩]) (by simp [results,Tryz.results55,go_sem,z0,z1,z2,z3]) rfl ?_
 exact⟨by rw [hres.out]<;>rfl,zv HBW.out (zeK _) (.int .u8 110) (.bool false) (.int .i64 (-xn)) (.string ⟨#[]⟩)⟩
theorem z91 {X:Nat→Prop}{w:World}{v:Value}{tx:zeV}{a:Int}{v1:Value}(h:NodeX X w v ⟨#[33]⟩ tx a [v1])(lv:Value)(xk:Int)(xb:Bool)(xn:Int)(xt:zeV)(hn: -999999999≤xn∧xn≤999999999)(h1: ∀W,Below w.heap.size w W→Calls Tryz.prog 55 #[v1,lv] W fun e w'=>jp ⟨xk,xb,xn,xt⟩ W e w'):Calls Tryz.prog 55 #[v,lv] w fun e w'=>jp (z0n ⟨#[33]⟩ ⟨xk,xb,xn,xt⟩) w e w':=by
 obtain⟨g,kv,rfl,hh,hg,hkv⟩:=zL h
 obtain⟨c0,c1,c2,c3,cf⟩:=zR hh
 obtain⟨ak,kk,rfl⟩:=za hkv
 obtain⟨g',cap,hv,hb',hg'⟩:=hkv.form (by simp)
 injection hv with e1 e2 e3
 subst e1 e3
 have r0:w.cell? ⟨g',0,none⟩=some v1:=zf hkv 0 _ rfl
 have hgn:g≠w.heap.size:=by omega
 have hgn':g'≠w.heap.size:=by omega
 clear h hh
 have HB0:Hid (Below w.heap.size w (w.alloc (.cells #[.int .u8 0,.bool false,.int .i64 0,.string ⟨#[]⟩] 102))):=z8 ((zeU w.heap.size w).alloc (zeK _) (.cells #[.int .u8 0,.bool false,.int .i64 0,.string ⟨#[]⟩] 102))
 have HX:Hid ((w.alloc (.cells #[.int .u8 0,.bool false,.int .i64 0,.string ⟨#[]⟩] 102)).heap[w.heap.size]?=some (.cells #[.int .u8 0,.bool false,.int .i64 0,.string ⟨#[]⟩] 102)):=z8 (heap_alloc_new w _)
 have HZ:Hid (w.heap.size<(w.alloc (.cells #[.int .u8 0,.bool false,.int .i64 0,.string ⟨#[]⟩] 102)).heap.size):=z8 (by simp)
 have HZ1:Hid (w.heap.size≤(w.alloc (.cells #[.int .u8 0,.bool false,.int .i64 0,.string ⟨#[]⟩] 102)).heap.size):=z8 (by simp<;>omega)
 have HG:Hid (w.heap.size≤w.heap.size):=z8 (by omega)
 have HC:=z8 (h1 _ HB0.out)
 clear h1
 have hk:=z0H xk
 cases hz:(xk==0)
 case true=>
  have hres:Hid (z0n ⟨#[33]⟩ ⟨xk,xb,xn,xt⟩=⟨xk,xb,xn,xt⟩):=z8 (by unfold z0n;rw [hz];rfl)
  rw [hz] at hk
  have HKK:=z8 hk
  clear hk
  go_enter Tryz.func55,Tryz.ntmps55
  go_wp2_with fail
  refine HC.out.mono ?_
  rintro e w1 ⟨rfl,hB1⟩
  have hBw:=HB0.out.trans (hB1.mono HZ1.out)
  have hbx:=(hB1.block _ HZ.out).trans HX.out
  have hWx:=hBw.alloc hBw.size (.cells #[.int .u8 (kc xk),.bool xb,.int .i64 xn,.string xt] 102)
  have d0:(w1.alloc (.cells #[.int .u8 (kc xk),.bool xb,.int .i64 xn,.string xt] 102)).cell? ⟨g,0,none⟩=_:=(hWx.cell (p:=⟨g,0,none⟩) hg).trans c0
  have d3:(w1.alloc (.cells #[.int .u8 (kc xk),.bool xb,.int .i64 xn,.string xt] 102)).cell? ⟨g,3,none⟩=_:=(hWx.cell (p:=⟨g,3,none⟩) hg).trans c3
  obtain⟨y0,y1,y2,y3,f0,f1,f2,f3⟩:=zZ ((zeM w1 (.cells #[.int .u8 (kc xk),.bool xb,.int .i64 xn,.string xt] 102) _ (zj hbx)).trans hbx)
  have HBX:=z8 ((zeM w1 (.cells #[.int .u8 (kc xk),.bool xb,.int .i64 xn,.string xt] 102) _ (zj hbx)).trans hbx)
  have HBW:=z8 hWx
  have hsz1:w.heap.size≤w1.heap.size:=hBw.size
  have hne1:w1.heap.size≠w.heap.size:=by have:=zj hbx;omega
  clear hWx hbx hBw hB1
  have hk:=HKK.out
  go_wp2_with fail
  obtain⟨z0,z1,z2,z3⟩:=zn HBX.out (.int .u8 (kc xk)) (.bool xb) (.int .i64 xn) (.string xt)
  refine bodyPost_ret (v:= .agg #[.int .u8 (kc xk),.bool xb,.int .i64 xn,.string xt]) (by simp [results,Tryz.results55,go_sem,z0,z1,z2,z3]) rfl ?_
  exact⟨by rw [hres.out]<;>rfl,zv HBW.out (zeK _) (.int .u8 (kc xk)) (.bool xb) (.int .i64 xn) (.string xt)⟩
 have hres:Hid (z0n ⟨#[33]⟩ ⟨xk,xb,xn,xt⟩=z0u (!xb)):=z8 (by unfold z0n;rw [hz,show((⟨#[33]⟩:zeV).toList==[33])=true by rw [zeJ];rfl];rfl)
 rw [hz] at hk
 have HKK:=z8 hk
 clear hk
 go_enter Tryz.func55,Tryz.ntmps55
 go_wp2_with fail
 refine HC.out.mono ?_
 rintro e w1 ⟨rfl,hB1⟩
 have hBw:=HB0.out.trans (hB1.mono HZ1.out)
 have hbx:=(hB1.block _ HZ.out).trans HX.out
 have hWx:=hBw.alloc hBw.size (.cells #[.int .u8 (kc xk),.bool xb,.int .i64 xn,.string xt] 102)
 have d0:(w1.alloc (.cells #[.int .u8 (kc xk),.bool xb,.int .i64 xn,.string xt] 102)).cell? ⟨g,0,none⟩=_:=(hWx.cell (p:=⟨g,0,none⟩) hg).trans c0
 have d3:(w1.alloc (.cells #[.int .u8 (kc xk),.bool xb,.int .i64 xn,.string xt] 102)).cell? ⟨g,3,none⟩=_:=(hWx.cell (p:=⟨g,3,none⟩) hg).trans c3
 obtain⟨y0,y1,y2,y3,f0,f1,f2,f3⟩:=zZ ((zeM w1 (.cells #[.int .u8 (kc xk),.bool xb,.int .i64 xn,.string xt] 102) _ (zj hbx)).trans hbx)
 have HBX:=z8 ((zeM w1 (.cells #[.int .u8 (kc xk),.bool xb,.int .i64 xn,.string xt] 102) _ (zj hbx)).trans hbx)
 have HBW:=z8 hWx
 have hsz1:w.heap.size≤w1.heap.size:=hBw.size
 have hne1:w1.heap.size≠w.heap.size:=by have:=zj hbx;omega
 clear hWx hbx hBw hB1
 have hk:=HKK.out
 go_wp2_with fail
 obtain⟨z0,z1,z2,z3⟩:=zn HBX.out (.int .u8 98) (.bool (!xb)) (.int .i64 0) (.string ⟨#[]⟩)
 refine bodyPost_ret (v:= .agg #[.int .u8 98,.bool (!xb),.int .i64 0,.string ⟨#[]⟩]) (by simp [results,Tryz.results55,go_sem,z0,z1,z2,z3]) rfl ?_
 exact⟨by rw [hres.out]<;>rfl,zv HBW.out (zeK _) (.int .u8 98) (.bool (!xb)) (.int .i64 0) (.string ⟨#[]⟩)⟩
theorem jr {op:zeV}(hs:zG op=true)(l:List UInt8)(hl:(l==[124,124]||l==[38,38]||l==[61,61]||l==[33,61]||l==[60]||l==[60,61]||l==[62]||l==[62,61]||l==[43]||l==[45]||l==[46]||l==[42]||l==[47]||l==[37])=false):(op.toList==l)=false:=by
 cases hq:(op.toList==l) with
 |false=>rfl
 |true=>
  have e:op.toList=l:=eq_of_beq hq
  unfold zG at hs
  rw [e] at hs
  rw [hs] at hl
  cases hl
theorem z77 {X:Nat→Prop}{w:World}{v:Value}{op tx:zeV}{a:Int}{v1 v2:Value}(h:NodeX X w v op tx a [v1,v2])(lv:Value)(hs:zG op=true)(xk:Int)(xb:Bool)(xn:Int)(xt:zeV)(yk:Int)(yb:Bool)(yn:Int)(yt:zeV)(hx:xt.size≤400000000)(hy:yt.size≤400000000)(h1: ∀W,Below w.heap.size w W→Calls Tryz.prog 55 #[v1,lv] W fun e w'=>jp ⟨xk,xb,xn,xt⟩ W e w')(h2: ∀W,Below w.heap.size w W→Calls Tryz.prog 55 #[v2,lv] W fun e w'=>jp ⟨yk,yb,yn,yt⟩ W e w')(hz:(xk==0)=true):Calls Tryz.prog 55 #[v,lv] w fun e w'=>jp (zW op ⟨xk,xb,xn,xt⟩ ⟨yk,yb,yn,yt⟩) w e w':=by
 obtain⟨g,kv,rfl,hh,hg,hkv⟩:=zL h
 obtain⟨c0,c1,c2,c3,cf⟩:=zR hh
 obtain⟨ak,kk,rfl⟩:=za hkv
 obtain⟨g',cap,hv,hb',hg'⟩:=hkv.form (by simp)
 injection hv with e1 e2 e3
 subst e1 e3
 have r0:w.cell? ⟨g',0,none⟩=some v1:=zf hkv 0 _ rfl
 have r1:w.cell? ⟨g',1,none⟩=some v2:=zf hkv 1 _ rfl
 have hgn:g≠w.heap.size:=by omega
 have hgn':g'≠w.heap.size:=by omega
 clear h hh
 obtain⟨m1,m2⟩:=jC hs
 unfold jQ at m1
 simp only [Bool.or_eq_false_iff] at m1
 obtain⟨⟨⟨⟨⟨⟨n1,n2⟩,n3⟩,n4⟩,n5⟩,n6⟩,n7⟩:=m1
 have n8:(op.toList==[110])=false:=jr hs [110] rfl
 have n9:(op.toList==[33])=false:=jr hs [33] rfl
 clear m2
 have HB0:Hid (Below w.heap.size w (w.alloc (.cells #[.int .u8 0,.bool false,.int .i64 0,.string ⟨#[]⟩] 102))):=z8 ((zeU w.heap.size w).alloc (zeK _) (.cells #[.int .u8 0,.bool false,.int .i64 0,.string ⟨#[]⟩] 102))
 have HX:Hid ((w.alloc (.cells #[.int .u8 0,.bool false,.int .i64 0,.string ⟨#[]⟩] 102)).heap[w.heap.size]?=some (.cells #[.int .u8 0,.bool false,.int .i64 0,.string ⟨#[]⟩] 102)):=z8 (heap_alloc_new w _)
 have HZ:Hid (w.heap.size<(w.alloc (.cells #[.int .u8 0,.bool false,.int .i64 0,.string ⟨#[]⟩] 102)).heap.size):=z8 (by simp)
 have HZ1:Hid (w.heap.size≤(w.alloc (.cells #[.int .u8 0,.bool false,.int .i64 0,.string ⟨#[]⟩] 102)).heap.size):=z8 (by simp<;>omega)
 have HG:Hid (w.heap.size≤w.heap.size):=z8 (by omega)
 have HC:=z8 (h1 _ HB0.out)
 clear h1 h2
 have hk:=z0H xk
 have hres:Hid (zW op ⟨xk,xb,xn,xt⟩ ⟨yk,yb,yn,yt⟩=⟨xk,xb,xn,xt⟩):=z8 (by unfold zW;rw [hz];rfl)
 rw [hz] at hk
 have HKK:=z8 hk
 clear hk
 go_enter Tryz.func55,Tryz.ntmps55
 go_wp2_with fail
 refine HC.out.mono ?_
 rintro e w1 ⟨rfl,hB1⟩
 have hBw:=HB0.out.trans (hB1.mono HZ1.out)
 have hbx:=(hB1.block _ HZ.out).trans HX.out
 have hWx:=hBw.alloc hBw.size (.cells #[.int .u8 (kc xk),.bool xb,.int .i64 xn,.string xt] 102)
 have d0:(w1.alloc (.cells #[.int .u8 (kc xk),.bool xb,.int .i64 xn,.string xt] 102)).cell? ⟨g,0,none⟩=_:=(hWx.cell (p:=⟨g,0,none⟩) hg).trans c0
 have d3:(w1.alloc (.cells #[.int .u8 (kc xk),.bool xb,.int .i64 xn,.string xt] 102)).cell? ⟨g,3,none⟩=_:=(hWx.cell (p:=⟨g,3,none⟩) hg).trans c3
 obtain⟨y0,y1,y2,y3,f0,f1,f2,f3⟩:=zZ ((zeM w1 (.cells #[.int .u8 (kc xk),.bool xb,.int .i64 xn,.string xt] 102) _ (zj hbx)).trans hbx)
 have HBX:=z8 ((zeM w1 (.cells #[.int .u8 (kc xk),.bool xb,.int .i64 xn,.string xt] 102) _ (zj hbx)).trans hbx)
 have HBW:=z8 hWx
 have hsz1:w.heap.size≤w1.heap.size:=hBw.size
 have hne1:w1.heap.size≠w.heap.size:=by have:=zj hbx;omega
 clear hWx hbx hBw hB1
 have d1:(w1.alloc (.cells #[.int .u8 (kc xk),.bool xb,.int .i64 xn,.string xt] 102)).cell? ⟨g',1,none⟩=_:=(HBW.out.cell (p:=⟨g',1,none⟩) hg').trans r1
 have hk:=HKK.out
 go_wp2_with fail
 obtain⟨z0,z1,z2,z3⟩:=zn HBX.out (.int .u8 (kc xk)) (.bool xb) (.int .i64 xn) (.string xt)
 refine bodyPost_ret (v:= .agg #[.int .u8 (kc xk),.bool xb,.int .i64 xn,.string xt]) (by simp [results,Tryz.results55,go_sem,z0,z1,z2,z3]) rfl ?_
 exact⟨by rw [hres.out]<;>rfl,zv HBW.out (zeK _) (.int .u8 (kc xk)) (.bool xb) (.int .i64 xn) (.string xt)⟩
theorem z4a {X:Nat→Prop}{w:World}{v:Value}{op tx:zeV}{a:Int}{v1 v2:Value}(h:NodeX X w v op tx a [v1,v2])(lv:Value)(hs:zG op=true)(xk:Int)(xn:Int)(xt:zeV)(yk:Int)(yb:Bool)(yn:Int)(yt:zeV)(hx:xt.size≤400000000)(hy:yt.size≤400000000)(h1: ∀W,Below w.heap.size w W→Calls Tryz.prog 55 #[v1,lv] W fun e w'=>jp ⟨xk,true,xn,xt⟩ W e w')(h2: ∀W,Below w.heap.size w W→Calls Tryz.prog 55 #[v2,lv] W fun e w'=>jp ⟨yk,yb,yn,yt⟩ W e w')(hz:(xk==0)=false)(hop:(op.toList==[38,38])=true):Calls Tryz.prog 55 #[v,lv] w fun e w'=>jp (zW op ⟨xk,true,xn,xt⟩ ⟨yk,yb,yn,yt⟩) w e w':=by
 obtain⟨g,kv,rfl,hh,hg,hkv⟩:=zL h
 obtain⟨c0,c1,c2,c3,cf⟩:=zR hh
 obtain⟨ak,kk,rfl⟩:=za hkv
 obtain⟨g',cap,hv,hb',hg'⟩:=hkv.form (by simp)
 injection hv with e1 e2 e3
 subst e1 e3
 have r0:w.cell? ⟨g',0,none⟩=some v1:=zf hkv 0 _ rfl
 have r1:w.cell? ⟨g',1,none⟩=some v2:=zf hkv 1 _ rfl
 have hgn:g≠w.heap.size:=by omega
 have hgn':g'≠w.heap.size:=by omega
 clear h hh
 obtain⟨m1,m2⟩:=jC hs
 unfold jQ at m1
 simp only [Bool.or_eq_false_iff] at m1
 obtain⟨⟨⟨⟨⟨⟨n1,n2⟩,n3⟩,n4⟩,n5⟩,n6⟩,n7⟩:=m1
 have n8:(op.toList==[110])=false:=jr hs [110] rfl
 have n9:(op.toList==[33])=false:=jr hs [33] rfl
 clear m2
 have HB0:Hid (Below w.heap.size w (w.alloc (.cells #[.int .u8 0,.bool false,.int .i64 0,.string ⟨#[]⟩] 102))):=z8 ((zeU w.heap.size w).alloc (zeK _) (.cells #[.int .u8 0,.bool false,.int .i64 0,.string ⟨#[]⟩] 102))
 have HX:Hid ((w.alloc (.cells #[.int .u8 0,.bool false,.int .i64 0,.string ⟨#[]⟩] 102)).heap[w.heap.size]?=some (.cells #[.int .u8 0,.bool false,.int .i64 0,.string ⟨#[]⟩] 102)):=z8 (heap_alloc_new w _)
 have HZ:Hid (w.heap.size<(w.alloc (.cells #[.int .u8 0,.bool false,.int .i64 0,.string ⟨#[]⟩] 102)).heap.size):=z8 (by simp)
 have HZ1:Hid (w.heap.size≤(w.alloc (.cells #[.int .u8 0,.bool false,.int .i64 0,.string ⟨#[]⟩] 102)).heap.size):=z8 (by simp<;>omega)
 have HG:Hid (w.heap.size≤w.heap.size):=z8 (by omega)
 have HC:=z8 (h1 _ HB0.out)
 have HY:=z8 h2
 clear h1 h2
 have hk:=z0H xk
 have hop2:(op.toList==[124,124])=false:=by rw [eq_of_beq hop];rfl
 have hres:Hid (zW op ⟨xk,true,xn,xt⟩ ⟨yk,yb,yn,yt⟩=⟨yk,yb,yn,yt⟩):=z8 (by unfold zW;rw [hz,hop];rfl)
 rw [hz] at hk
 have HKK:=z8 hk
 clear hk
 go_enter Tryz.func55,Tryz.ntmps55
 go_wp2_with fail
 refine HC.out.mono ?_
 rintro e w1 ⟨rfl,hB1⟩
 have hBw:=HB0.out.trans (hB1.mono HZ1.out)
 have hbx:=(hB1.block _ HZ.out).trans HX.out
 have hWx:=hBw.alloc hBw.size (.cells #[.int .u8 (kc xk),.bool true,.int .i64 xn,.string xt] 102)
 have d0:(w1.alloc (.cells #[.int .u8 (kc xk),.bool true,.int .i64 xn,.string xt] 102)).cell? ⟨g,0,none⟩=_:=(hWx.cell (p:=⟨g,0,none⟩) hg).trans c0
 have d3:(w1.alloc (.cells #[.int .u8 (kc xk),.bool true,.int .i64 xn,.string xt] 102)).cell? ⟨g,3,none⟩=_:=(hWx.cell (p:=⟨g,3,none⟩) hg).trans c3
 obtain⟨y0,y1,y2,y3,f0,f1,f2,f3⟩:=zZ ((zeM w1 (.cells #[.int .u8 (kc xk),.bool true,.int .i64 xn,.string xt] 102) _ (zj hbx)).trans hbx)
 have HBX:=z8 ((zeM w1 (.cells #[.int .u8 (kc xk),.bool true,.int .i64 xn,.string xt] 102) _ (zj hbx)).trans hbx)
 have HBW:=z8 hWx
 have hsz1:w.heap.size≤w1.heap.size:=hBw.size
 have hne1:w1.heap.size≠w.heap.size:=by have:=zj hbx;omega
 clear hWx hbx hBw hB1
 have d1:(w1.alloc (.cells #[.int .u8 (kc xk),.bool true,.int .i64 xn,.string xt] 102)).cell? ⟨g',1,none⟩=_:=(HBW.out.cell (p:=⟨g',1,none⟩) hg').trans r1
 have hk:=HKK.out
 go_wp2_with fail
 go_quiet (fail)
 go_wp2_with fail
 have hWd:Below w.heap.size w ((w1.alloc (.cells #[.int .u8 (kc xk),.bool true,.int .i64 xn,.string xt] 102)).drewN nq):=⟨HBW.out.os,HBW.out.tape,HBW.out.output,HBW.out.size,HBW.out.block⟩
 refine(HY.out _ hWd).mono ?_
 rintro e w2 ⟨rfl,hB2⟩
 have hbx2:=(hB2.block w.heap.size (zj HBX.out)).trans HBX.out
 have HB2:=z8 (hWd.trans (hB2.mono hWd.size))
 obtain⟨y0,y1,y2,y3,f0,f1,f2,f3⟩:=zZ hbx2
 obtain⟨z0,z1,z2,z3⟩:=zn hbx2 (.int .u8 (kc yk)) (.bool yb) (.int .i64 yn) (.string yt)
 clear hbx2 hB2 hWd
 go_wp2_with fail
 refine bodyPost_ret (v:= .agg #[.int .u8 (kc yk),.bool yb,.int .i64 yn,.string yt]) (by simp [results,Tryz.results55,go_sem,z0,z1,z2,z3]) rfl ?_
 exact⟨by rw [hres.out]<;>rfl,zv HB2.out (zeK _) _ _ _ _⟩
theorem z3X {X:Nat→Prop}{w:World}{v:Value}{op tx:zeV}{a:Int}{v1 v2:Value}(h:NodeX X w v op tx a [v1,v2])(lv:Value)(hs:zG op=true)(xk:Int)(xn:Int)(xt:zeV)(yk:Int)(yb:Bool)(yn:Int)(yt:zeV)(hx:xt.size≤400000000)(hy:yt.size≤400000000)(h1: ∀W,Below w.heap.size w W→Calls Tryz.prog 55 #[v1,lv] W fun e w'=>jp ⟨xk,false,xn,xt⟩ W e w')(h2: ∀W,Below w.heap.size w W→Calls Tryz.prog 55 #[v2,lv] W fun e w'=>jp ⟨yk,yb,yn,yt⟩ W e w')(hz:(xk==0)=false)(hop:(op.toList==[38,38])=true):Calls Tryz.prog 55 #[v,lv] w fun e w'=>jp (zW op ⟨xk,false,xn,xt⟩ ⟨yk,yb,yn,yt⟩) w e w':=by
 obtain⟨g,kv,rfl,hh,hg,hkv⟩:=zL h
 obtain⟨c0,c1,c2,c3,cf⟩:=zR hh
 obtain⟨ak,kk,rfl⟩:=za hkv
 obtain⟨g',cap,hv,hb',hg'⟩:=hkv.form (by simp)
 injection hv with e1 e2 e3
 subst e1 e3
 have r0:w.cell? ⟨g',0,none⟩=some v1:=zf hkv 0 _ rfl
 have r1:w.cell? ⟨g',1,none⟩=some v2:=zf hkv 1 _ rfl
 have hgn:g≠w.heap.size:=by omega
 have hgn':g'≠w.heap.size:=by omega
 clear h hh
 obtain⟨m1,m2⟩:=jC hs
 unfold jQ at m1
 simp only [Bool.or_eq_false_iff] at m1
 obtain⟨⟨⟨⟨⟨⟨n1,n2⟩,n3⟩,n4⟩,n5⟩,n6⟩,n7⟩:=m1
 have n8:(op.toList==[110])=false:=jr hs [110] rfl
 have n9:(op.toList==[33])=false:=jr hs [33] rfl
 clear m2
 have HB0:Hid (Below w.heap.size w (w.alloc (.cells #[.int .u8 0,.bool false,.int .i64 0,.string ⟨#[]⟩] 102))):=z8 ((zeU w.heap.size w).alloc (zeK _) (.cells #[.int .u8 0,.bool false,.int .i64 0,.string ⟨#[]⟩] 102))
 have HX:Hid ((w.alloc (.cells #[.int .u8 0,.bool false,.int .i64 0,.string ⟨#[]⟩] 102)).heap[w.heap.size]?=some (.cells #[.int .u8 0,.bool false,.int .i64 0,.string ⟨#[]⟩] 102)):=z8 (heap_alloc_new w _)
 have HZ:Hid (w.heap.size<(w.alloc (.cells #[.int .u8 0,.bool false,.int .i64 0,.string ⟨#[]⟩] 102)).heap.size):=z8 (by simp)
 have HZ1:Hid (w.heap.size≤(w.alloc (.cells #[.int .u8 0,.bool false,.int .i64 0,.string ⟨#[]⟩] 102)).heap.size):=z8 (by simp<;>omega)
 have HG:Hid (w.heap.size≤w.heap.size):=z8 (by omega)
 have HC:=z8 (h1 _ HB0.out)
 have HY:=z8 h2
 clear h1 h2
 have hk:=z0H xk
 have hop2:(op.toList==[124,124])=false:=by rw [eq_of_beq hop];rfl
 have hres:Hid (zW op ⟨xk,false,xn,xt⟩ ⟨yk,yb,yn,yt⟩=⟨xk,false,xn,xt⟩):=z8 (by unfold zW;rw [hz,hop];rfl)
 rw [hz] at hk
 have HKK:=z8 hk
 clear hk
 go_enter Tryz.func55,Tryz.ntmps55
 go_wp2_with fail
 refine HC.out.mono ?_
 rintro e w1 ⟨rfl,hB1⟩
 have hBw:=HB0.out.trans (hB1.mono HZ1.out)
 have hbx:=(hB1.block _ HZ.out).trans HX.out
 have hWx:=hBw.alloc hBw.size (.cells #[.int .u8 (kc xk),.bool false,.int .i64 xn,.string xt] 102)
 have d0:(w1.alloc (.cells #[.int .u8 (kc xk),.bool false,.int .i64 xn,.string xt] 102)).cell? ⟨g,0,none⟩=_:=(hWx.cell (p:=⟨g,0,none⟩) hg).trans c0
 have d3:(w1.alloc (.cells #[.int .u8 (kc xk),.bool false,.int .i64 xn,.string xt] 102)).cell? ⟨g,3,none⟩=_:=(hWx.cell (p:=⟨g,3,none⟩) hg).trans c3
 obtain⟨y0,y1,y2,y3,f0,f1,f2,f3⟩:=zZ ((zeM w1 (.cells #[.int .u8 (kc xk),.bool false,.int .i64 xn,.string xt] 102) _ (zj hbx)).trans hbx)
 have HBX:=z8 ((zeM w1 (.cells #[.int .u8 (kc xk),.bool false,.int .i64 xn,.string xt] 102) _ (zj hbx)).trans hbx)
 have HBW:=z8 hWx
 have hsz1:w.heap.size≤w1.heap.size:=hBw.size
 have hne1:w1.heap.size≠w.heap.size:=by have:=zj hbx;omega
 clear hWx hbx hBw hB1
 have d1:(w1.alloc (.cells #[.int .u8 (kc xk),.bool false,.int .i64 xn,.string xt] 102)).cell? ⟨g',1,none⟩=_:=(HBW.out.cell (p:=⟨g',1,none⟩) hg').trans r1
 have hk:=HKK.out
 go_wp2_with fail
 go_quiet (fail)
 go_wp2_with fail
 obtain⟨z0,z1,z2,z3⟩:=zn (w:=(w1.alloc (.cells #[.int .u8 (kc xk),.bool false,.int .i64 xn,.string xt] 102)).drewN nq) HBX.out (.int .u8 (kc xk)) (.bool false) (.int .i64 xn) (.string xt)
 refine bodyPost_ret (v:= .agg #[.int .u8 (kc xk),.bool false,.int .i64 xn,.string xt]) (by simp [results,Tryz.results55,go_sem,z0,z1,z2,z3]) rfl ?_
 have hWd:Below w.heap.size w ((w1.alloc (.cells #[.int .u8 (kc xk),.bool false,.int .i64 xn,.string xt] 102)).drewN nq):=⟨HBW.out.os,HBW.out.tape,HBW.out.output,HBW.out.size,HBW.out.block⟩
 exact⟨by rw [hres.out]<;>rfl,zv hWd (zeK _) (.int .u8 (kc xk)) (.bool false) (.int .i64 xn) (.string xt)⟩
theorem z52 {X:Nat→Prop}{w:World}{v:Value}{op tx:zeV}{a:Int}{v1 v2:Value}(h:NodeX X w v op tx a [v1,v2])(lv:Value)(hs:zG op=true)(xk:Int)(xn:Int)(xt:zeV)(yk:Int)(yb:Bool)(yn:Int)(yt:zeV)(hx:xt.size≤400000000)(hy:yt.size≤400000000)(h1: ∀W,Below w.heap.size w W→Calls Tryz.prog 55 #[v1,lv] W fun e w'=>jp ⟨xk,true,xn,xt⟩ W e w')(h2: ∀W,Below w.heap.size w W→Calls Tryz.prog 55 #[v2,lv] W fun e w'=>jp ⟨yk,yb,yn,yt⟩ W e w')(hz:(xk==0)=false)(hop:(op.toList==[124,124])=true):Calls Tryz.prog 55 #[v,lv] w fun e w'=>jp (zW op ⟨xk,true,xn,xt⟩ ⟨yk,yb,yn,yt⟩) w e w':=by
 obtain⟨g,kv,rfl,hh,hg,hkv⟩:=zL h
 obtain⟨c0,c1,c2,c3,cf⟩:=zR hh
 obtain⟨ak,kk,rfl⟩:=za hkv
 obtain⟨g',cap,hv,hb',hg'⟩:=hkv.form (by simp)
 injection hv with e1 e2 e3
 subst e1 e3
 have r0:w.cell? ⟨g',0,none⟩=some v1:=zf hkv 0 _ rfl
 have r1:w.cell? ⟨g',1,none⟩=some v2:=zf hkv 1 _ rfl
 have hgn:g≠w.heap.size:=by omega
 have hgn':g'≠w.heap.size:=by omega
 clear h hh
 obtain⟨m1,m2⟩:=jC hs
 unfold jQ at m1
 simp only [Bool.or_eq_false_iff] at m1
 obtain⟨⟨⟨⟨⟨⟨n1,n2⟩,n3⟩,n4⟩,n5⟩,n6⟩,n7⟩:=m1
 have n8:(op.toList==[110])=false:=jr hs [110] rfl
 have n9:(op.toList==[33])=false:=jr hs [33] rfl
 clear m2
 have HB0:Hid (Below w.heap.size w (w.alloc (.cells #[.int .u8 0,.bool false,.int .i64 0,.string ⟨#[]⟩] 102))):=z8 ((zeU w.heap.size w).alloc (zeK _) (.cells #[.int .u8 0,.bool false,.int .i64 0,.string ⟨#[]⟩] 102))
 have HX:Hid ((w.alloc (.cells #[.int .u8 0,.bool false,.int .i64 0,.string ⟨#[]⟩] 102)).heap[w.heap.size]?=some (.cells #[.int .u8 0,.bool false,.int .i64 0,.string ⟨#[]⟩] 102)):=z8 (heap_alloc_new w _)
 have HZ:Hid (w.heap.size<(w.alloc (.cells #[.int .u8 0,.bool false,.int .i64 0,.string ⟨#[]⟩] 102)).heap.size):=z8 (by simp)
 have HZ1:Hid (w.heap.size≤(w.alloc (.cells #[.int .u8 0,.bool false,.int .i64 0,.string ⟨#[]⟩] 102)).heap.size):=z8 (by simp<;>omega)
 have HG:Hid (w.heap.size≤w.heap.size):=z8 (by omega)
 have HC:=z8 (h1 _ HB0.out)
 have HY:=z8 h2
 clear h1 h2
 have hk:=z0H xk
 have hop2:(op.toList==[38,38])=false:=by rw [eq_of_beq hop];rfl
 have hres:Hid (zW op ⟨xk,true,xn,xt⟩ ⟨yk,yb,yn,yt⟩=⟨xk,true,xn,xt⟩):=z8 (by unfold zW;rw [hz,hop2,hop];rfl)
 rw [hz] at hk
 have HKK:=z8 hk
 clear hk
 go_enter Tryz.func55,Tryz.ntmps55
 go_wp2_with fail
 refine HC.out.mono ?_
 rintro e w1 ⟨rfl,hB1⟩
 have hBw:=HB0.out.trans (hB1.mono HZ1.out)
 have hbx:=(hB1.block _ HZ.out).trans HX.out
 have hWx:=hBw.alloc hBw.size (.cells #[.int .u8 (kc xk),.bool true,.int .i64 xn,.string xt] 102)
 have d0:(w1.alloc (.cells #[.int .u8 (kc xk),.bool true,.int .i64 xn,.string xt] 102)).cell? ⟨g,0,none⟩=_:=(hWx.cell (p:=⟨g,0,none⟩) hg).trans c0
 have d3:(w1.alloc (.cells #[.int .u8 (kc xk),.bool true,.int .i64 xn,.string xt] 102)).cell? ⟨g,3,none⟩=_:=(hWx.cell (p:=⟨g,3,none⟩) hg).trans c3
 obtain⟨y0,y1,y2,y3,f0,f1,f2,f3⟩:=zZ ((zeM w1 (.cells #[.int .u8 (kc xk),.bool true,.int .i64 xn,.string xt] 102) _ (zj hbx)).trans hbx)
 have HBX:=z8 ((zeM w1 (.cells #[.int .u8 (kc xk),.bool true,.int .i64 xn,.string xt] 102) _ (zj hbx)).trans hbx)
 have HBW:=z8 hWx
 have hsz1:w.heap.size≤w1.heap.size:=hBw.size
 have hne1:w1.heap.size≠w.heap.size:=by have:=zj hbx;omega
 clear hWx hbx hBw hB1
 have d1:(w1.alloc (.cells #[.int .u8 (kc xk),.bool true,.int .i64 xn,.string xt] 102)).cell? ⟨g',1,none⟩=_:=(HBW.out.cell (p:=⟨g',1,none⟩) hg').trans r1
 have hk:=HKK.out
 go_wp2_with fail
 go_quiet (fail)
 go_wp2_with fail
 obtain⟨z0,z1,z2,z3⟩:=zn (w:=(w1.alloc (.cells #[.int .u8 (kc xk),.bool true,.int .i64 xn,.string xt] 102)).drewN nq) HBX.out (.int .u8 (kc xk)) (.bool true) (.int .i64 xn) (.string xt)
 refine bodyPost_ret (v:= .agg #[.int .u8 (kc xk),.bool true,.int .i64 xn,.string xt]) (by simp [results,Tryz.results55,go_sem,z0,z1,z2,z3]) rfl ?_
 have hWd:Below w.heap.size w ((w1.alloc (.cells #[.int .u8 (kc xk),.bool true,.int .i64 xn,.string xt] 102)).drewN nq):=⟨HBW.out.os,HBW.out.tape,HBW.out.output,HBW.out.size,HBW.out.block⟩
 exact⟨by rw [hres.out]<;>rfl,zv hWd (zeK _) (.int .u8 (kc xk)) (.bool true) (.int .i64 xn) (.string xt)⟩
theorem z45 {X:Nat→Prop}{w:World}{v:Value}{op tx:zeV}{a:Int}{v1 v2:Value}(h:NodeX X w v op tx a [v1,v2])(lv:Value)(hs:zG op=true)(xk:Int)(xn:Int)(xt:zeV)(yk:Int)(yb:Bool)(yn:Int)(yt:zeV)(hx:xt.size≤400000000)(hy:yt.size≤400000000)(h1: ∀W,Below w.heap.size w W→Calls Tryz.prog 55 #[v1,lv] W fun e w'=>jp ⟨xk,false,xn,xt⟩ W e w')(h2: ∀W,Below w.heap.size w W→Calls Tryz.prog 55 #[v2,lv] W fun e w'=>jp ⟨yk,yb,yn,yt⟩ W e w')(hz:(xk==0)=false)(hop:(op.toList==[124,124])=true):Calls Tryz.prog 55 #[v,lv] w fun e w'=>jp (zW op ⟨xk,false,xn,xt⟩ ⟨yk,yb,yn,yt⟩) w e w':=by
 obtain⟨g,kv,rfl,hh,hg,hkv⟩:=zL h
 obtain⟨c0,c1,c2,c3,cf⟩:=zR hh
 obtain⟨ak,kk,rfl⟩:=za hkv
 obtain⟨g',cap,hv,hb',hg'⟩:=hkv.form (by simp)
 injection hv with e1 e2 e3
 subst e1 e3
 have r0:w.cell? ⟨g',0,none⟩=some v1:=zf hkv 0 _ rfl
 have r1:w.cell? ⟨g',1,none⟩=some v2:=zf hkv 1 _ rfl
 have hgn:g≠w.heap.size:=by omega
 have hgn':g'≠w.heap.size:=by omega
 clear h hh
 obtain⟨m1,m2⟩:=jC hs
 unfold jQ at m1
 simp only [Bool.or_eq_false_iff] at m1
 obtain⟨⟨⟨⟨⟨⟨n1,n2⟩,n3⟩,n4⟩,n5⟩,n6⟩,n7⟩:=m1
 have n8:(op.toList==[110])=false:=jr hs [110] rfl
 have n9:(op.toList==[33])=false:=jr hs [33] rfl
 clear m2
 have HB0:Hid (Below w.heap.size w (w.alloc (.cells #[.int .u8 0,.bool false,.int .i64 0,.string ⟨#[]⟩] 102))):=z8 ((zeU w.heap.size w).alloc (zeK _) (.cells #[.int .u8 0,.bool false,.int .i64 0,.string ⟨#[]⟩] 102))
 have HX:Hid ((w.alloc (.cells #[.int .u8 0,.bool false,.int .i64 0,.string ⟨#[]⟩] 102)).heap[w.heap.size]?=some (.cells #[.int .u8 0,.bool false,.int .i64 0,.string ⟨#[]⟩] 102)):=z8 (heap_alloc_new w _)
 have HZ:Hid (w.heap.size<(w.alloc (.cells #[.int .u8 0,.bool false,.int .i64 0,.string ⟨#[]⟩] 102)).heap.size):=z8 (by simp)
 have HZ1:Hid (w.heap.size≤(w.alloc (.cells #[.int .u8 0,.bool false,.int .i64 0,.string ⟨#[]⟩] 102)).heap.size):=z8 (by simp<;>omega)
 have HG:Hid (w.heap.size≤w.heap.size):=z8 (by omega)
 have HC:=z8 (h1 _ HB0.out)
 have HY:=z8 h2
 clear h1 h2
 have hk:=z0H xk
 have hop2:(op.toList==[38,38])=false:=by rw [eq_of_beq hop];rfl
 have hres:Hid (zW op ⟨xk,false,xn,xt⟩ ⟨yk,yb,yn,yt⟩=⟨yk,yb,yn,yt⟩):=z8 (by unfold zW;rw [hz,hop2,hop];rfl)
 rw [hz] at hk
 have HKK:=z8 hk
 clear hk
 go_enter Tryz.func55,Tryz.ntmps55
 go_wp2_with fail
 refine HC.out.mono ?_
 rintro e w1 ⟨rfl,hB1⟩
 have hBw:=HB0.out.trans (hB1.mono HZ1.out)
 have hbx:=(hB1.block _ HZ.out).trans HX.out
 have hWx:=hBw.alloc hBw.size (.cells #[.int .u8 (kc xk),.bool false,.int .i64 xn,.string xt] 102)
 have d0:(w1.alloc (.cells #[.int .u8 (kc xk),.bool false,.int .i64 xn,.string xt] 102)).cell? ⟨g,0,none⟩=_:=(hWx.cell (p:=⟨g,0,none⟩) hg).trans c0
 have d3:(w1.alloc (.cells #[.int .u8 (kc xk),.bool false,.int .i64 xn,.string xt] 102)).cell? ⟨g,3,none⟩=_:=(hWx.cell (p:=⟨g,3,none⟩) hg).trans c3
 obtain⟨y0,y1,y2,y3,f0,f1,f2,f3⟩:=zZ ((zeM w1 (.cells #[.int .u8 (kc xk),.bool false,.int .i64 xn,.string xt] 102) _ (zj hbx)).trans hbx)
 have HBX:=z8 ((zeM w1 (.cells #[.int .u8 (kc xk),.bool false,.int .i64 xn,.string xt] 102) _ (zj hbx)).trans hbx)
 have HBW:=z8 hWx
 have hsz1:w.heap.size≤w1.heap.size:=hBw.size
 have hne1:w1.heap.size≠w.heap.size:=by have:=zj hbx;omega
 clear hWx hbx hBw hB1
 have d1:(w1.alloc (.cells #[.int .u8 (kc xk),.bool false,.int .i64 xn,.string xt] 102)).cell? ⟨g',1,none⟩=_:=(HBW.out.cell (p:=⟨g',1,none⟩) hg').trans r1
 have hk:=HKK.out
 go_wp2_with fail
 go_quiet (fail)
 go_wp2_with fail
 have hWd:Below w.heap.size w ((w1.alloc (.cells #[.int .u8 (kc xk),.bool false,.int .i64 xn,.string xt] 102)).drewN nq):=⟨HBW.out.os,HBW.out.tape,HBW.out.output,HBW.out.size,HBW.out.block⟩
 refine(HY.out _ hWd).mono ?_
 rintro e w2 ⟨rfl,hB2⟩
 have hbx2:=(hB2.block w.heap.size (zj HBX.out)).trans HBX.out
 have HB2:=z8 (hWd.trans (hB2.mono hWd.size))
 obtain⟨y0,y1,y2,y3,f0,f1,f2,f3⟩:=zZ hbx2
 obtain⟨z0,z1,z2,z3⟩:=zn hbx2 (.int .u8 (kc yk)) (.bool yb) (.int .i64 yn) (.string yt)
 clear hbx2 hB2 hWd
 go_wp2_with fail
 refine bodyPost_ret (v:= .agg #[.int .u8 (kc yk),.bool yb,.int .i64 yn,.string yt]) (by simp [results,Tryz.results55,go_sem,z0,z1,z2,z3]) rfl ?_
 exact⟨by rw [hres.out]<;>rfl,zv HB2.out (zeK _) _ _ _ _⟩
theorem zbh {w a b:World}(h:Below w.heap.size w a)(k:Below a.drew.heap.size a.drew b):Below w.heap.size w b:=
 ⟨k.os.trans h.os,k.tape.trans h.tape,k.output.trans h.output,zeS h.size k.size,fun i hi=>(k.block i (zeQ hi h.size)).trans (h.block i hi)⟩
theorem z6B {X:Nat→Prop}{w:World}{v:Value}{op tx:zeV}{a:Int}{v1 v2:Value}(h:NodeX X w v op tx a [v1,v2])(lv:Value)(hs:zG op=true)(xk:Int)(xb:Bool)(xn:Int)(xt:zeV)(yk:Int)(yb:Bool)(yn:Int)(yt:zeV)(hx:xt.size≤400000000)(hy:yt.size≤400000000)(h1: ∀W,Below w.heap.size w W→Calls Tryz.prog 55 #[v1,lv] W fun e w'=>jp ⟨xk,xb,xn,xt⟩ W e w')(h2: ∀W,Below w.heap.size w W→Calls Tryz.prog 55 #[v2,lv] W fun e w'=>jp ⟨yk,yb,yn,yt⟩ W e w')(hz:(xk==0)=false)(hand:(op.toList==[38,38])=false)(hor:(op.toList==[124,124])=false)(hyz:(yk==0)=true):Calls Tryz.prog 55 #[v,lv] w fun e w'=>jp (zW op ⟨xk,xb,xn,xt⟩ ⟨yk,yb,yn,yt⟩) w e w':=by
 obtain⟨g,kv,rfl,hh,hg,hkv⟩:=zL h
 obtain⟨c0,c1,c2,c3,cf⟩:=zR hh
 obtain⟨ak,kk,rfl⟩:=za hkv
 obtain⟨g',cap,hv,hb',hg'⟩:=hkv.form (by simp)
 injection hv with e1 e2 e3
 subst e1 e3
 have r0:w.cell? ⟨g',0,none⟩=some v1:=zf hkv 0 _ rfl
 have r1:w.cell? ⟨g',1,none⟩=some v2:=zf hkv 1 _ rfl
 have hgn:g≠w.heap.size:=by omega
 have hgn':g'≠w.heap.size:=by omega
 clear h hh
 obtain⟨m1,m2⟩:=jC hs
 unfold jQ at m1
 simp only [Bool.or_eq_false_iff] at m1
 obtain⟨⟨⟨⟨⟨⟨n1,n2⟩,n3⟩,n4⟩,n5⟩,n6⟩,n7⟩:=m1
 have n8:(op.toList==[110])=false:=jr hs [110] rfl
 have n9:(op.toList==[33])=false:=jr hs [33] rfl
 clear m2
 have HB0:Hid (Below w.heap.size w (w.alloc (.cells #[.int .u8 0,.bool false,.int .i64 0,.string ⟨#[]⟩] 102))):=z8 ((zeU w.heap.size w).alloc (zeK _) (.cells #[.int .u8 0,.bool false,.int .i64 0,.string ⟨#[]⟩] 102))
 have HX:Hid ((w.alloc (.cells #[.int .u8 0,.bool false,.int .i64 0,.string ⟨#[]⟩] 102)).heap[w.heap.size]?=some (.cells #[.int .u8 0,.bool false,.int .i64 0,.string ⟨#[]⟩] 102)):=z8 (heap_alloc_new w _)
 have HZ:Hid (w.heap.size<(w.alloc (.cells #[.int .u8 0,.bool false,.int .i64 0,.string ⟨#[]⟩] 102)).heap.size):=z8 (by simp)
 have HZ1:Hid (w.heap.size≤(w.alloc (.cells #[.int .u8 0,.bool false,.int .i64 0,.string ⟨#[]⟩] 102)).heap.size):=z8 (by simp<;>omega)
 have HG:Hid (w.heap.size≤w.heap.size):=z8 (by omega)
 have HC:=z8 (h1 _ HB0.out)
 have HY:=z8 h2
 clear h1 h2
 have hk:=z0H xk
 have hky:=z0H yk
 have hres:Hid (zW op ⟨xk,xb,xn,xt⟩ ⟨yk,yb,yn,yt⟩=⟨yk,yb,yn,yt⟩):=z8 (by unfold zW;rw [hz,hand,hor,hyz];rfl)
 rw [hz] at hk
 rw [hyz] at hky
 have HKK:=z8 (zeL hk hky)
 clear hk hky
 go_enter Tryz.func55,Tryz.ntmps55
 go_wp2_with fail
 refine HC.out.mono ?_
 rintro e w1 ⟨rfl,hB1⟩
 have hBw:=HB0.out.trans (hB1.mono HZ1.out)
 have hbx:=(hB1.block _ HZ.out).trans HX.out
 have hWx:=hBw.alloc hBw.size (.cells #[.int .u8 (kc xk),.bool xb,.int .i64 xn,.string xt] 102)
 have d0:(w1.alloc (.cells #[.int .u8 (kc xk),.bool xb,.int .i64 xn,.string xt] 102)).cell? ⟨g,0,none⟩=_:=(hWx.cell (p:=⟨g,0,none⟩) hg).trans c0
 have d3:(w1.alloc (.cells #[.int .u8 (kc xk),.bool xb,.int .i64 xn,.string xt] 102)).cell? ⟨g,3,none⟩=_:=(hWx.cell (p:=⟨g,3,none⟩) hg).trans c3
 obtain⟨y0,y1,y2,y3,f0,f1,f2,f3⟩:=zZ ((zeM w1 (.cells #[.int .u8 (kc xk),.bool xb,.int .i64 xn,.string xt] 102) _ (zj hbx)).trans hbx)
 have HBX:=z8 ((zeM w1 (.cells #[.int .u8 (kc xk),.bool xb,.int .i64 xn,.string xt] 102) _ (zj hbx)).trans hbx)
 have HBW:=z8 hWx
 have hsz1:w.heap.size≤w1.heap.size:=hBw.size
 have hne1:w1.heap.size≠w.heap.size:=by have:=zj hbx;omega
 clear hWx hbx hBw hB1
 have d1:(w1.alloc (.cells #[.int .u8 (kc xk),.bool xb,.int .i64 xn,.string xt] 102)).cell? ⟨g',1,none⟩=_:=(HBW.out.cell (p:=⟨g',1,none⟩) hg').trans r1
 obtain⟨hk,hky⟩:=HKK.out
 go_wp2_with fail
 refine(HY.out _ HBW.out).mono ?_
 rintro e w2 ⟨rfl,hB2⟩
 have hB3:=HBW.out.trans (hB2.mono HBW.out.size)
 have hW3:=hB3.alloc hB3.size (.cells #[.int .u8 (kc yk),.bool yb,.int .i64 yn,.string yt] 102)
 have hbx2:=(hB2.block w.heap.size (zj HBX.out)).trans HBX.out
 have hxb2:w2.heap[w1.heap.size]?=some (.cells #[.int .u8 (kc xk),.bool xb,.int .i64 xn,.string xt] 102):=(hB2.block w1.heap.size (by simp)).trans (heap_alloc_new w1 _)
 have hbx3:=(zeM w2 (.cells #[.int .u8 (kc yk),.bool yb,.int .i64 yn,.string yt] 102) _ (zj hbx2)).trans hbx2
 have hxb3:=(zeM w2 (.cells #[.int .u8 (kc yk),.bool yb,.int .i64 yn,.string yt] 102) _ (zj hxb2)).trans hxb2
 clear d0 d1 d3 y0 y1 y2 y3 f0 f1 f2 f3
 have d0:(w2.alloc (.cells #[.int .u8 (kc yk),.bool yb,.int .i64 yn,.string yt] 102)).cell? ⟨g,0,none⟩=_:=(hW3.cell (p:=⟨g,0,none⟩) hg).trans c0
 obtain⟨y0,y1,y2,y3,f0,f1,f2,f3⟩:=zZ hbx3
 obtain⟨x0,x1,x2,x3,_,_,_,_⟩:=zZ hxb3
 have HBX3:=z8 hbx3
 have HW3:=z8 hW3
 clear hbx2 hxb2 hbx3 hxb3 hW3 hB3 hB2
 go_wp2_with fail
 obtain⟨z0,z1,z2,z3⟩:=zn HBX3.out (.int .u8 (kc yk)) (.bool yb) (.int .i64 yn) (.string yt)
 refine bodyPost_ret (v:= .agg #[.int .u8 (kc yk),.bool yb,.int .i64 yn,.string yt]) (by simp [results,Tryz.results55,go_sem,z0,z1,z2,z3]) rfl ?_
 exact⟨by rw [hres.out]<;>rfl,zv HW3.out (zeK _) _ _ _ _⟩
theorem z7d {X:Nat→Prop}{w:World}{v:Value}{op tx:zeV}{a:Int}{v1 v2:Value}(h:NodeX X w v op tx a [v1,v2])(lv:Value)(hs:zG op=true)(xk:Int)(xb:Bool)(xn:Int)(xt:zeV)(yk:Int)(yb:Bool)(yn:Int)(yt:zeV)(hx:xt.size≤400000000)(hy:yt.size≤400000000)(h1: ∀W,Below w.heap.size w W→Calls Tryz.prog 55 #[v1,lv] W fun e w'=>jp ⟨xk,xb,xn,xt⟩ W e w')(h2: ∀W,Below w.heap.size w W→Calls Tryz.prog 55 #[v2,lv] W fun e w'=>jp ⟨yk,yb,yn,yt⟩ W e w')(hz:(xk==0)=false)(hand:(op.toList==[38,38])=false)(hor:(op.toList==[124,124])=false)(hyz:(yk==0)=false):Calls Tryz.prog 55 #[v,lv] w fun e w'=>jp (zW op ⟨xk,xb,xn,xt⟩ ⟨yk,yb,yn,yt⟩) w e w':=by
 obtain⟨g,kv,rfl,hh,hg,hkv⟩:=zL h
 obtain⟨c0,c1,c2,c3,cf⟩:=zR hh
 obtain⟨ak,kk,rfl⟩:=za hkv
 obtain⟨g',cap,hv,hb',hg'⟩:=hkv.form (by simp)
 injection hv with e1 e2 e3
 subst e1 e3
 have r0:w.cell? ⟨g',0,none⟩=some v1:=zf hkv 0 _ rfl
 have r1:w.cell? ⟨g',1,none⟩=some v2:=zf hkv 1 _ rfl
 have hgn:g≠w.heap.size:=by omega
 have hgn':g'≠w.heap.size:=by omega
 clear h hh
 obtain⟨m1,m2⟩:=jC hs
 unfold jQ at m1
 simp only [Bool.or_eq_false_iff] at m1
 obtain⟨⟨⟨⟨⟨⟨n1,n2⟩,n3⟩,n4⟩,n5⟩,n6⟩,n7⟩:=m1
 have n8:(op.toList==[110])=false:=jr hs [110] rfl
 have n9:(op.toList==[33])=false:=jr hs [33] rfl
 clear m2
 have HB0:Hid (Below w.heap.size w (w.alloc (.cells #[.int .u8 0,.bool false,.int .i64 0,.string ⟨#[]⟩] 102))):=z8 ((zeU w.heap.size w).alloc (zeK _) (.cells #[.int .u8 0,.bool false,.int .i64 0,.string ⟨#[]⟩] 102))
 have HX:Hid ((w.alloc (.cells #[.int .u8 0,.bool false,.int .i64 0,.string ⟨#[]⟩] 102)).heap[w.heap.size]?=some (.cells #[.int .u8 0,.bool false,.int .i64 0,.string ⟨#[]⟩] 102)):=z8 (heap_alloc_new w _)
 have HZ:Hid (w.heap.size<(w.alloc (.cells #[.int .u8 0,.bool false,.int .i64 0,.string ⟨#[]⟩] 102)).heap.size):=z8 (by simp)
 have HZ1:Hid (w.heap.size≤(w.alloc (.cells #[.int .u8 0,.bool false,.int .i64 0,.string ⟨#[]⟩] 102)).heap.size):=z8 (by simp<;>omega)
 have HG:Hid (w.heap.size≤w.heap.size):=z8 (by omega)
 have HC:=z8 (h1 _ HB0.out)
 have HY:=z8 h2
 clear h1 h2
 have hk:=z0H xk
 have hky:=z0H yk
 have hres:Hid (zW op ⟨xk,xb,xn,xt⟩ ⟨yk,yb,yn,yt⟩=z0z op ⟨xk,xb,xn,xt⟩ ⟨yk,yb,yn,yt⟩):=z8 (by unfold zW;rw [hz,hand,hor,hyz];rfl)
 rw [hz] at hk
 rw [hyz] at hky
 have HKK:=z8 (zeL hk hky)
 clear hk hky
 go_enter Tryz.func55,Tryz.ntmps55
 go_wp2_with fail
 refine HC.out.mono ?_
 rintro e w1 ⟨rfl,hB1⟩
 have hBw:=HB0.out.trans (hB1.mono HZ1.out)
 have hbx:=(hB1.block _ HZ.out).trans HX.out
 have hWx:=hBw.alloc hBw.size (.cells #[.int .u8 (kc xk),.bool xb,.int .i64 xn,.string xt] 102)
 have d0:(w1.alloc (.cells #[.int .u8 (kc xk),.bool xb,.int .i64 xn,.string xt] 102)).cell? ⟨g,0,none⟩=_:=(hWx.cell (p:=⟨g,0,none⟩) hg).trans c0
 have d3:(w1.alloc (.cells #[.int .u8 (kc xk),.bool xb,.int .i64 xn,.string xt] 102)).cell? ⟨g,3,none⟩=_:=(hWx.cell (p:=⟨g,3,none⟩) hg).trans c3
 obtain⟨y0,y1,y2,y3,f0,f1,f2,f3⟩:=zZ ((zeM w1 (.cells #[.int .u8 (kc xk),.bool xb,.int .i64 xn,.string xt] 102) _ (zj hbx)).trans hbx)
 have HBX:=z8 ((zeM w1 (.cells #[.int .u8 (kc xk),.bool xb,.int .i64 xn,.string xt] 102) _ (zj hbx)).trans hbx)
 have HBW:=z8 hWx
 have hsz1:w.heap.size≤w1.heap.size:=hBw.size
 have hne1:w1.heap.size≠w.heap.size:=by have:=zj hbx;omega
 clear hWx hbx hBw hB1
 have d1:(w1.alloc (.cells #[.int .u8 (kc xk),.bool xb,.int .i64 xn,.string xt] 102)).cell? ⟨g',1,none⟩=_:=(HBW.out.cell (p:=⟨g',1,none⟩) hg').trans r1
 obtain⟨hk,hky⟩:=HKK.out
 go_wp2_with fail
 refine(HY.out _ HBW.out).mono ?_
 rintro e w2 ⟨rfl,hB2⟩
 have hB3:=HBW.out.trans (hB2.mono HBW.out.size)
 have hW3:=hB3.alloc hB3.size (.cells #[.int .u8 (kc yk),.bool yb,.int .i64 yn,.string yt] 102)
 have hbx2:=(hB2.block w.heap.size (zj HBX.out)).trans HBX.out
 have hxb2:w2.heap[w1.heap.size]?=some (.cells #[.int .u8 (kc xk),.bool xb,.int .i64 xn,.string xt] 102):=(hB2.block w1.heap.size (by simp)).trans (heap_alloc_new w1 _)
 have hbx3:=(zeM w2 (.cells #[.int .u8 (kc yk),.bool yb,.int .i64 yn,.string yt] 102) _ (zj hbx2)).trans hbx2
 have hxb3:=(zeM w2 (.cells #[.int .u8 (kc yk),.bool yb,.int .i64 yn,.string yt] 102) _ (zj hxb2)).trans hxb2
 clear d0 d1 d3 y0 y1 y2 y3 f0 f1 f2 f3
 have d0:(w2.alloc (.cells #[.int .u8 (kc yk),.bool yb,.int .i64 yn,.string yt] 102)).cell? ⟨g,0,none⟩=_:=(hW3.cell (p:=⟨g,0,none⟩) hg).trans c0
 obtain⟨y0,y1,y2,y3,f0,f1,f2,f3⟩:=zZ hbx3
 obtain⟨x0,x1,x2,x3,_,_,_,_⟩:=zZ hxb3
 have HBX3:=z8 hbx3
 have HW3:=z8 hW3
 clear hbx2 hxb2 hbx3 hxb3 hW3 hB3 hB2
 have HC2:=z8 (fun W=>zat op ⟨xk,xb,xn,xt⟩ ⟨yk,yb,yn,yt⟩ W hx hy hs hand hor)
 generalize hX:z0z op ⟨xk,xb,xn,xt⟩ ⟨yk,yb,yn,yt⟩=X at*
 clear hX
 go_wp2_with fail
 go_region_with (go_at_call 100;refine(HC2.out _).mono ?_;rintro e w4 ⟨rfl,hB4⟩;(have hbx4:=(hB4.block w.heap.size (zj HBX3.out)).trans HBX3.out);(have HB4:=z8 hB4);(obtain⟨u0,u1,u2,u3,t0,t1,t2,t3⟩:=zZ hbx4);(have HBX4:=z8 hbx4);(clear hB4 hbx4))
 all_goals go_wp2_with fail
 all_goals (obtain⟨z0,z1,z2,z3⟩:=zn HBX4.out (.int .u8 (kc X.kind)) (.bool X.truth) (.int .i64 X.num) (.string X.text))
 all_goals refine bodyPost_ret (v:= .agg #[.int .u8 (kc X.kind),.bool X.truth,.int .i64 X.num,.string X.text]) (by simp [results,Tryz.results55,go_sem,z0,z1,z2,z3]) rfl ?_
 all_goals exact⟨by rw [hres.out]<;>rfl,zv (zbh HW3.out HB4.out) (zeK _) _ _ _ _⟩
theorem z8m {X:Nat→Prop}{w:World}{v:Value}{op tx:zeV}{a:Int}{v1 v2:Value}(h:NodeX X w v op tx a [v1,v2])(lv:Value)(hs:zG op=true)(x y:Wt)(hx:x.text.size≤400000000)(hy:y.text.size≤400000000)(h1: ∀W,Below w.heap.size w W→Calls Tryz.prog 55 #[v1,lv] W fun e w'=>jp x W e w')(h2: ∀W,Below w.heap.size w W→Calls Tryz.prog 55 #[v2,lv] W fun e w'=>jp y W e w'):Calls Tryz.prog 55 #[v,lv] w fun e w'=>jp (zW op x y) w e w':=by
 obtain⟨xk,xb,xn,xt⟩:=x
 obtain⟨yk,yb,yn,yt⟩:=y
 cases hz:(xk==0) with
 |true=>exact z77 h lv hs xk xb xn xt yk yb yn yt hx hy h1 h2 hz
 |false=>
  cases hand:(op.toList==[38,38]) with
  |true=>
   cases xb with
   |true=>exact z4a h lv hs xk xn xt yk yb yn yt hx hy h1 h2 hz hand
   |false=>exact z3X h lv hs xk xn xt yk yb yn yt hx hy h1 h2 hz hand
  |false=>
   cases hor:(op.toList==[124,124]) with
   |true=>
    cases xb with
    |true=>exact z52 h lv hs xk xn xt yk yb yn yt hx hy h1 h2 hz hor
    |false=>exact z45 h lv hs xk xn xt yk yb yn yt hx hy h1 h2 hz hor
   |false=>
    cases hyz:(yk==0) with
    |true=>exact z6B h lv hs xk xb xn xt yk yb yn yt hx hy h1 h2 hz hand hor hyz
    |false=>exact z7d h lv hs xk xb xn xt yk yb yn yt hx hy h1 h2 hz hand hor hyz
theorem z38 (l:List (zeV×zeV))(E:List Ex)(i:Nat)(hi:i≤E.length):(ze l E []).take i=ze l (E.take i) []:=by
 obtain⟨us,h⟩:=z1T l (E.drop i) (ze l (E.take i) [])
 rw [←z0T,List.take_append_drop] at h
 rw [h]
 have hl:(ze l (E.take i) []).length=i:=by rw [jw];simp;omega
 rw [List.take_append_of_le_length (by omega),List.take_of_length_le (by omega)]
theorem z6D (l:List (zeV×zeV)){E:List Ex}{i:Nat}{x:Ex}(h:E[i]?=some x):
  wAt (ze l E []) i=wOf l x (wAt (ze l (E.take i) []) x.left) (wAt (ze l (E.take i) []) x.right):=by
 have hi:=(zeI.1 h).1
 have h1:=z38 l E (i+1) (by omega)
 rw [z3d l h] at h1
 have hl:(ze l (E.take i) []).length=i:=by rw [jw];simp;omega
 have h2:(ze l E [])[i]?=some (wOf l x (wAt (ze l (E.take i) []) x.left) (wAt (ze l (E.take i) []) x.right)):=by
  have h3:((ze l E []).take (i+1))[i]?=(ze l E [])[i]?:=List.getElem?_take_of_lt (by omega)
  rw [←h3,h1,List.getElem?_append_right (by omega),hl]
  simp
 generalize wOf l x (wAt (ze l (E.take i) []) x.left) (wAt (ze l (E.take i) []) x.right)=R at h2 ⊢
 unfold wAt
 rw [if_neg (by omega)]
 simp [List.getD,h2]
theorem z1h (l:List (zeV×zeV))(E:List Ex){i j:Nat}(hi:i≤E.length)(hj:j<i):wAt (ze l (E.take i) []) (j:Int)=wAt (ze l E []) (j:Int):=by
 rw [←z38 l E i hi]
 unfold wAt
 rw [if_neg (by omega),if_neg (by omega)]
 simp only [List.getD]
 rw [show((j:Int)).toNat=j by omega,List.getElem?_take_of_lt hj]
theorem RefEX.le {X:Nat→Prop}{w:World}{E:List Ex}: ∀{f:Nat} {v:Value} {a i:Nat},RefEX X w E f v a i→a≤i:=by
 intro f
 induction f with
 |zero=>intro v a i h;exact absurd h id
 |succ f ih=>
  intro v a i h
  obtain⟨x,hx,h⟩:=h
  rcases h with⟨_,h,_⟩|⟨_,h,_⟩|⟨_,h,_⟩|⟨_,h,_⟩|⟨_,h,_⟩|⟨_,v1,j,h2,_,_,h5⟩|⟨_,v1,v2,j,k,h2,_,_,_,h6,h7⟩
  ·omega
  ·omega
  ·omega
  ·omega
  ·omega
  ·have:=ih h5;omega
  ·have:=ih h6;have:=ih h7;omega
theorem z9i {X:Nat→Prop}{E:List Ex}(hg:jh E)(l:List (zeV×zeV))(lv:Value)(lb:Nat)(hll:l.length≤100000)(hls: ∀p∈l,p.2.size≤600)(hE: ∀x∈E,x.text.size≤600)
  (hW: ∀x∈ze l E [],x.text.size≤100000000∧ -999999999≤x.num∧x.num≤999999999):
  ∀(f:Nat) (v:Value) (a i:Nat) (w:World),RefEX X w E f v a i→w.ownsRow lb 144 2 lv l.length ((l.map zu).flatten)→Calls Tryz.prog 55 #[v,lv] w fun e w'=>jp (wAt (ze l E []) i) w e w':=by
 have hbd: ∀j:Int,(wAt (ze l E []) j).text.size≤100000000∧ -999999999≤(wAt (ze l E []) j).num∧(wAt (ze l E []) j).num≤999999999:=fun j=>by
  rcases z26 (ze l E []) j with q|q
  ·rw [q];decide
  ·exact hW _ q
 intro f
 induction f with
 |zero=>intro v a i w h;exact absurd h id
 |succ f ih=>
  intro v a i w h hl
  obtain⟨x,hx,h⟩:=h
  have hi:=(zeI.1 hx).1
  have hxm:x∈E:=zeP hx
  have hxs:=hE x hxm
  rw [z6D l hx]
  rcases h with⟨hf,_,p,hn⟩|⟨hf,_,p,hn⟩|⟨hf,_,ht,p,hn⟩|⟨hf,_,p,hn⟩|⟨hf,_,p,hn⟩|⟨hf,v1,j,h2,h3,h4,h5⟩|⟨hf,v1,v2,j,k,h2,h3,h4,h5,h6,h7⟩
  ·have e: ∀a b,wOf l x a b=nsM x.text:=fun a b=>by unfold wOf;rw [hf];rfl
   rw [e]
   exact z9I hn lv hxs
  ·have e: ∀a b,wOf l x a b=z4A x.text:=fun a b=>by unfold wOf;rw [hf];rfl
   rw [e]
   exact z93 hn lv
  ·have e: ∀a b,wOf l x a b=z0u (x.text.toList==[116,114,117,101]):=fun a b=>by unfold wOf;rw [hf];rfl
   rw [e,zeJ]
   rcases ht with ht|ht
   ·rw [ht]
    have hxt:x.text=⟨#[116,114,117,101]⟩:=by
     apply ByteArray.ext
     apply Array.ext'
     exact ht
    rw [hxt] at hn
    exact z7W hn lv
   ·rw [ht]
    have hxt:x.text=⟨#[102,97,108,115,101]⟩:=by
     apply ByteArray.ext
     apply Array.ext'
     exact ht
    rw [hxt] at hn
    exact z6r hn lv
  ·have e: ∀a b,wOf l x a b=z4A (z1L x.text l):=fun a b=>by unfold wOf;rw [hf];rfl
   rw [e]
   exact z8a hn lv lb l hl hll
  ·have e: ∀a b,wOf l x a b=nsM (z1L x.text l):=fun a b=>by unfold wOf;rw [hf];rfl
   rw [e]
   exact zbq hn lv lb l hl hll hls
  ·have e: ∀a b,wOf l x a b=z0n x.text a:=fun a b=>by unfold wOf;rw [hf];rfl
   rw [e,h3,z1h l E (by omega) (by omega)]
   have hrec: ∀W,Below w.heap.size w W→Calls Tryz.prog 55 #[v1,lv] W fun e w'=>jp (wAt (ze l E []) (j:Int)) W e w':=fun W hB=>
    ih v1 a j W (h5.keepX (zi hB)) (zb hl fun k e=>hB.block k (hl.lt k e).2)
   have hb:=hbd (j:Int)
   generalize wAt (ze l E []) (j:Int)=Y at*
   obtain⟨yk,yb,yn,yt⟩:=Y
   rcases h4 with⟨ht,hn⟩|⟨ht,hn⟩
   ·rw [ht]
    exact z91 hn lv yk yb yn yt hb.2 hrec
   ·rw [ht]
    exact z9S hn lv yk yb yn yt hb.2 hrec
  ·have e: ∀a b,wOf l x a b=zW x.text a b:=fun a b=>by unfold wOf;rw [hf];rfl
   have hjk:=h7.le
   rw [e,h3,h4,z1h l E (by omega) (by omega),z1h l E (by omega) (by omega)]
   have hb1:=hbd (j:Int)
   have hb2:=hbd (k:Int)
   exact z8m h5 lv ((hg x hxm).2 hf) _ _ (by omega) (by omega)
    (fun W hB=>ih v1 a j W (h6.keepX (zi hB)) (zb hl fun k e=>hB.block k (hl.lt k e).2))
    (fun W hB=>ih v2 (j+1) k W (h7.keepX (zi hB)) (zb hl fun k e=>hB.block k (hl.lt k e).2))
def Rng (E:List Ex):Nat→Nat→Nat→Prop
 |0,_,_=>False
 |f+1,a,i=> ∃x,E[i]?=some x∧((0≤x.form∧x.form≤4∧a=i)∨(x.form=5∧ ∃j:Nat,i=j+1∧x.left=(j:Int)∧Rng E f a j)∨
   (x.form=6∧ ∃j k:Nat,i=k+1∧x.left=(j:Int)∧x.right=(k:Int)∧Rng E f a j∧Rng E f (j+1) k))
theorem RefEX.rng {X:Nat→Prop}{w:World}{E:List Ex}: ∀{f:Nat} {v:Value} {a i:Nat},RefEX X w E f v a i→Rng E f a i:=by
 intro f
 induction f with
 |zero=>intro v a i h;exact absurd h id
 |succ f ih=>
  intro v a i h
  obtain⟨x,hx,h⟩:=h
  refine⟨x,hx,?_⟩
  rcases h with⟨h1,h,_⟩|⟨h1,h,_⟩|⟨h1,h,_⟩|⟨h1,h,_⟩|⟨h1,h,_⟩|⟨h1,v1,j,h2,h3,_,h5⟩|⟨h1,v1,v2,j,k,h2,h3,h4,_,h6,h7⟩
  ·exact .inl ⟨by omega,by omega,h⟩
  ·exact .inl ⟨by omega,by omega,h⟩
  ·exact .inl ⟨by omega,by omega,h⟩
  ·exact .inl ⟨by omega,by omega,h⟩
  ·exact .inl ⟨by omega,by omega,h⟩
  ·exact .inr (.inl ⟨h1,j,h2,h3,ih h5⟩)
  ·exact .inr (.inr ⟨h1,j,k,h2,h3,h4,ih h6,ih h7⟩)
theorem Rng.le {E:List Ex}: ∀{f a i:Nat},Rng E f a i→a≤i:=by
 intro f
 induction f with
 |zero=>intro a i h;exact absurd h id
 |succ f ih=>
  intro a i h
  obtain⟨x,hx,h⟩:=h
  rcases h with⟨_,_,h⟩|⟨_,j,h2,_,h5⟩|⟨_,j,k,h2,_,_,h6,h7⟩
  ·omega
  ·have:=ih h5;omega
  ·have:=ih h6;have:=ih h7;omega
theorem Rng.sub {E:List Ex}: ∀{f a i:Nat},Rng E f a i→ ∀p,a≤p→p≤i→ ∃f' a',Rng E f' a' p:=by
 intro f
 induction f with
 |zero=>intro a i h;exact absurd h id
 |succ f ih=>
  intro a i h p h1 h2
  by_cases hp:p=i
  ·exact⟨f+1,a,hp▸h⟩
  ·obtain⟨x,hx,h⟩:=h
   rcases h with⟨_,_,h⟩|⟨_,j,q2,_,q5⟩|⟨_,j,k,q2,_,_,q6,q7⟩
   ·omega
   ·exact ih q5 p h1 (by omega)
   ·by_cases hj:p≤j
    ·exact ih q6 p h1 hj
    ·exact ih q7 p (by omega) (by omega)
theorem z3A (n:Int):(jU n).text.size=0:=by unfold jU;split<;>rfl
theorem z7R (t:zeV):(nsM t).text.size=0:=by
 unfold nsM
 simp only
 split
 ·rfl
 ·exact z3A _
theorem z8D (t:zeV)(a b:Int):(ju t a b).text.size=0:=by
 unfold ju
 repeat' split
 all_goals first|exact z3A _|rfl
theorem z8n (t:zeV)(x y:Wt):(zW t x y).text.size≤x.text.size+y.text.size:=by
 unfold zW
 repeat' split
 all_goals first|omega|(rw [z8D];omega)|(show(x.text++y.text).size≤_;rw [ByteArray.size_append];omega)|(show(0:Nat)≤_;omega)
theorem z8g (t:zeV)(x:Wt):(z0n t x).text.size≤x.text.size:=by
 unfold z0n
 repeat' split
 all_goals first|omega|(rw [z3A];omega)|(show(0:Nat)≤_;omega)
theorem Rng.size {E:List Ex}(l:List (zeV×zeV))(hls: ∀p∈l,p.2.size≤600)(hE: ∀x∈E,x.text.size≤600): ∀{f a i:Nat},Rng E f a i→(wAt (ze l E []) i).text.size≤600*(i+1 - a):=by
 intro f
 induction f with
 |zero=>intro a i h;exact absurd h id
 |succ f ih=>
  intro a i h
  obtain⟨x,hx,h⟩:=h
  have hi:=(zeI.1 hx).1
  have hxs:=hE x (zeP hx)
  have hvs:=z3V x.text 600 l hls
  rw [z6D l hx]
  rcases h with⟨h0,h4,h⟩|⟨hf,j,h2,h3,h5⟩|⟨hf,j,k,h2,h3,h4,h6,h7⟩
  ·subst h
   rw [show 600*(a+1 - a)=600 by omega]
   have hc:x.form=0∨x.form=1∨x.form=2∨x.form=3∨x.form=4:=by omega
   unfold wOf
   rcases hc with e|e|e|e|e
   ·rw [e];show(nsM x.text).text.size≤600;rw [z7R];omega
   ·rw [e];exact hxs
   ·rw [e];exact zeR _
   ·rw [e];exact hvs
   ·rw [e];show(nsM (z1L x.text l)).text.size≤600;rw [z7R];omega
  ·have e: ∀a b,wOf l x a b=z0n x.text a:=fun a b=>by unfold wOf;rw [hf];rfl
   rw [e,h3,z1h l E (by omega) (by omega)]
   have:=z8g x.text (wAt (ze l E []) (j:Int))
   have:=ih h5
   have:=h5.le
   omega
  ·have e: ∀a b,wOf l x a b=zW x.text a b:=fun a b=>by unfold wOf;rw [hf];rfl
   have hjk:=h7.le
   rw [e,h3,h4,z1h l E (by omega) (by omega),z1h l E (by omega) (by omega)]
   have:=z8n x.text (wAt (ze l E []) (j:Int)) (wAt (ze l E []) (k:Int))
   have:=ih h6
   have:=ih h7
   have:=h6.le
   omega
def z12 (x:Wt):Prop:= -999999999≤x.num∧x.num≤999999999
theorem z6A (n:Int):z12 (jU n):=by
 unfold jU
 split
 ·exact⟨by decide,by decide⟩
 ·constructor<;>simp only<;>omega
theorem z5j:z12 z0K:=⟨by decide,by decide⟩
theorem z5h (b:Bool):z12 (z0u b):=by show(-999999999:Int)≤0∧(0:Int)≤999999999;omega
theorem z6s (t:zeV):z12 (z4A t):=by show(-999999999:Int)≤0∧(0:Int)≤999999999;omega
theorem zbD (t:zeV):z12 (nsM t):=by
 unfold nsM
 simp only
 split
 ·exact z5j
 ·exact z6A _
theorem zaY (t:zeV)(a b:Int):z12 (ju t a b):=by
 unfold ju
 repeat' split
 all_goals first|exact z6A _|exact z5j
theorem z07 {c:Prop} [Decidable c]{a b:Wt}(ha:z12 a)(hb:z12 b):z12 (if c then a else b):=by
 split
 ·exact ha
 ·exact hb
theorem zbe (t:zeV){a b:Wt}(ha:z12 a)(hb:z12 b):z12 (zW t a b):=
 z07 ha (z07 (z07 ha hb) (z07 (z07 ha hb) (z07 hb (z07 (zaY _ _ _) (z07 (z6s _) (z5h _))))))
theorem zaG (t:zeV){a:Wt}(ha:z12 a):z12 (z0n t a):=z07 ha (z07 (z5h _) (z6A _))
theorem zde (l:List (zeV×zeV))(x:Ex){a b:Wt}(ha:z12 a)(hb:z12 b):z12 (wOf l x a b):=
 z07 (zbD _) (z07 (z6s _) (z07 (z5h _) (z07 (z6s _) (z07 (zbD _) (z07 (zaG _ ha) (z07 (zbe _ ha hb) (z07 ha z5j)))))))
theorem z8w (l:List (zeV×zeV)): ∀(xs:List Ex) (ws:List Wt),(∀y∈ws,z12 y)→ ∀y∈ze l xs ws,z12 y:=by
 intro xs
 induction xs with
 |nil=>intro ws h;exact h
 |cons x xs ih=>
  intro ws h
  have hat: ∀i,z12 (wAt ws i):=fun i=>by
   rcases z26 ws i with q|q
   ·rw [q];exact z5j
   ·exact h _ q
  refine ih _ fun y hy=> ?_
  rcases List.mem_append.1 hy with q|q
  ·exact h y q
  ·simp at q;subst q;exact zde l x (hat _) (hat _)
theorem zcm {ws:List Wt}{y:Wt}(h:y∈ws): ∃p:Nat,p<ws.length∧y=wAt ws (p:Int):=by
 obtain⟨p,hp,rfl⟩:=List.getElem_of_mem h
 refine⟨p,hp,?_⟩
 unfold wAt
 rw [if_neg (by omega)]
 simp [List.getD,hp]
theorem z2W {E:List Ex}(l:List (zeV×zeV))(hls: ∀p∈l,p.2.size≤600)(hE: ∀x∈E,x.text.size≤600)(hlen:E.length≤100000)(hsz: ∀p:Nat,p<E.length→(wAt (ze l E []) (p:Int)).text.size≤600*(p+1)):
  ∀x∈ze l E [],x.text.size≤100000000∧ -999999999≤x.num∧x.num≤999999999:=by
 intro y hy
 refine⟨?_,z8w l E [] (fun y h=>by cases h) y hy⟩
 obtain⟨p,hp,rfl⟩:=zcm hy
 rw [jw] at hp
 simp at hp
 have:=hsz p hp
 omega
def z2x (s:zeV)(n p:Nat)(l:List (zeV×zeV)):Nat×Bool×List (zeV×zeV):=
 let v:=je s p false
 paM s n v.1 (v.2.1||(zr v.2.2.1 l 0 != -1)) (l++[(v.2.2.1,v.2.2.2)])
def okP (s:zeV)(P:Nat×Bool×List (zeV×zeV)):List (zeV×zeV)×Bool:=(P.2.2,z1n s P.1 P.2.1)
theorem zbt {s:zeV}(h:s.size≠0):raM s=okP s (z2x s (s.size+1) 0 []):=by
 unfold raM z2x okP
 rw [if_neg h]
 simp [zr]
theorem zcF (s:zeV)(n a:Nat)(l:List (zeV×zeV)):paM s n a true l=(a,true,l):=by
 cases n with
 |zero=>rfl
 |succ n=>unfold paM;rw [show(pk s a true==59)=false from rfl];rfl
theorem z9H (s:zeV)(n a:Nat)(l:List (zeV×zeV)):(okP s (paM s n a true l)).2=true:=by rw [zcF];rfl
theorem z5l {s:zeV}{n a:Nat}{d:Bool}{l:List (zeV×zeV)}(h:(pk s a d==59)=false):paM s n a d l=(a,d,l):=by
 cases n with
 |zero=>rfl
 |succ n=>unfold paM;rw [h];rfl
theorem zdi {s:zeV}{n a:Nat}{l:List (zeV×zeV)}(h:(pk s a false==59)=true):paM s (n+1) a false l=z2x s n (a+1) l:=by
 conv=>lhs;unfold paM
 rw [h];rfl
theorem z8Y {s:zeV}{p:Nat}(h:(zy s (zo s p false).2.1 [61] (zo s p false).1).2=true):(je s p false).2.1=true:=h
def z0h (s:zeV)(a:Nat):Nat:=run zD s false (s.size - a) a
theorem z75 (s:zeV)(a:Nat)(h:a≤s.size):zD (pk s (z0h s a) false)=false:=by
 unfold z0h
 have hle:=z36 zD (by decide) s false (s.size - a) a h
 cases hq:zD (pk s (run zD s false (s.size - a) a) false) with
 |false=>rfl
 |true=>
  have hlt:=(z06 (s:=s) (a:=run zD s false (s.size - a) a) (d:=false) (fun e=>by rw [e] at hq;exact absurd hq (by decide))).2
  exfalso
  have key: ∀k a,run zD s false k a<a+k→zD (pk s (run zD s false k a) false)=false:=by
   intro k
   induction k with
   |zero=>intro a h;simp [run] at h
   |succ k ih=>
    intro a h
    unfold run at h ⊢
    by_cases hc:zD (pk s a false)=true
    ·rw [if_pos hc] at h ⊢
     exact ih (a+1) (by omega)
    ·rw [if_neg hc] at h ⊢
     simpa using hc
  have:=key (s.size - a) a (by omega)
  rw [this] at hq
  cases hq
theorem z9E {s:zeV}{a:Nat}(h:a≤s.size)(h20:z0h s a≤a+20):run zD s false 20 a=z0h s a:=by
 have hle:=z36 zD (by decide) s false (s.size - a) a h
 exact z3N (z75 s a h) 20 a hle.1 h20 fun j h1 h2=>z6I zD s false _ a j h1 h2
theorem z7h {s:zeV}{a:Nat}(h:a≤s.size)(h20:a+20<z0h s a):run zD s false 20 a=a+20∧zD (pk s (a+20) false)=true:=by
 have hall: ∀j,a≤j→j<z0h s a→zD (pk s j false)=true:=fun j h1 h2=>z6I zD s false _ a j h1 h2
 refine⟨?_,hall _ (by omega) h20⟩
 have key: ∀k b,(∀j,b≤j→j<b+k→zD (pk s j false)=true)→run zD s false k b=b+k:=by
  intro k
  induction k with
  |zero=>intro b _;rfl
  |succ k ih=>
   intro b hb
   rw [z1w (hb b (zeK _) (by omega)),ih (b+1) fun j h1 h2=>hb j (by omega) (by omega)]
   omega
 exact key 20 a fun j h1 h2=>hall j h1 (by omega)
theorem z3L {s:zeV}{n p f:Nat}{l:List (zeV×zeV)}(hp:p≤s.size)(hw:zy s (zo s p false).2.1 [61] (zo s p false).1=(f,false))(hf:f≤s.size)(h:f+20<z0h s f):(okP s (z2x s n p l)).2=true:=by
 obtain⟨h1,h2⟩:=z7h hf h
 have hr:(je s p false).1=f+20:=by unfold je;simp only;rw [hw];exact h1
 have hd:(je s p false).2.1=false:=by unfold je;simp only;rw [hw]
 unfold z2x
 simp only
 rw [hr,hd]
 cases zr (je s p false).2.2.1 l 0 != -1 with
 |true=>exact z9H _ _ _ _
 |false=>
  have hlt:=(z06 (s:=s) (a:=f+20) (d:=false) (fun e=>by rw [e] at h2;exact absurd h2 (by decide))).2
  rw [show(false||false)=false from rfl,z5l (by
   cases hq:(pk s (f+20) false==59) with
   |false=>rfl
   |true=>
     have e:pk s (f+20) false=59:=by simpa using hq
     rw [e] at h2;exact absurd h2 (by decide))]
  simp [okP,z1n,hlt]
theorem zao {s:zeV}{n p:Nat}{l:List (zeV×zeV)}(h:(zy s (zo s p false).2.1 [61] (zo s p false).1).2=true):(okP s (z2x s n p l)).2=true:=by
 unfold z2x
 simp only
 rw [z8Y h]
 exact z9H _ _ _ _
theorem z4S {s:zeV}{n p:Nat}{l:List (zeV×zeV)}(h:(zr (zo s p false).2.2 l 0 != -1)=true):(okP s (z2x s n p l)).2=true:=by
 unfold z2x
 simp only
 rw [show(je s p false).2.2.1=(zo s p false).2.2 from rfl,h,Bool.or_true]
 exact z9H _ _ _ _
theorem z5c {s:zeV}{n p f:Nat}{l:List (zeV×zeV)}(hw:zy s (zo s p false).2.1 [61] (zo s p false).1=(f,false))(hf:f≤s.size)(h20:z0h s f≤f+20)(hdup:(zr (zo s p false).2.2 l 0 != -1)=false):
  z2x s n p l=paM s n (z0h s f) false (l++[((zo s p false).2.2,s.extract f (z0h s f))]):=by
 have e:je s p false=(z0h s f,false,(zo s p false).2.2,s.extract f (z0h s f)):=by
  unfold je
  simp only
  rw [hw]
  simp only
  rw [z9E hf h20]
 unfold z2x
 rw [e]
 simp only
 rw [hdup]
 rfl
end Go.Proofs.YtkoohcilbpdgeaaGreatDoor
