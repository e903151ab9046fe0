import Derived.Test.YtkoohcilbpdgeaaGreatDoorC11
set_option linter.all false
set_option linter.unusedVariables false
set_option linter.unusedSimpArgs false
set_option linter.unnecessarySimpa false
set_option linter.constructorNameAsVariable false
set_option linter.deprecated false
set_option maxRecDepth 100000
set_option maxHeartbeats 6400000
namespace Go.Proofs.YtkoohcilbpdgeaaGreatDoor
open Go Go.RowKit
attribute [local go_sem] wrap64_byte
theorem all_RC (s:ByteArray): ∀n,OKRc s n:=by
 intro n
 induction n using Nat.strongRecOn with
 |_ n ih=>
  cases n with
  |zero=>intro b st w p r cl st' h;simp [MC] at h
  |succ n=>exact condsR_step s n (fun m=>(all_RE s m).1) fun m h=>ih m (by omega)
def APost (b:Nat)(s:ByteArray)(st st':St)(w:World)(e:Ending)(w':World):Prop:= ∃(nm:ByteArray) (vt vi:Option Addr),e= .returned (.agg #[.string nm,.pointer vt,.pointer vi])∧Rd w' b s st'.at_ st'.bad∧Rf b w w'∧
 (st'.bad=false→ ∃(f g i ci:Nat),st'.A=st.A++[⟨nm,(i:Int),(ci:Int)⟩]∧i+1=st'.L.length∧ci+1=st'.C.length∧RefLX (Out b w.heap.size) w' st'.L f (.pointer vt) st.L.length i∧RefCX (Out b w.heap.size) w' st'.E st'.C g (.pointer vi) ci st.E.length st'.E.length)
theorem lstart_idem (s:ByteArray)(l:List UInt8)(st:St)(h:(lstart s l st).at_≤s.size)(h2:(wrd s [32] (wrd s l st)).at_≤s.size):skip s (lstart s l st).at_ (lstart s l st).bad=(lstart s l st).at_:=by
 unfold lstart sgn
 exact skip_idem s _ _ h2
theorem box3 {w:World}{g:Nat}{a b c:Value}{t:TypeId}(h:w.heap[g]?=some (.cells #[a,b,c] t)):
  w.cell? ⟨g,0,none⟩=some a∧w.cell? ⟨g,1,none⟩=some b∧w.cell? ⟨g,2,none⟩=some c∧(∀o,w.frozen? ⟨g,o,none⟩=false):=by
 simp [World.cell?,World.frozen?,h]
theorem assertR_any (s:ByteArray)(n:Nat)(b:Nat)(st:St)(w:World)(st':St)(hM:MA s n st=some st')(hR:Rd w b s st.at_ st.bad):
  Calls Tryz.prog 89 #[.pointer (some ⟨b,0,none⟩)] w fun e w'=>APost b s st st' w e w':=by
 unfold MA at hM
 simp only at hM
 obtain⟨⟨r1,st1⟩,h1,hM2⟩:=Option.bind_eq_some_iff.1 hM
 obtain⟨⟨r2,cl2,st2⟩,h2,hM3⟩:=Option.bind_eq_some_iff.1 hM2
 obtain⟨hl,h6⟩:=addA_some hM3
 rw [nameM_of] at h1 h6
 simp only at h1 h2 h6
 have H1:=hide h1
 have H2:=hide h2
 have H6:=hide h6
 clear hM hM2 hM3 h1 h2 h6 hl
 obtain⟨a,ha⟩: ∃a,lstart s [98,121] st=a:=⟨_,rfl⟩
 obtain⟨⟨qp,qd,qt⟩,hq⟩: ∃q,nameR s a.at_ a.bad=q:=⟨_,rfl⟩
 rw [ha,hq] at H1 H6
 have HQ:=hide hq
 have HA:=hide ha
 clear hq ha
 obtain⟨u,hu⟩: ∃u,wrd s [10] (a.put3 (skip s qp qd,qd,qt))=u:=⟨_,rfl⟩
 have H1':=H1.out
 simp only [hu] at H1'
 have HU:=hide hu
 obtain⟨d,hd⟩: ∃d,lstart s [116,111] u=d:=⟨_,rfl⟩
 rw [hd] at H1'
 have HD:=hide hd
 have H1:=hide H1'
 clear hu hd H1'
 obtain⟨v,hv⟩: ∃v,wrd s [10] st1=v:=⟨_,rfl⟩
 obtain⟨x,hx⟩: ∃x,lstart s [105,102] v=x:=⟨_,rfl⟩
 have H2':=H2.out
 rw [hv,hx] at H2'
 have HV:=hide hv
 have HX:=hide hx
 have H2:=hide H2'
 clear hv hx H2'
 have hb1:b<w.heap.size:=block_lt_of_cell hR.c0
 have hRa:Rd (w.alloc (.cells #[.string ⟨#[]⟩,.pointer none,.pointer none] 91)) b s st.at_ st.bad:=hR.other (Below.heap_alloc _ _ _ hb1)
 have hga:=heap_alloc_new w (.cells #[.string ⟨#[]⟩,.pointer none,.pointer none] 91)
 have hFa:Rf b w (w.alloc (.cells #[.string ⟨#[]⟩,.pointer none,.pointer none] 91)):=(Rf.refl b w).alloc _
 have HA0:=hide (And.intro hRa (And.intro hga hFa))
 clear hRa hga hFa hR
 have hnb:w.heap.size≠b:=by omega
 go_enter Tryz.func89,Tryz.ntmps89
 go_wp2_with fail
 have hz0:Hid ((w.alloc (.cells #[.string ⟨#[]⟩,.pointer none,.pointer none] 91)).heap.size=w.heap.size+1):=hide (by simp)
 generalize (w.alloc (.cells #[.string ⟨#[]⟩,.pointer none,.pointer none] 91))=W0 at*
 obtain⟨hR0,hg0,hF0⟩:=HA0.out
 clear HA0
 refine(line_any b st.at_ s _ st.bad _ hR0 (by decide)).mono ?_
 rintro e w1 ⟨rfl,hR1,hs1⟩
 have hR1:Rd w1 b s a.at_ a.bad:=by rw [←HA.out];exact hR1
 have hnm:=nameR_any b a.at_ s a.bad _ hR1
 rw [HQ.out] at hnm
 have HNM:=hide hnm
 clear hnm
 go_wp2_with fail
 refine HNM.out.mono ?_
 rintro e w2 ⟨rfl,hR2,hs2⟩
 have hR2:Rd w2 b s qp qd:=hR2
 go_wp2_with fail
 refine(end_any b qp s qd _ hR2).mono ?_
 rintro e w3 ⟨rfl,hR3,hs3⟩
 have hR3:Rd w3 b s u.at_ u.bad:=by rw [←HU.out];exact hR3
 go_wp2_with fail
 refine(line_any b u.at_ s _ u.bad _ hR3 (by decide)).mono ?_
 rintro e w4 ⟨rfl,hR4,hs4⟩
 have hsd:Hid (skip s d.at_ d.bad=d.at_):=hide (by
  rw [←HD.out]
  unfold lstart sgn
  refine skip_idem s _ _ ?_
  exact(wordM_le s _ [32] _ ((wordM_le s u.bad [116,111] u.at_ hR3.le).2)).2)
 have hR4:Rd w4 b s d.at_ d.bad:=by rw [←HD.out];exact hR4
 have hs14:=((hs1.trans hs2).trans hs3).trans hs4
 have hF4:=hF0.trans hs14.rf
 have hz4:Hid (w4.heap.size=w.heap.size+1):=hide (hs14.size.trans hz0.out)
 have hg4:w4.heap[w.heap.size]?=some (.cells #[.string ⟨#[]⟩,.pointer none,.pointer none] 91):=(hs14.block _ hnb).trans hg0
 clear hs1 hs2 hs3 hs4 hs14 hR0 hR1 hR2 hR3 HNM hg0 hF0
 go_wp2_with fail
 refine((all_RL s n).1 b d w4 d.at_ r1 st1 H1.out hR4 hsd.out).mono ?_
 rintro e w5 ⟨ao5,p5,rfl,hR5,hF5,hp5,ht5⟩
 rw [hz4.out] at ht5
 have HT5:=hide ht5
 have hend:=end_any b p5 s st1.bad w5 hR5
 rw [hp5] at hend
 have HEND:=hide hend
 clear ht5 hend hp5
 go_wp2_with fail
 refine HEND.out.mono ?_
 rintro e w6 ⟨rfl,hR6,hs6⟩
 have hR6:Rd w6 b s v.at_ v.bad:=by rw [←HV.out];exact hR6
 go_wp2_with fail
 refine(line_any b v.at_ s _ v.bad _ hR6 (by decide)).mono ?_
 rintro e w7 ⟨rfl,hR7,hs7⟩
 have hsx:Hid (skip s x.at_ x.bad=x.at_):=hide (by
  rw [←HX.out]
  unfold lstart sgn
  refine skip_idem s _ _ ?_
  exact(wordM_le s _ [32] _ ((wordM_le s v.bad [105,102] v.at_ hR6.le).2)).2)
 have hR7:Rd w7 b s x.at_ x.bad:=by rw [←HX.out];exact hR7
 have hF67:=hs6.rf.trans hs7.rf
 have hg7:w7.heap[w.heap.size]?=some (.cells #[.string ⟨#[]⟩,.pointer none,.pointer none] 91):=((hF5.trans hF67).block _ (by rw [hz4.out];omega) hnb).trans hg4
 have hF7:=(hF4.trans hF5).trans hF67
 have hz7:Hid (w.heap.size+1≤w7.heap.size):=hide (by have h1:=(hF5.trans hF67).size;rw [hz4.out] at h1;exact h1)
 go_wp2_with fail
 refine(all_RC s n b x w7 x.at_ r2 cl2 st2 H2.out hR7 hsx.out).mono ?_
 rintro e w8 ⟨ao8,p8,rfl,hR8,hF8,hp8,ht8⟩
 have HT8:=hide ht8
 have hend:=end_any b p8 s st2.bad w8 hR8
 rw [hp8] at hend
 have HEND2:=hide hend
 clear ht8 hend hp8
 go_wp2_with fail
 refine HEND2.out.mono ?_
 rintro e w9 ⟨rfl,hR9,hs9⟩
 have hF79:=hF8.trans hs9.rf
 have hg9:w9.heap[w.heap.size]?=some (.cells #[.string ⟨#[]⟩,.pointer none,.pointer none] 91):=(hF79.block _ (by have:=hz7.out;omega) hnb).trans hg7
 have hF9:=hF7.trans hF79
 obtain⟨y0,y1,y2,yf⟩:=box3 hg9
 have hRx:Rd (((w9.setCell ⟨w.heap.size,0,none⟩ (.string qt)).setCell ⟨w.heap.size,1,none⟩ (.pointer ao5)).setCell ⟨w.heap.size,2,none⟩ (.pointer ao8)) b s (wordM s st2.bad [10] st2.at_).1 (wordM s st2.bad [10] st2.at_).2:=
  ((hR9.other (Below.heap_setCell _ _ _ _ (by simpa using hnb.symm))).other (Below.heap_setCell _ _ _ _ (by simpa using hnb.symm))).other (Below.heap_setCell _ _ _ _ (by simpa using hnb.symm))
 have hFx:Rf b w (((w9.setCell ⟨w.heap.size,0,none⟩ (.string qt)).setCell ⟨w.heap.size,1,none⟩ (.pointer ao5)).setCell ⟨w.heap.size,2,none⟩ (.pointer ao8)):=
  ((hF9.setCell (a:=⟨w.heap.size,0,none⟩) (Nat.le_refl _) _).setCell (a:=⟨w.heap.size,1,none⟩) (Nat.le_refl _) _).setCell (a:=⟨w.heap.size,2,none⟩) (Nat.le_refl _) _
 have hsame:SameX (Out b (w.heap.size+1)) w9 (((w9.setCell ⟨w.heap.size,0,none⟩ (.string qt)).setCell ⟨w.heap.size,1,none⟩ (.pointer ao5)).setCell ⟨w.heap.size,2,none⟩ (.pointer ao8)):=fun k hk hn=>by
  have hkn:k≠w.heap.size:=fun e=>hn (.inr (by omega))
  exact(Below.heap_setCell _ _ _ _ (by simpa using hkn)).trans ((Below.heap_setCell _ _ _ _ (by simpa using hkn)).trans (Below.heap_setCell _ _ _ _ (by simpa using hkn)))
 have hfin:APost b s st st' w (.returned (.agg #[.string qt,.pointer ao5,.pointer ao8])) (((w9.setCell ⟨w.heap.size,0,none⟩ (.string qt)).setCell ⟨w.heap.size,1,none⟩ (.pointer ao5)).setCell ⟨w.heap.size,2,none⟩ (.pointer ao8)):=by
  have h6:=H6.out
  refine⟨qt,ao5,ao8,rfl,by rw [h6];exact hRx,hFx,fun hb=> ?_⟩
  rw [h6] at hb
  have hb:(wrd s [10] st2).bad=false:=hb
  have hb2:st2.bad=false:=by
   cases hq:st2.bad with
   |false=>rfl
   |true=>
    have h2:=(wrd_bad (s:=s) (c:=10) (cs:=[]) hq).1
    rw [h2] at hb
    cases hb
  have hbx:x.bad=false:=by
   cases hq:x.bad with
   |false=>rfl
   |true=>
    have h2:=(MC_bad s _ _ _ _ _ H2.out hq).1
    simp only at h2
    rw [h2] at hb2
    cases hb2
  have hbv:v.bad=false:=by
   cases hq:v.bad with
   |false=>rfl
   |true=>
    have h1:=(wrd_bad (s:=s) (c:=105) (cs:=[102]) hq).1
    have h2:=(sgn_bad (s:=s) (c:=32) (cs:=[]) h1).1
    have h3:x.bad=true:=by rw [←HX.out];exact h2
    rw [h3] at hbx
    cases hbx
  have hb1:st1.bad=false:=by
   cases hq:st1.bad with
   |false=>rfl
   |true=>
    have h2:=(wrd_bad (s:=s) (c:=10) (cs:=[]) hq).1
    rw [HV.out] at h2
    rw [h2] at hbv
    cases hbv
  obtain⟨f5,i5,e5,l5,t5⟩:=HT5.out hb1
  obtain⟨f8,c8,e8,l8,t8⟩:=HT8.out hb2
  obtain⟨_,_,hA1,hL1⟩:=MC_ext s _ _ _ _ _ H2.out
  obtain⟨_,hA5,hE5,hC5⟩:=ML_ext s _ _ _ _ _ _ _ _ H1.out
  have hxA:x.A=st1.A:=by rw [←HX.out,←HV.out];rfl
  have hxL:x.L=st1.L:=by rw [←HX.out,←HV.out];rfl
  have hxE:x.E=st1.E:=by rw [←HX.out,←HV.out];rfl
  have hdA:d.A=st.A:=by rw [←HD.out,←HU.out,←HA.out];rfl
  have hdL:d.L=st.L:=by rw [←HD.out,←HU.out,←HA.out];rfl
  have hdE:d.E=st.E:=by rw [←HD.out,←HU.out,←HA.out];rfl
  simp only at hA1 hL1 hA5 hE5 hC5
  rw [h6]
  refine⟨f5,f8,i5,c8,?_,?_,l8,?_,?_⟩
  ·show st2.A++[_]=st.A++[_]
   rw [hA1,hxA,hA5,hdA,e5,e8]
  ·show i5+1=st2.L.length
   rw [hL1,hxL];exact l5
  ·show RefLX (Out b w.heap.size) _ st2.L f5 (.pointer ao5) st.L.length i5
   rw [hL1,hxL,←hdL]
   have t6:=t5.keep (hF67.trans hF79)
   exact(t6.keepX hsame).mono fun k e=>e.imp id fun e=>by omega
  ·show RefCX (Out b w.heap.size) _ st2.E st2.C f8 (.pointer ao8) c8 st.E.length st2.E.length
   rw [←hdE,←hE5,←hxE]
   have t9:=t8.keepX (hs9.rf.sameX (.inl rfl))
   have t10:=t9.mono (X':=Out b (w.heap.size+1)) fun k e=>e.imp id fun e=>by have:=hz7.out;omega
   exact(t10.keepX hsame).mono fun k e=>e.imp id fun e=>by omega
 have HFIN:=hide hfin
 clear hfin hsame hFx hRx hg9 hg7 hg4 HT5 HT8 hR9 hF9
 go_wp2_with fail
 refine bodyPost_ret (v:= .agg #[.string qt,.pointer ao5,.pointer ao8]) ?_ rfl HFIN.out
 simp [results,Tryz.results89,go_sem,y0,y1,y2]
theorem good_add {st:St}{x:Ex}{r:Int×St}(h:addE st x=some r)(hg:GoodE st.E)(hx:0≤x.place∧(x.form=6→isSignB x.text=true)):GoodE r.2.E:=by
 obtain⟨_,rfl⟩:=addE_some h
 intro y hy
 rcases List.mem_append.1 hy with hy|hy
 ·exact hg y hy
 ·have:y=x:=by simpa using hy
  rw [this];exact hx
theorem sum_cases (s:ByteArray)(a:Nat)(d:Bool):sumSignM s a d=⟨#[]⟩∨sumSignM s a d=⟨#[43]⟩∨sumSignM s a d=⟨#[45]⟩∨sumSignM s a d=⟨#[46]⟩:=by
 unfold sumSignM
 split
 ·exact .inl rfl
 ·split
  ·exact .inr (.inl rfl)
  ·split
   ·exact .inr (.inr (.inl rfl))
   ·split
    ·exact .inr (.inr (.inr rfl))
    ·exact .inl rfl
theorem sum_sign {s:ByteArray}{a:Nat}{d:Bool}(h: ¬((sumSignM s a d).size==0)=true):isSignB (sumSignM s a d)=true:=by
 rcases sum_cases s a d with e|e|e|e
 ·rw [e] at h;exact absurd rfl h
 all_goals rw [e];unfold isSignB;rw [ByteArray.toList_eq];rfl
theorem product_cases (s:ByteArray)(a:Nat)(d:Bool):productSignM s a d=⟨#[]⟩∨productSignM s a d=⟨#[42]⟩∨productSignM s a d=⟨#[47]⟩∨productSignM s a d=⟨#[37]⟩:=by
 unfold productSignM
 split
 ·exact .inr (.inl rfl)
 ·split
  ·exact .inr (.inr (.inl rfl))
  ·split
   ·exact .inr (.inr (.inr rfl))
   ·exact .inl rfl
theorem product_sign {s:ByteArray}{a:Nat}{d:Bool}(h: ¬((productSignM s a d).size==0)=true):isSignB (productSignM s a d)=true:=by
 rcases product_cases s a d with e|e|e|e
 ·rw [e] at h;exact absurd rfl h
 all_goals rw [e];unfold isSignB;rw [ByteArray.toList_eq];rfl
theorem ordering_cases (s x y:ByteArray)(a:Nat)(d:Bool):(orderingM s x y a d).2.2=x∨(orderingM s x y a d).2.2=y:=by
 unfold orderingM
 simp only
 split
 ·exact .inl rfl
 ·exact .inr rfl
theorem comparing_cases (s:ByteArray)(a:Nat)(d:Bool):(comparingM s a d).2.2=⟨#[]⟩∨(comparingM s a d).2.2=⟨#[61,61]⟩∨(comparingM s a d).2.2=⟨#[33,61]⟩∨(comparingM s a d).2.2=⟨#[60]⟩∨(comparingM s a d).2.2=⟨#[60,61]⟩∨(comparingM s a d).2.2=⟨#[62]⟩∨(comparingM s a d).2.2=⟨#[62,61]⟩:=by
 unfold comparingM
 split
 ·exact .inr (.inl rfl)
 ·split
  ·exact .inr (.inr (.inl rfl))
  ·split
   ·rcases ordering_cases s ⟨#[60]⟩ ⟨#[60,61]⟩ a d with e|e
    ·exact .inr (.inr (.inr (.inl e)))
    ·exact .inr (.inr (.inr (.inr (.inl e))))
   ·split
    ·rcases ordering_cases s ⟨#[62]⟩ ⟨#[62,61]⟩ a d with e|e
     ·exact .inr (.inr (.inr (.inr (.inr (.inl e)))))
     ·exact .inr (.inr (.inr (.inr (.inr (.inr e)))))
    ·exact .inl rfl
theorem comparing_sign {s:ByteArray}{a:Nat}{d:Bool}(h: ¬((comparingM s a d).2.2.size==0)=true):isSignB (comparingM s a d).2.2=true:=by
 rcases comparing_cases s a d with e|e|e|e|e|e|e
 ·rw [e] at h;exact absurd rfl h
 all_goals rw [e];unfold isSignB;rw [ByteArray.toList_eq];rfl
theorem M_good (s:ByteArray): ∀n tag l st r,M s n tag l st=some r→GoodE st.E→GoodE r.2.E:=by
 intro n
 induction n with
 |zero=>intro tag l st r h;simp [M] at h
 |succ n ih=>
  intro tag l st r h hg
  have two: ∀{t1 t2:Nat} {st0:St},GoodE st0.E→((M s n t1 0 st0).bind fun r=>M s n t2 r.1 r.2)=some r→GoodE r.2.E:=fun hg h=>by
   obtain⟨q,h1,h2⟩:=Option.bind_eq_some_iff.1 h
   exact ih _ _ _ _ h2 (ih _ _ _ _ h1 hg)
  have three: ∀{t1 t2:Nat} {st0:St} {x:Int×St→Ex},GoodE st0.E→(∀r,0≤(x r).place∧((x r).form=6→isSignB (x r).text=true))→((M s n t1 0 st0).bind fun r=>(addE r.2 (x r)).bind fun q=>M s n t2 q.1 q.2)=some r→GoodE r.2.E:=fun hg hx h=>by
   obtain⟨q,h1,h2⟩:=Option.bind_eq_some_iff.1 h
   obtain⟨q2,h3,h4⟩:=Option.bind_eq_some_iff.1 h2
   exact ih _ _ _ _ h4 (good_add h3 (ih _ _ _ _ h1 hg) (hx q))
  match tag,h with
  |0,h=>rw [M_0] at h;exact two hg h
  |1,h=>rw [M_1] at h;exact two hg h
  |4,h=>rw [M_4] at h;exact two hg h
  |5,h=>rw [M_5] at h;exact two hg h
  |10,h=>
   rw [M_10] at h
   split at h
   ·exact three (st0:=sgn s [124,124] st) (x:=fun r=>⟨6,st.at_,⟨#[124,124]⟩,l,r.1⟩) hg (fun r=>⟨Int.natCast_nonneg _,fun _=>by unfold isSignB;rw [ByteArray.toList_eq];rfl⟩) h
   ·cases h;exact hg
  |11,h=>
   rw [M_11] at h
   split at h
   ·exact three (st0:=sgn s [38,38] st) (x:=fun r=>⟨6,st.at_,⟨#[38,38]⟩,l,r.1⟩) hg (fun r=>⟨Int.natCast_nonneg _,fun _=>by unfold isSignB;rw [ByteArray.toList_eq];rfl⟩) h
   ·cases h;exact hg
  |14,h=>
   rw [M_14] at h
   simp only at h
   split at h
   ·cases h;exact hg
   ·rename_i hs
    exact three (st0:=sgn s (sumSignM s st.at_ st.bad).data.toList st) (x:=fun r=>⟨6,st.at_,sumSignM s st.at_ st.bad,l,r.1⟩) hg (fun r=>⟨Int.natCast_nonneg _,fun _=>sum_sign hs⟩) h
  |15,h=>
   rw [M_15] at h
   simp only at h
   split at h
   ·cases h;exact hg
   ·rename_i hs
    exact three (st0:=sgn s (productSignM s st.at_ st.bad).data.toList st) (x:=fun r=>⟨6,st.at_,productSignM s st.at_ st.bad,l,r.1⟩) hg (fun r=>⟨Int.natCast_nonneg _,fun _=>product_sign hs⟩) h
  |2,h=>
   rw [M_2] at h
   split at h
   ·exact ih _ _ _ _ h hg
   ·obtain⟨q,h1,h2⟩:=Option.bind_eq_some_iff.1 h
    have hq:=ih _ _ _ _ h1 (show GoodE (sgn s [33] st).E from hg)
    exact good_add h2 hq ⟨Int.natCast_nonneg _,fun e=>absurd (show(5:Int)=6 from e) (by decide)⟩
  |6,h=>
   rw [M_6] at h
   split at h
   ·exact ih _ _ _ _ h hg
   ·obtain⟨q,h1,h2⟩:=Option.bind_eq_some_iff.1 h
    have hq:=ih _ _ _ _ h1 (show GoodE (sgn s [45] st).E from hg)
    exact good_add h2 hq ⟨Int.natCast_nonneg _,fun e=>absurd (show(5:Int)=6 from e) (by decide)⟩
  |3,h=>
   rw [M_3] at h
   obtain⟨q,h1,h2⟩:=Option.bind_eq_some_iff.1 h
   have k1:=ih _ _ _ _ h1 hg
   simp only at h2
   split at h2
   ·cases h2;exact k1
   ·rename_i hs
    obtain⟨q2,h3,h4⟩:=Option.bind_eq_some_iff.1 h2
    have hq:=ih _ _ _ _ h3 (show GoodE (q.2.put3 _).E from k1)
    exact good_add h4 hq ⟨Int.natCast_nonneg _,fun _=>comparing_sign hs⟩
  |7,h=>
   rw [M_7] at h
   simp only at h
   split at h
   ·exact good_add h (show GoodE (st.put3 _).E from hg) ⟨Int.natCast_nonneg _,fun e=>absurd (show(0:Int)=6 from e) (by decide)⟩
   ·split at h
    ·exact good_add h (show GoodE (st.put3 _).E from hg) ⟨Int.natCast_nonneg _,fun e=>absurd (show(1:Int)=6 from e) (by decide)⟩
    ·split at h
     ·exact good_add h (show GoodE ((wrd s [64] st).put3 _).E from hg) ⟨Int.natCast_nonneg _,fun e=>absurd (show(4:Int)=6 from e) (by decide)⟩
     ·split at h
      ·obtain⟨q,h1,h2⟩:=Option.bind_eq_some_iff.1 h
       have hq:=ih _ _ _ _ h1 (show GoodE (sgn s [40] st).E from hg)
       cases h2
       exact hq
      ·split at h
       ·exact good_add h (show GoodE (st.put3 _).E from hg) ⟨Int.natCast_nonneg _,fun e=>absurd (show(2:Int)=6 from e) (by decide)⟩
       ·exact good_add h (show GoodE (st.put3 _).E from hg) ⟨Int.natCast_nonneg _,fun e=>absurd (show(3:Int)=6 from e) (by decide)⟩
  |8,h=>simp [M] at h
  |9,h=>simp [M] at h
  |12,h=>simp [M] at h
  |13,h=>simp [M] at h
  |t+16,h=>simp [M] at h
def GoodC (C:List (List Cl)):Prop:= ∀cls∈C,cls.length<100000
theorem MC_good (s:ByteArray): ∀n tag cls st r,MC s n tag cls st=some r→GoodE st.E∧GoodC st.C→GoodE r.2.2.E∧GoodC r.2.2.C:=by
 intro n
 induction n with
 |zero=>intro tag cls st r h;simp [MC] at h
 |succ n ih=>
  intro tag cls st r h hg
  match tag,h with
  |0,h=>
   rw [MC_0] at h
   obtain⟨q,h1,h2⟩:=Option.bind_eq_some_iff.1 h
   exact ih _ _ _ _ h2 (ih _ _ _ _ h1 hg)
  |2,h=>
   rw [MC_2] at h
   split at h
   ·rename_i hlen
    split at h
    ·obtain⟨q,h1,h2⟩:=Option.bind_eq_some_iff.1 h
     exact ih _ _ _ _ h2 (ih _ _ _ _ h1 (show GoodE (sgn s [59] st).E∧GoodC (sgn s [59] st).C from hg))
    ·obtain⟨q,h1,h2⟩:=Option.bind_eq_some_iff.1 h
     cases h2
     obtain⟨_,rfl⟩:=addC_some h1
     refine⟨hg.1,fun c hc=> ?_⟩
     rcases List.mem_append.1 hc with hc|hc
     ·exact hg.2 c hc
     ·have:c=cls:=by simpa using hc
      rw [this];exact hlen
   ·cases h
  |1,h=>
   rw [MC_1'] at h
   obtain⟨q,h1,h2⟩:=Option.bind_eq_some_iff.1 h
   obtain⟨q2,h3,h4⟩:=Option.bind_eq_some_iff.1 h2
   have k1:=M_good s _ _ _ _ _ h1 hg.1
   have k2:=good_add h3 k1 ⟨Int.natCast_nonneg _,fun e=>absurd (show(7:Int)=6 from e) (by decide)⟩
   have k3:GoodC q2.2.C:=by
    obtain⟨_,_,_,c1⟩:=M_ext s _ _ _ _ _ h1
    obtain⟨_,_,_,c2⟩:=addE_ext h3
    rw [c2,c1];exact hg.2
   split at h4
   ·cases h4;exact⟨k2,k3⟩
   ·obtain⟨x,h5,h6⟩:=Option.bind_eq_some_iff.1 h4
    cases h6
    unfold MRes at h5
    split at h5
    ·obtain⟨v,h7,h8⟩:=Option.bind_eq_some_iff.1 h5
     cases h8
     have kk:=ih _ _ _ _ h7 (show GoodE (sgn s [123] (sgn s [45,62] q2.2)).E∧GoodC (sgn s [123] (sgn s [45,62] q2.2)).C from⟨k2,k3⟩)
     exact kk
    ·cases h5
     exact⟨k2,k3⟩
  |t+3,h=>simp [MC] at h
def GoodL (L:List Lc):Prop:= ∀x∈L,x.items.length≤100000∧(x.form=2→0≤x.count)
theorem goodL_add {st:St}{x:Lc}{r:Int×St}(h:addL st x=some r)(hg:GoodL st.L)(hx:x.items.length≤100000∧(x.form=2→0≤x.count)):GoodL r.2.L:=by
 obtain⟨_,rfl⟩:=addL_some h
 intro y hy
 rcases List.mem_append.1 hy with hy|hy
 ·exact hg y hy
 ·have:y=x:=by simpa using hy
  rw [this];exact hx
theorem ML_good (s:ByteArray): ∀n tag l p k its st r,ML s n tag l p k its st=some r→(tag=13→0≤k)→(tag=3→isDigit (pkS s st)=true)→GoodL st.L→GoodL r.2.L:=by
 intro n
 induction n with
 |zero=>intro tag l p k its st r h;simp [ML] at h
 |succ n ih=>
  intro tag l p k its st r h hk ht hg
  have three: ∀{t1 t2:Nat} {st0:St} {x:Int×St→Lc},t1≠13→t2≠13→t1≠3→t2≠3→GoodL st0.L→(∀r,(x r).items.length≤100000∧((x r).form=2→0≤(x r).count))→((ML s n t1 0 0 0 [] st0).bind fun r=>(addL r.2 (x r)).bind fun q=>ML s n t2 q.1 0 0 [] q.2)=some r→GoodL r.2.L:=fun n1 n2 n3 n4 hg hx h=>by
   obtain⟨q,h1,h2⟩:=Option.bind_eq_some_iff.1 h
   obtain⟨q2,h3,h4⟩:=Option.bind_eq_some_iff.1 h2
   exact ih _ _ _ _ _ _ _ h4 (fun e=>absurd e n2) (fun e=>absurd e n4) (goodL_add h3 (ih _ _ _ _ _ _ _ h1 (fun e=>absurd e n1) (fun e=>absurd e n3) hg) (hx q))
  match tag,h,hk,ht with
  |0,h,_,_=>
   rw [ML_0] at h
   obtain⟨q,h1,h2⟩:=Option.bind_eq_some_iff.1 h
   exact ih _ _ _ _ _ _ _ h2 (by omega) (by omega) (ih _ _ _ _ _ _ _ h1 (by omega) (by omega) hg)
  |1,h,_,_=>
   rw [ML_1] at h
   obtain⟨q,h1,h2⟩:=Option.bind_eq_some_iff.1 h
   exact ih _ _ _ _ _ _ _ h2 (by omega) (by omega) (ih _ _ _ _ _ _ _ h1 (by omega) (by omega) hg)
  |10,h,_,_=>
   rw [ML_10] at h
   split at h
   ·exact three (st0:=sgn s [124,124] st) (by omega) (by omega) (by omega) (by omega) hg (fun r=>⟨by simp,fun e=>absurd (show(1:Int)=2 from e) (by decide)⟩) h
   ·cases h;exact hg
  |11,h,_,_=>
   rw [ML_11] at h
   split at h
   ·exact three (st0:=sgn s [38,38] st) (by omega) (by omega) (by omega) (by omega) hg (fun r=>⟨by simp,fun e=>absurd (show(1:Int)=2 from e) (by decide)⟩) h
   ·cases h;exact hg
  |2,h,_,_=>
   rw [ML_2] at h
   simp only at h
   split at h
   ·obtain⟨q,h1,h2⟩:=Option.bind_eq_some_iff.1 h
    have hq:=ih _ _ _ _ _ _ _ h1 (by omega) (by omega) (show GoodL (sgn s [40] st).L from hg)
    cases h2
    exact hq
   ·split at h
    ·rename_i hd
     exact ih _ _ _ _ _ _ _ h (by omega) (fun _=>hd) hg
    ·exact goodL_add h (show GoodL (st.put3 _).L from hg) ⟨by simp,fun e=>absurd (show(0:Int)=2 from e) (by decide)⟩
  |3,h,_,ht=>
   rw [ML_3] at h
   obtain⟨q,h1,h2⟩:=Option.bind_eq_some_iff.1 h
   have hd:=ht rfl
   have hq:=ih _ _ _ _ _ _ _ h1 (by omega) (by omega) (show GoodL (sgn s [45,111,102,40] {st with at_:=st.at_+1}).L from hg)
   refine ih _ _ _ _ _ _ _ h2 (fun _=> ?_) (by omega) hq
   unfold isDigit at hd
   simp at hd
   omega
  |13,h,hk,_=>
   rw [ML_13] at h
   split at h
   ·rename_i hlen
    split at h
    ·obtain⟨u,h1,h2⟩:=Option.bind_eq_some_iff.1 h
     have hq:=ih _ _ _ _ _ _ _ h1 (by omega) (by omega) (show GoodL (sgn s [44] st).L from hg)
     exact ih _ _ _ _ _ _ _ h2 (fun _=>hk rfl) (by omega) hq
    ·exact goodL_add h (show GoodL (sgn s [41] st).L from hg) ⟨by simp only;omega,fun _=>hk rfl⟩
   ·cases h
  |4,h,_,_=>simp [ML] at h
  |5,h,_,_=>simp [ML] at h
  |6,h,_,_=>simp [ML] at h
  |7,h,_,_=>simp [ML] at h
  |8,h,_,_=>simp [ML] at h
  |9,h,_,_=>simp [ML] at h
  |12,h,_,_=>simp [ML] at h
  |t+14,h,_,_=>simp [ML] at h
def OrdAs (L:List Lc):List As→Nat→Nat→Nat→Nat→Prop
 |[],a,e,lo,hi=>a=e∧lo≤hi
 |x::xs,a,e,lo,hi=> ∃f i m:Nat,x.to_=(i:Int)∧OrdL L f a i lo m∧OrdAs L xs (i+1) e m hi
theorem OrdAs.snoc {L:List Lc}(F:List Lc): ∀(xs:List As) (x:As) (a e lo mid i hi f:Nat),OrdAs L xs a e lo mid→x.to_=(i:Int)→OrdL (L++F) f e i mid hi→OrdAs (L++F) (xs++[x]) a (i+1) lo hi:=by
 intro xs
 induction xs with
 |nil=>intro x a e lo mid i hi f ⟨h1,h2⟩ hx hp;subst h1;exact⟨f,i,hi,hx,hp.wk h2 (Nat.le_refl _),rfl,Nat.le_refl _⟩
 |cons y ys ih=>intro x a e lo mid i hi f ⟨f',i',m,h1,h2,h3⟩ hx hp;exact⟨f',i',m,h1,h2.more F,ih _ _ _ _ _ _ _ _ h3 hx hp⟩
theorem OrdAs.wkhi {L:List Lc}: ∀(xs:List As) (a e lo hi hi':Nat),OrdAs L xs a e lo hi→hi≤hi'→OrdAs L xs a e lo hi':=by
 intro xs
 induction xs with
 |nil=>intro a e lo hi hi' ⟨h1,h2⟩ h;exact⟨h1,Nat.le_trans h2 h⟩
 |cons y ys ih=>intro a e lo hi hi' ⟨f',i',m,h1,h2,h3⟩ h;exact⟨f',i',m,h1,h2,ih _ _ _ _ _ h3 h⟩
structure GoodS (st:St):Prop where
 e:GoodE st.E
 c:GoodC st.C
 l:GoodL st.L
 o:OrdAs st.L st.A 0 st.L.length 0 st.at_
theorem MA_good {s:ByteArray}{n:Nat}{st st':St}(h:MA s n st=some st')(hg:GoodS st):GoodS st':=by
 unfold MA at h
 simp only at h
 obtain⟨⟨r1,st1⟩,h1,hM2⟩:=Option.bind_eq_some_iff.1 h
 obtain⟨⟨r2,cl2,st2⟩,h2,hM3⟩:=Option.bind_eq_some_iff.1 hM2
 obtain⟨_,rfl⟩:=addA_some hM3
 obtain⟨⟨F,hF⟩,hA1,hE1,hC1⟩:=ML_ext s _ _ _ _ _ _ _ _ h1
 obtain⟨_,_,hA2,hL2⟩:=MC_ext s _ _ _ _ _ h2
 have k1:=ML_good s _ _ _ _ _ _ _ _ h1 (by omega) (by omega) hg.l
 have k2:=MC_good s _ _ _ _ _ h2 (by
  refine⟨?_,?_⟩
  ·show GoodE st1.E
   simp only at hE1
   rw [hE1];exact hg.e
  ·show GoodC st1.C
   simp only at hC1
   rw [hC1];exact hg.c)
 obtain⟨f,i,q1,q2,q3⟩:=(ML_ord s _ _ _ _ _ _ _ _ h1).1 (.inl rfl)
 have hL:st2.L=st1.L:=hL2
 have hA:st2.A=st.A:=by
  simp only at hA1 hA2
  rw [hA2]
  show st1.A=st.A
  rw [hA1];rfl
 have hF:st1.L=st.L++F:=hF
 refine⟨k2.1,k2.2,?_,?_⟩
 ·show GoodL st2.L
  rw [hL];exact k1
 ·show OrdAs st2.L (st2.A++[_]) 0 st2.L.length 0 (wrd s [10] st2).at_
  have g1:=wrd_ge s [10] st2
  have g2:=MC_ge s _ _ _ _ _ h2
  have g3:st1.at_≤(lstart s [105,102] (wrd s [10] st1)).at_:=Nat.le_trans (wrd_ge _ _ _) (Nat.le_trans (wrd_ge _ _ _) (sgn_ge _ _ _))
  have g4:st.at_≤(lstart s [116,111] (wrd s [10] ((lstart s [98,121] st).put3 (nameM s (lstart s [98,121] st).at_ (lstart s [98,121] st).bad)))).at_:=
   Nat.le_trans (Nat.le_trans (wrd_ge s [98,121] st) (sgn_ge _ _ _)) (Nat.le_trans (nameM_ge s (lstart s [98,121] st).at_ (lstart s [98,121] st).bad) (Nat.le_trans (wrd_ge s [10] ((lstart s [98,121] st).put3 (nameM s (lstart s [98,121] st).at_ (lstart s [98,121] st).bad))) (Nat.le_trans (wrd_ge _ _ _) (sgn_ge _ _ _))))
  have q3':OrdL st1.L f st.L.length i st.at_ (wrd s [10] st2).at_:=q3.wk g4 (by simp only at g2 ⊢;omega)
  rw [hL,hA]
  simp only at q1 q2
  rw [←q2,hF]
  rw [hF] at q3'
  exact OrdAs.snoc F _ _ _ _ _ _ _ _ _ hg.o q1 q3'
theorem MR_good (s:ByteArray): ∀n st st',MR s n st=some st'→GoodS st→GoodS st':=by
 intro n
 induction n with
 |zero=>intro st st' h;simp [MR] at h
 |succ n ih=>
  intro st st' h hg
  unfold MR at h
  split at h
  ·obtain⟨u,h1,h2⟩:=Option.bind_eq_some_iff.1 h
   exact ih _ _ h2 (MA_good h1 hg)
  ·cases h;exact hg
theorem good0:GoodS st0:=⟨fun x h=>(by cases h),fun x h=>(by cases h),fun x h=>(by cases h),rfl,Nat.le_refl _⟩
theorem info91:(Tryz.prog.info? 91).map (fun i=>(i.zero,i.size,i.bytes))=some (some (.agg #[.string ⟨#[]⟩,.pointer none,.pointer none]),3,32):=by kernel_rfl
abbrev PP:=Option Addr×Option Addr
def AsX (X:Nat→Prop)(w:World)(L:List Lc)(E:List Ex)(C:List (List Cl))(f:Nat)(p:PP)(x:As)(a b e g:Nat):Prop:=
 ∃i ci:Nat,x.to_=(i:Int)∧x.conds=(ci:Int)∧e=i+1∧RefLX X w L f (.pointer p.1) a i∧RefCX X w E C f (.pointer p.2) ci b g
def SegA (P:PP→As→Nat→Nat→Nat→Nat→Prop):List PP→List As→Nat→Nat→Nat→Nat→Prop
 |[],[],a,b,e,g=>a=e∧b=g
 |p::ps,x::xs,a,b,e,g=> ∃m n:Nat,P p x a b m n∧SegA P ps xs m n e g
 |_,_,_,_,_,_=>False
theorem SegA.imp {P Q:PP→As→Nat→Nat→Nat→Nat→Prop}(h: ∀p x a b e g,P p x a b e g→Q p x a b e g): ∀(ps:List PP) (xs:List As) (a b e g:Nat),SegA P ps xs a b e g→SegA Q ps xs a b e g:=by
 intro ps
 induction ps with
 |nil=>intro xs a b e g;cases xs<;>exact id
 |cons p ps ih=>
  intro xs a b e g
  cases xs with
  |nil=>exact id
  |cons x xs=>intro ⟨m,n,h1,h2⟩;exact⟨m,n,h _ _ _ _ _ _ h1,ih xs _ _ _ _ h2⟩
theorem SegA.snoc {P:PP→As→Nat→Nat→Nat→Nat→Prop}: ∀(ps:List PP) (xs:List As) (a b e g:Nat) (p:PP) (x:As) (m n:Nat),SegA P ps xs a b e g→P p x e g m n→SegA P (ps++[p]) (xs++[x]) a b m n:=by
 intro ps
 induction ps with
 |nil=>
  intro xs a b e g p x m n h hp
  cases xs with
  |nil=>obtain⟨rfl,rfl⟩:=h;exact⟨m,n,hp,rfl,rfl⟩
  |cons i is=>exact absurd h id
 |cons u ps ih=>
  intro xs a b e g p x m n h hp
  cases xs with
  |nil=>exact absurd h id
  |cons i is=>
   obtain⟨q,r,h2,h3⟩:=h
   exact⟨q,r,h2,ih is _ _ _ _ p x m n h3 hp⟩
theorem SegA.len {P:PP→As→Nat→Nat→Nat→Nat→Prop}: ∀(ps:List PP) (xs:List As) (a b e g:Nat),SegA P ps xs a b e g→ps.length=xs.length:=by
 intro ps
 induction ps with
 |nil=>intro xs a b e g h;cases xs with
  |nil=>rfl
  |cons i is=>exact absurd h id
 |cons v ps ih=>
  intro xs a b e g h
  cases xs with
  |nil=>exact absurd h id
  |cons i is=>obtain⟨j,k,_,h3⟩:=h;simp [ih is _ _ _ _ h3]
theorem trA (L:List Lc)(E:List Ex)(C:List (List Cl))(f:Nat)(ps:List PP)(xs:List As)(a b e g:Nat):Tr fun X w=>SegA (fun p x a b e g=>AsX X w L E C f p x a b e g) ps xs a b e g:=by
 refine⟨fun X w h=>SegA.imp ?_ _ _ _ _ _ _ h,fun X w w' hs h=>SegA.imp ?_ _ _ _ _ _ _ h,fun X X' w hs h=>SegA.imp ?_ _ _ _ _ _ _ h⟩
 ·intro p x a b e g ⟨i,ci,h1,h2,h3,h4,h5⟩;exact⟨i,ci,h1,h2,h3,h4.cap,h5.cap⟩
 ·intro p x a b e g ⟨i,ci,h1,h2,h3,h4,h5⟩;exact⟨i,ci,h1,h2,h3,h4.keepX hs,h5.keepX hs⟩
 ·intro p x a b e g ⟨i,ci,h1,h2,h3,h4,h5⟩;exact⟨i,ci,h1,h2,h3,h4.mono hs,h5.mono hs⟩
theorem AsX.more {X:Nat→Prop}{w:World}{L:List Lc}{E:List Ex}{C:List (List Cl)}{f:Nat}{p:PP}{x:As}{a b e g:Nat}(F:List Lc)(G:List Ex)(H:List (List Cl))(n:Nat)(h:AsX X w L E C f p x a b e g):AsX X w (L++F) (E++G) (C++H) (f+n) p x a b e g:=by
 obtain⟨i,ci,h1,h2,h3,h4,h5⟩:=h
 exact⟨i,ci,h1,h2,h3,(h4.more F).ups n,(h5.more G H).ups n⟩
def cellsA (p:PP×ByteArray):List Value:=[.string p.2,.pointer p.1.1,.pointer p.1.2]
def rowA (ps:List PP)(xs:List As):List Value:=(((ps.zip (xs.map (·.by_))).map cellsA)).flatten
theorem rowA_snoc {ps:List PP}{xs:List As}(h:ps.length=xs.length)(p:PP)(x:As):rowA (ps++[p]) (xs++[x])=rowA ps xs++[.string x.by_,.pointer p.1,.pointer p.2]:=by
 unfold rowA
 rw [List.map_append,List.zip_append (by simpa using h)]
 simp [cellsA]
theorem rowA_get {ps:List PP}{xs:List As}{i j:Nat}{p:PP}{x:As}(hp:ps[i]?=some p)(hx:xs[i]?=some x)(hj:j<3):(rowA ps xs)[i*3+j]?=(cellsA (p,x.by_))[j]?:=by
 unfold rowA
 refine flat_get cellsA 3 (fun _=>rfl) _ i j (p,x.by_) ?_ hj
 simp [List.getElem?_zip_eq_some,hp,hx]
def RdPost (s:ByteArray)(st:St)(w:World)(e:Ending)(w':World):Prop:= ∃lv,e= .returned (.tuple #[lv,.int .i64 (ckM s st).1,.int .i64 (ckM s st).2])∧Below w.heap.size w w'∧(∃a n c,lv= .slice a n c)∧
 ((ckM s st).1=0→ ∃f ps,w'.ownsRow w.heap.size 91 3 lv st.A.length (rowA ps st.A)∧SegA (fun p x a b e g=>AsX (fun k=>k<w.heap.size) w' st.L st.E st.C f p x a b e g) ps st.A 0 0 st.L.length st.E.length)
theorem rowA_zip {qs:List (PP×ByteArray)}{xs:List As}(h:qs.map (·.2)=xs.map (·.by_)):rowA (qs.map (·.1)) xs=(qs.map cellsA).flatten:=by
 unfold rowA
 rw [←h]
 have e:(qs.map (·.1)).zip (qs.map (·.2))=qs:=by
  clear h
  induction qs with
  |nil=>rfl
  |cons q qs ih=>simp only [List.map_cons,List.zip_cons_cons,ih]
 rw [e]
theorem MA_len {s:ByteArray}{n:Nat}{st st':St}(h:MA s n st=some st'):st.A.length<100000∧st'.A.length=st.A.length+1:=by
 unfold MA at h
 simp only at h
 obtain⟨⟨r1,st1⟩,h1,hM2⟩:=Option.bind_eq_some_iff.1 h
 obtain⟨⟨r2,cl2,st2⟩,h2,hM3⟩:=Option.bind_eq_some_iff.1 hM2
 obtain⟨hl,rfl⟩:=addA_some hM3
 obtain⟨_,hA1,_,_⟩:=ML_ext s _ _ _ _ _ _ _ _ h1
 obtain⟨_,_,hA2,_⟩:=MC_ext s _ _ _ _ _ h2
 have hA:st2.A=st.A:=by
  simp only at hA1 hA2
  rw [hA2]
  show st1.A=st.A
  rw [hA1];rfl
 have hl:st2.A.length<100000:=hl
 refine⟨by rw [←hA];exact hl,?_⟩
 show(st2.A++[_]).length=_
 rw [hA];simp
theorem MA_ext {s:ByteArray}{n:Nat}{st st':St}(h:MA s n st=some st'):(∃F,st'.L=st.L++F)∧(∃F,st'.E=st.E++F)∧(∃F,st'.C=st.C++F)∧(st.bad=true→st'.bad=true):=by
 unfold MA at h
 simp only at h
 obtain⟨⟨r1,st1⟩,h1,hM2⟩:=Option.bind_eq_some_iff.1 h
 obtain⟨⟨r2,cl2,st2⟩,h2,hM3⟩:=Option.bind_eq_some_iff.1 hM2
 obtain⟨hl,rfl⟩:=addA_some hM3
 obtain⟨⟨F,hF⟩,_,hE1,hC1⟩:=ML_ext s _ _ _ _ _ _ _ _ h1
 obtain⟨⟨G,hG⟩,⟨H,hH⟩,_,hL2⟩:=MC_ext s _ _ _ _ _ h2
 simp only at hF hE1 hC1 hG hH hL2
 refine⟨⟨F,?_⟩,⟨G,?_⟩,⟨H,?_⟩,fun hb=> ?_⟩
 ·show st2.L=st.L++F
  rw [hL2]
  show st1.L=st.L++F
  rw [hF];rfl
 ·show st2.E=st.E++G
  rw [hG]
  show st1.E++G=st.E++G
  rw [hE1];rfl
 ·show st2.C=st.C++H
  rw [hH]
  show st1.C++H=st.C++H
  rw [hC1];rfl
 ·have k1:=(wrd_bad (s:=s) (c:=98) (cs:=[121]) hb).1
  have k2:=(sgn_bad (s:=s) (c:=32) (cs:=[]) k1).1
  have k3:((lstart s [98,121] st).put3 (nameM s (lstart s [98,121] st).at_ (lstart s [98,121] st).bad)).bad=true:=by
   show(nameM s (lstart s [98,121] st).at_ (lstart s [98,121] st).bad).2.1=true
   rw [show(lstart s [98,121] st).bad=true from k2,nameM_badst]
  have k4:=(wrd_bad (s:=s) (c:=10) (cs:=[]) k3).1
  have k5:=(wrd_bad (s:=s) (c:=116) (cs:=[111]) k4).1
  have k6:=(sgn_bad (s:=s) (c:=32) (cs:=[]) k5).1
  have k7:=(ML_bad s _ _ _ _ _ _ _ _ h1 (by omega) k6).1
  have k8:=(wrd_bad (s:=s) (c:=10) (cs:=[]) k7).1
  have k9:=(wrd_bad (s:=s) (c:=105) (cs:=[102]) k8).1
  have k10:=(sgn_bad (s:=s) (c:=32) (cs:=[]) k9).1
  have k11:=(MC_bad s _ _ _ _ _ h2 k10).1
  exact(wrd_bad (s:=s) (c:=10) (cs:=[]) k11).1
theorem SegA.get {P:PP→As→Nat→Nat→Nat→Nat→Prop}: ∀(ps:List PP) (xs:List As) (a b e g i:Nat) (p:PP),SegA P ps xs a b e g→ps[i]?=some p→ ∃x a' b' e' g',xs[i]?=some x∧P p x a' b' e' g':=by
 intro ps
 induction ps with
 |nil=>intro xs a b e g i p _ h;simp at h
 |cons u ps ih=>
  intro xs a b e g i p h hp
  cases xs with
  |nil=>exact absurd h id
  |cons x xs=>
   obtain⟨m,n,h1,h2⟩:=h
   cases i with
   |zero=>
    have:u=p:=by simpa using hp
    subst this
    exact⟨x,a,b,m,n,rfl,h1⟩
   |succ i=>exact ih xs m n e g i p h2 (by simpa using hp)
theorem SegA.split {P:PP→As→Nat→Nat→Nat→Nat→Prop}(ps:List PP)(xs:List As)(a b e g i:Nat)(p:PP)(h:SegA P (ps.drop i) (xs.drop i) a b e g)(hp:ps[i]?=some p): ∃x m n,P p x a b m n∧SegA P (ps.drop (i+1)) (xs.drop (i+1)) m n e g:=by
 obtain⟨hl,hx⟩:=List.getElem?_eq_some_iff.1 hp
 rw [List.drop_eq_getElem_cons hl,hx] at h
 cases hc:xs.drop i with
 |nil=>rw [hc] at h;exact absurd h id
 |cons c cs'=>
  rw [hc] at h
  obtain⟨m,n,h1,h2⟩:=h
  refine⟨c,m,n,h1,?_⟩
  have:xs.drop (i+1)=cs':=by rw [←List.drop_drop,hc];rfl
  rw [this]
  exact h2
theorem fewT_ups {X:Nat→Prop}{w:World}{L:List Lc}{f:Nat}{v:Value}{a i:Nat}(h:RefLX X w L f v a i)(g:Nat):fewT L (f+g) i=fewT L f i:=by
 induction g with
 |zero=>rfl
 |succ g ih=>rw [←ih];exact fewT_up _ _ _ _ (h.ups g)
theorem fewA {X:Nat→Prop}{w:World}{L:List Lc}{E:List Ex}{C:List (List Cl)}{f:Nat}(hc: ∀x∈L,x.form=2→0≤x.count): ∀(ps:List PP) (xs:List As) (a b e g lo hi:Nat),SegA (fun p x a b e g=>AsX X w L E C f p x a b e g) ps xs a b e g→OrdAs L xs a e lo hi→MF L a e lo hi (firstPos (xs.map fun x=>fewT L f x.to_.toNat)):=by
 intro ps
 induction ps with
 |nil=>
  intro xs a b e g lo hi h ho
  cases xs with
  |nil=>obtain⟨rfl,h2⟩:=ho;exact MF.nil L a lo hi h2
  |cons x xs=>exact absurd h id
 |cons p ps ih=>
  intro xs a b e g lo hi h ho
  cases xs with
  |nil=>exact absurd h id
  |cons x xs=>
   obtain⟨m,n,⟨i,ci,q1,q2,q3,q4,q5⟩,h2⟩:=h
   obtain⟨f',i',m',r1,r2,r3⟩:=ho
   have hii:i'=i:=by omega
   subst hii
   subst q3
   have k1:=fewT_min hc _ _ _ _ _ (r2.ups f)
   rw [Nat.add_comm f' f,fewT_ups q4] at k1
   have k2:=ih xs _ _ _ _ _ _ h2 r3
   have k3:=k1.join k2
   have e1:x.to_.toNat=i':=by omega
   simp only [List.map_cons,firstPos,e1]
   exact k3
theorem read_long (s:ByteArray)(st:St)(w:World)(hs:600<s.size)(hmax:s.size≤maxLen):Calls Tryz.prog 49 #[.string s] w fun e w'=>RdPost s st w e w':=by
 have hck:Hid (ckM s st=(1,0)):=hide (by unfold ckM;rw [if_pos hs])
 have hsi:(600:Int)<s.size:=by omega
 have hm:s.size≤9223372036854775807:=by unfold maxLen at hmax;omega
 clear hmax
 go_enter Tryz.func49,Tryz.ntmps49
 go_wp2_with fail
 go_ret3
 refine⟨.slice none 0 0,by rw [hck.out];simp,Below.refl _ _,⟨_,_,_,rfl⟩,fun h=> ?_⟩
 rw [hck.out] at h
 cases h
theorem read_short (s:ByteArray)(n:Nat)(st':St)(w:World)(hM:MR s n st0=some st')(hs:s.size≤600):Calls Tryz.prog 49 #[.string s] w fun e w'=>RdPost s st' w e w':=by
 have hG:=hide (MR_good s n st0 st' hM good0)
 have HM:=hide hM
 clear hM
 have hR0:Rd (w.alloc (.cells #[.string s,.int .i64 0,.bool false] 94)) w.heap.size s 0 false:=by
  obtain⟨y0,y1,y2,yf⟩:=box3 (heap_alloc_new w (.cells #[.string s,.int .i64 0,.bool false] 94))
  exact⟨y0,y1,y2,yf 1,yf 2,Nat.zero_le _,hs⟩
 have hF0:Below w.heap.size w (w.alloc (.cells #[.string s,.int .i64 0,.bool false] 94)):=(Below.refl _ _).alloc (Nat.le_refl _) _
 have hz0:(w.alloc (.cells #[.string s,.int .i64 0,.bool false] 94)).heap.size=w.heap.size+1:=by simp
 have H0:=hide (And.intro hR0 (And.intro hF0 hz0))
 clear hR0 hF0 hz0
 have hsi: ¬(600:Int)<s.size:=by omega
 obtain⟨i0,hi,hz0,hz1,hz2⟩:=info_parts info91
 go_enter Tryz.func49,Tryz.ntmps49
 go_wp2_with fail
 go_loopg [6,7] n (fun g lv _ wr=> ∃(sv:St) (qs:List (PP×ByteArray)),Hid (MR s g sv=some st')∧Rd wr w.heap.size s sv.at_ sv.bad∧Below w.heap.size w wr∧wr.ownsRow (w.heap.size+1) 91 3 lv qs.length ((qs.map cellsA).flatten)∧Hid (qs.length=sv.A.length)∧Hid (sv.bad=false→ ∃f,qs.map (·.2)=sv.A.map (·.by_)∧SegA (fun p x a b e g=>AsX (KX w.heap.size w.heap.size lv) wr sv.L sv.E sv.C f p x a b e g) (qs.map (·.1)) sv.A 0 0 sv.L.length sv.E.length))
 case atStart=>exact⟨st0,[],HM,H0.out.1,H0.out.2.1,World.ownsRow_nil _ _ _ _,rfl,hide fun _=>⟨0,rfl,rfl,rfl⟩⟩
 case round=>
  obtain⟨sv,qs,hm,hRq,hB,hown,hlen,ht⟩:=hrel
  cases gk with
  |zero=>exact absurd hm.out (by simp [MR])
  |succ k=>
   have hm':=hm.out
   unfold MR at hm'
   clear hm H0 HM
   obtain⟨c0,c1,c2,f1,f2,hle,hsz⟩:=id hRq
   obtain⟨a5,k5,rfl⟩:=ownsRow_slc hown
   by_cases hgo:sv.bad=false∧sv.at_<s.size
   ·obtain⟨hbad,hlt⟩:=hgo
    rw [hbad,if_pos (by simp [hlt])] at hm'
    obtain⟨st1,h1,h2⟩:=Option.bind_eq_some_iff.1 hm'
    have HH:=hide (And.intro h1 h2)
    have hlA:=MA_len h1
    have HXT:=hide (MA_ext h1)
    have hq5:qs.length<100000:=by have:=hlen.out;omega
    have HLA:=hide hlA.2
    clear hm' h1 h2 hlA
    rw [hbad] at c2
    have HBD:=hide hbad
    clear hbad
    have hlti:(sv.at_:Int)<s.size:=by omega
    go_wp2_with fail
    refine(assertR_any s k w.heap.size sv wr st1 HH.out.1 hRq).mono ?_
    rintro e w1 ⟨nm,vt,vi,rfl,hR1,hF1,ht1⟩
    have HT1:=hide ht1
    have hnb: ∀j,(Value.slice a5 qs.length k5).ownBlock=some j→w.heap.size<j∧j<wr.heap.size:=fun j e=>by have:=hown.lt j e;omega
    have hown1:w1.ownsRow (w.heap.size+1) 91 3 (.slice a5 qs.length k5) qs.length ((qs.map cellsA).flatten):=ownsRow_same hown fun j e=>hF1.block j (hnb j e).2 (by have:=(hnb j e).1;omega)
    have hrb:w.heap.size<wr.heap.size:=block_lt_of_cell c0
    have hrb1:w.heap.size<w1.heap.size:=Nat.lt_of_lt_of_le hrb hF1.size
    have HNB:=hide hnb
    clear ht1 hnb c0 c1 c2 f1 f2
    go_wp2_with (at_builtin;go_must (refine wpList_append_lies _ rfl (.tmp 35) (.tmp 37) 85 rfl (w.heap.size+1) 91 i0 _ 3 32 Tryz.underlying85 hi hz0 hz1 hz2 rfl (by omega) (.slice a5 qs.length k5) qs.length _ rfl ((hown1.alloc _).alloc _) ⟨w1.heap.size+1,0,none⟩ 1 1 [.string nm,.pointer vt,.pointer vi] rfl rfl ?news ?one (by omega) ?mm ?bys ?base (w1.heap.size+2) (by simp) ?rest))
    case news=>
     refine World.news_of_block (cs:= #[.string nm,.pointer vt,.pointer vi]) (t:=91) (fr:=(0,0)) ?_
     have h:=heap_alloc_new (w1.alloc (.cells #[.string nm,.pointer vt,.pointer vi] 91)) (.cells #[.string nm,.pointer vt,.pointer vi] 91)
     rw [show(w1.alloc (.cells #[.string nm,.pointer vt,.pointer vi] 91)).heap.size=w1.heap.size+1 by simp] at h
     exact h
    case one=>intro u hu;simp at hu;rcases hu with rfl|rfl|rfl<;>rfl
    case mm=>unfold maxLen;omega
    case bys=>omega
    case base=>simp;omega
    case rest=>
     intro gb cap w5 hown5 hgrow hat hlt2
     have hbk: ∀j,j<w1.heap.size→some j≠(Value.slice a5 qs.length k5).ownBlock→w5.heap[j]?=w1.heap[j]?:=fun j hj hn=>(hgrow.block j (by simp;omega) hn).trans ((Below.heap_alloc _ _ _ (by simp;omega)).trans (Below.heap_alloc _ _ _ hj))
     have hz5:w1.heap.size≤w5.heap.size:=Nat.le_trans (by simp;omega) hgrow.size
     have hB5:Below w.heap.size w w5:=by
      refine⟨hgrow.os.trans (hF1.os.trans hB.os),hgrow.tape.trans (hF1.tape.trans hB.tape),hgrow.output.trans (hF1.output.trans hB.output),by omega,fun j hj=> ?_⟩
      rw [hbk j (by omega) (fun e=>by have:=(HNB.out j e.symm).1;omega),hF1.block j (by omega) (by omega)]
      exact hB.block j hj
     have hR5:Rd w5 w.heap.size s st1.at_ st1.bad:=hR1.other (hbk _ hrb1 fun e=>by have:=(HNB.out _ e.symm).1;omega)
     have hsame:SameX (fun k=>KX w.heap.size w.heap.size (.slice a5 qs.length k5) k∨w1.heap.size≤k) w1 w5:=fun j hj hn=>hbk j hj fun e=>hn (.inl (.inr (.inr e.symm)))
     have hkx: ∀j,KX w.heap.size w.heap.size (.slice (some ⟨gb,0,none⟩) (qs.length+1) cap) j→KX w.heap.size w.heap.size (.slice a5 qs.length k5) j∨w1.heap.size≤j:=fun j e=>by
      rcases e with e|e|e
      ·exact .inl (.inl e)
      ·exact .inl (.inr (.inl e))
      ·have e:gb=j:=by simpa [Value.ownBlock] using e
       rcases hat with q|q
       ·exact .inl (.inr (.inr (e▸q)))
       ·exact .inr (by omega)
     have hts:Hid (st1.bad=false→ ∃f,(qs++[((vt,vi),nm)]).map (·.2)=st1.A.map (·.by_)∧SegA (fun p x a b e g=>AsX (KX w.heap.size w.heap.size (.slice (some ⟨gb,0,none⟩) (qs.length+1) cap)) w5 st1.L st1.E st1.C f p x a b e g) ((qs++[((vt,vi),nm)]).map (·.1)) st1.A 0 0 st1.L.length st1.E.length):=hide fun hb=>by
      obtain⟨fl,fc,i,ci,q1,q2,q3,q4,q5⟩:=HT1.out hb
      obtain⟨f0,p1,p2⟩:=ht.out HBD.out
      obtain⟨⟨F,hF⟩,⟨G,hG⟩,⟨H,hH⟩,_⟩:=HXT.out
      have t1:=(trA _ _ _ _ _ _ _ _ _ _).rf p2 (.inl rfl) hF1
      have t2:=(trA _ _ _ _ _ _ _ _ _ _).old t1 ⟨hsame,hkx⟩
      have t3:=SegA.imp (fun _ _ _ _ _ _ q=>AsX.more F G H (fl+fc) q) _ _ _ _ _ _ t2
      rw [←hF,←hG,←hH] at t3
      have u1:=Tr.new (T:=fun X w=>RefLX X w st1.L fl (.pointer vt) sv.L.length i) ⟨fun _ _ h=>h.cap,fun _ _ _ hs h=>h.keepX hs,fun _ _ _ hs h=>h.mono hs⟩ q4 hrb (fun j e=>(HNB.out j e).2) ⟨hsame,hkx⟩
      have u2:=(trC _ _ _ _ _ _ _).new q5 hrb (fun j e=>(HNB.out j e).2) ⟨hsame,hkx⟩
      have u1':=u1.ups (f0+fc)
      have u2':=u2.ups (f0+fl)
      refine⟨f0+(fl+fc),?_,?_⟩
      ·rw [q1];simp [p1]
      ·rw [q1,List.map_append]
       refine SegA.snoc _ _ _ _ _ _ _ _ _ _ t3 ⟨i,ci,rfl,rfl,q2.symm,?_,?_⟩
       ·rw [show f0+(fl+fc)=fl+(f0+fc) by omega];exact u1'
       ·rw [show f0+(fl+fc)=fc+(f0+fl) by omega];exact u2'
     have hLN:Hid ((qs++[((vt,vi),nm)]).length=st1.A.length):=hide (by have:=hlen.out;rw [HLA.out];simp;omega)
     have HO5:Hid (w5.ownsRow (w.heap.size+1) 91 3 (.slice (some ⟨gb,0,none⟩) (qs.length+1) cap) (qs++[((vt,vi),nm)]).length (((qs++[((vt,vi),nm)]).map cellsA).flatten)):=hide (by simpa [cellsA] using hown5)
     clear hown5 hgrow hat hlt2 hbk hsame hkx hown1 HT1 ht HXT hown hB hRq hR1 hF1
     go_wp2_with fail
     go_roundg k
     case measure=>omega
     case rel=>exact⟨st1,_,HH.out.2,hR5,hB5,HO5.out,hLN,hts⟩
   ·rw [if_neg (by simpa using hgo)] at hm'
    have e1:=Option.some.inj hm'
    subst e1
    clear hm'
    obtain⟨bd,HBD⟩: ∃bd,Hid (sv.bad=bd):=⟨_,rfl⟩
    rw [HBD.out] at c2 hgo
    cases bd with
    |true=>
     have hck:Hid (ckM s sv=(2,(sv.at_:Int))):=hide (by unfold ckM;rw [if_neg (by omega),if_pos HBD.out])
     clear hgo ht hown hRq
     by_cases hlt:(sv.at_:Int)<s.size
     ·go_wp2_with fail
      go_quiet (fail)
      go_wp2_with fail
      go_ret3
      refine⟨.slice none 0 0,by rw [hck.out];simp,⟨hB.os,hB.tape,hB.output,hB.size,hB.block⟩,⟨_,_,_,rfl⟩,fun h=> ?_⟩
      rw [hck.out] at h
      cases h
     ·go_wp2_with fail
      go_quiet (fail)
      go_wp2_with fail
      go_ret3
      refine⟨.slice none 0 0,by rw [hck.out];simp,⟨hB.os,hB.tape,hB.output,hB.size,hB.block⟩,⟨_,_,_,rfl⟩,fun h=> ?_⟩
      rw [hck.out] at h
      cases h
    |false=>
     have hlt: ¬(sv.at_:Int)<s.size:=by simp at hgo;omega
     clear hgo
     obtain⟨f,hby,hsegk⟩:=ht.out HBD.out
     clear ht
     have hle5:w.heap.size≤wr.heap.size:=hB.size
     have hseg:Hid (SegA (fun p x a b e g=>AsX (fun k=>k<w.heap.size) wr sv.L sv.E sv.C f p x a b e g) (qs.map (·.1)) sv.A 0 0 sv.L.length sv.E.length):=hide ((trA _ _ _ _ _ _ _ _ _ _).mono _ _ _ (fun k h=> .inr (.inl (Nat.le_of_lt h))) hsegk)
     have HBY:=hide hby
     have HB:=hide hB
     have HOWN:=hide hown
     clear hby hsegk hB hown hRq
     have hql:(qs.length:Int)=sv.A.length:=by have:=hlen.out;omega
     have HQL:=hide hql
     clear hql
     by_cases h8:(8:Int)<qs.length
     ·have hck:Hid (ckM s sv=(3,0)):=hide (by
       unfold ckM
       rw [if_neg (by omega),if_neg (by rw [HBD.out];decide),if_pos (by have:=HQL.out;omega)])
      go_wp2_with fail
      go_ret3
      refine⟨.slice none 0 0,by rw [hck.out];simp,HB.out,⟨_,_,_,rfl⟩,fun h=> ?_⟩
      rw [hck.out] at h
      cases h
     ·have hgoodL:=hG.out.l
      have hfew:=hide (fewA (fun x hx=>(hgoodL x hx).2) _ _ _ _ _ _ _ _ hseg.out hG.out.o)
      have hcf:Hid (cfM sv.L (-1)=firstPos (sv.A.map fun x=>fewT sv.L f x.to_.toNat)):=hide hfew.out.cf
      have hckA:Hid (ckM s sv=if cfM sv.L (-1) != -1 then(4,cfM sv.L (-1)) else if tfM sv.E [] != -1 then(5,tfM sv.E []) else(0,0)):=hide (by
       unfold ckM
       rw [if_neg (by omega),if_neg (by rw [HBD.out];decide),if_neg (by have:=HQL.out;omega)])
      obtain⟨rs,hrs⟩: ∃rs,(sv.A.map fun x=>fewT sv.L f x.to_.toNat)=rs:=⟨_,rfl⟩
      have HRS:=hide hrs
      have hfp:Hid (firstPos rs= -1∨0≤firstPos rs):=hide (by rw [←hrs];exact hfew.out.pos)
      have hcf2:Hid (cfM sv.L (-1)=firstPos rs):=hide (by rw [←hrs];exact hcf.out)
      have hrl:Hid (rs.length=qs.length):=hide (by rw [←hrs];have:=HQL.out;simp;omega)
      clear hrs hgoodL hfew hcf
      have hq8:qs.length≤8:=by omega
      go_wp2_with fail
      go_loopg [8,9] (qs.length+1) (fun k iv _ wq=> ∃i:Nat,k+i=qs.length+1∧i≤qs.length∧iv= .int .i64 i∧wq=wr∧Hid (firstPos (rs.drop i)=firstPos rs))
      case atStart=>exact⟨0,rfl,Nat.zero_le _,rfl,rfl,rfl⟩
      case round=>
       obtain⟨i,hgk,hile,rfl,rfl,hfd⟩:=hrel
       have HGK:=hide hgk
       clear hgk
       by_cases hil:i<qs.length
       ·obtain⟨p,hp⟩: ∃p,qs[i]?=some p:=⟨qs[i],List.getElem?_eq_getElem hil⟩
        obtain⟨x,a',b',e',g',hx,⟨iL,ci,r1,r2,r3,r4,r5⟩⟩:=SegA.get _ _ _ _ _ _ i p.1 hseg.out (by simp [hp])
        obtain⟨gk2,capk,hv,hb2,hgl⟩:=HOWN.out.form (by omega)
        injection hv with e1 e2 e3
        subst e1 e3
        have hcell:wr.cell? ⟨gk2,i*3+1,none⟩=some (.pointer p.1.1):=row_cell HOWN.out _ _ ((flat_get cellsA 3 (fun _=>rfl) qs i 1 p hp (by omega)).trans rfl)
        have hri:rs[i]?=some (fewT sv.L f iL):=by
         rw [←HRS.out]
         simp [hx,r1]
        have hst:=(firstPos_step hri).symm.trans hfd.out
        have HFW:=hide (few_any (fun x hx=>(hG.out.l x hx).1) f _ _ _ r4)
        have hili:(i:Int)<qs.length:=by omega
        clear hfd hri hx r1 r2 r3 r4 r5 hp
        generalize fewT sv.L f iL=ri at*
        have HST:=hide hst
        clear hst
        go_wp2_with fail
        refine HFW.out.mono ?_
        rintro e w1 ⟨rfl,rfl⟩
        have hst:=HST.out
        clear HST HFW
        by_cases hr0:0≤ri
        ·rw [if_pos hr0] at hst
         have hck:Hid (ckM s sv=(4,ri)):=hide (by
          rw [hckA.out,hcf2.out,←hst,if_pos (by simp;omega)])
         clear hst
         go_wp2_with fail
         go_ret3
         refine⟨.slice none 0 0,by rw [hck.out];simp,HB.out,⟨_,_,_,rfl⟩,fun h=> ?_⟩
         rw [hck.out] at h
         cases h
        ·rw [if_neg hr0] at hst
         have HST:=hide hst
         clear hst
         go_wp2_with fail
         go_roundg (qs.length - i)
         case measure=>have:=HGK.out;omega
         case rel=>exact⟨i+1,by have:=HGK.out;omega,by omega,by go_num,rfl,HST⟩
       ·have hili: ¬(i:Int)<qs.length:=by omega
        have hneg:Hid (firstPos rs= -1):=hide (by rw [←hfd.out,List.drop_of_length_le (by rw [hrl.out];omega)];rfl)
        have hckB:Hid (ckM s sv=if tfM sv.E [] != -1 then(5,tfM sv.E []) else(0,0)):=hide (by rw [hckA.out,hcf2.out,hneg.out];rfl)
        clear hckA hcf2 hneg hfd hfp HRS hrl
        go_wp2_with fail
        generalize wr=W5 at*
        go_loopg [10,11,12] (qs.length+1) (fun k iv _ _ wq=> ∃(i a:Nat) (ts:List Int),k+i=qs.length+1∧i≤qs.length∧iv= .int .i64 i∧Below W5.heap.size W5 wq∧Hid (Scan sv.E ts∧SegA (fun p x a b e g=>AsX (fun k=>k<w.heap.size) W5 sv.L sv.E sv.C f p x a b e g) ((qs.map (·.1)).drop i) (sv.A.drop i) a ts.length sv.L.length sv.E.length))
        case atStart=>exact⟨0,0,[],rfl,Nat.zero_le _,rfl,Below.refl _ _,hide ⟨Scan.nil _,hseg.out⟩⟩
        case round=>
         obtain⟨i3,a3,ts,hgk,hile3,rfl,hBq,hsc⟩:=hrel
         have HGK3:=hide hgk
         clear hgk
         by_cases hil3:i3<qs.length
         ·obtain⟨p,hp⟩: ∃p,qs[i3]?=some p:=⟨qs[i3],List.getElem?_eq_getElem hil3⟩
          obtain⟨x,m,n2,⟨iL,ci,r1,r2,r3,r4,r5⟩,hseg3⟩:=SegA.split _ _ _ _ _ _ i3 p.1 hsc.out.2 (by simp [hp])
          obtain⟨gk2,capk,hv,hb2,hgl⟩:=HOWN.out.form (by omega)
          injection hv with e1 e2 e3
          subst e1 e3
          have hcell:wr.cell? ⟨gk2,i3*3+2,none⟩=some (.pointer p.1.2):=by
           rw [hBq.cell (p:=⟨gk2,i3*3+2,none⟩) hgl]
           exact row_cell HOWN.out _ _ ((flat_get cellsA 3 (fun _=>rfl) qs i3 2 p hp (by omega)).trans rfl)
          have HTY:=hide (typed_C hG.out.e hG.out.c f _ ci _ n2 ts wr (r5.keepX (below_same hBq)) hsc.out.1 rfl)
          have hili3:(i3:Int)<qs.length:=by omega
          have HS3:=hide hseg3
          have HBQ:=hide hBq
          have hz5:W5.heap.size≤wr.heap.size:=hBq.size
          clear r1 r2 r3 r4 r5 hp hseg3 hsc hBq
          go_wp2_with fail
          refine HTY.out.mono ?_
          rintro e w1 ⟨hb1,c,at2,rfl,hq⟩
          have hB1:Below W5.heap.size W5 w1:=HBQ.out.trans (hb1.mono hz5)
          have HB1:=hide hB1
          clear hb1 hB1 HTY hcell
          rcases hq with⟨rfl,rfl,us,q1,q2⟩|⟨rfl,q1,q2⟩
          ·have HQ:=hide (And.intro q1 q2)
           clear q1 q2
           go_wp2_with fail
           go_roundg (qs.length - i3)
           case measure=>have:=HGK3.out;omega
           case rel=>
            refine⟨i3+1,m,us,by have:=HGK3.out;omega,by omega,by go_num,HB1.out,hide ⟨HQ.out.1,?_⟩⟩
            rw [HQ.out.2]
            exact HS3.out
          ·have hck:Hid (ckM s sv=(5,at2)):=hide (by
            rw [hckB.out,q2.tf,if_pos (by simp;omega)])
           clear q2
           go_wp2_with fail
           go_ret3
           refine⟨.slice none 0 0,by rw [hck.out];simp,HB.out.trans (HB1.out.mono hle5),⟨_,_,_,rfl⟩,fun h=> ?_⟩
           rw [hck.out] at h
           cases h
         ·have hili3: ¬(i3:Int)<qs.length:=by omega
          have hse:=hsc.out.2
          have hlA:=hlen.out
          rw [List.drop_of_length_le (by simp;omega),List.drop_of_length_le (by omega)] at hse
          have hck:Hid (ckM s sv=(0,0)):=hide (by
           rw [hckB.out,hsc.out.1.tf_end hse.2]
           rfl)
          have hrow:Hid (wr.ownsRow w.heap.size 91 3 (.slice a5 qs.length k5) sv.A.length (rowA (qs.map (·.1)) sv.A)):=hide (by
           have h1:=ownsRow_same HOWN.out fun k e=>hBq.block k (HOWN.out.lt k e).2
           have h2:=ownsRow_low h1 (Nat.le_succ _)
           have e1:rowA (qs.map (·.1)) sv.A=(qs.map cellsA).flatten:=rowA_zip HBY.out
           rw [e1,←hlA]
           exact h2)
          have hseg9:=hide ((trA _ _ _ _ _ _ _ _ _ _).keep _ _ _ (below_same hBq) hseg.out)
          clear hse hlA
          go_wp2_with fail
          go_ret3
          refine⟨.slice a5 qs.length k5,by rw [hck.out];simp,HB.out.trans (hBq.mono hle5),⟨_,_,_,rfl⟩,fun h=> ?_⟩
          exact⟨f,qs.map (·.1),hrow.out,hseg9.out⟩
end Go.Proofs.YtkoohcilbpdgeaaGreatDoor
