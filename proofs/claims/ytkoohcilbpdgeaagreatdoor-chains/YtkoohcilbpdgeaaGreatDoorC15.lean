import Derived.Test.YtkoohcilbpdgeaaGreatDoorC14
set_option linter.all false
set_option linter.unusedVariables false
set_option linter.unusedSimpArgs false
set_option linter.unnecessarySimpa false
set_option linter.constructorNameAsVariable false
set_option linter.deprecated false
set_option maxRecDepth 100000
set_option maxHeartbeats 6400000
namespace Go.Proofs.YtkoohcilbpdgeaaGreatDoor
open Go Go.RowKit
def Sz (st:St):Prop:=(∀x∈st.E,x.text.size≤600)∧(∀x∈st.L,x.text.size≤600)∧(∀cls∈st.C,∀c∈cls,c.result.size≤600)∧(∀x∈st.A,x.by_.size≤600)
theorem sz_addE {st:St}{x:Ex}{r:Int×St}(h:addE st x=some r)(hg:Sz st)(hx:x.text.size≤600):Sz r.2:=by
 obtain⟨_,rfl⟩:=addE_some h
 refine⟨fun y hy=> ?_,hg.2⟩
 rcases List.mem_append.1 hy with hy|hy
 ·exact hg.1 y hy
 ·have:y=x:=by simpa using hy
  rw [this];exact hx
theorem sz_addL {st:St}{x:Lc}{r:Int×St}(h:addL st x=some r)(hg:Sz st)(hx:x.text.size≤600):Sz r.2:=by
 obtain⟨_,rfl⟩:=addL_some h
 refine⟨hg.1,fun y hy=> ?_,hg.2.2⟩
 rcases List.mem_append.1 hy with hy|hy
 ·exact hg.2.1 y hy
 ·have:y=x:=by simpa using hy
  rw [this];exact hx
theorem sz_addC {st:St}{x:List Cl}{r:Int×St}(h:addC st x=some r)(hg:Sz st)(hx: ∀c∈x,c.result.size≤600):Sz r.2:=by
 obtain⟨_,rfl⟩:=addC_some h
 refine⟨hg.1,hg.2.1,fun y hy=> ?_,hg.2.2.2⟩
 rcases List.mem_append.1 hy with hy|hy
 ·exact hg.2.2.1 y hy
 ·have:y=x:=by simpa using hy
  rw [this];exact hx
theorem sz_addA {st:St}{x:As}{r:St}(h:addA st x=some r)(hg:Sz st)(hx:x.by_.size≤600):Sz r:=by
 obtain⟨_,rfl⟩:=addA_some h
 refine⟨hg.1,hg.2.1,hg.2.2.1,fun y hy=> ?_⟩
 rcases List.mem_append.1 hy with hy|hy
 ·exact hg.2.2.2 y hy
 ·have:y=x:=by simpa using hy
  rw [this];exact hx
theorem ext_sz (s:ByteArray)(a b:Nat)(h:s.size≤600):(s.extract a b).size≤600:=by
 rw [ByteArray.size_extract];omega
theorem tokM_sz (p:Int→Bool)(m:Nat)(s:ByteArray)(a:Nat)(d:Bool)(h:s.size≤600):(tokM p m s a d).2.2.size≤600:=by
 unfold tokM
 simp only
 split
 ·show ByteArray.size ⟨#[]⟩≤600;decide
 ·exact ext_sz s _ _ h
theorem nameM_sz (s:ByteArray)(a:Nat)(d:Bool)(h:s.size≤600):(nameM s a d).2.2.size≤600:=tokM_sz _ _ _ _ _ h
theorem numberM_sz (s:ByteArray)(a:Nat)(d:Bool)(h:s.size≤600):(numberM s a d).2.2.size≤600:=tokM_sz _ _ _ _ _ h
theorem quotedM_sz (s:ByteArray)(a:Nat)(d:Bool)(h:s.size≤600):(quotedM s a d).2.2.size≤600:=ext_sz s _ _ h
theorem orderingM_sz (s x y:ByteArray)(a:Nat)(d:Bool)(hx:x.size≤600)(hy:y.size≤600):(orderingM s x y a d).2.2.size≤600:=by
 unfold orderingM
 simp only
 split
 ·exact hx
 ·exact hy
theorem comparingM_sz (s:ByteArray)(a:Nat)(d:Bool):(comparingM s a d).2.2.size≤600:=by
 unfold comparingM
 split
 ·show ByteArray.size ⟨#[61,61]⟩≤600;decide
 ·split
  ·show ByteArray.size ⟨#[33,61]⟩≤600;decide
  ·split
   ·exact orderingM_sz _ _ _ _ _ (by decide) (by decide)
   ·split
    ·exact orderingM_sz _ _ _ _ _ (by decide) (by decide)
    ·show ByteArray.size ⟨#[]⟩≤600;decide
theorem M_sz (s:ByteArray)(h600:s.size≤600): ∀n tag l st r,M s n tag l st=some r→Sz st→Sz r.2:=by
 intro n
 induction n with
 |zero=>intro tag l st r h;simp [M] at h
 |succ n ih=>
  intro tag l st r h hg
  have two: ∀{t1 t2:Nat} {st0:St},Sz st0→((M s n t1 0 st0).bind fun r=>M s n t2 r.1 r.2)=some r→Sz r.2:=fun hg h=>by
   obtain⟨q,h1,h2⟩:=Option.bind_eq_some_iff.1 h
   exact ih _ _ _ _ h2 (ih _ _ _ _ h1 hg)
  have three: ∀{t1 t2:Nat} {st0:St} {x:Int×St→Ex},Sz st0→(∀r,(x r).text.size≤600)→((M s n t1 0 st0).bind fun r=>(addE r.2 (x r)).bind fun q=>M s n t2 q.1 q.2)=some r→Sz r.2:=fun hg hx h=>by
   obtain⟨q,h1,h2⟩:=Option.bind_eq_some_iff.1 h
   obtain⟨q2,h3,h4⟩:=Option.bind_eq_some_iff.1 h2
   exact ih _ _ _ _ h4 (sz_addE h3 (ih _ _ _ _ h1 hg) (hx q))
  match tag,h with
  |0,h=>rw [M_0] at h;exact two hg h
  |1,h=>rw [M_1] at h;exact two hg h
  |4,h=>rw [M_4] at h;exact two hg h
  |5,h=>rw [M_5] at h;exact two hg h
  |10,h=>
   rw [M_10] at h
   split at h
   ·exact three (st0:=sgn s [124,124] st) (x:=fun r=>⟨6,st.at_,⟨#[124,124]⟩,l,r.1⟩) hg (fun r=>by show ByteArray.size ⟨#[124,124]⟩≤600;decide) h
   ·cases h;exact hg
  |11,h=>
   rw [M_11] at h
   split at h
   ·exact three (st0:=sgn s [38,38] st) (x:=fun r=>⟨6,st.at_,⟨#[38,38]⟩,l,r.1⟩) hg (fun r=>by show ByteArray.size ⟨#[38,38]⟩≤600;decide) h
   ·cases h;exact hg
  |14,h=>
   rw [M_14] at h
   simp only at h
   split at h
   ·cases h;exact hg
   ·rename_i hs
    exact three (st0:=sgn s (sumSignM s st.at_ st.bad).data.toList st) (x:=fun r=>⟨6,st.at_,sumSignM s st.at_ st.bad,l,r.1⟩) hg (fun r=>sumSignM_size _ _ _) h
  |15,h=>
   rw [M_15] at h
   simp only at h
   split at h
   ·cases h;exact hg
   ·rename_i hs
    exact three (st0:=sgn s (productSignM s st.at_ st.bad).data.toList st) (x:=fun r=>⟨6,st.at_,productSignM s st.at_ st.bad,l,r.1⟩) hg (fun r=>productSignM_size _ _ _) h
  |2,h=>
   rw [M_2] at h
   split at h
   ·exact ih _ _ _ _ h hg
   ·obtain⟨q,h1,h2⟩:=Option.bind_eq_some_iff.1 h
    have hq:=ih _ _ _ _ h1 (show Sz (sgn s [33] st) from hg)
    exact sz_addE h2 hq (by show ByteArray.size ⟨#[33]⟩≤600;decide)
  |6,h=>
   rw [M_6] at h
   split at h
   ·exact ih _ _ _ _ h hg
   ·obtain⟨q,h1,h2⟩:=Option.bind_eq_some_iff.1 h
    have hq:=ih _ _ _ _ h1 (show Sz (sgn s [45] st) from hg)
    exact sz_addE h2 hq (by show ByteArray.size ⟨#[45]⟩≤600;decide)
  |3,h=>
   rw [M_3] at h
   obtain⟨q,h1,h2⟩:=Option.bind_eq_some_iff.1 h
   have k1:=ih _ _ _ _ h1 hg
   simp only at h2
   split at h2
   ·cases h2;exact k1
   ·rename_i hs
    obtain⟨q2,h3,h4⟩:=Option.bind_eq_some_iff.1 h2
    have hq:=ih _ _ _ _ h3 (show Sz (q.2.put3 _) from k1)
    exact sz_addE h4 hq (comparingM_sz _ _ _)
  |7,h=>
   rw [M_7] at h
   simp only at h
   split at h
   ·exact sz_addE h (show Sz (st.put3 _) from hg) (numberM_sz _ _ _ h600)
   ·split at h
    ·exact sz_addE h (show Sz (st.put3 _) from hg) (quotedM_sz _ _ _ h600)
    ·split at h
     ·exact sz_addE h (show Sz ((wrd s [64] st).put3 _) from hg) (nameM_sz _ _ _ h600)
     ·split at h
      ·obtain⟨q,h1,h2⟩:=Option.bind_eq_some_iff.1 h
       have hq:=ih _ _ _ _ h1 (show Sz (sgn s [40] st) from hg)
       cases h2
       exact hq
      ·split at h
       ·exact sz_addE h (show Sz (st.put3 _) from hg) (nameM_sz _ _ _ h600)
       ·exact sz_addE h (show Sz (st.put3 _) from hg) (nameM_sz _ _ _ h600)
  |8,h=>simp [M] at h
  |9,h=>simp [M] at h
  |12,h=>simp [M] at h
  |13,h=>simp [M] at h
  |t+16,h=>simp [M] at h
theorem MC_sz (s:ByteArray)(h600:s.size≤600): ∀n tag cls st r,MC s n tag cls st=some r→Sz st→(∀c∈cls,c.result.size≤600)→Sz r.2.2∧r.2.1.result.size≤600:=by
 intro n
 induction n with
 |zero=>intro tag cls st r h;simp [MC] at h
 |succ n ih=>
  intro tag cls st r h hg hc
  match tag,h with
  |0,h=>
   rw [MC_0] at h
   obtain⟨q,h1,h2⟩:=Option.bind_eq_some_iff.1 h
   have k1:=ih _ _ _ _ h1 hg (by simp)
   refine ih _ _ _ _ h2 k1.1 fun c hm=> ?_
   have:c=q.2.1:=by simpa using hm
   rw [this];exact k1.2
  |2,h=>
   rw [MC_2] at h
   split at h
   ·split at h
    ·obtain⟨q,h1,h2⟩:=Option.bind_eq_some_iff.1 h
     have k1:=ih _ _ _ _ h1 (show Sz (sgn s [59] st) from hg) (by simp)
     refine ih _ _ _ _ h2 k1.1 fun c hm=> ?_
     rcases List.mem_append.1 hm with hm|hm
     ·exact hc c hm
     ·have:c=q.2.1:=by simpa using hm
      rw [this];exact k1.2
    ·obtain⟨q,h1,h2⟩:=Option.bind_eq_some_iff.1 h
     cases h2
     exact⟨sz_addC h1 hg hc,by show ByteArray.size ⟨#[]⟩≤600;decide⟩
   ·cases h
  |1,h=>
   rw [MC_1] at h
   obtain⟨q,h1,h2⟩:=Option.bind_eq_some_iff.1 h
   obtain⟨q2,h3,h4⟩:=Option.bind_eq_some_iff.1 h2
   have k1:=M_sz s h600 _ _ _ _ _ h1 hg
   have k2:=sz_addE h3 k1 (by show ByteArray.size ⟨#[]⟩≤600;decide)
   split at h4
   ·cases h4;exact⟨k2,by show ByteArray.size ⟨#[]⟩≤600;decide⟩
   ·simp only at h4
    split at h4
    ·obtain⟨v,h7,h8⟩:=Option.bind_eq_some_iff.1 h4
     cases h8
     have kk:=ih _ _ _ _ h7 (show Sz (sgn s [123] (sgn s [45,62] q2.2)) from k2) (by simp)
     exact⟨kk.1,by show ByteArray.size ⟨#[]⟩≤600;decide⟩
    ·cases h4
     exact⟨k2,nameM_sz _ _ _ h600⟩
  |t+3,h=>simp [MC] at h
theorem ML_sz (s:ByteArray)(h600:s.size≤600): ∀n tag l p k its st r,ML s n tag l p k its st=some r→Sz st→Sz r.2:=by
 intro n
 induction n with
 |zero=>intro tag l p k its st r h;simp [ML] at h
 |succ n ih=>
  intro tag l p k its st r h hg
  have three: ∀{t1 t2:Nat} {st0:St} {x:Int×St→Lc},Sz st0→(∀r,(x r).text.size≤600)→((ML s n t1 0 0 0 [] st0).bind fun r=>(addL r.2 (x r)).bind fun q=>ML s n t2 q.1 0 0 [] q.2)=some r→Sz r.2:=fun hg hx h=>by
   obtain⟨q,h1,h2⟩:=Option.bind_eq_some_iff.1 h
   obtain⟨q2,h3,h4⟩:=Option.bind_eq_some_iff.1 h2
   exact ih _ _ _ _ _ _ _ h4 (sz_addL h3 (ih _ _ _ _ _ _ _ h1 hg) (hx q))
  match tag,h with
  |0,h=>
   rw [ML_0] at h
   obtain⟨q,h1,h2⟩:=Option.bind_eq_some_iff.1 h
   exact ih _ _ _ _ _ _ _ h2 (ih _ _ _ _ _ _ _ h1 hg)
  |1,h=>
   rw [ML_1] at h
   obtain⟨q,h1,h2⟩:=Option.bind_eq_some_iff.1 h
   exact ih _ _ _ _ _ _ _ h2 (ih _ _ _ _ _ _ _ h1 hg)
  |10,h=>
   rw [ML_10] at h
   split at h
   ·exact three (st0:=sgn s [124,124] st) (x:=fun r=>⟨1,⟨#[124,124]⟩,l,r.1,0,0,[]⟩) hg (fun r=>by show ByteArray.size ⟨#[124,124]⟩≤600;decide) h
   ·cases h;exact hg
  |11,h=>
   rw [ML_11] at h
   split at h
   ·exact three (st0:=sgn s [38,38] st) (x:=fun r=>⟨1,⟨#[38,38]⟩,l,r.1,0,0,[]⟩) hg (fun r=>by show ByteArray.size ⟨#[38,38]⟩≤600;decide) h
   ·cases h;exact hg
  |2,h=>
   rw [ML_2] at h
   simp only at h
   split at h
   ·obtain⟨q,h1,h2⟩:=Option.bind_eq_some_iff.1 h
    have hq:=ih _ _ _ _ _ _ _ h1 (show Sz (sgn s [40] st) from hg)
    cases h2
    exact hq
   ·split at h
    ·exact ih _ _ _ _ _ _ _ h hg
    ·exact sz_addL h (show Sz (st.put3 _) from hg) (nameM_sz _ _ _ h600)
  |3,h=>
   rw [ML_3] at h
   obtain⟨q,h1,h2⟩:=Option.bind_eq_some_iff.1 h
   have hq:=ih _ _ _ _ _ _ _ h1 (show Sz (sgn s [45,111,102,40] {st with at_:=st.at_+1}) from hg)
   exact ih _ _ _ _ _ _ _ h2 hq
  |13,h=>
   rw [ML_13] at h
   split at h
   ·split at h
    ·obtain⟨u,h1,h2⟩:=Option.bind_eq_some_iff.1 h
     have hq:=ih _ _ _ _ _ _ _ h1 (show Sz (sgn s [44] st) from hg)
     exact ih _ _ _ _ _ _ _ h2 hq
    ·exact sz_addL h (show Sz (sgn s [41] st) from hg) (by show ByteArray.size ⟨#[]⟩≤600;decide)
   ·cases h
  |4,h=>simp [ML] at h
  |5,h=>simp [ML] at h
  |6,h=>simp [ML] at h
  |7,h=>simp [ML] at h
  |8,h=>simp [ML] at h
  |9,h=>simp [ML] at h
  |12,h=>simp [ML] at h
  |t+14,h=>simp [ML] at h
theorem MA_sz {s:ByteArray}(h600:s.size≤600){n:Nat}{st st':St}(h:MA s n st=some st')(hg:Sz st):Sz st':=by
 unfold MA at h
 simp only at h
 obtain⟨⟨r1,st1⟩,h1,hM2⟩:=Option.bind_eq_some_iff.1 h
 obtain⟨⟨r2,cl2,st2⟩,h2,hM3⟩:=Option.bind_eq_some_iff.1 hM2
 have k1:Sz st1:=ML_sz s h600 _ _ _ _ _ _ _ _ h1 hg
 have k2:Sz st2:=(MC_sz s h600 _ _ _ _ _ h2 (show Sz (lstart s [105,102] (wrd s [10] st1)) from k1) (by simp)).1
 exact sz_addA hM3 (show Sz (wrd s [10] st2) from k2) (nameM_sz _ _ _ h600)
theorem MR_sz (s:ByteArray)(h600:s.size≤600): ∀n st st',MR s n st=some st'→Sz st→Sz st':=by
 intro n
 induction n with
 |zero=>intro st st' h;simp [MR] at h
 |succ n ih=>
  intro st st' h hg
  unfold MR at h
  split at h
  ·obtain⟨u,h1,h2⟩:=Option.bind_eq_some_iff.1 h
   exact ih _ _ h2 (MA_sz h600 h1 hg)
  ·cases h;exact hg
end Go.Proofs.YtkoohcilbpdgeaaGreatDoor
