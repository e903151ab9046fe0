import Derived.Test.YtkoohcilbpdgeaaGreatDoorC12
set_option linter.all false
set_option linter.unusedVariables false
set_option linter.unusedSimpArgs false
set_option linter.unnecessarySimpa false
set_option linter.constructorNameAsVariable false
set_option linter.deprecated false
set_option maxRecDepth 100000
set_option maxHeartbeats 6400000
namespace Go.Proofs.YtkoohcilbpdgeaaGreatDoor
open Go Go.RowKit
theorem tokM_le (p:Int→Bool)(hp:p (-1)=false)(m:Nat)(s:ByteArray)(a:Nat)(d:Bool)(h:a≤s.size):(tokM p m s a d).1≤s.size:=by
 unfold tokM
 have h1:=run_le p hp s d m a h
 simp only
 split
 ·exact h1.2
 ·exact(skip_le h1.2).2
theorem nameM_le (s:ByteArray)(a:Nat)(d:Bool)(h:a≤s.size):(nameM s a d).1≤s.size:=tokM_le _ (by decide) _ _ _ _ h
theorem numberM_le (s:ByteArray)(a:Nat)(d:Bool)(h:a≤s.size):(numberM s a d).1≤s.size:=tokM_le _ (by decide) _ _ _ _ h
theorem quotedM_le (s:ByteArray)(a:Nat)(d:Bool)(h:a≤s.size):(quotedM s a d).1≤s.size:=by
 unfold quotedM
 have h1:=wordM_le s d [34] a h
 have h2:=run_le isQuotable (by decide) s (wordM s d [34] a).2 12 _ h1.2
 exact(signM_le s _ [34] _ h2.2).2
theorem orderingM_le (s short long:ByteArray)(a:Nat)(d:Bool)(h:a≤s.size):(orderingM s short long a d).1≤s.size:=by
 unfold orderingM
 have h1:=wordM_le s d short.data.toList a h
 simp only
 split
 ·exact(skip_le h1.2).2
 ·exact(signM_le s _ [61] _ h1.2).2
theorem comparingM_le (s:ByteArray)(a:Nat)(d:Bool)(h:a≤s.size):(comparingM s a d).1≤s.size:=by
 unfold comparingM
 split
 ·exact(signM_le _ _ _ _ h).2
 ·split
  ·exact(signM_le _ _ _ _ h).2
  ·split
   ·exact orderingM_le _ _ _ _ _ h
   ·split
    ·exact orderingM_le _ _ _ _ _ h
    ·exact h
theorem sgn_le {s:ByteArray}{l:List UInt8}{st:St}(h:st.at_≤s.size):(sgn s l st).at_≤s.size:=(signM_le s st.bad l st.at_ h).2
theorem wrd_le {s:ByteArray}{l:List UInt8}{st:St}(h:st.at_≤s.size):(wrd s l st).at_≤s.size:=(wordM_le s st.bad l st.at_ h).2
theorem wordP_step {s:ByteArray}{c:UInt8}{cs:List UInt8}{a:Nat}{d:Bool}(h:(pk s a d==(c.toNat:Int))=true):a+1≤(wordM s d (c::cs) a).1∧a<s.size:=by
 have h1:pk s a d=(c.toNat:Int):=by simpa using h
 rw [wordM_cons_yes h1]
 exact⟨wordM_ge s d cs (a+1),(pk_lt (s:=s) (a:=a) (d:=d) (by rw [h1];omega)).2⟩
theorem sgnP_step {s:ByteArray}{c:UInt8}{cs:List UInt8}{st:St}(h:(pkS s st==(c.toNat:Int))=true):st.at_+1≤(sgn s (c::cs) st).at_∧st.at_<s.size:=by
 obtain⟨h1,h2⟩:=wordP_step (cs:=cs) h
 exact⟨Nat.le_trans h1 (skip_ge _ _ _),h2⟩
theorem sumP_step {s:ByteArray}{st:St}(h: ¬((sumSignM s st.at_ st.bad).size==0)=true):st.at_+1≤(sgn s (sumSignM s st.at_ st.bad).data.toList st).at_∧st.at_<s.size:=by
 unfold sumSignM at h ⊢
 split
 ·rename_i e;rw [if_pos e] at h;exact absurd rfl h
 ·rename_i e
  rw [if_neg e] at h
  split
  ·rename_i e;exact sgnP_step (c:=43) (cs:=[]) e
  ·rename_i e
   rw [if_neg e] at h
   split
   ·rename_i e;exact sgnP_step (c:=45) (cs:=[]) e
   ·rename_i e
    rw [if_neg e] at h
    split
    ·rename_i e;exact sgnP_step (c:=46) (cs:=[]) e
    ·rename_i e;rw [if_neg e] at h;exact absurd rfl h
theorem productP_step {s:ByteArray}{st:St}(h: ¬((productSignM s st.at_ st.bad).size==0)=true):st.at_+1≤(sgn s (productSignM s st.at_ st.bad).data.toList st).at_∧st.at_<s.size:=by
 unfold productSignM at h ⊢
 split
 ·rename_i e;exact sgnP_step (c:=42) (cs:=[]) e
 ·rename_i e
  rw [if_neg e] at h
  split
  ·rename_i e;exact sgnP_step (c:=47) (cs:=[]) e
  ·rename_i e
   rw [if_neg e] at h
   split
   ·rename_i e;exact sgnP_step (c:=37) (cs:=[]) e
   ·rename_i e;rw [if_neg e] at h;exact absurd rfl h
theorem orderingP_step {s long:ByteArray}{c:UInt8}{a:Nat}{d:Bool}(h:(pk s a d==(c.toNat:Int))=true):a+1≤(orderingM s ⟨#[c]⟩ long a d).1∧a<s.size:=by
 obtain⟨h1,h2⟩:=wordP_step (cs:=[]) h
 refine⟨?_,h2⟩
 unfold orderingM
 have h3:a+1≤(wordM s d (⟨#[c]⟩:ByteArray).data.toList a).1:=h1
 simp only
 split
 ·exact Nat.le_trans h3 (skip_ge _ _ _)
 ·exact Nat.le_trans h3 (signM_ge _ _ _ _)
theorem comparingP_step {s:ByteArray}{a:Nat}{d:Bool}(h: ¬((comparingM s a d).2.2.size==0)=true):a+1≤(comparingM s a d).1∧a<s.size:=by
 unfold comparingM at h ⊢
 split
 ·rename_i e
  obtain⟨h1,h2⟩:=wordP_step (c:=61) (cs:=[61]) e
  exact⟨Nat.le_trans h1 (skip_ge _ _ _),h2⟩
 ·rename_i e
  rw [if_neg e] at h
  split
  ·rename_i e
   obtain⟨h1,h2⟩:=wordP_step (c:=33) (cs:=[61]) e
   exact⟨Nat.le_trans h1 (skip_ge _ _ _),h2⟩
  ·rename_i e
   rw [if_neg e] at h
   split
   ·rename_i e;exact orderingP_step (c:=60) e
   ·rename_i e
    rw [if_neg e] at h
    split
    ·rename_i e;exact orderingP_step (c:=62) e
    ·rename_i e;rw [if_neg e] at h;exact absurd rfl h
structure PE (s:ByteArray)(st:St)(k:Nat):Prop where
 le:st.at_≤s.size
 room:st.E.length+2*(s.size - st.at_)+k<100000
structure QM (s:ByteArray)(st st':St)(k:Nat):Prop where
 le:st'.at_≤s.size
 ge:st.at_≤st'.at_
 grow:st'.E.length+2*(s.size - st'.at_)≤st.E.length+2*(s.size - st.at_)+k
theorem addE_tot {st:St}(x:Ex)(h:st.E.length<100000):addE st x=some ((st.E.length:Int),{st with E:=st.E++[x]}):=by
 unfold addE
 rw [if_pos h]
def fuelM:Nat→Nat
 |7=>1|6=>2|5=>3|4=>4|3=>5|2=>6|1=>7|0=>8|_=>1
def isLoop (tag:Nat):Prop:=tag=10∨tag=11∨tag=14∨tag=15
theorem M_total (s:ByteArray): ∀n tag l st,(tag≤7∨isLoop tag)→PE s st (if tag≤7 then 1 else 0)→fuelM tag+20*(s.size - st.at_)≤n→ ∃r,M s n tag l st=some r∧QM s st r.2 (if tag≤7 then 1 else 0):=by
 intro n
 induction n with
 |zero=>
  intro tag l st ht hp hn
  exfalso
  have:1≤fuelM tag:=by
   rcases ht with h|rfl|rfl|rfl|rfl
   ·match tag,h with
    |0,_=>decide
    |1,_=>decide
    |2,_=>decide
    |3,_=>decide
    |4,_=>decide
    |5,_=>decide
    |6,_=>decide
    |7,_=>decide
   all_goals decide
  omega
 |succ n ih=>
  intro tag l st ht hp hn
  have hle:=hp.le
  have hroom:=hp.room
  have two: ∀(t1 t2:Nat),t1≤7→isLoop t2→st.E.length+2*(s.size - st.at_)+1<100000→fuelM t1+20*(s.size - st.at_)≤n→1+20*(s.size - st.at_)≤n→ ∃r,((M s n t1 0 st).bind fun r=>M s n t2 r.1 r.2)=some r∧QM s st r.2 1:=by
   intro t1 t2 h1 h2 h0 h3 h4
   obtain⟨q,e1,k1⟩:=ih t1 0 st (.inl h1) (by rw [if_pos h1];exact⟨hle,h0⟩) h3
   rw [if_pos h1] at k1
   have g1:=k1.le;have g2:=k1.ge;have g3:=k1.grow
   have hf:fuelM t2=1:=by rcases h2 with rfl|rfl|rfl|rfl<;>rfl
   have hn7: ¬t2≤7:=by rcases h2 with rfl|rfl|rfl|rfl<;>omega
   obtain⟨q2,e2,k2⟩:=ih t2 q.1 q.2 (.inr h2) (by rw [if_neg hn7];exact⟨g1,by omega⟩) (by rw [hf];omega)
   rw [if_neg hn7] at k2
   have g4:=k2.le;have g5:=k2.ge;have g6:=k2.grow
   exact⟨q2,by rw [e1];exact e2,⟨g4,by omega,by omega⟩⟩
  have three: ∀(t1 t2:Nat) (u:St) (x:Int×St→Ex),t1≤7→isLoop t2→st.E.length+2*(s.size - st.at_)<100000→u.E=st.E→st.at_+1≤u.at_→st.at_<s.size→u.at_≤s.size→20*(s.size - st.at_)≤n→fuelM t1≤8→ ∃r,((M s n t1 0 u).bind fun r=>(addE r.2 (x r)).bind fun q=>M s n t2 q.1 q.2)=some r∧QM s st r.2 0:=by
   intro t1 t2 u x h1 h2 h0 hE h5 h6 h7 h3 h4
   have hEl:u.E.length=st.E.length:=by rw [hE]
   obtain⟨q,e1,k1⟩:=ih t1 0 u (.inl h1) (by rw [if_pos h1];exact⟨h7,by omega⟩) (by omega)
   rw [if_pos h1] at k1
   have g1:=k1.le;have g2:=k1.ge;have g3:=k1.grow
   have hf:fuelM t2=1:=by rcases h2 with rfl|rfl|rfl|rfl<;>rfl
   have hn7: ¬t2≤7:=by rcases h2 with rfl|rfl|rfl|rfl<;>omega
   have ha:=addE_tot (st:=q.2) (x q) (by omega)
   obtain⟨q2,e2,k2⟩:=ih t2 q.2.E.length {q.2 with E:=q.2.E++[x q]} (.inr h2) (by rw [if_neg hn7];exact⟨g1,by simp;omega⟩) (by rw [hf];simp only;omega)
   rw [if_neg hn7] at k2
   have g4:=k2.le;have g5:=k2.ge;have g6:=k2.grow
   simp only [List.length_append,List.length_cons,List.length_nil] at g5 g6
   exact⟨q2,by rw [e1];simp only [Option.bind_some];rw [ha];exact e2,⟨g4,by omega,by omega⟩⟩
  have stop: ∀k,∃r,some (l,st)=some r∧QM s st r.2 k:=fun k=>⟨_,rfl,hle,Nat.le_refl _,Nat.le_add_right _ _⟩
  rcases ht with ht|ht
  ·rw [if_pos ht] at hroom ⊢
   match tag,ht,hn with
   |0,_,hn=>rw [M_0];exact two 1 10 (by omega) (.inl rfl) hroom (by simp [fuelM] at hn ⊢;omega) (by simp [fuelM] at hn ⊢;omega)
   |1,_,hn=>rw [M_1];exact two 2 11 (by omega) (.inr (.inl rfl)) hroom (by simp [fuelM] at hn ⊢;omega) (by simp [fuelM] at hn ⊢;omega)
   |4,_,hn=>rw [M_4];exact two 5 14 (by omega) (.inr (.inr (.inl rfl))) hroom (by simp [fuelM] at hn ⊢;omega) (by simp [fuelM] at hn ⊢;omega)
   |5,_,hn=>rw [M_5];exact two 6 15 (by omega) (.inr (.inr (.inr rfl))) hroom (by simp [fuelM] at hn ⊢;omega) (by simp [fuelM] at hn ⊢;omega)
   |2,_,hn=>
    rw [M_2]
    split
    ·obtain⟨q,e1,k1⟩:=ih 3 0 st (.inl (by omega)) (by rw [if_pos (by omega)];exact⟨hle,hroom⟩) (by simp [fuelM] at hn ⊢;omega)
     exact⟨q,e1,k1⟩
    ·rename_i hc
     have hc:(pkS s st==((33:UInt8).toNat:Int))=true:=by simpa using hc
     obtain⟨h5,h6⟩:=sgnP_step (cs:=[]) hc
     have h7:=sgn_le (l:=[33]) hle
     obtain⟨q,e1,k1⟩:=ih 2 0 (sgn s [33] st) (.inl (by omega)) (by rw [if_pos (by omega)];exact⟨h7,by show st.E.length+_+1<100000;omega⟩) (by simp [fuelM] at hn ⊢;omega)
     rw [if_pos (by omega)] at k1
     have g1:=k1.le;have g2:=k1.ge;have g3:=k1.grow
     have g3:q.2.E.length+2*(s.size - q.2.at_)≤st.E.length+2*(s.size -(sgn s [33] st).at_)+1:=g3
     rw [e1]
     simp only [Option.bind_some]
     refine⟨_,addE_tot (st:=q.2) _ (by omega),g1,by simp only;omega,by simp;omega⟩
   |6,_,hn=>
    rw [M_6]
    split
    ·obtain⟨q,e1,k1⟩:=ih 7 0 st (.inl (by omega)) (by rw [if_pos (by omega)];exact⟨hle,hroom⟩) (by simp [fuelM] at hn ⊢;omega)
     exact⟨q,e1,k1⟩
    ·rename_i hc
     have hc:(pkS s st==((45:UInt8).toNat:Int))=true:=by simpa using hc
     obtain⟨h5,h6⟩:=sgnP_step (cs:=[]) hc
     have h7:=sgn_le (l:=[45]) hle
     obtain⟨q,e1,k1⟩:=ih 6 0 (sgn s [45] st) (.inl (by omega)) (by rw [if_pos (by omega)];exact⟨h7,by show st.E.length+_+1<100000;omega⟩) (by simp [fuelM] at hn ⊢;omega)
     rw [if_pos (by omega)] at k1
     have g1:=k1.le;have g2:=k1.ge;have g3:=k1.grow
     have g3:q.2.E.length+2*(s.size - q.2.at_)≤st.E.length+2*(s.size -(sgn s [45] st).at_)+1:=g3
     rw [e1]
     simp only [Option.bind_some]
     refine⟨_,addE_tot (st:=q.2) _ (by omega),g1,by simp only;omega,by simp;omega⟩
   |3,_,hn=>
    rw [M_3]
    obtain⟨q,e1,k1⟩:=ih 4 0 st (.inl (by omega)) (by rw [if_pos (by omega)];exact⟨hle,hroom⟩) (by simp [fuelM] at hn ⊢;omega)
    rw [if_pos (by omega)] at k1
    have g1:=k1.le;have g2:=k1.ge;have g3:=k1.grow
    rw [e1]
    simp only [Option.bind_some]
    have h7:=comparingM_le s q.2.at_ q.2.bad g1
    by_cases hc:((comparingM s q.2.at_ q.2.bad).2.2.size==0)=true
    ·have h8:=comparingM_ge s q.2.at_ q.2.bad
     rw [if_pos hc]
     exact⟨_,rfl,h7,Nat.le_trans g2 h8,by
      show q.2.E.length+2*(s.size -(comparingM s q.2.at_ q.2.bad).1)≤_
      omega⟩
    ·obtain⟨h8,h9⟩:=comparingP_step hc
     rw [if_neg hc]
     obtain⟨q2,e2,k2⟩:=ih 4 0 (q.2.put3 (comparingM s q.2.at_ q.2.bad)) (.inl (by omega)) (by rw [if_pos (by omega)];exact⟨h7,by show q.2.E.length+2*(s.size -(comparingM s q.2.at_ q.2.bad).1)+1<100000;omega⟩) (by
      show 4+20*(s.size -(comparingM s q.2.at_ q.2.bad).1)≤n
      simp [fuelM] at hn;omega)
     rw [if_pos (by omega)] at k2
     have f1:=k2.le;have f2:=k2.ge;have f3:=k2.grow
     have f2:(comparingM s q.2.at_ q.2.bad).1≤q2.2.at_:=f2
     have f3:q2.2.E.length+2*(s.size - q2.2.at_)≤q.2.E.length+2*(s.size -(comparingM s q.2.at_ q.2.bad).1)+1:=f3
     rw [e2]
     simp only [Option.bind_some]
     refine⟨_,addE_tot _ (by omega),f1,by simp only;omega,by simp;omega⟩
   |7,_,hn=>
    rw [M_7]
    simp only
    have leaf: ∀(u:St) (x:Ex),u.E=st.E→st.at_≤u.at_→u.at_≤s.size→ ∃r,addE u x=some r∧QM s st r.2 1:=by
     intro u x hE h1 h2
     have hEl:u.E.length=st.E.length:=by rw [hE]
     refine⟨_,addE_tot _ (by omega),h2,h1,by simp;omega⟩
    split
    ·exact leaf _ _ rfl (numberM_ge _ _ _) (numberM_le _ _ _ hle)
    ·split
     ·exact leaf _ _ rfl (quotedM_ge _ _ _) (quotedM_le _ _ _ hle)
     ·split
      ·exact leaf _ _ rfl (Nat.le_trans (wrd_ge s [64] st) (nameM_ge _ _ _)) (nameM_le _ _ _ (wrd_le hle))
      ·split
       ·rename_i hc
        obtain⟨h5,h6⟩:=sgnP_step (c:=40) (cs:=[]) hc
        have h7:=sgn_le (l:=[40]) hle
        obtain⟨q,e1,k1⟩:=ih 0 0 (sgn s [40] st) (.inl (by omega)) (by rw [if_pos (by omega)];exact⟨h7,by show st.E.length+_+1<100000;omega⟩) (by simp [fuelM] at hn ⊢;omega)
        rw [if_pos (by omega)] at k1
        have g1:=k1.le;have g2:=k1.ge;have g3:=k1.grow
        have g3:q.2.E.length+2*(s.size - q.2.at_)≤st.E.length+2*(s.size -(sgn s [40] st).at_)+1:=g3
        have g4:=sgn_ge s [41] q.2
        refine⟨_,by rw [e1];rfl,sgn_le g1,by simp only;omega,?_⟩
        show q.2.E.length+2*(s.size -(sgn s [41] q.2).at_)≤_
        omega
       ·split
        ·exact leaf _ _ rfl (nameM_ge _ _ _) (nameM_le _ _ _ hle)
        ·exact leaf _ _ rfl (nameM_ge _ _ _) (nameM_le _ _ _ hle)
  ·have hn7: ¬tag≤7:=by rcases ht with rfl|rfl|rfl|rfl<;>omega
   rw [if_neg hn7] at hroom ⊢
   have hn1:20*(s.size - st.at_)≤n:=by
    have:fuelM tag=1:=by rcases ht with rfl|rfl|rfl|rfl<;>rfl
    omega
   rcases ht with rfl|rfl|rfl|rfl
   ·rw [M_10]
    split
    ·rename_i hc
     obtain⟨h5,h6⟩:=sgnP_step (c:=124) (cs:=[124]) hc
     exact three 1 10 (sgn s [124,124] st) (fun r=>⟨6,st.at_,⟨#[124,124]⟩,l,r.1⟩) (by omega) (.inl rfl) hroom rfl h5 h6 (sgn_le hle) hn1 (by decide)
    ·exact stop 0
   ·rw [M_11]
    split
    ·rename_i hc
     obtain⟨h5,h6⟩:=sgnP_step (c:=38) (cs:=[38]) hc
     exact three 2 11 (sgn s [38,38] st) (fun r=>⟨6,st.at_,⟨#[38,38]⟩,l,r.1⟩) (by omega) (.inr (.inl rfl)) hroom rfl h5 h6 (sgn_le hle) hn1 (by decide)
    ·exact stop 0
   ·rw [M_14]
    simp only
    split
    ·exact stop 0
    ·rename_i hc
     obtain⟨h5,h6⟩:=sumP_step hc
     exact three 5 14 (sgn s (sumSignM s st.at_ st.bad).data.toList st) (fun r=>⟨6,st.at_,sumSignM s st.at_ st.bad,l,r.1⟩) (by omega) (.inr (.inr (.inl rfl))) hroom rfl h5 h6 (sgn_le hle) hn1 (by decide)
   ·rw [M_15]
    simp only
    split
    ·exact stop 0
    ·rename_i hc
     obtain⟨h5,h6⟩:=productP_step hc
     exact three 6 15 (sgn s (productSignM s st.at_ st.bad).data.toList st) (fun r=>⟨6,st.at_,productSignM s st.at_ st.bad,l,r.1⟩) (by omega) (.inr (.inr (.inr rfl))) hroom rfl h5 h6 (sgn_le hle) hn1 (by decide)
theorem addL_tot {st:St}(x:Lc)(h:st.L.length<100000):addL st x=some ((st.L.length:Int),{st with L:=st.L++[x]}):=by
 unfold addL
 rw [if_pos h]
structure QL (s:ByteArray)(st st':St)(k:Nat):Prop where
 le:st'.at_≤s.size
 ge:st.at_≤st'.at_
 grow:st'.L.length+2*(s.size - st'.at_)≤st.L.length+2*(s.size - st.at_)+k
def fuelL:Nat→Nat
 |2=>2|1=>3|0=>4|_=>1
theorem ML_total (s:ByteArray): ∀n tag l p k its st,(tag=0∨tag=1∨tag=2∨(tag=3∧isDigit (pkS s st)=true)∨tag=10∨tag=11∨(tag=13∧its.length+(s.size - st.at_)<100000))→st.at_≤s.size→st.L.length+2*(s.size - st.at_)+1<100000+(if tag=10∨tag=11∨tag=13 then 1 else 0)→s.size≤600→fuelL tag+20*(s.size - st.at_)≤n→
  ∃r,ML s n tag l p k its st=some r∧QL s st r.2 (if tag=10∨tag=11 then 0 else 1):=by
 intro n
 induction n with
 |zero=>
  intro tag l p k its st ht hle hroom h600 hn
  exfalso
  have:1≤fuelL tag:=by
   rcases ht with rfl|rfl|rfl|⟨rfl,_⟩|rfl|rfl|⟨rfl,_⟩<;>decide
  omega
 |succ n ih=>
  intro tag l p k its st ht hle hroom h600 hn
  have two: ∀(t1 t2:Nat),(t1=1∨t1=2)→(t2=10∨t2=11)→st.L.length+2*(s.size - st.at_)+1<100000→3+20*(s.size - st.at_)≤n→ ∃r,((ML s n t1 0 0 0 [] st).bind fun r=>ML s n t2 r.1 0 0 [] r.2)=some r∧QL s st r.2 1:=by
   intro t1 t2 h1 h2 h0 h3
   have hf1:fuelL t1≤3:=by rcases h1 with rfl|rfl<;>decide
   have hf:fuelL t2=1:=by rcases h2 with rfl|rfl<;>rfl
   obtain⟨q,e1,k1⟩:=ih t1 0 0 0 [] st (by omega) hle (by rw [if_neg (by omega)];omega) h600 (by omega)
   rw [if_neg (by omega)] at k1
   have g1:=k1.le;have g2:=k1.ge;have g3:=k1.grow
   obtain⟨q2,e2,k2⟩:=ih t2 q.1 0 0 [] q.2 (by omega) g1 (by rw [if_pos (by omega)];omega) h600 (by rw [hf];omega)
   rw [if_pos (by omega)] at k2
   have g4:=k2.le;have g5:=k2.ge;have g6:=k2.grow
   exact⟨q2,by rw [e1];exact e2,⟨g4,by omega,by omega⟩⟩
  have three: ∀(t1 t2:Nat) (u:St) (x:Int×St→Lc),(t1=1∨t1=2)→(t2=10∨t2=11)→st.L.length+2*(s.size - st.at_)<100000→u.L=st.L→st.at_+1≤u.at_→st.at_<s.size→u.at_≤s.size→20*(s.size - st.at_)≤n→ ∃r,((ML s n t1 0 0 0 [] u).bind fun r=>(addL r.2 (x r)).bind fun q=>ML s n t2 q.1 0 0 [] q.2)=some r∧QL s st r.2 0:=by
   intro t1 t2 u x h1 h2 h0 hE h5 h6 h7 h3
   have hEl:u.L.length=st.L.length:=by rw [hE]
   have hf1:fuelL t1≤3:=by rcases h1 with rfl|rfl<;>decide
   have hf:fuelL t2=1:=by rcases h2 with rfl|rfl<;>rfl
   obtain⟨q,e1,k1⟩:=ih t1 0 0 0 [] u (by omega) h7 (by rw [if_neg (by omega)];omega) h600 (by omega)
   rw [if_neg (by omega)] at k1
   have g1:=k1.le;have g2:=k1.ge;have g3:=k1.grow
   have ha:=addL_tot (st:=q.2) (x q) (by omega)
   obtain⟨q2,e2,k2⟩:=ih t2 q.2.L.length 0 0 [] {q.2 with L:=q.2.L++[x q]} (by omega) g1 (by rw [if_pos (by omega)];simp;omega) h600 (by rw [hf];simp only;omega)
   rw [if_pos (by omega)] at k2
   have g4:=k2.le;have g5:=k2.ge;have g6:=k2.grow
   simp only [List.length_append,List.length_cons,List.length_nil] at g5 g6
   exact⟨q2,by rw [e1];simp only [Option.bind_some];rw [ha];exact e2,⟨g4,by omega,by omega⟩⟩
  have stop: ∃r,some (l,st)=some r∧QL s st r.2 0:=⟨_,rfl,hle,Nat.le_refl _,Nat.le_add_right _ _⟩
  rcases ht with rfl|rfl|rfl|⟨rfl,hd⟩|rfl|rfl|⟨rfl,hits⟩
  ·rw [if_neg (by omega)] at hroom ⊢
   rw [ML_0]
   exact two 1 10 (by omega) (by omega) (by omega) (by simp [fuelL] at hn;omega)
  ·rw [if_neg (by omega)] at hroom ⊢
   rw [ML_1]
   obtain⟨q,e1,k1⟩:=ih 2 0 0 0 [] st (by omega) hle (by rw [if_neg (by omega)];omega) h600 (by simp [fuelL] at hn ⊢;omega)
   rw [if_neg (by omega)] at k1
   have g1:=k1.le;have g2:=k1.ge;have g3:=k1.grow
   obtain⟨q2,e2,k2⟩:=ih 11 q.1 0 0 [] q.2 (by omega) g1 (by rw [if_pos (by omega)];omega) h600 (by simp [fuelL] at hn ⊢;omega)
   rw [if_pos (by omega)] at k2
   have g4:=k2.le;have g5:=k2.ge;have g6:=k2.grow
   exact⟨q2,by rw [e1];exact e2,⟨g4,by omega,by omega⟩⟩
  ·rw [if_neg (by omega)] at hroom ⊢
   rw [ML_2]
   simp only
   split
   ·rename_i hc
    obtain⟨h5,h6⟩:=sgnP_step (c:=40) (cs:=[]) hc
    have h7:=sgn_le (l:=[40]) hle
    obtain⟨q,e1,k1⟩:=ih 0 0 0 0 [] (sgn s [40] st) (by omega) h7 (by rw [if_neg (by omega)];show st.L.length+_+1<100000;omega) h600 (by simp [fuelL] at hn ⊢;omega)
    rw [if_neg (by omega)] at k1
    have g1:=k1.le;have g2:=k1.ge;have g3:=k1.grow
    have g3:q.2.L.length+2*(s.size - q.2.at_)≤st.L.length+2*(s.size -(sgn s [40] st).at_)+1:=g3
    have g4:=sgn_ge s [41] q.2
    refine⟨_,by rw [e1];rfl,sgn_le g1,by simp only;omega,?_⟩
    show q.2.L.length+2*(s.size -(sgn s [41] q.2).at_)≤_
    omega
   ·split
    ·rename_i hd
     obtain⟨q,e1,k1⟩:=ih 3 0 0 0 [] st (by simp [hd]) hle (by rw [if_neg (by omega)];omega) h600 (by simp [fuelL] at hn ⊢;omega)
     rw [if_neg (by omega)] at k1
     exact⟨q,e1,k1⟩
    ·have g1:=nameM_ge s st.at_ st.bad
     have g2:=nameM_le s st.at_ st.bad hle
     refine⟨_,addL_tot (st:=st.put3 (nameM s st.at_ st.bad)) _ (by show st.L.length<_;omega),g2,g1,?_⟩
     show(st.L++[_]).length+2*(s.size -(nameM s st.at_ st.bad).1)≤_
     simp
     omega
  ·rw [if_neg (by omega)] at hroom ⊢
   rw [ML_3]
   have hat:st.at_<s.size:=(pk_lt (s:=s) (a:=st.at_) (d:=st.bad) (fun e=>by unfold pkS at hd;rw [e] at hd;revert hd;decide)).2
   have h5:st.at_+1≤(sgn s [45,111,102,40] {st with at_:=st.at_+1}).at_:=sgn_ge s [45,111,102,40] {st with at_:=st.at_+1}
   have h7:(sgn s [45,111,102,40] {st with at_:=st.at_+1}).at_≤s.size:=sgn_le (st:={st with at_:=st.at_+1}) hat
   generalize hu:sgn s [45,111,102,40] {st with at_:=st.at_+1}=u at*
   have hul:u.L=st.L:=by rw [←hu];rfl
   have hull:u.L.length=st.L.length:=by rw [hul]
   obtain⟨q,e1,k1⟩:=ih 0 0 0 0 [] u (by omega) h7 (by rw [if_neg (by omega)];omega) h600 (by simp [fuelL] at hn ⊢;omega)
   rw [if_neg (by omega)] at k1
   have g1:=k1.le;have g2:=k1.ge;have g3:=k1.grow
   obtain⟨q2,e2,k2⟩:=ih 13 0 st.at_ (pkS s st - 48) [q.1] q.2 (by simp;omega) g1 (by rw [if_pos (by omega)];omega) h600 (by simp [fuelL] at hn ⊢;omega)
   rw [if_neg (by omega)] at k2
   have g4:=k2.le;have g5:=k2.ge;have g6:=k2.grow
   exact⟨q2,by rw [e1];exact e2,⟨g4,by omega,by omega⟩⟩
  ·rw [if_pos (by omega)] at hroom ⊢
   rw [ML_10]
   split
   ·rename_i hc
    obtain⟨h5,h6⟩:=sgnP_step (c:=124) (cs:=[124]) hc
    exact three 1 10 (sgn s [124,124] st) (fun r=>⟨1,⟨#[124,124]⟩,l,r.1,0,0,[]⟩) (by omega) (by omega) (by omega) rfl h5 h6 (sgn_le hle) (by simp [fuelL] at hn;omega)
   ·exact stop
  ·rw [if_pos (by omega)] at hroom ⊢
   rw [ML_11]
   split
   ·rename_i hc
    obtain⟨h5,h6⟩:=sgnP_step (c:=38) (cs:=[38]) hc
    exact three 2 11 (sgn s [38,38] st) (fun r=>⟨1,⟨#[38,38]⟩,l,r.1,0,0,[]⟩) (by omega) (by omega) (by omega) rfl h5 h6 (sgn_le hle) (by simp [fuelL] at hn;omega)
   ·exact stop
  ·rw [if_pos (by omega)] at hroom
   rw [if_neg (by omega)]
   rw [ML_13,if_pos (by omega)]
   split
   ·rename_i hc
    obtain⟨h5,h6⟩:=sgnP_step (c:=44) (cs:=[]) hc
    have h7:=sgn_le (l:=[44]) hle
    obtain⟨q,e1,k1⟩:=ih 0 0 0 0 [] (sgn s [44] st) (by omega) h7 (by rw [if_neg (by omega)];show st.L.length+_+1<100000;omega) h600 (by simp [fuelL] at hn ⊢;omega)
    rw [if_neg (by omega)] at k1
    have g1:=k1.le;have g2:=k1.ge;have g3:=k1.grow
    have g3:q.2.L.length+2*(s.size - q.2.at_)≤st.L.length+2*(s.size -(sgn s [44] st).at_)+1:=g3
    obtain⟨q2,e2,k2⟩:=ih 13 0 p k (its++[q.1]) q.2 (by simp;omega) g1 (by rw [if_pos (by omega)];omega) h600 (by simp [fuelL] at hn ⊢;omega)
    rw [if_neg (by omega)] at k2
    have g4:=k2.le;have g5:=k2.ge;have g6:=k2.grow
    exact⟨q2,by rw [e1];exact e2,⟨g4,by omega,by omega⟩⟩
   ·have g4:=sgn_ge s [41] st
    refine⟨_,addL_tot (st:=sgn s [41] st) _ (by show st.L.length<_;omega),sgn_le hle,g4,?_⟩
    show(st.L++[_]).length+2*(s.size -(sgn s [41] st).at_)≤_
    simp
    omega
structure QX (s:ByteArray)(st st':St)(k j:Nat):Prop where
 le:st'.at_≤s.size
 ge:st.at_≤st'.at_
 grow:st'.E.length+4*(s.size - st'.at_)≤st.E.length+4*(s.size - st.at_)+k
 growC:st'.C.length+(s.size - st'.at_)≤st.C.length+(s.size - st.at_)+j
def fuelC:Nat→Nat
 |0=>11|1=>10|_=>1
theorem addC_tot {st:St}(x:List Cl)(h:st.C.length<100000):addC st x=some ((st.C.length:Int),{st with C:=st.C++[x]}):=by
 unfold addC
 rw [if_pos h]
theorem MC_total (s:ByteArray)(h600:s.size≤600): ∀n tag cls st,(tag=0∨tag=1∨(tag=2∧cls.length+(s.size - st.at_)<100000))→st.at_≤s.size→st.E.length+4*(s.size - st.at_)+(if tag=2 then 0 else 2)<100000→st.C.length+(s.size - st.at_)<100000→fuelC tag+20*(s.size - st.at_)≤n→
  ∃r,MC s n tag cls st=some r∧QX s st r.2.2 (if tag=2 then 0 else 2) (if tag=1 then 0 else 1):=by
 intro n
 induction n with
 |zero=>
  intro tag cls st ht hle hroom hC hn
  exfalso
  have:1≤fuelC tag:=by
   rcases ht with rfl|rfl|⟨rfl,_⟩<;>decide
  omega
 |succ n ih=>
  intro tag cls st ht hle hroom hC hn
  rcases ht with rfl|rfl|⟨rfl,hcl⟩
  ·rw [if_neg (by omega)] at hroom ⊢
   rw [if_neg (by omega)]
   rw [MC_0]
   obtain⟨q,e1,k1⟩:=ih 1 [] st (by omega) hle (by rw [if_neg (by omega)];omega) hC (by simp [fuelC] at hn ⊢;omega)
   rw [if_neg (by omega),if_pos rfl] at k1
   have g1:=k1.le;have g2:=k1.ge;have g3:=k1.grow;have g4:=k1.growC
   obtain⟨q2,e2,k2⟩:=ih 2 [q.2.1] q.2.2 (by simp;omega) g1 (by rw [if_pos rfl];omega) (by omega) (by simp [fuelC] at hn ⊢;omega)
   rw [if_pos rfl,if_neg (by omega)] at k2
   have f1:=k2.le;have f2:=k2.ge;have f3:=k2.grow;have f4:=k2.growC
   exact⟨q2,by rw [e1];exact e2,⟨f1,by omega,by omega,by omega⟩⟩
  ·rw [if_neg (by omega)] at hroom ⊢
   rw [if_pos rfl]
   rw [MC_1']
   obtain⟨q,e1,k1⟩:=M_total s n 0 0 st (.inl (by omega)) (by rw [if_pos (by omega)];exact⟨hle,by omega⟩) (by simp [fuelM,fuelC] at hn ⊢;omega)
   rw [if_pos (by omega)] at k1
   have g1:=k1.le;have g2:=k1.ge;have g3:=k1.grow
   obtain⟨_,_,_,hCq⟩:=M_ext s _ _ _ _ _ e1
   have hCl:q.2.C.length=st.C.length:=by rw [hCq]
   have ha:=addE_tot (st:=q.2) ⟨7,st.at_,⟨#[]⟩,q.1,-1⟩ (by omega)
   rw [e1]
   simp only [Option.bind_some]
   rw [ha]
   simp only [Option.bind_some]
   generalize hv:({q.2 with E:=q.2.E++[⟨7,st.at_,⟨#[]⟩,q.1,-1⟩]}:St)=v
   have hva:v.at_=q.2.at_:=by rw [←hv]
   have hvE:v.E.length=q.2.E.length+1:=by rw [←hv];simp
   have hvC:v.C.length=st.C.length:=by rw [←hv];exact hCl
   have hvb:q.2.bad=v.bad:=by rw [←hv]
   by_cases har:(!arrowM s v.at_ v.bad)=true
   ·have har':(!arrowM s q.2.at_ q.2.bad)=true:=by rw [←hva,hvb];exact har
    rw [if_pos har']
    exact⟨_,rfl,by simp only;omega,by simp only;omega,by simp only;omega,by simp only;omega⟩
   ·have har': ¬(!arrowM s q.2.at_ q.2.bad)=true:=by rw [←hva,hvb];exact har
    rw [if_neg har']
    have h45:(pkS s v==((45:UInt8).toNat:Int))=true:=by
     have h:=har
     unfold arrowM at h
     simp at h
     simpa [pkS] using h.1
    obtain⟨h5,h6⟩:=sgnP_step (cs:=[62]) h45
    have h7:(sgn s [45,62] v).at_≤s.size:=sgn_le (by omega)
    generalize hu:sgn s [45,62] v=u at*
    have huE:u.E.length=v.E.length:=by rw [←hu];rfl
    have huC:u.C.length=v.C.length:=by rw [←hu];rfl
    unfold MRes
    split
    ·rename_i hc
     obtain⟨h8,h9⟩:=sgnP_step (c:=123) (cs:=[]) hc
     have h10:(sgn s [123] u).at_≤s.size:=sgn_le h7
     generalize hy:sgn s [123] u=y at*
     have hyE:y.E.length=u.E.length:=by rw [←hy];rfl
     have hyC:y.C.length=u.C.length:=by rw [←hy];rfl
     obtain⟨q3,e3,k3⟩:=ih 0 [] y (by omega) h10 (by rw [if_neg (by omega)];omega) (by omega) (by simp [fuelC] at hn ⊢;omega)
     rw [if_neg (by omega),if_neg (by omega)] at k3
     have f1:=k3.le;have f2:=k3.ge;have f3:=k3.grow;have f4:=k3.growC
     have f5:=sgn_ge s [125] q3.2.2
     have f6:(sgn s [125] q3.2.2).at_≤s.size:=sgn_le f1
     rw [e3]
     refine⟨_,rfl,f6,by simp only;omega,?_,?_⟩
     ·show q3.2.2.E.length+4*(s.size -(sgn s [125] q3.2.2).at_)≤_
      omega
     ·show q3.2.2.C.length+(s.size -(sgn s [125] q3.2.2).at_)≤_
      omega
    ·have f5:=nameM_ge s u.at_ u.bad
     have f6:=nameM_le s u.at_ u.bad h7
     refine⟨_,rfl,f6,?_,?_,?_⟩
     ·show st.at_≤(nameM s u.at_ u.bad).1
      omega
     ·show u.E.length+4*(s.size -(nameM s u.at_ u.bad).1)≤_
      omega
     ·show u.C.length+(s.size -(nameM s u.at_ u.bad).1)≤_
      omega
  ·rw [if_pos rfl] at hroom ⊢
   rw [if_neg (by omega)]
   rw [MC_2,if_pos (by omega)]
   split
   ·rename_i hc
    obtain⟨h5,h6⟩:=sgnP_step (c:=59) (cs:=[]) hc
    have h7:(sgn s [59] st).at_≤s.size:=sgn_le hle
    generalize hu:sgn s [59] st=u at*
    have huE:u.E.length=st.E.length:=by rw [←hu];rfl
    have huC:u.C.length=st.C.length:=by rw [←hu];rfl
    obtain⟨q,e1,k1⟩:=ih 1 [] u (by omega) h7 (by rw [if_neg (by omega)];omega) (by omega) (by simp [fuelC] at hn ⊢;omega)
    rw [if_neg (by omega),if_pos rfl] at k1
    have g1:=k1.le;have g2:=k1.ge;have g3:=k1.grow;have g4:=k1.growC
    obtain⟨q2,e2,k2⟩:=ih 2 (cls++[q.2.1]) q.2.2 (by simp;omega) g1 (by rw [if_pos rfl];omega) (by omega) (by simp [fuelC] at hn ⊢;omega)
    rw [if_pos rfl,if_neg (by omega)] at k2
    have f1:=k2.le;have f2:=k2.ge;have f3:=k2.grow;have f4:=k2.growC
    exact⟨q2,by rw [e1];exact e2,⟨f1,by omega,by omega,by omega⟩⟩
   ·rw [addC_tot _ (by omega)]
    refine⟨_,rfl,hle,Nat.le_refl _,Nat.le_refl _,?_⟩
    simp
    omega
structure PA (s:ByteArray)(st:St):Prop where
 le:st.at_≤s.size
 a:st.A.length+3*(s.size - st.at_)≤10000
 l:st.L.length+3*(s.size - st.at_)≤10000
 e:st.E.length+8*(s.size - st.at_)≤10000
 c:st.C.length+3*(s.size - st.at_)≤10000
theorem MA_total (s:ByteArray)(h600:s.size≤600)(n:Nat)(st:St)(hp:PA s st)(hn:11+20*(s.size - st.at_)≤n): ∃u,MA s n st=some u∧u.at_≤s.size∧u.A.length≤10010∧u.L.length≤10010∧u.E.length≤10010∧u.C.length≤10010∧(u.bad=false→st.at_+1≤u.at_∧PA s u):=by
 obtain⟨hle,hA,hL,hE,hC⟩:=hp
 unfold MA
 simp only
 have i1:(lstart s [98,121] st).at_≤s.size:=sgn_le (wrd_le hle)
 have i1':st.at_≤(lstart s [98,121] st).at_:=Nat.le_trans (wrd_ge _ _ _) (sgn_ge _ _ _)
 generalize ha:lstart s [98,121] st=a at*
 have i2:=nameM_ge s a.at_ a.bad
 have i3:=nameM_le s a.at_ a.bad i1
 generalize hb:lstart s [116,111] (wrd s [10] (a.put3 (nameM s a.at_ a.bad)))=d
 have i4:a.at_≤d.at_:=by
  rw [←hb]
  exact Nat.le_trans i2 (Nat.le_trans (wrd_ge s [10] (a.put3 (nameM s a.at_ a.bad))) (Nat.le_trans (wrd_ge _ _ _) (sgn_ge _ _ _)))
 have i5:d.at_≤s.size:=by
  rw [←hb]
  exact sgn_le (wrd_le (wrd_le (st:=a.put3 (nameM s a.at_ a.bad)) i3))
 have dL:d.L=st.L:=by rw [←hb,←ha];rfl
 have dE:d.E=st.E:=by rw [←hb,←ha];rfl
 have dC:d.C=st.C:=by rw [←hb,←ha];rfl
 have dA:d.A=st.A:=by rw [←hb,←ha];rfl
 obtain⟨r,e1,k1⟩:=ML_total s n 0 0 0 0 [] d (by omega) i5 (by rw [if_neg (by omega),dL];omega) h600 (by simp [fuelL];omega)
 rw [if_neg (by omega)] at k1
 have g1:=k1.le;have g2:=k1.ge;have g3:=k1.grow
 rw [dL] at g3
 obtain⟨_,rA,rE,rC⟩:=ML_ext s _ _ _ _ _ _ _ _ e1
 rw [e1]
 simp only [Option.bind_some]
 generalize hx:lstart s [105,102] (wrd s [10] r.2)=x
 have j1:r.2.at_≤x.at_:=by
  rw [←hx]
  exact Nat.le_trans (wrd_ge _ _ _) (Nat.le_trans (wrd_ge _ _ _) (sgn_ge _ _ _))
 have j2:x.at_≤s.size:=by rw [←hx];exact sgn_le (wrd_le (wrd_le g1))
 have xE:x.E=st.E:=by rw [←hx];show r.2.E=_;rw [rE,dE]
 have xC:x.C=st.C:=by rw [←hx];show r.2.C=_;rw [rC,dC]
 have xA:x.A=st.A:=by rw [←hx];show r.2.A=_;rw [rA,dA]
 have xL:x.L=r.2.L:=by rw [←hx];rfl
 obtain⟨q,e2,k2⟩:=MC_total s h600 n 0 [] x (by omega) j2 (by rw [if_neg (by omega),xE];omega) (by rw [xC];omega) (by simp [fuelC];omega)
 rw [if_neg (by omega),if_neg (by omega)] at k2
 have f1:=k2.le;have f2:=k2.ge;have f3:=k2.grow;have f4:=k2.growC
 rw [xE] at f3
 rw [xC] at f4
 obtain⟨_,_,qA,qL⟩:=MC_ext s _ _ _ _ _ e2
 rw [e2]
 simp only [Option.bind_some]
 have m1:=wrd_ge s [10] q.2.2
 have m2:(wrd s [10] q.2.2).at_≤s.size:=wrd_le f1
 have aA:(wrd s [10] q.2.2).A.length=st.A.length:=by
  show q.2.2.A.length=_
  rw [qA,xA]
 have aL:(wrd s [10] q.2.2).L.length=r.2.L.length:=by
  show q.2.2.L.length=_
  rw [qL,xL]
 have aE:(wrd s [10] q.2.2).E.length=q.2.2.E.length:=rfl
 have aC:(wrd s [10] q.2.2).C.length=q.2.2.C.length:=rfl
 generalize hz:wrd s [10] q.2.2=z at*
 have hadd: ∀y,addA z y=some {z with A:=z.A++[y]}:=fun y=>by
  unfold addA
  rw [if_pos (by omega)]
 rw [hadd]
 refine⟨_,rfl,m2,by simp;omega,by simp only;omega,by simp only;omega,by simp only;omega,fun hbad=> ?_⟩
 have hzb:z.bad=false:=hbad
 have hstep:q.2.2.at_+1≤z.at_:=by
  rw [←hz] at hzb ⊢
  unfold wrd at hzb ⊢
  by_cases hc:pk s q.2.2.at_ q.2.2.bad=((10:UInt8).toNat:Int)
  ·show q.2.2.at_+1≤(wordM s q.2.2.bad [10] q.2.2.at_).1
   rw [wordM_cons_yes hc]
   exact Nat.le_refl _
  ·have hb2:(wordM s q.2.2.bad [10] q.2.2.at_).2=false:=hzb
   rw [wordM_cons_no hc] at hb2
   cases hb2
 exact⟨by simp only;omega,m2,by simp;omega,by simp only;omega,by simp only;omega,by simp only;omega⟩
theorem MR_total (s:ByteArray)(h600:s.size≤600): ∀n st,(st.bad=false→PA s st∧12+20*(s.size - st.at_)≤n)→1≤n→(st.A.length≤10010∧st.L.length≤10010∧st.E.length≤10010∧st.C.length≤10010)→ ∃u,MR s n st=some u∧u.A.length≤10010∧u.L.length≤10010∧u.E.length≤10010∧u.C.length≤10010:=by
 intro n
 induction n with
 |zero=>intro st _ h;omega
 |succ n ih=>
  intro st hp h1 hb
  unfold MR
  split
  ·rename_i hc
   have hbd:st.bad=false:=by
    cases h:st.bad with
    |false=>rfl
    |true=>rw [h] at hc;cases hc
   have hlt:st.at_<s.size:=by rw [hbd] at hc;simpa using hc
   obtain⟨p1,p2⟩:=hp hbd
   obtain⟨u,e1,e2,e3,e4,e5,e6,e7⟩:=MA_total s h600 n st p1 (by omega)
   rw [e1]
   exact ih u (fun h=>⟨(e7 h).2,by have:=(e7 h).1;omega⟩) (by omega) ⟨e3,e4,e5,e6⟩
  ·exact⟨st,rfl,hb⟩
theorem MR_all (s:ByteArray)(h600:s.size≤600): ∃n u,MR s n st0=some u∧u.A.length≤10010∧u.L.length≤10010∧u.E.length≤10010∧u.C.length≤10010:=by
 obtain⟨u,h⟩:=MR_total s h600 (12+20*s.size) st0 (fun _=>⟨⟨Nat.zero_le _,by simp [st0];omega,by simp [st0];omega,by simp [st0];omega,by simp [st0];omega⟩,Nat.le_refl _⟩) (by omega) (by simp [st0])
 exact⟨_,u,h⟩
attribute [local go_sem] wrap64_byte
theorem checkR_of (s:ByteArray)(st:St)(w:World)(h:Calls Tryz.prog 49 #[.string s] w fun e w'=>RdPost s st w e w'):
  Calls Tryz.prog 28 #[.string s] w fun e w'=>e= .returned (.tuple #[.int .i64 (ckM s st).1,.int .i64 (ckM s st).2])∧Below w.heap.size w w':=by
 have H:=hide h
 clear h
 go_enter Tryz.func28,Tryz.ntmps28
 go_wp2_with fail
 refine H.out.mono ?_
 rintro e w1 ⟨lv,rfl,hB,⟨a1,n1,k1,rfl⟩,_⟩
 have HB:=hide hB
 clear hB
 go_wp2_with fail
 go_ret2
 exact⟨by simp,HB.out⟩
theorem check_both (s:ByteArray)(hmax:s.size≤maxLen): ∃r:Int×Int,(∀w,Calls Tryz.prog 25 #[.string s] w fun e w'=>e= .returned (.tuple #[.int .i64 r.1,.int .i64 r.2])∧Below w.heap.size w w')∧
  (∀w,Calls Tryz.prog 28 #[.string s] w fun e w'=>e= .returned (.tuple #[.int .i64 r.1,.int .i64 r.2])∧Below w.heap.size w w'):=by
 by_cases hs:s.size≤600
 ·obtain⟨n,st,hM,hA,hL,hE,hC⟩:=MR_all s hs
  exact⟨ckM s st,fun w=>check_of s st w (checkSet_short s n st w hM hs (by omega) (by omega) (by omega)),fun w=>checkR_of s st w (read_short s n st w hM hs)⟩
 ·exact⟨ckM s st0,fun w=>check_of s st0 w (checkSet_long s st0 w (by omega) hmax),fun w=>checkR_of s st0 w (read_long s st0 w (by omega) hmax)⟩
theorem num_any (n:Int)(w:World):Calls Tryz.prog 23 #[.int .i64 n] w fun e w'=>e= .returned (.int .i64 n)∧w'=w:=by
 go_enter Tryz.func23,Tryz.ntmps23
 go_wp2_with fail
 go_ret
 exact⟨rfl,rfl⟩
theorem box6' {w:World}{g:Nat}{a b c d e f:Value}{t:TypeId}(hh:w.heap[g]?=some (.cells #[a,b,c,d,e,f] t)):
  w.cell? ⟨g,0,none⟩=some a∧w.cell? ⟨g,1,none⟩=some b∧w.cell? ⟨g,2,none⟩=some c∧w.cell? ⟨g,3,none⟩=some d∧w.cell? ⟨g,4,none⟩=some e∧w.cell? ⟨g,5,none⟩=some f:=by
 simp [World.cell?,hh]
theorem plays_check (n:Int)(S A V Q:ByteArray)(hmax:S.size≤maxLen)(w:World):
  Calls Tryz.prog 18 #[.agg #[.int .i64 1,.int .i64 n,.string S,.string A,.string V,.string Q]] w fun e w'=>e= .returned (.bool true)∧Below w.heap.size w w':=by
 obtain⟨⟨r1,r2⟩,h7,h8⟩:=check_both S hmax
 have H:=hide (And.intro h7 h8)
 clear h7 h8 hmax
 have hB0:Below w.heap.size w (w.alloc (.cells #[.int .i64 1,.int .i64 n,.string S,.string A,.string V,.string Q] 27)):=(Below.refl _ _).alloc (Nat.le_refl _) _
 have hg0:=heap_alloc_new w (.cells #[.int .i64 1,.int .i64 n,.string S,.string A,.string V,.string Q] 27)
 have hz0:w.heap.size<(w.alloc (.cells #[.int .i64 1,.int .i64 n,.string S,.string A,.string V,.string Q] 27)).heap.size:=by simp
 have H0:=hide (And.intro hB0 (And.intro hg0 hz0))
 clear hB0 hg0 hz0
 go_enter Tryz.func18,Tryz.ntmps18
 go_wp2_with fail
 obtain⟨hB0,hg0,hz0⟩:=H0.out
 clear H0
 generalize (w.alloc (.cells #[.int .i64 1,.int .i64 n,.string S,.string A,.string V,.string Q] 27))=W0 at*
 refine(H.out.1 W0).mono ?_
 rintro e w1 ⟨rfl,hB1⟩
 have hg1:=(hB1.block _ hz0).trans hg0
 have hB01:=hB0.trans (hB1.mono (Nat.le_of_lt hz0))
 obtain⟨y0,y1,y2,y3,y4,y5⟩:=box6' hg1
 have HB1:=hide hB01
 have hz1:w.heap.size≤w1.heap.size:=hB01.size
 clear hB1 hB01 hg1 hg0 hB0 hz0
 go_wp2_with fail
 refine(H.out.2 w1).mono ?_
 rintro e w2 ⟨rfl,hB2⟩
 have HB2:=hide (HB1.out.trans (hB2.mono hz1))
 clear hB2
 go_wp2_with (go_at_call 23;refine(num_any _ _).mono ?_;rintro e w3 ⟨rfl,rfl⟩)
 go_ret
 exact⟨by simp,HB2.out⟩
structure Ops (w:World)(b off len:Nat)(K N:Nat→Int)(S A V Q:Nat→ByteArray):Prop where
 lt:0<len→b<w.heap.size
 c0: ∀i,i<len→w.cell? ⟨b,off+i*6,none⟩=some (.int .i64 (K i))
 c1: ∀i,i<len→w.cell? ⟨b,off+i*6+1,none⟩=some (.int .i64 (N i))
 c2: ∀i,i<len→w.cell? ⟨b,off+i*6+2,none⟩=some (.string (S i))
 c3: ∀i,i<len→w.cell? ⟨b,off+i*6+3,none⟩=some (.string (A i))
 c4: ∀i,i<len→w.cell? ⟨b,off+i*6+4,none⟩=some (.string (V i))
 c5: ∀i,i<len→w.cell? ⟨b,off+i*6+5,none⟩=some (.string (Q i))
theorem upTo_any (k:Int)(b off len cap:Nat)(K N:Nat→Int)(S A V Q:Nat→ByteArray)(w:World)(h:Ops w b off len K N S A V Q)(hlen:len≤maxLen)
  (hp: ∀i wr,i<len→K i=k→Calls Tryz.prog 18 #[.agg #[.int .i64 (K i),.int .i64 (N i),.string (S i),.string (A i),.string (V i),.string (Q i)]] wr fun e w'=>e= .returned (.bool true)∧Below wr.heap.size wr w'):
  Calls Tryz.prog 13 #[.slice (some ⟨b,off,none⟩) len cap,.int .i64 k,.int .i64 k] w fun e w'=>e= .returned (.int .i64 (-1))∧Below w.heap.size w w':=by
 have HO:=hide h
 have HP:=hide hp
 clear h hp
 have hl63:len≤9223372036854775807:=by unfold maxLen at hlen;omega
 clear hlen
 go_enter Tryz.func13,Tryz.ntmps13
 go_wp2_with fail
 go_loopg [7,8,9] (1152921504606846976+1) (fun g iv _ _ wr=> ∃i:Nat,g+i=1152921504606846976+1∧i≤1152921504606846976∧i≤len∧iv= .int .i64 i∧Below w.heap.size w wr)
 case atStart=>exact⟨0,rfl,Nat.zero_le _,Nat.zero_le _,rfl,Below.refl _ _⟩
 case round=>
  obtain⟨i,hgk,hi60,hil,rfl,hB⟩:=hrel
  have HGK:=hide hgk
  have HB:=hide hB
  clear hgk
  by_cases hlt:i<len
  ·by_cases h60:i<1152921504606846976
   ·have hb:=HO.out.lt (by omega)
    have c0:=(hB.cell (p:=⟨b,off+i*6,none⟩) hb).trans (HO.out.c0 i hlt)
    have c1:=(hB.cell (p:=⟨b,off+i*6+1,none⟩) hb).trans (HO.out.c1 i hlt)
    have c2:=(hB.cell (p:=⟨b,off+i*6+2,none⟩) hb).trans (HO.out.c2 i hlt)
    have c3:=(hB.cell (p:=⟨b,off+i*6+3,none⟩) hb).trans (HO.out.c3 i hlt)
    have c4:=(hB.cell (p:=⟨b,off+i*6+4,none⟩) hb).trans (HO.out.c4 i hlt)
    have c5:=(hB.cell (p:=⟨b,off+i*6+5,none⟩) hb).trans (HO.out.c5 i hlt)
    have hli:(i:Int)<len:=by omega
    have h60i:(i:Int)<1152921504606846976:=by omega
    have hPi:=hide (HP.out i)
    have hB1:=hide (hB.alloc hB.size (.cells #[.int .i64 (K i),.int .i64 (N i),.string (S i),.string (A i),.string (V i),.string (Q i)] 27))
    have hz1:w.heap.size≤wr.heap.size:=hB.size
    clear hB
    generalize K i=ki at*
    generalize N i=ni at*
    generalize S i=si at*
    generalize A i=ai at*
    generalize V i=vi at*
    generalize Q i=qi at*
    by_cases hk:ki=k
    ·subst hk
     have HC:=hide (hPi.out (wr.alloc (.cells #[.int .i64 ki,.int .i64 ni,.string si,.string ai,.string vi,.string qi] 27)) hlt rfl)
     have hkk:(ki:Int)≤ki:=Int.le_refl _
     go_wp2_with fail
     refine HC.out.mono ?_
     rintro e w1 ⟨rfl,hb1⟩
     have HB2:=hide (hB1.out.trans (hb1.mono (by simp;omega)))
     clear hb1
     go_wp2_with fail
     go_roundg (1152921504606846976 - i)
     case measure=>have:=HGK.out;omega
     case rel=>exact⟨i+1,by have:=HGK.out;omega,by omega,by omega,by go_num,HB2.out⟩
    ·by_cases hge:k≤ki
     ·have hle: ¬ki≤k:=by omega
      go_wp2_with fail
      go_roundg (1152921504606846976 - i)
      case measure=>have:=HGK.out;omega
      case rel=>exact⟨i+1,by have:=HGK.out;omega,by omega,by omega,by go_num,hB1.out⟩
     ·go_wp2_with fail
      go_roundg (1152921504606846976 - i)
      case measure=>have:=HGK.out;omega
      case rel=>exact⟨i+1,by have:=HGK.out;omega,by omega,by omega,by go_num,hB1.out⟩
   ·have hli:(i:Int)<len:=by omega
    have h60i: ¬(i:Int)<1152921504606846976:=by omega
    go_wp2_with fail
    go_ret
    exact⟨by simp,HB.out⟩
  ·have hli: ¬(i:Int)<len:=by omega
   go_wp2_with fail
   go_ret
   exact⟨by simp,HB.out⟩
theorem upTo_nil (k:Int)(w:World):Calls Tryz.prog 13 #[.slice none 0 0,.int .i64 k,.int .i64 k] w fun e w'=>e= .returned (.int .i64 (-1))∧Below w.heap.size w w':=by
 go_enter Tryz.func13,Tryz.ntmps13
 go_wp2_with fail
 go_loopg [7,8,9] 1 (fun g iv _ _ wr=>iv= .int .i64 0∧wr=w)
 case atStart=>exact⟨rfl,rfl⟩
 case round=>
  obtain⟨rfl,rfl⟩:=hrel
  go_wp2_with fail
  go_ret
  exact⟨by simp,Below.refl _ _⟩
theorem checks_of (v:Value)(w:World)(h:Calls Tryz.prog 13 #[v,.int .i64 1,.int .i64 1] w fun e w'=>e= .returned (.int .i64 (-1))∧Below w.heap.size w w'):
  Calls Tryz.prog 3 #[v] w fun e w'=>e= .returned (.bool true)∧Below w.heap.size w w':=by
 have H:=hide h
 clear h
 go_enter Tryz.func3,Tryz.ntmps3
 go_wp2_with fail
 refine H.out.mono ?_
 rintro e w1 ⟨rfl,hB⟩
 go_wp2_with fail
 go_ret
 exact⟨by simp,hB⟩
end Go.Proofs.YtkoohcilbpdgeaaGreatDoor
