import Derived.Test.YtkoohcilbpdgeaaGreatDoorC08
set_option linter.all false
set_option linter.unusedVariables false
set_option linter.unusedSimpArgs false
set_option linter.unnecessarySimpa false
set_option linter.constructorNameAsVariable false
set_option linter.deprecated false
set_option maxRecDepth 100000
set_option maxHeartbeats 6400000
namespace Go.Proofs.YtkoohcilbpdgeaaGreatDoor
open Go Go.RowKit
def NM (s:ByteArray)(st:St):Prop:=(pk s st.at_ st.bad==45)=true→arrowM s st.at_ st.bad=true
theorem NM.of_eq {s:ByteArray}{st st':St}(h:NM s st)(h1:st'.at_=st.at_)(h2:st'.bad=st.bad):NM s st':=by
 unfold NM
 rw [h1,h2]
 exact h
theorem sumSign_NM {s:ByteArray}{st:St}(h:(sumSignM s st.at_ st.bad).size==0):NM s st:=by
 intro h45
 cases ha:arrowM s st.at_ st.bad with
 |true=>rfl
 |false=>
  have h1:pk s st.at_ st.bad=45:=by simpa using h45
  unfold sumSignM at h
  rw [ha,h1] at h
  exact absurd h (by decide)
theorem M_NM (s:ByteArray): ∀n tag l st r,M s n tag l st=some r→((tag=0∨tag=1∨tag=2∨tag=3∨tag=4∨tag=14)→NM s r.2)∧((tag=10∨tag=11)→NM s st→NM s r.2):=by
 intro n
 induction n with
 |zero=>intro tag l st r h;simp [M] at h
 |succ n ih=>
  intro tag l st r h
  match tag,h with
  |0,h=>
   rw [M_0] at h
   obtain⟨q,h1,h2⟩:=Option.bind_eq_some_iff.1 h
   exact⟨fun _=>(ih _ _ _ _ h2).2 (.inl rfl) ((ih _ _ _ _ h1).1 (by omega)),by omega⟩
  |1,h=>
   rw [M_1] at h
   obtain⟨q,h1,h2⟩:=Option.bind_eq_some_iff.1 h
   exact⟨fun _=>(ih _ _ _ _ h2).2 (.inr rfl) ((ih _ _ _ _ h1).1 (by omega)),by omega⟩
  |4,h=>
   rw [M_4] at h
   obtain⟨q,h1,h2⟩:=Option.bind_eq_some_iff.1 h
   exact⟨fun _=>(ih _ _ _ _ h2).1 (by omega),by omega⟩
  |10,h=>
   rw [M_10] at h
   refine⟨by omega,fun _ hn=> ?_⟩
   split at h
   ·obtain⟨q,h1,h2⟩:=Option.bind_eq_some_iff.1 h
    obtain⟨q2,h3,h4⟩:=Option.bind_eq_some_iff.1 h2
    have k:=addE_at h3
    exact(ih _ _ _ _ h4).2 (.inl rfl) (((ih _ _ _ _ h1).1 (by omega)).of_eq k.2 k.1)
   ·cases h;exact hn
  |11,h=>
   rw [M_11] at h
   refine⟨by omega,fun _ hn=> ?_⟩
   split at h
   ·obtain⟨q,h1,h2⟩:=Option.bind_eq_some_iff.1 h
    obtain⟨q2,h3,h4⟩:=Option.bind_eq_some_iff.1 h2
    have k:=addE_at h3
    exact(ih _ _ _ _ h4).2 (.inr rfl) (((ih _ _ _ _ h1).1 (by omega)).of_eq k.2 k.1)
   ·cases h;exact hn
  |14,h=>
   rw [M_14] at h
   refine⟨fun _=> ?_,by omega⟩
   simp only at h
   split at h
   ·rename_i hz;cases h;exact sumSign_NM hz
   ·obtain⟨q,h1,h2⟩:=Option.bind_eq_some_iff.1 h
    obtain⟨q2,h3,h4⟩:=Option.bind_eq_some_iff.1 h2
    exact(ih _ _ _ _ h4).1 (by omega)
  |2,h=>
   rw [M_2] at h
   refine⟨fun _=> ?_,by omega⟩
   split at h
   ·exact(ih _ _ _ _ h).1 (by omega)
   ·obtain⟨q,h1,h2⟩:=Option.bind_eq_some_iff.1 h
    have k:=addE_at h2
    exact((ih _ _ _ _ h1).1 (by omega)).of_eq k.2 k.1
  |3,h=>
   rw [M_3] at h
   refine⟨fun _=> ?_,by omega⟩
   obtain⟨q,h1,h2⟩:=Option.bind_eq_some_iff.1 h
   simp only at h2
   split at h2
   ·rename_i hz
    cases h2
    have k:=(ih _ _ _ _ h1).1 (by omega)
    unfold comparingM at hz ⊢
    split
    ·rename_i e;rw [if_pos e] at hz;exact absurd hz (by simp [ByteArray.size])
    ·rename_i e
     rw [if_neg e] at hz
     split
     ·rename_i e;rw [if_pos e] at hz;exact absurd hz (by simp [ByteArray.size])
     ·rename_i e
      rw [if_neg e] at hz
      split
      ·rename_i e
       rw [if_pos e] at hz
       unfold orderingM at hz
       simp only at hz
       split at hz<;>exact absurd hz (by simp [ByteArray.size])
      ·rename_i e
       rw [if_neg e] at hz
       split
       ·rename_i e
        rw [if_pos e] at hz
        unfold orderingM at hz
        simp only at hz
        split at hz<;>exact absurd hz (by simp [ByteArray.size])
       ·exact k
   ·obtain⟨q2,h3,h4⟩:=Option.bind_eq_some_iff.1 h2
    have k:=addE_at h4
    exact((ih _ _ _ _ h3).1 (by omega)).of_eq k.2 k.1
  |5,h=>exact⟨by omega,by omega⟩
  |6,h=>exact⟨by omega,by omega⟩
  |7,h=>exact⟨by omega,by omega⟩
  |15,h=>exact⟨by omega,by omega⟩
  |8,h=>simp [M] at h
  |9,h=>simp [M] at h
  |12,h=>simp [M] at h
  |13,h=>simp [M] at h
  |t+16,h=>simp [M] at h
def MRes (s:ByteArray)(n:Nat)(u:St):Option (Int×ByteArray×Int×St):=
 if pkS s u==123 then(MC s n 0 [] (sgn s [123] u)).bind fun v=>some (2,⟨#[]⟩,v.1,sgn s [125] v.2.2)
 else some (1,(nameM s u.at_ u.bad).2.2,-1,u.put3 (nameM s u.at_ u.bad))
theorem MC_1' (s:ByteArray)(n:Nat)(cls0:List Cl)(st:St):MC s (n+1) 1 cls0 st=
  ((M s n 0 0 st).bind fun r=>(addE r.2 ⟨7,st.at_,⟨#[]⟩,r.1,-1⟩).bind fun q=>
   if !arrowM s q.2.at_ q.2.bad then some (0,⟨q.1,0,⟨#[]⟩,-1⟩,q.2)
   else(MRes s n (sgn s [45,62] q.2)).bind fun x=>some (0,⟨q.1,x.1,x.2.1,x.2.2.1⟩,x.2.2.2)):=by
 rw [MC_1]
 congr
 funext r
 congr
 funext q
 split
 ·rfl
 ·unfold MRes
  simp only
  split
  ·cases MC s n 0 [] (sgn s [123] (sgn s [45,62] q.2))<;>rfl
  ·rfl
def ExtC (st st':St):Prop:=(∃F,st'.E=st.E++F)∧(∃G,st'.C=st.C++G)∧st'.A=st.A∧st'.L=st.L
theorem ExtC.refl (st:St):ExtC st st:=⟨⟨[],by simp⟩,⟨[],by simp⟩,rfl,rfl⟩
theorem ExtC.trans {a b c:St}(h:ExtC a b)(k:ExtC b c):ExtC a c:=by
 obtain⟨⟨F,h1⟩,⟨F',h1'⟩,h3,h4⟩:=h
 obtain⟨⟨G,k1⟩,⟨G',k1'⟩,k3,k4⟩:=k
 exact⟨⟨F++G,by rw [k1,h1,List.append_assoc]⟩,⟨F'++G',by rw [k1',h1',List.append_assoc]⟩,k3.trans h3,k4.trans h4⟩
theorem ExtE.c {a b:St}(h:ExtE a b):ExtC a b:=by
 obtain⟨⟨F,h1⟩,h2,h3,h4⟩:=h
 exact⟨⟨F,h1⟩,⟨[],by simp [h4]⟩,h2,h3⟩
theorem addC_ext {st:St}{x:List Cl}{r:Int×St}(h:addC st x=some r):ExtC st r.2:=by
 obtain⟨_,rfl⟩:=addC_some h
 exact⟨⟨[],by simp⟩,⟨[x],rfl⟩,rfl,rfl⟩
theorem MRes_ext {s:ByteArray}{n:Nat}(ih: ∀tag cls st r,MC s n tag cls st=some r→ExtC st r.2.2){u:St}{x:Int×ByteArray×Int×St}(h:MRes s n u=some x):ExtC u x.2.2.2:=by
 unfold MRes at h
 split at h
 ·obtain⟨v,h1,h2⟩:=Option.bind_eq_some_iff.1 h
  cases h2
  have k:=ih _ _ _ _ h1
  exact k
 ·cases h;exact ExtC.refl u
theorem MC_ext (s:ByteArray): ∀n tag cls st r,MC s n tag cls st=some r→ExtC st r.2.2:=by
 intro n
 induction n with
 |zero=>intro tag cls st r h;simp [MC] at h
 |succ n ih=>
  intro tag cls st r h
  match tag,h with
  |0,h=>
   rw [MC_0] at h
   obtain⟨q,h1,h2⟩:=Option.bind_eq_some_iff.1 h
   exact(ih _ _ _ _ h1).trans (ih _ _ _ _ h2)
  |2,h=>
   rw [MC_2] at h
   split at h
   ·split at h
    ·obtain⟨q,h1,h2⟩:=Option.bind_eq_some_iff.1 h
     have k:=ih _ _ _ _ h1
     exact ExtC.trans k (ih _ _ _ _ h2)
    ·obtain⟨q,h1,h2⟩:=Option.bind_eq_some_iff.1 h
     cases h2
     exact addC_ext h1
   ·cases h
  |1,h=>
   rw [MC_1'] at h
   obtain⟨q,h1,h2⟩:=Option.bind_eq_some_iff.1 h
   obtain⟨q2,h3,h4⟩:=Option.bind_eq_some_iff.1 h2
   have k:=(M_ext s _ _ _ _ _ h1).c.trans (addE_ext h3).c
   split at h4
   ·cases h4;exact k
   ·obtain⟨x,h5,h6⟩:=Option.bind_eq_some_iff.1 h4
    cases h6
    have k2:=MRes_ext ih h5
    exact k.trans k2
  |t+3,h=>simp [MC] at h
theorem addC_at {st:St}{x:List Cl}{r:Int×St}(h:addC st x=some r):r.2.bad=st.bad∧r.2.at_=st.at_:=by
 obtain⟨_,rfl⟩:=addC_some h
 exact⟨rfl,rfl⟩
theorem MC_bad (s:ByteArray): ∀n tag cls st r,MC s n tag cls st=some r→st.bad=true→Stay st r.2.2:=by
 intro n
 induction n with
 |zero=>intro tag cls st r h;simp [MC] at h
 |succ n ih=>
  intro tag cls st r h hb
  have hpk:=pkS_bad (s:=s) hb
  match tag,h with
  |0,h=>
   rw [MC_0] at h
   obtain⟨q,h1,h2⟩:=Option.bind_eq_some_iff.1 h
   have k1:=ih _ _ _ _ h1 hb
   have k2:=ih _ _ _ _ h2 k1.1
   exact⟨k2.1,k2.2.trans k1.2⟩
  |2,h=>
   rw [MC_2] at h
   split at h
   ·rw [if_neg (by rw [hpk];decide)] at h
    obtain⟨q,h1,h2⟩:=Option.bind_eq_some_iff.1 h
    cases h2
    have k:=addC_at h1
    exact⟨k.1.trans hb,k.2⟩
   ·cases h
  |1,h=>
   rw [MC_1'] at h
   obtain⟨q,h1,h2⟩:=Option.bind_eq_some_iff.1 h
   obtain⟨q2,h3,h4⟩:=Option.bind_eq_some_iff.1 h2
   have k:=M_bad s _ _ _ _ _ h1 hb
   have k2:=addE_at h3
   have hb2:q2.2.bad=true:=k2.1.trans k.1
   rw [if_pos (by simp [arrowM,pk,hb2])] at h4
   cases h4
   exact⟨hb2,k2.2.trans k.2⟩
  |t+3,h=>simp [MC] at h
attribute [local go_sem] wrap64_byte
def SegC (P:Value→Cl→Nat→Nat→Prop):List Value→List Cl→Nat→Nat→Prop
 |[],[],a,e=>a=e
 |v::vs,c::cs,a,e=> ∃m:Nat,P v c a m∧SegC P vs cs m e
 |_,_,_,_=>False
theorem SegC.imp {P Q:Value→Cl→Nat→Nat→Prop}(h: ∀v c a i,P v c a i→Q v c a i): ∀(vs:List Value) (cs:List Cl) (a e:Nat),SegC P vs cs a e→SegC Q vs cs a e:=by
 intro vs
 induction vs with
 |nil=>intro cs a e;cases cs<;>exact id
 |cons v vs ih=>
  intro cs a e
  cases cs with
  |nil=>exact id
  |cons i cs=>intro ⟨j,h2,h3⟩;exact⟨j,h _ _ _ _ h2,ih cs _ _ h3⟩
theorem SegC.snoc {P:Value→Cl→Nat→Nat→Prop}: ∀(vs:List Value) (cs:List Cl) (a e:Nat) (v:Value) (c:Cl) (j:Nat),SegC P vs cs a e→P v c e j→SegC P (vs++[v]) (cs++[c]) a j:=by
 intro vs
 induction vs with
 |nil=>
  intro cs a e v c j h hp
  cases cs with
  |nil=>have h:a=e:=h;subst h;exact⟨j,hp,rfl⟩
  |cons i cs=>exact absurd h id
 |cons u vs ih=>
  intro cs a e v c j h hp
  cases cs with
  |nil=>exact absurd h id
  |cons i cs=>
   obtain⟨q,h2,h3⟩:=h
   exact⟨q,h2,ih cs _ _ v c j h3 hp⟩
def ClX (X:Nat→Prop)(w:World)(E:List Ex)(f:Nat)(sub:Value→Nat→Nat→Nat→Prop)(v:Value)(c:Cl)(a e:Nat):Prop:=
 ∃(v1:Value) (i:Nat) (x:Ex),RefEX X w E f v1 a i∧E[i+1]?=some x∧x.form=7∧x.left=(i:Int)∧c.test=((i+1:Nat):Int)∧
  ((c.form=0∧NodeX X w v sIf ⟨#[]⟩ x.place [v1]∧e=i+2)∨
   (c.form=1∧ ∃(v2:Value) (p:Int),NodeX X w v sIf ⟨#[]⟩ x.place [v1,v2]∧NodeX X w v2 sName c.result p []∧e=i+2)∨
   (c.form=2∧ ∃(v2:Value) (ci:Nat),c.inner=(ci:Int)∧NodeX X w v sIf ⟨#[]⟩ x.place [v1,v2]∧sub v2 ci (i+2) e))
def RefCX (X:Nat→Prop)(w:World)(E:List Ex)(C:List (List Cl)):Nat→Value→Nat→Nat→Nat→Prop
 |0,_,_,_,_=>False
 |f+1,v,ci,a,e=> ∃(cls:List Cl) (vs:List Value) (p:Int),C[ci]?=some cls∧NodeX X w v sAll ⟨#[]⟩ p vs∧SegC (fun v c a e=>ClX X w E f (fun v ci a e=>RefCX X w E C f v ci a e) v c a e) vs cls a e
theorem ClX.keepX {X:Nat→Prop}{w w':World}{E:List Ex}{f:Nat}{sub sub':Value→Nat→Nat→Nat→Prop}(hr:SameX X w w')(hs: ∀v ci a e,sub v ci a e→sub' v ci a e){v:Value}{c:Cl}{a e:Nat}:ClX X w E f sub v c a e→ClX X w' E f sub' v c a e:=by
 intro ⟨v1,i,x,h1,h2,h3,h4,h5,h6⟩
 refine⟨v1,i,x,h1.keepX hr,h2,h3,h4,h5,?_⟩
 rcases h6 with⟨q1,q2,q3⟩|⟨q1,v2,p,q2,q3,q4⟩|⟨q1,v2,ci,q2,q3,q4⟩
 ·exact .inl ⟨q1,q2.keepX hr,q3⟩
 ·exact .inr (.inl ⟨q1,v2,p,q2.keepX hr,q3.keepX hr,q4⟩)
 ·exact .inr (.inr ⟨q1,v2,ci,q2,q3.keepX hr,hs _ _ _ _ q4⟩)
theorem RefCX.keepX {X:Nat→Prop}{w w':World}{E:List Ex}{C:List (List Cl)}(hr:SameX X w w'): ∀{f:Nat} {v:Value} {ci a e:Nat},RefCX X w E C f v ci a e→RefCX X w' E C f v ci a e:=by
 intro f
 induction f with
 |zero=>intro v ci a e h;exact absurd h id
 |succ f ih=>
  intro v ci a e ⟨cls,vs,p,h1,h2,h3⟩
  exact⟨cls,vs,p,h1,h2.keepX hr,SegC.imp (fun _ _ _ _ q=>ClX.keepX hr (fun _ _ _ _=>ih) q) _ _ _ _ h3⟩
theorem ClX.mono {X X':Nat→Prop}{w:World}{E:List Ex}{f:Nat}{sub sub':Value→Nat→Nat→Nat→Prop}(hX: ∀k,X' k→X k)(hs: ∀v ci a e,sub v ci a e→sub' v ci a e){v:Value}{c:Cl}{a e:Nat}:ClX X w E f sub v c a e→ClX X' w E f sub' v c a e:=by
 intro ⟨v1,i,x,h1,h2,h3,h4,h5,h6⟩
 refine⟨v1,i,x,h1.mono hX,h2,h3,h4,h5,?_⟩
 rcases h6 with⟨q1,q2,q3⟩|⟨q1,v2,p,q2,q3,q4⟩|⟨q1,v2,ci,q2,q3,q4⟩
 ·exact .inl ⟨q1,q2.mono hX,q3⟩
 ·exact .inr (.inl ⟨q1,v2,p,q2.mono hX,q3.mono hX,q4⟩)
 ·exact .inr (.inr ⟨q1,v2,ci,q2,q3.mono hX,hs _ _ _ _ q4⟩)
theorem RefCX.mono {X X':Nat→Prop}{w:World}{E:List Ex}{C:List (List Cl)}(hX: ∀k,X' k→X k): ∀{f:Nat} {v:Value} {ci a e:Nat},RefCX X w E C f v ci a e→RefCX X' w E C f v ci a e:=by
 intro f
 induction f with
 |zero=>intro v ci a e h;exact absurd h id
 |succ f ih=>
  intro v ci a e ⟨cls,vs,p,h1,h2,h3⟩
  exact⟨cls,vs,p,h1,h2.mono hX,SegC.imp (fun _ _ _ _ q=>ClX.mono hX (fun _ _ _ _=>ih) q) _ _ _ _ h3⟩
theorem ClX.cap {X:Nat→Prop}{w:World}{E:List Ex}{f:Nat}{sub sub':Value→Nat→Nat→Nat→Prop}(hs: ∀v ci a e,sub v ci a e→sub' v ci a e){v:Value}{c:Cl}{a e:Nat}:ClX X w E f sub v c a e→ClX (fun k=>X k∨w.heap.size≤k) w E f sub' v c a e:=by
 intro ⟨v1,i,x,h1,h2,h3,h4,h5,h6⟩
 refine⟨v1,i,x,h1.cap,h2,h3,h4,h5,?_⟩
 rcases h6 with⟨q1,q2,q3⟩|⟨q1,v2,p,q2,q3,q4⟩|⟨q1,v2,ci,q2,q3,q4⟩
 ·exact .inl ⟨q1,q2.cap,q3⟩
 ·exact .inr (.inl ⟨q1,v2,p,q2.cap,q3.cap,q4⟩)
 ·exact .inr (.inr ⟨q1,v2,ci,q2,q3.cap,hs _ _ _ _ q4⟩)
theorem RefCX.cap {X:Nat→Prop}{w:World}{E:List Ex}{C:List (List Cl)}: ∀{f:Nat} {v:Value} {ci a e:Nat},RefCX X w E C f v ci a e→RefCX (fun k=>X k∨w.heap.size≤k) w E C f v ci a e:=by
 intro f
 induction f with
 |zero=>intro v ci a e h;exact absurd h id
 |succ f ih=>
  intro v ci a e ⟨cls,vs,p,h1,h2,h3⟩
  exact⟨cls,vs,p,h1,h2.cap,SegC.imp (fun _ _ _ _ q=>ClX.cap (fun _ _ _ _=>ih) q) _ _ _ _ h3⟩
theorem ClX.more {X:Nat→Prop}{w:World}{E:List Ex}{f:Nat}{sub sub':Value→Nat→Nat→Nat→Prop}(F:List Ex)(hs: ∀v ci a e,sub v ci a e→sub' v ci a e){v:Value}{c:Cl}{a e:Nat}:ClX X w E f sub v c a e→ClX X w (E++F) f sub' v c a e:=by
 intro ⟨v1,i,x,h1,h2,h3,h4,h5,h6⟩
 refine⟨v1,i,x,h1.more F,by rw [List.getElem?_append_left (List.getElem?_eq_some_iff.1 h2).1];exact h2,h3,h4,h5,?_⟩
 rcases h6 with⟨q1,q2,q3⟩|⟨q1,v2,p,q2,q3,q4⟩|⟨q1,v2,ci,q2,q3,q4⟩
 ·exact .inl ⟨q1,q2,q3⟩
 ·exact .inr (.inl ⟨q1,v2,p,q2,q3,q4⟩)
 ·exact .inr (.inr ⟨q1,v2,ci,q2,q3,hs _ _ _ _ q4⟩)
theorem RefCX.more {X:Nat→Prop}{w:World}{E:List Ex}{C:List (List Cl)}(F:List Ex)(G:List (List Cl)): ∀{f:Nat} {v:Value} {ci a e:Nat},RefCX X w E C f v ci a e→RefCX X w (E++F) (C++G) f v ci a e:=by
 intro f
 induction f with
 |zero=>intro v ci a e h;exact absurd h id
 |succ f ih=>
  intro v ci a e ⟨cls,vs,p,h1,h2,h3⟩
  exact⟨cls,vs,p,by rw [List.getElem?_append_left (List.getElem?_eq_some_iff.1 h1).1];exact h1,h2,SegC.imp (fun _ _ _ _ q=>ClX.more F (fun _ _ _ _=>ih) q) _ _ _ _ h3⟩
theorem ClX.up {X:Nat→Prop}{w:World}{E:List Ex}{f:Nat}{sub sub':Value→Nat→Nat→Nat→Prop}(hs: ∀v ci a e,sub v ci a e→sub' v ci a e){v:Value}{c:Cl}{a e:Nat}:ClX X w E f sub v c a e→ClX X w E (f+1) sub' v c a e:=by
 intro ⟨v1,i,x,h1,h2,h3,h4,h5,h6⟩
 refine⟨v1,i,x,h1.up,h2,h3,h4,h5,?_⟩
 rcases h6 with⟨q1,q2,q3⟩|⟨q1,v2,p,q2,q3,q4⟩|⟨q1,v2,ci,q2,q3,q4⟩
 ·exact .inl ⟨q1,q2,q3⟩
 ·exact .inr (.inl ⟨q1,v2,p,q2,q3,q4⟩)
 ·exact .inr (.inr ⟨q1,v2,ci,q2,q3,hs _ _ _ _ q4⟩)
theorem RefCX.up {X:Nat→Prop}{w:World}{E:List Ex}{C:List (List Cl)}: ∀{f:Nat} {v:Value} {ci a e:Nat},RefCX X w E C f v ci a e→RefCX X w E C (f+1) v ci a e:=by
 intro f
 induction f with
 |zero=>intro v ci a e h;exact absurd h id
 |succ f ih=>
  intro v ci a e ⟨cls,vs,p,h1,h2,h3⟩
  exact⟨cls,vs,p,h1,h2,SegC.imp (fun _ _ _ _ q=>ClX.up (fun _ _ _ _=>ih) q) _ _ _ _ h3⟩
theorem RefCX.ups {X:Nat→Prop}{w:World}{E:List Ex}{C:List (List Cl)}{f:Nat}(g:Nat){v:Value}{ci a e:Nat}(h:RefCX X w E C f v ci a e):RefCX X w E C (f+g) v ci a e:=by
 induction g with
 |zero=>exact h
 |succ g ih=>exact ih.up
def ClF (X:Nat→Prop)(w:World)(E:List Ex)(C:List (List Cl))(f:Nat)(v:Value)(c:Cl)(a e:Nat):Prop:=ClX X w E f (fun v ci a e=>RefCX X w E C f v ci a e) v c a e
theorem ClF.keepX {X:Nat→Prop}{w w':World}{E:List Ex}{C:List (List Cl)}(hr:SameX X w w'){f:Nat}{v:Value}{c:Cl}{a e:Nat}(h:ClF X w E C f v c a e):ClF X w' E C f v c a e:=ClX.keepX hr (fun _ _ _ _ q=>q.keepX hr) h
theorem ClF.mono {X X':Nat→Prop}{w:World}{E:List Ex}{C:List (List Cl)}(hr: ∀k,X' k→X k){f:Nat}{v:Value}{c:Cl}{a e:Nat}(h:ClF X w E C f v c a e):ClF X' w E C f v c a e:=ClX.mono hr (fun _ _ _ _ q=>q.mono hr) h
theorem ClF.cap {X:Nat→Prop}{w:World}{E:List Ex}{C:List (List Cl)}{f:Nat}{v:Value}{c:Cl}{a e:Nat}(h:ClF X w E C f v c a e):ClF (fun k=>X k∨w.heap.size≤k) w E C f v c a e:=ClX.cap (fun _ _ _ _ q=>q.cap) h
theorem ClF.more {X:Nat→Prop}{w:World}{E:List Ex}{C:List (List Cl)}(F:List Ex)(G:List (List Cl)){f:Nat}{v:Value}{c:Cl}{a e:Nat}(h:ClF X w E C f v c a e):ClF X w (E++F) (C++G) f v c a e:=ClX.more F (fun _ _ _ _ q=>q.more F G) h
theorem ClF.up {X:Nat→Prop}{w:World}{E:List Ex}{C:List (List Cl)}{f:Nat}{v:Value}{c:Cl}{a e:Nat}(h:ClF X w E C f v c a e):ClF X w E C (f+1) v c a e:=ClX.up (fun _ _ _ _ q=>q.up) h
theorem ClF.ups {X:Nat→Prop}{w:World}{E:List Ex}{C:List (List Cl)}{f:Nat}(g:Nat){v:Value}{c:Cl}{a e:Nat}(h:ClF X w E C f v c a e):ClF X w E C (f+g) v c a e:=by
 induction g with
 |zero=>exact h
 |succ g ih=>exact ih.up
def RPostC (b:Nat)(s:ByteArray)(st st':St)(r:Int)(w:World)(e:Ending)(w':World):Prop:= ∃(ao:Option Addr) (p':Nat),e= .returned (.pointer ao)∧Rd w' b s p' st'.bad∧Rf b w w'∧skip s p' st'.bad=st'.at_∧
 (st'.bad=false→ ∃(f ci:Nat),r=(ci:Int)∧ci+1=st'.C.length∧RefCX (Out b w.heap.size) w' st'.E st'.C f (.pointer ao) ci st.E.length st'.E.length)
def OKRc (s:ByteArray)(n:Nat):Prop:= ∀(b:Nat) (st:St) (w:World) (p:Nat) (r:Int) (cl:Cl) (st':St),MC s n 0 [] st=some (r,cl,st')→Rd w b s p st.bad→skip s p st.bad=st.at_→
 Calls Tryz.prog 137 #[.pointer (some ⟨b,0,none⟩)] w fun e w'=>RPostC b s st st' r w e w'
def RPostR (b:Nat)(s:ByteArray)(st:St)(x:Int×ByteArray×Int×St)(w:World)(e:Ending)(w':World):Prop:= ∃(ao:Option Addr) (p':Nat),e= .returned (.pointer ao)∧Rd w' b s p' x.2.2.2.bad∧Rf b w w'∧skip s p' x.2.2.2.bad=x.2.2.2.at_∧
 (x.2.2.2.bad=false→(x.1=1∧x.2.2.2.E=st.E∧ ∃p,NodeX (Out b w.heap.size) w' (.pointer ao) sName x.2.1 p [])∨
  (x.1=2∧ ∃(f ci:Nat),x.2.2.1=(ci:Int)∧RefCX (Out b w.heap.size) w' x.2.2.2.E x.2.2.2.C f (.pointer ao) ci st.E.length x.2.2.2.E.length))
def OKRr (s:ByteArray)(n:Nat):Prop:= ∀(b:Nat) (st:St) (w:World) (p:Nat) (x:Int×ByteArray×Int×St),MRes s n st=some x→Rd w b s p st.bad→skip s p st.bad=st.at_→
 Calls Tryz.prog 165 #[.pointer (some ⟨b,0,none⟩)] w fun e w'=>RPostR b s st x w e w'
theorem result_step (s:ByteArray)(n:Nat)(ih:OKRc s n):OKRr s n:=by
 intro b st w p x hM hR hp
 unfold MRes at hM
 have hsg:=sign1_any b p s 123 st.bad w hR
 rw [hp] at hsg
 have HSG:=hide hsg
 have hle:=hR.le
 clear hsg hp hR
 cases hc:(pkS s st==123)
 ·obtain⟨⟨qp,qd,qt⟩,hqn⟩: ∃q,nameR s st.at_ st.bad=q:=⟨_,rfl⟩
  rw [hc,if_neg (by decide),nameM_of,hqn] at hM
  have hM:=Option.some.inj hM
  subst hM
  have HQN:=hide hqn
  clear hqn
  have hcc:(pk s st.at_ st.bad==((123:UInt8).toNat:Int))=false:=hc
  go_enter Tryz.func165,Tryz.ntmps165
  go_wp2_with fail
  refine HSG.out.mono ?_
  rintro e w1 ⟨rfl,hR1,hs1⟩
  rw [hcc]
  obtain⟨c0,c1,c2,f1,f2,_,_⟩:=id hR1
  have hb1:b<w1.heap.size:=block_lt_of_cell hR1.c0
  have hnb:w1.heap.size≠b:=by omega
  have hRa:Rd (w1.alloc (.cells #[.string ⟨#[110,97,109,101]⟩,.string ⟨#[]⟩,.int .i64 st.at_,.slice none 0 0] 138)) b s st.at_ st.bad:=hR1.other (Below.heap_alloc _ _ _ hb1)
  have hga:=heap_alloc_new w1 (.cells #[.string ⟨#[110,97,109,101]⟩,.string ⟨#[]⟩,.int .i64 st.at_,.slice none 0 0] 138)
  have hFa:Rf b w (w1.alloc (.cells #[.string ⟨#[110,97,109,101]⟩,.string ⟨#[]⟩,.int .i64 st.at_,.slice none 0 0] 138)):=hs1.rf.alloc _
  have hz1:w.heap.size=w1.heap.size:=hs1.size.symm
  have HA:=hide (And.intro hRa (And.intro hga (And.intro hFa hz1)))
  clear hRa hga hFa hz1 hs1
  go_wp2_with fail
  have hnr:=nameR_any b st.at_ s st.bad _ HA.out.1
  rw [HQN.out] at hnr
  refine hnr.mono ?_
  rintro e w3 ⟨rfl,hR3,hs3⟩
  clear hnr
  have hg3:w3.heap[w1.heap.size]?=some (.cells #[.string ⟨#[110,97,109,101]⟩,.string ⟨#[]⟩,.int .i64 st.at_,.slice none 0 0] 138):=(hs3.block w1.heap.size (by omega)).trans HA.out.2.1
  have hF3:Rf b w w3:=HA.out.2.2.1.trans hs3.rf
  obtain⟨y0,y1,y2,y3,yf⟩:=box4' hg3
  have hge:w.heap.size≤w1.heap.size:=Nat.le_of_eq HA.out.2.2.2
  clear HA HSG hs3 c0 c1 c2 f1 f2 hR1
  have hR3:Rd w3 b s qp qd:=hR3
  have hR4:=hR3.other (w':=w3.setCell ⟨w1.heap.size,1,none⟩ (.string qt)) (Below.heap_setCell _ _ _ _ (by simp;omega))
  have hg4:=set1 hg3 (.string qt)
  have hF4:=hF3.setCell (a:=⟨w1.heap.size,1,none⟩) hge (.string qt)
  have HF:=hide (And.intro hR4 (And.intro hg4 hF4))
  clear hF3 hF4 hR3 hR4 hg3 hg4
  go_wp2_with fail
  go_ret
  refine⟨_,qp,rfl,HF.out.1,HF.out.2.2,rfl,fun hb=> .inl ⟨rfl,rfl,st.at_,?_⟩⟩
  have hnode:Node b w.heap.size (w3.setCell ⟨w1.heap.size,1,none⟩ (.string qt)) (.pointer (some ⟨w1.heap.size,0,none⟩)) sName qt st.at_ []:=⟨w1.heap.size,_,rfl,hnb,hge,HF.out.2.1,World.ownsRow_nil _ _ _ _,by simp [Value.ownBlock]⟩
  exact hnode.x
 ·rw [hc,if_pos rfl] at hM
  obtain⟨⟨r2,cl2,st2⟩,hm2,hm3⟩:=Option.bind_eq_some_iff.1 hM
  have hm3:=Option.some.inj hm3
  subst hm3
  have hcc:(pk s st.at_ st.bad==((123:UInt8).toNat:Int))=true:=hc
  have HM2:=hide hm2
  clear hM hm2
  go_enter Tryz.func165,Tryz.ntmps165
  go_wp2_with fail
  refine HSG.out.mono ?_
  rintro e w1 ⟨rfl,hR1,hs1⟩
  rw [hcc]
  go_wp2_with fail
  refine(eat_any b st.at_ s _ st.bad _ hR1 (by decide)).mono ?_
  rintro e w3 ⟨rfl,hR3,hs3⟩
  have hz3:w3.heap.size=w.heap.size:=hs3.size.trans hs1.size
  go_wp2_with fail
  refine(ih b (sgn s [123] st) _ _ r2 cl2 st2 HM2.out hR3 rfl).mono ?_
  rintro e w4 ⟨ao4,p4,rfl,hR4,hF4,hp4,ht4⟩
  rw [hz3] at ht4
  have HT4:=hide ht4
  have hb4:=blanksR_any b p4 s st2.bad w4 hR4
  rw [hp4] at hb4
  have HB4:=hide hb4
  clear ht4 hb4
  go_wp2_with fail
  refine HB4.out.mono ?_
  rintro e w5 ⟨rfl,hR5,hs5⟩
  go_wp2_with fail
  refine(eat_any b st2.at_ s _ st2.bad _ hR5 (by decide)).mono ?_
  rintro e w6 ⟨rfl,hR6,hs6⟩
  go_wp2_with fail
  go_ret
  refine⟨ao4,_,rfl,hR6,(((hs1.rf.trans hs3.rf).trans hF4).trans hs5.rf).trans hs6.rf,rfl,fun hb=> .inr ⟨rfl,?_⟩⟩
  have hb2:st2.bad=false:=by
   cases hq:st2.bad with
   |false=>rfl
   |true=>
    have h2:=(sgn_bad (s:=s) (c:=125) (cs:=[]) hq).1
    rw [h2] at hb
    cases hb
  obtain⟨f,ci,q1,q2,q3⟩:=HT4.out hb2
  exact⟨f,ci,q1,(q3.keepX (hs5.rf.sameX (.inl rfl))).keepX (hs6.rf.sameX (.inl rfl))⟩
structure Tr (T:(Nat→Prop)→World→Prop):Prop where
 cap: ∀X w,T X w→T (fun k=>X k∨w.heap.size≤k) w
 keep: ∀X w w',SameX X w w'→T X w→T X w'
 mono: ∀X X' w,(∀k,X' k→X k)→T X w→T X' w
theorem trE (E:List Ex)(f:Nat)(v:Value)(a i:Nat):Tr fun X w=>RefEX X w E f v a i:=⟨fun _ _ h=>h.cap,fun _ _ _ hs h=>h.keepX hs,fun _ _ _ hs h=>h.mono hs⟩
theorem trC (E:List Ex)(C:List (List Cl))(f:Nat)(v:Value)(ci a i:Nat):Tr fun X w=>RefCX X w E C f v ci a i:=⟨fun _ _ h=>h.cap,fun _ _ _ hs h=>h.keepX hs,fun _ _ _ hs h=>h.mono hs⟩
theorem trN (v:Value)(op tx:ByteArray)(a:Int)(kids:List Value):Tr fun X w=>NodeX X w v op tx a kids:=⟨fun _ _ h=>h.cap,fun _ _ _ hs h=>h.keepX hs,fun _ _ _ hs h=>h.mono hs⟩
theorem trS (E:List Ex)(C:List (List Cl))(f:Nat)(vs:List Value)(cls:List Cl)(a i:Nat):Tr fun X w=>SegC (fun v c a e=>ClF X w E C f v c a e) vs cls a i:=⟨fun _ _ h=>SegC.imp (fun _ _ _ _ q=>q.cap) _ _ _ _ h,fun _ _ _ hs h=>SegC.imp (fun _ _ _ _ q=>q.keepX hs) _ _ _ _ h,fun _ _ _ hs h=>SegC.imp (fun _ _ _ _ q=>q.mono hs) _ _ _ _ h⟩
theorem trF (E:List Ex)(C:List (List Cl))(f:Nat)(v:Value)(c:Cl)(a i:Nat):Tr fun X w=>ClF X w E C f v c a i:=⟨fun _ _ h=>h.cap,fun _ _ _ hs h=>h.keepX hs,fun _ _ _ hs h=>h.mono hs⟩
theorem Tr.old {T:(Nat→Prop)→World→Prop}(t:Tr T){b g:Nat}{kv kv':Value}{w4 w6:World}(h:T (KX b g kv) w4)(hs:SameX (fun k=>KX b g kv k∨w4.heap.size≤k) w4 w6∧ ∀k,KX b g kv' k→KX b g kv k∨w4.heap.size≤k):T (KX b g kv') w6:=
 t.mono _ _ _ hs.2 (t.keep _ _ _ hs.1 (t.cap _ _ h))
theorem Tr.new {T:(Nat→Prop)→World→Prop}(t:Tr T){b g Ws:Nat}{kv kv':Value}{w4 w6:World}(h:T (Out b Ws) w4)(hg:g<Ws)(hk: ∀k,kv.ownBlock=some k→k<Ws)(hs:SameX (fun k=>KX b g kv k∨w4.heap.size≤k) w4 w6∧ ∀k,KX b g kv' k→KX b g kv k∨w4.heap.size≤k):T (KX b g kv') w6:=by
 refine t.mono _ _ _ hs.2 (t.keep _ _ _ hs.1 (t.mono (fun k=>Out b Ws k∨w4.heap.size≤k) _ _ (fun k e=>e.imp (fun e=> ?_) id) (t.cap _ _ h)))
 rcases e with e|e|e
 ·exact .inl e
 ·exact .inr (by omega)
 ·exact .inr (hk k e)
theorem Tr.rf {T:(Nat→Prop)→World→Prop}(t:Tr T){b:Nat}{X:Nat→Prop}{w w':World}(h:T X w)(hX:X b)(hr:Rf b w w'):T X w':=t.keep _ _ _ (hr.sameX hX) h
theorem KX_out {b g:Nat}{kv:Value}: ∀k,Out b g k→KX b g kv k:=fun k e=>e.imp id fun e=> .inl (by omega)
def CdTo (s:ByteArray)(r:Int)(cl:Cl)(st':St)(g:Nat)(more:Bool)(cls:List Cl)(q:Nat)(sv:St):Prop:=
 if more then((MC s g 1 [] sv).bind fun x=>MC s g 2 (cls++[x.2.1]) x.2.2)=some (r,cl,st') else(q=sv.at_∧((addC sv cls).bind fun x=>some (x.1,(⟨0,0,⟨#[]⟩,0⟩:Cl),x.2))=some (r,cl,st'))
theorem arrow_eq {s:ByteArray}{st:St}(h:NM s st):arrowM s st.at_ st.bad=(pk s st.at_ st.bad==45):=by
 cases hq:(pk s st.at_ st.bad==45) with
 |true=>exact h hq
 |false=>unfold arrowM;rw [hq];rfl
theorem condsR_step (s:ByteArray)(n:Nat)(ihe: ∀m,OKR s 0 0 m)(ih: ∀m,m<n→OKRc s m):OKRc s (n+1):=by
 intro b st w p r cl st' hM hR hp
 rw [MC_0] at hM
 have HMh:=hide hM
 have IH:=hide (And.intro ihe ih)
 have HP:=hide hp
 clear hM hp ihe ih
 obtain⟨c0,c1,c2,f1,f2,_,_⟩:=id hR
 have hb1:b<w.heap.size:=block_lt_of_cell hR.c0
 have hRa:Rd (w.alloc (.cells #[.string ⟨#[97,108,108]⟩,.string ⟨#[]⟩,.int .i64 p,.slice none 0 0] 138)) b s p st.bad:=hR.other (Below.heap_alloc _ _ _ hb1)
 have hGa:Gr b w.heap.size (w.alloc (.cells #[.string ⟨#[97,108,108]⟩,.string ⟨#[]⟩,.int .i64 p,.slice none 0 0] 138)) sAll ⟨#[]⟩ p (.slice none 0 0) []:=⟨by omega,by simp;omega,heap_alloc_new w _,World.ownsRow_nil _ _ _ _,by simp [Value.ownBlock]⟩
 have hFa:Rf b w (w.alloc (.cells #[.string ⟨#[97,108,108]⟩,.string ⟨#[]⟩,.int .i64 p,.slice none 0 0] 138)):=(Rf.refl b w).alloc _
 have HA:=hide (And.intro hRa (And.intro hGa hFa))
 clear hRa hGa hFa
 obtain⟨i0,hi,hz0,hz1,hz2⟩:=info_parts info89
 go_enter Tryz.func137,Tryz.ntmps137
 go_wp2_with fail
 go_loopg [4,5,6,7,8] n (fun g mv _ _ _ _ wr=>g≤n∧ ∃(more:Bool) (kv:Value) (vs:List Value) (cls:List Cl) (q:Nat) (sv:St),mv= .bool more∧Rd wr b s q sv.bad∧Hid (skip s q sv.bad=sv.at_)∧Hid (Gr b w.heap.size wr sAll ⟨#[]⟩ p kv vs)∧Rf b w wr∧Hid (vs.length=cls.length)∧Hid (ExtC st sv)∧Hid (sv.bad=false→ ∃f,SegC (fun v c a i=>ClF (KX b w.heap.size kv) wr sv.E sv.C f v c a i) vs cls st.E.length sv.E.length)∧Hid (CdTo s r cl st' g more cls q sv))
 case atStart=>
  refine⟨Nat.le_refl _,true,_,[],[],p,st,rfl,HA.out.1,HP,hide HA.out.2.1,HA.out.2.2,rfl,hide (ExtC.refl st),hide fun _=>⟨0,rfl⟩,?_⟩
  show CdTo _ _ _ _ _ _ _ _ _
  unfold CdTo
  rw [if_pos rfl]
  exact HMh.out
 case round=>
  obtain⟨hgn,more,kv,vs,cls,q,sv,rfl,hRq,hq,hG,hF,hlen,hX,ht,hto⟩:=hrel
  have hto':=hto.out
  clear hto HA HMh c0 c1 c2 f1 f2 hR HP
  unfold CdTo at hto'
  cases more with
  |false=>
   rw [if_neg (by decide)] at hto'
   obtain⟨rfl,hadd⟩:=hto'
   obtain⟨⟨r9,st9⟩,hadd2,h9⟩:=Option.bind_eq_some_iff.1 hadd
   have h9:=Option.some.inj h9
   simp only [Prod.mk.injEq] at h9
   obtain⟨rfl,rfl,rfl⟩:=h9
   obtain⟨hl,h6⟩:=addC_some hadd2
   cases h6
   clear hadd hadd2
   have hidem:Hid (skip s sv.at_ sv.bad=sv.at_):=hide hq.out
   go_wp2_with fail
   go_ret
   refine⟨_,sv.at_,rfl,hRq,hF,hidem.out,fun hb=> ?_⟩
   obtain⟨f,hseg⟩:=ht.out hb
   refine⟨f+1,sv.C.length,rfl,by simp,cls,vs,p,by simp,hG.out.node (Nat.le_refl _),?_⟩
   have h2:=(trS sv.E sv.C f vs cls _ _).mono _ _ _ (KX_out (kv:=kv)) hseg
   have h3:=SegC.imp (fun _ _ _ _ q=>ClF.more [] [cls] q) _ _ _ _ h2
   rw [List.append_nil] at h3
   exact h3
  |true=>
   rw [if_pos rfl] at hto'
   obtain⟨⟨r1,cl1,stX⟩,hm1,hm2⟩:=Option.bind_eq_some_iff.1 hto'
   simp only at hm2
   obtain⟨c0,c1,c2,f1,f2,hle,hsz⟩:=id hRq
   obtain⟨bd,HBQ⟩: ∃bd,Hid (sv.bad=bd):=⟨_,rfl⟩
   rw [HBQ.out] at c2
   cases bd with
   |true=>
    have k1:=MC_bad s _ _ _ _ _ hm1 HBQ.out
    have k2:=MC_bad s _ _ _ _ _ hm2 k1.1
    have hb':Hid (st'.bad=true):=hide k2.1
    have hat':Hid (st'.at_=q):=hide (by
     have h:=hq.out
     rw [HBQ.out,skip_bad] at h
     rw [h]
     exact k2.2.trans k1.2)
    have hRq':Rd wr b s q true:=by rw [←HBQ.out];exact hRq
    clear hto' hm1 hm2 k1 k2 hRq
    go_wp2_with fail
    go_ret
    refine⟨_,q,rfl,?_,hF,?_,fun hb=> ?_⟩
    ·rw [hb'.out];exact hRq'
    ·rw [hb'.out,skip_bad,hat'.out]
    ·rw [hb'.out] at hb;cases hb
   |false=>
    cases gk with
    |zero=>exact absurd hm1 (by simp [MC])
    |succ g=>
     rw [MC_2] at hm2
     rw [MC_1'] at hm1
     obtain⟨⟨l1,st1⟩,h1,h2⟩:=Option.bind_eq_some_iff.1 hm1
     obtain⟨⟨q2,st2⟩,h3,h4⟩:=Option.bind_eq_some_iff.1 h2
     have hil:(cls++[cl1]).length<100000:=by
      by_cases hx:(cls++[cl1]).length<100000
      ·exact hx
      ·rw [if_neg hx] at hm2;cases hm2
     rw [if_pos hil] at hm2
     simp at hil
     have hvl:vs.length<99999:=by have:=hlen.out;omega
     simp only at h3 h4
     have hnm:NM s st2:=((M_NM s _ _ _ _ _ h1).1 (.inl rfl)).of_eq (addE_at h3).2 (addE_at h3).1
     rw [arrow_eq hnm] at h4
     have HX1:=hide (MC_ext s (g+1) 1 [] sv (r1,cl1,stX) (by rw [MC_1'];exact hm1))
     obtain⟨hl3,h33⟩:=addE_some h3
     have e1:q2=(st1.E.length:Int):=congrArg Prod.fst h33
     have e2:st2={st1 with E:=st1.E++[⟨7,sv.at_,⟨#[]⟩,l1,-1⟩]}:=congrArg Prod.snd h33
     have HE:=hide (And.intro e1 e2)
     have hbt:st2.bad=st1.bad:=by rw [e2]
     have hatt:st2.at_=st1.at_:=by rw [e2]
     have HEQ:=hide (And.intro hbt hatt)
     have HXE:=hide (M_ext s _ _ _ _ _ h1)
     have HM1:=hide h1
     have HM4:=hide h4
     have HM2:=hide hm2
     clear hto' hm1 hm2 h1 h2 h3 h4 hnm h33 e1 e2 hbt hatt
     have hbl:=blanksR_any b q s sv.bad wr hRq
     rw [hq.out] at hbl
     have HBL:=hide hbl
     clear hbl c0 c1 f1 f2
     go_wp2_with fail
     refine HBL.out.mono ?_
     rintro e w1 ⟨rfl,hR1,hs1⟩
     have HZ1:Hid (w1.heap.size=wr.heap.size):=hide hs1.size
     have hb2:b<w1.heap.size:=block_lt_of_cell hR1.c0
     obtain⟨c0,c1,c2,f1,f2,_,_⟩:=id hR1
     have hRa:Rd (w1.alloc (.cells #[.string ⟨#[105,102]⟩,.string ⟨#[]⟩,.int .i64 sv.at_,.slice none 0 0] 138)) b s sv.at_ sv.bad:=hR1.other (Below.heap_alloc _ _ _ hb2)
     have hGa:Gr b w1.heap.size (w1.alloc (.cells #[.string ⟨#[105,102]⟩,.string ⟨#[]⟩,.int .i64 sv.at_,.slice none 0 0] 138)) sIf ⟨#[]⟩ sv.at_ (.slice none 0 0) []:=⟨by omega,by simp;omega,heap_alloc_new w1 _,World.ownsRow_nil _ _ _ _,by simp [Value.ownBlock]⟩
     have hFa:Rf b wr (w1.alloc (.cells #[.string ⟨#[105,102]⟩,.string ⟨#[]⟩,.int .i64 sv.at_,.slice none 0 0] 138)):=hs1.rf.alloc _
     have hza:(w1.alloc (.cells #[.string ⟨#[105,102]⟩,.string ⟨#[]⟩,.int .i64 sv.at_,.slice none 0 0] 138)).heap.size=w1.heap.size+1:=by simp
     have HA:=hide (And.intro hRa (And.intro hGa (And.intro hFa hza)))
     clear hRa hGa hFa hza
     go_wp2_with fail
     have HA':=HA.out
     generalize (w1.alloc (.cells #[.string ⟨#[105,102]⟩,.string ⟨#[]⟩,.int .i64 sv.at_,.slice none 0 0] 138))=W0 at*
     refine(IH.out.1 g b sv W0 sv.at_ l1 st1 HM1.out HA'.1 (by have h:=skip_idem s q sv.bad hle;rw [hq.out] at h;exact h)).mono ?_
     rintro e w4 ⟨ao4,p4,rfl,hR4,hF4,hp4,ht4⟩
     have hG4:=HA'.2.1.rf hF4
     have hF04:=HA'.2.2.1.trans hF4
     have HZA:=hide HA'.2.2.2
     have HT4:=hide ht4
     have HP4:=hide hp4
     have HG4:=hide hG4
     obtain⟨z1,z2⟩:=hG4.cell
     have hglt:=hG4.lt
     clear ht4 hp4 hG4 HA HA' HBL hs1 c0 c1 c2 f1 f2 hR1
     go_wp2_with (at_builtin;go_must (refine wpList_append_lies _ rfl (.tmp 37) (.tmp 39) 136 rfl (w1.heap.size+1) 89 i0 _ 1 8 Tryz.underlying136 hi hz0 hz1 hz2 rfl (by omega) (.slice none 0 0) 0 [] rfl (World.ownsRow_nil _ _ _ _) ⟨w4.heap.size,0,none⟩ 1 1 [.pointer ao4] rfl rfl ?news ?one (by omega) ?mm ?bys ?base (w4.heap.size+1) (by simp) ?rest))
     case news=>exact World.news_of_block (heap_alloc_new w4 _)
     case one=>intro u hu;simp at hu;subst hu;rfl
     case mm=>unfold maxLen;omega
     case bys=>omega
     case base=>simp;omega
     case rest=>
      intro gb cap w5 hown hgrow hat2 hlt2
      obtain⟨hG6,hsame,hkx,hb6,hrf6,y1,y2⟩:=HG4.out.push (v:= .pointer ao4) (gb:=gb) (cap:=cap) hown hgrow hat2
      have hR6:=hR4.other hb6
      have hF6:=hrf6 wr hF04 (by have:=HZ1.out;omega)
      have hsg:=sign1_any b p4 s 45 st1.bad _ hR6
      rw [HP4.out] at hsg
      have HSG:=hide hsg
      have HT6:Hid (st1.bad=false→ ∃(f i:Nat),l1=(i:Int)∧i+1=st1.E.length∧RefEX (KX b w1.heap.size (.slice (some ⟨gb,0,none⟩) 1 cap)) (w5.setCell ⟨w1.heap.size,3,none⟩ (.slice (some ⟨gb,0,none⟩) 1 cap)) st1.E f (.pointer ao4) sv.E.length i):=hide fun hb=>by
       obtain⟨f4,i4,e4,l4,t4⟩:=HT4.out hb
       exact⟨f4,i4,e4,l4,(trE _ _ _ _ _).new t4.x (g:=w1.heap.size) (kv:= .slice none 0 0) (by have:=HZA.out;omega) (fun k e=>by simp [Value.ownBlock] at e) ⟨hsame,hkx⟩⟩
      have HG6:=hide hG6
      have hidem:Hid (skip s st1.at_ st1.bad=st1.at_):=hide (by have h:=skip_idem s p4 st1.bad hR4.le;rw [HP4.out] at h;exact h)
      clear hG6 hsame hkx hb6 hrf6 hown hgrow hat2 hlt2 hsg z1 z2 HT4 HG4 HP4 hR4 hF4 hF04
      go_wp2_with fail
      generalize w5.setCell ⟨w1.heap.size,3,none⟩ (.slice (some ⟨gb,0,none⟩) 1 cap)=W6 at*
      refine HSG.out.mono ?_
      rintro e w7 ⟨rfl,hR7,hs7⟩
      have HG7:=hide (HG6.out.rf hs7.rf)
      have hF7:=hF6.trans hs7.rf
      have HT7:Hid (st1.bad=false→ ∃(f i:Nat),l1=(i:Int)∧i+1=st1.E.length∧RefEX (KX b w1.heap.size (.slice (some ⟨gb,0,none⟩) 1 cap)) w7 st1.E f (.pointer ao4) sv.E.length i):=hide fun hb=>by
       obtain⟨f4,i4,e4,l4,t4⟩:=HT6.out hb
       exact⟨f4,i4,e4,l4,(trE _ _ _ _ _).rf t4 (.inl rfl) hs7.rf⟩
      clear HG6 hF6 HT6 hs7 hR6 y1 y2 HSG w5 W6
      have h4:=HM4.out
      rw [HEQ.out.1,HEQ.out.2] at h4
      clear HM4
      cases hc:(pk s st1.at_ st1.bad==45)
      ·have hcc:(pk s st1.at_ st1.bad==((45:UInt8).toNat:Int))=false:=hc
       rw [hcc]
       rw [hc] at h4
       have h4:=Option.some.inj h4
       simp only [Prod.mk.injEq] at h4
       obtain⟨_,rfl,rfl⟩:=h4
       have hR8:Rd w7 b s st2.at_ st2.bad:=by rw [HEQ.out.1,HEQ.out.2];exact hR7
       have hid8:Hid (skip s st2.at_ st2.bad=st2.at_):=hide (by rw [HEQ.out.1,HEQ.out.2];exact hidem.out)
       have HCL:Hid (st2.bad=false→ ∃f,ClF (Out b wr.heap.size) w7 st2.E st2.C f (.pointer (some ⟨w1.heap.size,0,none⟩)) ⟨q2,0,⟨#[]⟩,-1⟩ sv.E.length st2.E.length):=hide fun hb=>by
        rw [HEQ.out.1] at hb
        obtain⟨f4,i4,e4,l4,t4⟩:=HT7.out hb
        have he:=HE.out
        rw [he.2]
        refine⟨f4,.pointer ao4,i4,⟨7,sv.at_,⟨#[]⟩,l1,-1⟩,?_,?_,rfl,e4,?_,.inl ⟨rfl,?_,?_⟩⟩
        ·exact((trE _ _ _ _ _).mono _ _ _ (fun k e=>KX_out k (by rw [HZ1.out];exact e)) t4).more _
        ·rw [l4];simp
        ·rw [he.1,l4]
        ·exact(HG7.out.node (by have:=HZ1.out;omega))
        ·simp;omega
       have hp8:Hid (skip s st2.at_ st2.bad=st2.at_):=hid8
       clear h4 hR7 HT7 HG7
       have HG8:=hide (hG.out.rf hF7)
       obtain⟨a5,k5,rfl⟩:=ownsRow_slc HG8.out.own
       obtain⟨z1,z2⟩:=HG8.out.cell
       have how8:=HG8.out.own
       have hlt8:=HG8.out.lt
       have hF8:=hF.trans hF7
       go_wp2_with (at_builtin;go_must (refine wpList_append_lies _ rfl (.tmp 64) (.tmp 66) 136 rfl (w.heap.size+1) 89 i0 _ 1 8 Tryz.underlying136 hi hz0 hz1 hz2 rfl (by omega) _ vs.length vs rfl (how8.alloc _) ⟨w7.heap.size,0,none⟩ 1 1 [.pointer (some ⟨w1.heap.size,0,none⟩)] rfl rfl ?newsA ?oneA (by omega) ?mmA ?bysA ?baseA (w7.heap.size+1) (by simp) ?restA))
       case newsA=>exact World.news_of_block (heap_alloc_new w7 _)
       case oneA=>intro u hu;simp at hu;subst hu;rfl
       case mmA=>unfold maxLen;omega
       case bysA=>omega
       case baseA=>simp;omega
       case restA=>
        intro gb2 cap2 w9 hown hgrow hat2 hlt2
        obtain⟨hG10,hsame,hkx,hb10,hrf10,y1,y2⟩:=HG8.out.push (v:= .pointer (some ⟨w1.heap.size,0,none⟩)) (gb:=gb2) (cap:=cap2) hown hgrow hat2
        have hR10:=hR8.other hb10
        have hF10:=hrf10 w hF8 (Nat.le_refl _)
        have hsg:=sign1_any b _ s 59 st2.bad _ hR10
        rw [hp8.out] at hsg
        have HSG:=hide hsg
        have hseg:Hid (st2.bad=false→ ∃f,SegC (fun v c a i=>ClF (KX b w.heap.size (.slice (some ⟨gb2,0,none⟩) (vs.length+1) cap2)) (w9.setCell ⟨w.heap.size,3,none⟩ (.slice (some ⟨gb2,0,none⟩) (vs.length+1) cap2)) st2.E st2.C f v c a i) (vs++[.pointer (some ⟨w1.heap.size,0,none⟩)]) (cls++[(⟨q2,0,⟨#[]⟩,-1⟩:Cl)]) st.E.length st2.E.length):=hide fun hb=>by
         obtain⟨f4,t4⟩:=HCL.out hb
         obtain⟨f0,t0⟩:=ht.out HBQ.out
         obtain⟨⟨F,hFE⟩,⟨G,hFC⟩,_,_⟩:=HX1.out
         have hFE:st2.E=sv.E++F:=hFE
         have hFC:st2.C=sv.C++G:=hFC
         have t1:=(trS _ _ _ _ _ _ _).rf t0 (.inl rfl) hF7
         have t2:=(trS _ _ _ _ _ _ _).old t1 ⟨hsame,hkx⟩
         have t3:=SegC.imp (fun _ _ _ _ q=>ClF.ups f4 (ClF.more F G q)) _ _ _ _ t2
         rw [←hFE,←hFC] at t3
         have t5:=(trF _ _ _ _ _ _ _).new t4 hG.out.lt (fun k e=>(hG.out.own.lt k e).2) ⟨hsame,hkx⟩
         have t6:=ClF.ups f0 t5
         rw [Nat.add_comm f4 f0] at t6
         exact⟨f0+f4,SegC.snoc _ _ _ _ _ _ _ t3 t6⟩
        have HG10:=hide hG10
        have hLN:Hid ((vs++[Value.pointer (some ⟨w1.heap.size,0,none⟩)]).length=(cls++[(⟨q2,0,⟨#[]⟩,-1⟩:Cl)]).length):=hide (by have:=hlen.out;simp;omega)
        have hX6:=hide (hX.out.trans HX1.out)
        clear hG10 hsame hkx hb10 hrf10 hown hgrow hat2 hlt2 hsg z1 z2 HG8 how8 hF8 HCL ht hG hX HX1 hlen
        go_wp2_with fail
        generalize w9.setCell ⟨w.heap.size,3,none⟩ (.slice (some ⟨gb2,0,none⟩) (vs.length+1) cap2)=W10 at*
        refine HSG.out.mono ?_
        rintro e w11 ⟨rfl,hR11,hs11⟩
        have HG11:=hide (HG10.out.rf hs11.rf)
        have hF11:=hF10.trans hs11.rf
        have hm2:=HM2.out
        clear HM2 HG10 hR10 HSG
        cases hc9:(pkS s st2==59)
        ·rw [hc9,if_neg (by decide)] at hm2
         have hcc9:(pk s st2.at_ st2.bad==((59:UInt8).toNat:Int))=false:=hc9
         rw [hcc9]
         have HM2:=hide hm2
         clear hm2 hc9 hcc9
         go_wp2_with fail
         go_roundg g
         case measure=>omega
         case rel=>
          refine⟨by omega,false,_,_,_,st2.at_,st2,rfl,hR11,?_,HG11,hF11,hLN,hX6,hide fun hb=> ?_,?_⟩
          ·exact hid8
          ·obtain⟨f,q⟩:=hseg.out hb
           exact⟨f,(trS _ _ _ _ _ _ _).rf q (.inl rfl) hs11.rf⟩
          ·show CdTo _ _ _ _ _ _ _ _ _
           unfold CdTo
           rw [if_neg (by decide)]
           exact⟨rfl,HM2.out⟩
        ·rw [hc9,if_pos rfl] at hm2
         have hcc9:(pk s st2.at_ st2.bad==((59:UInt8).toNat:Int))=true:=hc9
         rw [hcc9]
         have HM2:=hide hm2
         clear hm2 hc9 hcc9
         go_wp2_with fail
         refine(eat_any b st2.at_ s _ st2.bad _ hR11 (by decide)).mono ?_
         rintro e w12 ⟨rfl,hR12,hs12⟩
         go_wp2_with fail
         go_roundg g
         case measure=>omega
         case rel=>
          refine⟨by omega,true,_,_,_,_,sgn s [59] st2,rfl,hR12,rfl,hide (HG11.out.rf hs12.rf),hF11.trans hs12.rf,hLN,hX6,hide fun hb=> ?_,?_⟩
          ·have hb2:st2.bad=false:=by
            cases hq:st2.bad with
            |false=>rfl
            |true=>
             have h2:=(sgn_bad (s:=s) (c:=59) (cs:=[]) hq).1
             rw [h2] at hb
             cases hb
           obtain⟨f,q⟩:=hseg.out hb2
           exact⟨f,(trS _ _ _ _ _ _ _).rf ((trS _ _ _ _ _ _ _).rf q (.inl rfl) hs11.rf) (.inl rfl) hs12.rf⟩
          ·show CdTo _ _ _ _ _ _ _ _ _
           unfold CdTo
           rw [if_pos rfl]
           exact HM2.out
      ·have hcc:(pk s st1.at_ st1.bad==((45:UInt8).toNat:Int))=true:=hc
       rw [hcc]
       rw [hc] at h4
       obtain⟨⟨fm,nm,inn,st3⟩,h5,h6⟩:=Option.bind_eq_some_iff.1 h4
       have h6:=Option.some.inj h6
       simp only [Prod.mk.injEq] at h6
       obtain⟨_,rfl,rfl⟩:=h6
       have H5:=hide h5
       have hbg:Hid (st1.bad=false):=hide (pk_good hc (by omega)).1
       have hbg2:Hid (st2.bad=false):=hide (HEQ.out.1.trans hbg.out)
       have HXR:=hide (MRes_ext (MC_ext s _) h5)
       clear h4 h5
       have hR7':Rd w7 b s st2.at_ st2.bad:=by rw [HEQ.out.1,HEQ.out.2];exact hR7
       go_wp2_with fail
       refine(eat_any b st2.at_ s _ st2.bad _ hR7' (by decide)).mono ?_
       rintro e w8 ⟨rfl,hR8,hs8⟩
       have HG8:=hide (HG7.out.rf hs8.rf)
       have hF8:=hF7.trans hs8.rf
       have hz8:Hid (w1.heap.size<w8.heap.size):=hide HG8.out.lt
       go_wp2_with fail
       refine(result_step s g (IH.out.2 g (by omega)) b (sgn s [45,62] st2) w8 _ (fm,nm,inn,st3) H5.out hR8 rfl).mono ?_
       rintro e w13 ⟨ao13,p13,rfl,hR13,hF13,hp13,ht13⟩
       have HG13:=hide (HG8.out.rf hF13)
       obtain⟨z1,z2⟩:=HG13.out.cell
       have how13:=HG13.out.own
       have hlt13:=HG13.out.lt
       have HT13:=hide ht13
       have HP13:=hide hp13
       have hR13:Rd w13 b s p13 st3.bad:=hR13
       clear ht13 hp13
       go_wp2_with (at_builtin;go_must (refine wpList_append_lies _ rfl (.tmp 54) (.tmp 56) 136 rfl (w1.heap.size+1) 89 i0 _ 1 8 Tryz.underlying136 hi hz0 hz1 hz2 rfl (by omega) (.slice (some ⟨gb,0,none⟩) 1 cap) 1 [.pointer ao4] rfl (how13.alloc _) ⟨w13.heap.size,0,none⟩ 1 1 [.pointer ao13] rfl rfl ?newsB ?oneB (by omega) ?mmB ?bysB ?baseB (w13.heap.size+1) (by simp) ?restB))
       case newsB=>exact World.news_of_block (heap_alloc_new w13 _)
       case oneB=>intro u hu;simp at hu;subst hu;rfl
       case mmB=>unfold maxLen;omega
       case bysB=>omega
       case baseB=>simp;omega
       case restB=>
        intro gbB capB w14 hown hgrow hat2 hlt2
        obtain⟨hG15,hsame,hkx,hb15,hrf15,y1,y2⟩:=HG13.out.push (v:= .pointer ao13) (gb:=gbB) (cap:=capB) hown hgrow hat2
        have hR15:=hR13.other hb15
        have hF15:=hrf15 wr (hF8.trans hF13) (by have:=HZ1.out;omega)
        have HCL:Hid (st3.bad=false→ ∃f,ClF (Out b wr.heap.size) (w14.setCell ⟨w1.heap.size,3,none⟩ (.slice (some ⟨gbB,0,none⟩) 2 capB)) st3.E st3.C f (.pointer (some ⟨w1.heap.size,0,none⟩)) ⟨q2,fm,nm,inn⟩ sv.E.length st3.E.length):=hide fun hb=>by
         obtain⟨f4,i4,e4,l4,t4⟩:=HT7.out hbg.out
         have u4:=(trE _ _ _ _ _).rf ((trE _ _ _ _ _).rf t4 (.inl rfl) hs8.rf) (.inl rfl) hF13
         have u5:=(trE _ _ _ _ _).old u4 ⟨hsame,hkx⟩
         have u6:=(trE _ _ _ _ _).mono _ _ _ (fun k e=>KX_out k (by rw [HZ1.out];exact e)) u5
         have he:=HE.out
         obtain⟨⟨F,hFE⟩,_,_,_⟩:=HXR.out
         have hFE:st3.E=st2.E++F:=hFE
         have hE2:st2.E=st1.E++[⟨7,sv.at_,⟨#[]⟩,l1,-1⟩]:=by rw [he.2]
         have hnode:=HG13.out
         have hnd:NodeX (Out b wr.heap.size) (w14.setCell ⟨w1.heap.size,3,none⟩ (.slice (some ⟨gbB,0,none⟩) 2 capB)) (.pointer (some ⟨w1.heap.size,0,none⟩)) sIf ⟨#[]⟩ sv.at_ [.pointer ao4,.pointer ao13]:=hG15.node (by have:=HZ1.out;omega)
         have hx:st3.E[i4+1]?=some ⟨7,sv.at_,⟨#[]⟩,l1,-1⟩:=by
          rw [hFE,hE2,l4,List.append_assoc,List.getElem?_append_right (Nat.le_refl _)]
          simp
         have hE7: ∀f,RefEX (Out b wr.heap.size) (w14.setCell ⟨w1.heap.size,3,none⟩ (.slice (some ⟨gbB,0,none⟩) 2 capB)) st3.E (f4+f) (.pointer ao4) sv.E.length i4:=fun f=>by
          rw [hFE,hE2,List.append_assoc]
          exact(u6.ups f).more _
         have hq2:q2=((i4+1:Nat):Int):=by rw [he.1,l4]
         rcases HT13.out hb with⟨q1,q3,pp,q4⟩|⟨q1,f,ci,q3,q4⟩
         ·refine⟨f4+0,.pointer ao4,i4,_,hE7 0,hx,rfl,e4,hq2,.inr (.inl ⟨q1,.pointer ao13,pp,hnd,?_,?_⟩)⟩
          ·have v5:=(trN _ _ _ _ _).new q4 hz8.out (fun k e=>(HG8.out.own.lt k e).2) ⟨hsame,hkx⟩
           exact(trN _ _ _ _ _).mono _ _ _ (fun k e=>KX_out k (by rw [HZ1.out];exact e)) v5
          ·have q3:st3.E=st2.E:=q3
           rw [q3,hE2]
           simp
           omega
         ·refine⟨f4+f,.pointer ao4,i4,_,hE7 f,hx,rfl,e4,hq2,.inr (.inr ⟨q1,.pointer ao13,ci,q3,hnd,?_⟩)⟩
          have v5:=(trC _ _ _ _ _ _ _).new q4 hz8.out (fun k e=>(HG8.out.own.lt k e).2) ⟨hsame,hkx⟩
          have v6:=(trC _ _ _ _ _ _ _).mono _ _ _ (fun k e=>KX_out k (by rw [HZ1.out];exact e)) v5
          have hlen2:(sgn s [45,62] st2).E.length=i4+2:=by
           show st2.E.length=i4+2
           rw [hE2]
           simp
           omega
          rw [hlen2] at v6
          have v7:=v6.ups f4
          rw [Nat.add_comm f f4] at v7
          exact v7
        have hF7:=hF15
        have hR8:=hR15
        have hp8:Hid (skip s p13 st3.bad=st3.at_):=HP13
        have hid8:Hid (skip s st3.at_ st3.bad=st3.at_):=hide (by have h:=skip_idem s p13 st3.bad hR13.le;rw [show skip s p13 st3.bad=st3.at_ from HP13.out] at h;exact h)
        clear hG15 hsame hkx hb15 hrf15 hown hgrow hat2 hlt2 hF15 hR15 HG13 how13 HT13 HT7 HG7 HG8 hR7 hR7' hR13 hF13 hF8 hs8 z1 z2
        have HG8:=hide (hG.out.rf hF7)
        obtain⟨a5,k5,rfl⟩:=ownsRow_slc HG8.out.own
        obtain⟨z1,z2⟩:=HG8.out.cell
        have how8:=HG8.out.own
        have hlt8:=HG8.out.lt
        have hF8:=hF.trans hF7
        have hne1:w1.heap.size≠w.heap.size:=by have:=hG.out.lt;have:=HZ1.out;omega
        have hblk14:w14.heap[w.heap.size]?=(w14.setCell ⟨w1.heap.size,3,none⟩ (.slice (some ⟨gbB,0,none⟩) 2 capB)).heap[w.heap.size]?:=(Below.heap_setCell _ _ _ _ (by simpa using hne1.symm)).symm
        have hsz14:(w14.setCell ⟨w1.heap.size,3,none⟩ (.slice (some ⟨gbB,0,none⟩) 2 capB)).heap.size=w14.heap.size:=by simp [World.setCell]
        have hlt8:w.heap.size<w14.heap.size:=by rw [←hsz14];exact hlt8
        clear hsz14
        have hsz14:=hide (show(w14.setCell ⟨w1.heap.size,3,none⟩ (.slice (some ⟨gbB,0,none⟩) 2 capB)).heap.size=w14.heap.size by simp [World.setCell])
        have z1':=(World.cell?_of_block hblk14).trans z1
        have z2':=(World.frozen?_of_block hblk14).trans z2
        go_wp2_with (at_builtin;go_must (refine wpList_append_lies _ rfl (.tmp 64) (.tmp 66) 136 rfl (w.heap.size+1) 89 i0 _ 1 8 Tryz.underlying136 hi hz0 hz1 hz2 rfl (by omega) _ vs.length vs rfl (how8.alloc _) ⟨w14.heap.size,0,none⟩ 1 1 [.pointer (some ⟨w1.heap.size,0,none⟩)] rfl rfl ?newsC ?oneC (by omega) ?mmC ?bysC ?baseC (w14.heap.size+1) (by simp) ?restC))
        case newsC=>exact World.news_of_block (show((w14.setCell ⟨w1.heap.size,3,none⟩ (.slice (some ⟨gbB,0,none⟩) 2 capB)).alloc _).heap[w14.heap.size]?=_ by have h:=heap_alloc_new (w14.setCell ⟨w1.heap.size,3,none⟩ (.slice (some ⟨gbB,0,none⟩) 2 capB)) (.cells #[.pointer (some ⟨w1.heap.size,0,none⟩)] 89);rw [hsz14.out] at h;exact h)
        case oneC=>intro u hu;simp at hu;subst hu;rfl
        case mmC=>unfold maxLen;omega
        case bysC=>omega
        case baseC=>simp;omega
        case restC=>
         intro gb2 cap2 w9 hown hgrow hat2 hlt2
         obtain⟨hG10,hsame,hkx,hb10,hrf10,y1,y2⟩:=HG8.out.push (v:= .pointer (some ⟨w1.heap.size,0,none⟩)) (gb:=gb2) (cap:=cap2) hown hgrow (hat2.imp id fun e=>e.trans (by simp [World.setCell]))
         have hR10:=hR8.other hb10
         have hF10:=hrf10 w hF8 (Nat.le_refl _)
         have hsg:=sign1_any b _ s 59 st3.bad _ hR10
         rw [hp8.out] at hsg
         have HSG:=hide hsg
         have hseg:Hid (st3.bad=false→ ∃f,SegC (fun v c a i=>ClF (KX b w.heap.size (.slice (some ⟨gb2,0,none⟩) (vs.length+1) cap2)) (w9.setCell ⟨w.heap.size,3,none⟩ (.slice (some ⟨gb2,0,none⟩) (vs.length+1) cap2)) st3.E st3.C f v c a i) (vs++[.pointer (some ⟨w1.heap.size,0,none⟩)]) (cls++[(⟨q2,fm,nm,inn⟩:Cl)]) st.E.length st3.E.length):=hide fun hb=>by
          obtain⟨f4,t4⟩:=HCL.out hb
          obtain⟨f0,t0⟩:=ht.out HBQ.out
          obtain⟨⟨F,hFE⟩,⟨G,hFC⟩,_,_⟩:=HX1.out
          have hFE:st3.E=sv.E++F:=hFE
          have hFC:st3.C=sv.C++G:=hFC
          have t1:=(trS _ _ _ _ _ _ _).rf t0 (.inl rfl) hF7
          have t2:=(trS _ _ _ _ _ _ _).old t1 ⟨hsame,hkx⟩
          have t3:=SegC.imp (fun _ _ _ _ q=>ClF.ups f4 (ClF.more F G q)) _ _ _ _ t2
          rw [←hFE,←hFC] at t3
          have t5:=(trF _ _ _ _ _ _ _).new t4 hG.out.lt (fun k e=>(hG.out.own.lt k e).2) ⟨hsame,hkx⟩
          have t6:=ClF.ups f0 t5
          rw [Nat.add_comm f4 f0] at t6
          exact⟨f0+f4,SegC.snoc _ _ _ _ _ _ _ t3 t6⟩
         have HG10:=hide hG10
         have hLN:Hid ((vs++[Value.pointer (some ⟨w1.heap.size,0,none⟩)]).length=(cls++[(⟨q2,fm,nm,inn⟩:Cl)]).length):=hide (by have:=hlen.out;simp;omega)
         have hX6:=hide (hX.out.trans HX1.out)
         clear hG10 hsame hkx hb10 hrf10 hown hgrow hat2 hlt2 hsg z1 z2 HG8 how8 hF8 HCL ht hG hX HX1 hlen
         go_wp2_with fail
         generalize w9.setCell ⟨w.heap.size,3,none⟩ (.slice (some ⟨gb2,0,none⟩) (vs.length+1) cap2)=W10 at*
         refine HSG.out.mono ?_
         rintro e w11 ⟨rfl,hR11,hs11⟩
         have HG11:=hide (HG10.out.rf hs11.rf)
         have hF11:=hF10.trans hs11.rf
         have hm2:=HM2.out
         clear HM2 HG10 hR10 HSG
         cases hc9:(pkS s st3==59)
         ·rw [hc9,if_neg (by decide)] at hm2
          have hcc9:(pk s st3.at_ st3.bad==((59:UInt8).toNat:Int))=false:=hc9
          rw [hcc9]
          have HM2:=hide hm2
          clear hm2 hc9 hcc9
          go_wp2_with fail
          go_roundg g
          case measure=>omega
          case rel=>
           refine⟨by omega,false,_,_,_,st3.at_,st3,rfl,hR11,?_,HG11,hF11,hLN,hX6,hide fun hb=> ?_,?_⟩
           ·exact hid8
           ·obtain⟨f,q⟩:=hseg.out hb
            exact⟨f,(trS _ _ _ _ _ _ _).rf q (.inl rfl) hs11.rf⟩
           ·show CdTo _ _ _ _ _ _ _ _ _
            unfold CdTo
            rw [if_neg (by decide)]
            exact⟨rfl,HM2.out⟩
         ·rw [hc9,if_pos rfl] at hm2
          have hcc9:(pk s st3.at_ st3.bad==((59:UInt8).toNat:Int))=true:=hc9
          rw [hcc9]
          have HM2:=hide hm2
          clear hm2 hc9 hcc9
          go_wp2_with fail
          refine(eat_any b st3.at_ s _ st3.bad _ hR11 (by decide)).mono ?_
          rintro e w12 ⟨rfl,hR12,hs12⟩
          go_wp2_with fail
          go_roundg g
          case measure=>omega
          case rel=>
           refine⟨by omega,true,_,_,_,_,sgn s [59] st3,rfl,hR12,rfl,hide (HG11.out.rf hs12.rf),hF11.trans hs12.rf,hLN,hX6,hide fun hb=> ?_,?_⟩
           ·have hb2:st3.bad=false:=by
             cases hq:st3.bad with
             |false=>rfl
             |true=>
              have h2:=(sgn_bad (s:=s) (c:=59) (cs:=[]) hq).1
              rw [h2] at hb
              cases hb
            obtain⟨f,q⟩:=hseg.out hb2
            exact⟨f,(trS _ _ _ _ _ _ _).rf ((trS _ _ _ _ _ _ _).rf q (.inl rfl) hs11.rf) (.inl rfl) hs12.rf⟩
           ·show CdTo _ _ _ _ _ _ _ _ _
            unfold CdTo
            rw [if_pos rfl]
            exact HM2.out
end Go.Proofs.YtkoohcilbpdgeaaGreatDoor
