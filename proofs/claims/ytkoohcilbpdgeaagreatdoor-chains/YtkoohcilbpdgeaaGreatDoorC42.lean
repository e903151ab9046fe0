import Derived.Test.YtkoohcilbpdgeaaGreatDoorC41
set_option linter.all false
set_option linter.unusedVariables false
set_option linter.unusedSimpArgs false
set_option linter.unnecessarySimpa false
set_option linter.constructorNameAsVariable false
set_option linter.deprecated false
namespace Go.Proofs.YtkoohcilbpdgeaaGreatDoor
open Go Go.RowKit
def neM (names:List ByteArray)(ls:List Int):List As→Nat→Int→Int
 |[],_,b=>b
 |x::xs,i,b=>neM names ls xs (i+1) (if typeAtM ls i==0||plM x.by_ names 0== -1 then b else if b== -1||decide (typeAtM ls i<typeAtM ls b) then(i:Int) else b)
def rlnM (A:List As)(ln:Nat→List ByteArray)(qs:List ByteArray)(ls:List Int)(i:Nat):Int:=
 if(ln i).any fun nm=>plM nm qs 0 != -1 then 1 else if neM (ln i) ls A 0 (-1)== -1 then 0 else 1+typeAtM ls (neM (ln i) ls A 0 (-1))
def lgM (A:List As)(ln:Nat→List ByteArray)(qs:List ByteArray)(g ls:List Int):List Int:=(List.range A.length).map fun(i:Nat)=>if 0<typeAtM g (i:Int) then rlnM A ln qs ls i else 0
def rwM (A:List As)(ln:Nat→List ByteArray)(qs:List ByteArray)(g:List Int):Nat→List Int
 |0=>[]
 |r+1=>lgM A ln qs g (rwM A ln qs g r)
theorem rw_len (A:List As)(ln:Nat→List ByteArray)(qs:List ByteArray)(g:List Int)(r:Nat):(rwM A ln qs g (r+1)).length=A.length:=by unfold rwM lgM;simp
theorem lg_at (A:List As)(ln:Nat→List ByteArray)(qs:List ByteArray)(g ls:List Int)(i:Nat):typeAtM (lgM A ln qs g ls) (i:Int)=if i<A.length then(if 0<typeAtM g (i:Int) then rlnM A ln qs ls i else 0) else 0:=by
 rw [tA_nat]
 unfold lgM
 simp only [List.getD,List.getElem?_map]
 by_cases h:i<A.length
 ·rw [List.getElem?_range h,if_pos h];rfl
 ·rw [List.getElem?_eq_none (by simpa using h),if_neg h];rfl
def Cand (names:List ByteArray)(ls:List Int)(i:Nat)(x:As):Prop:=typeAtM ls (i:Int)≠0∧plM x.by_ names 0≠ -1
theorem ne_gen (names:List ByteArray)(ls:List Int): ∀(B:List As) (i:Nat) (b:Int),(b= -1∨0≤b)→
  (neM names ls B i b=b∧(∀(j:Nat) (x:As),B[j]?=some x→Cand names ls (i+j) x→b≠ -1∧typeAtM ls b≤typeAtM ls ((i+j:Nat):Int)))∨
  (∃(j:Nat) (x:As),B[j]?=some x∧neM names ls B i b=((i+j:Nat):Int)∧Cand names ls (i+j) x∧(b= -1∨typeAtM ls ((i+j:Nat):Int)≤typeAtM ls b)∧ ∀(k:Nat) (y:As),B[k]?=some y→Cand names ls (i+k) y→typeAtM ls ((i+j:Nat):Int)≤typeAtM ls ((i+k:Nat):Int)):=by
 intro B
 induction B with
 |nil=>intro i b _;exact .inl ⟨rfl,fun j x h=>by simp at h⟩
 |cons x B ih=>
  intro i b hb
  have e1:neM names ls (x::B) i b=neM names ls B (i+1) (if typeAtM ls i==0||plM x.by_ names 0== -1 then b else if b== -1||decide (typeAtM ls i<typeAtM ls b) then(i:Int) else b):=rfl
  rw [e1]
  by_cases hc:(typeAtM ls i==0||plM x.by_ names 0== -1)=true
  ·rw [if_pos hc]
   have hnc: ¬Cand names ls (i+0) x:=fun⟨q1,q2⟩=>by
    have q1:typeAtM ls (i:Int)≠0:=q1
    simp [q1,q2] at hc
   rcases ih (i+1) b hb with⟨h1,h2⟩|⟨j,y,h1,h2,h3,h4,h5⟩
   ·refine .inl ⟨h1,fun j y hj hcj=> ?_⟩
    cases j with
    |zero=>
     have e:x=y:=by simpa using hj
     subst e;exact absurd hcj hnc
    |succ j=>rw [show i+(j+1)=i+1+j by omega] at*;exact h2 j y (by simpa using hj) hcj
   ·refine .inr ⟨j+1,y,by simpa using h1,by rw [show i+(j+1)=i+1+j by omega];exact h2,by rw [show i+(j+1)=i+1+j by omega];exact h3,by rw [show i+(j+1)=i+1+j by omega];exact h4,fun k z hk hck=> ?_⟩
    rw [show i+(j+1)=i+1+j by omega]
    cases k with
    |zero=>
     have e:x=z:=by simpa using hk
     subst e;exact absurd hck hnc
    |succ k=>rw [show i+(k+1)=i+1+k by omega] at*;exact h5 k z (by simpa using hk) hck
  ·rw [if_neg hc]
   have hcd:Cand names ls (i+0) x:=by
    simp only [Bool.or_eq_true,not_or,beq_iff_eq] at hc
    exact hc
   by_cases hd:(b== -1||decide (typeAtM ls i<typeAtM ls b))=true
   ·rw [if_pos hd]
    have hd':b= -1∨typeAtM ls (i:Int)<typeAtM ls b:=by simpa using hd
    rcases ih (i+1) i (.inr (by omega)) with⟨h1,h2⟩|⟨j,y,h1,h2,h3,h4,h5⟩
    ·refine .inr ⟨0,x,rfl,h1,hcd,by rcases hd' with q|q;exact .inl q;exact .inr (by show typeAtM ls (i:Int)≤_;omega),fun k z hk hck=> ?_⟩
     cases k with
     |zero=>exact Int.le_refl _
     |succ k=>rw [show i+(k+1)=i+1+k by omega] at*;exact(h2 k z (by simpa using hk) hck).2
    ·refine .inr ⟨j+1,y,by simpa using h1,by rw [show i+(j+1)=i+1+j by omega];exact h2,by rw [show i+(j+1)=i+1+j by omega];exact h3,?_,fun k z hk hck=> ?_⟩
     ·rw [show i+(j+1)=i+1+j by omega]
      rcases hd' with q|q
      ·exact .inl q
      ·rcases h4 with q2|q2
       ·omega
       ·exact .inr (by omega)
     ·rw [show i+(j+1)=i+1+j by omega]
      cases k with
      |zero=>
       rcases h4 with q2|q2
       ·omega
       ·exact q2
      |succ k=>rw [show i+(k+1)=i+1+k by omega] at*;exact h5 k z (by simpa using hk) hck
   ·rw [if_neg hd]
    have hd':b≠ -1∧typeAtM ls b≤typeAtM ls (i:Int):=by
     simp only [Bool.or_eq_true,not_or,beq_iff_eq,decide_eq_true_eq] at hd
     exact⟨hd.1,by omega⟩
    rcases ih (i+1) b hb with⟨h1,h2⟩|⟨j,y,h1,h2,h3,h4,h5⟩
    ·refine .inl ⟨h1,fun j y hj hcj=> ?_⟩
     cases j with
     |zero=>exact hd'
     |succ j=>rw [show i+(j+1)=i+1+j by omega] at*;exact h2 j y (by simpa using hj) hcj
    ·refine .inr ⟨j+1,y,by simpa using h1,by rw [show i+(j+1)=i+1+j by omega];exact h2,by rw [show i+(j+1)=i+1+j by omega];exact h3,by rw [show i+(j+1)=i+1+j by omega];exact h4,fun k z hk hck=> ?_⟩
     rw [show i+(j+1)=i+1+j by omega]
     cases k with
     |zero=>
      rcases h4 with q2|q2
      ·exact absurd q2 hd'.1
      ·show _≤typeAtM ls (i:Int);omega
     |succ k=>rw [show i+(k+1)=i+1+k by omega] at*;exact h5 k z (by simpa using hk) hck
theorem ne_spec (names:List ByteArray)(ls:List Int)(A:List As):
  (neM names ls A 0 (-1)= -1∧ ∀(j:Nat) (x:As),A[j]?=some x→ ¬Cand names ls j x)∨
  (∃(j:Nat) (x:As),A[j]?=some x∧neM names ls A 0 (-1)=(j:Int)∧Cand names ls j x∧ ∀(k:Nat) (y:As),A[k]?=some y→Cand names ls k y→typeAtM ls (j:Int)≤typeAtM ls (k:Int)):=by
 rcases ne_gen names ls A 0 (-1) (.inl rfl) with⟨h1,h2⟩|⟨j,x,h1,h2,h3,_,h5⟩
 ·exact .inl ⟨h1,fun j x hj hc=>(h2 j x hj (by simpa using hc)).1 rfl⟩
 ·exact .inr ⟨j,x,h1,by simpa using h2,by simpa using h3,fun k y hk hc=>by simpa using h5 k y hk (by simpa using hc)⟩
section
variable {A:List As} {ln:Nat→List ByteArray} {qs:List ByteArray} {g:List Int}
theorem rw_bound: ∀(r:Nat) (i:Nat),0≤typeAtM (rwM A ln qs g r) (i:Int)∧typeAtM (rwM A ln qs g r) (i:Int)≤r:=by
 intro r
 induction r with
 |zero=>intro i;unfold rwM;rw [tA_nil];omega
 |succ r ih=>
  intro i
  unfold rwM
  rw [lg_at]
  split
  ·split
   ·unfold rlnM
    split
    ·omega
    ·split
     ·omega
     ·rename_i h
      rcases ne_spec (ln i) (rwM A ln qs g r) A with⟨e,_⟩|⟨j,x,_,e,_,_⟩
      ·rw [e] at h;exact absurd rfl h
      ·rw [e];have:=ih j;omega
   ·omega
  ·omega
theorem rw_given {r i:Nat}(h:typeAtM (rwM A ln qs g r) (i:Int)≠0):i<A.length∧0<typeAtM g (i:Int):=by
 cases r with
 |zero=>unfold rwM at h;rw [tA_nil] at h;exact absurd rfl h
 |succ r=>
  unfold rwM at h
  rw [lg_at] at h
  split at h
  ·split at h
   ·exact⟨‹_›,‹_›⟩
   ·exact absurd rfl h
  ·exact absurd rfl h
theorem ne_next {r:Nat}(hC: ∀i:Nat,(typeAtM (rwM A ln qs g r) (i:Int)≠0→typeAtM (rwM A ln qs g (r+1)) (i:Int)=typeAtM (rwM A ln qs g r) (i:Int))∧(typeAtM (rwM A ln qs g r) (i:Int)=0→typeAtM (rwM A ln qs g (r+1)) (i:Int)=0∨typeAtM (rwM A ln qs g (r+1)) (i:Int)=((r+1:Nat):Int)))(names:List ByteArray):
  (∀(j:Nat) (x:As),A[j]?=some x→ ¬Cand names (rwM A ln qs g r) j x)∧(neM names (rwM A ln qs g (r+1)) A 0 (-1)= -1∨ ∃j:Nat,neM names (rwM A ln qs g (r+1)) A 0 (-1)=(j:Int)∧typeAtM (rwM A ln qs g (r+1)) (j:Int)=((r+1:Nat):Int))∧neM names (rwM A ln qs g r) A 0 (-1)= -1∨
  (∃(f f':Nat) (y:As),neM names (rwM A ln qs g r) A 0 (-1)=(f:Int)∧neM names (rwM A ln qs g (r+1)) A 0 (-1)=(f':Int)∧A[f']?=some y∧plM y.by_ names 0≠ -1∧typeAtM (rwM A ln qs g r) (f:Int)≠0∧typeAtM (rwM A ln qs g (r+1)) (f':Int)=typeAtM (rwM A ln qs g r) (f:Int)):=by
 rcases ne_spec names (rwM A ln qs g r) A with⟨e,h⟩|⟨f,x,hf,e,hc,hmin⟩
 ·refine .inl ⟨h,?_,e⟩
  rcases ne_spec names (rwM A ln qs g (r+1)) A with⟨e2,_⟩|⟨f',y,hf',e2,hc2,_⟩
  ·exact .inl e2
  ·refine .inr ⟨f',e2,?_⟩
   have h0:typeAtM (rwM A ln qs g r) (f':Int)=0:=by
    by_cases q:typeAtM (rwM A ln qs g r) (f':Int)=0
    ·exact q
    ·exact absurd ⟨q,hc2.2⟩ (h f' y hf')
   rcases(hC f').2 h0 with q|q
   ·exact absurd q hc2.1
   ·exact q
 ·refine .inr ?_
  have hf1:=(hC f).1 hc.1
  have hcf:Cand names (rwM A ln qs g (r+1)) f x:=⟨by rw [hf1];exact hc.1,hc.2⟩
  rcases ne_spec names (rwM A ln qs g (r+1)) A with⟨_,h⟩|⟨f',y,hf',e2,hc2,hmin2⟩
  ·exact absurd hcf (h f x hf)
  ·refine⟨f,f',y,e,e2,hf',hc2.2,hc.1,?_⟩
   have h1:=hmin2 f x hf hcf
   by_cases q:typeAtM (rwM A ln qs g r) (f':Int)=0
   ·rcases(hC f').2 q with q2|q2
    ·exact absurd q2 hc2.1
    ·have:=(rw_bound (A:=A) (ln:=ln) (qs:=qs) (g:=g) r f).2
     omega
   ·have h2:=hmin f' y hf' ⟨q,hc2.2⟩
    have:=(hC f').1 q
    omega
theorem rw_still: ∀(r:Nat) (i:Nat),(typeAtM (rwM A ln qs g r) (i:Int)≠0→typeAtM (rwM A ln qs g (r+1)) (i:Int)=typeAtM (rwM A ln qs g r) (i:Int))∧(typeAtM (rwM A ln qs g r) (i:Int)=0→typeAtM (rwM A ln qs g (r+1)) (i:Int)=0∨typeAtM (rwM A ln qs g (r+1)) (i:Int)=((r+1:Nat):Int)):=by
 intro r
 induction r with
 |zero=>
  intro i
  refine⟨fun h=> ?_,fun _=> ?_⟩
  ·unfold rwM at h;rw [tA_nil] at h;exact absurd rfl h
  ·have h1:=rw_bound (A:=A) (ln:=ln) (qs:=qs) (g:=g) 1 i
   show typeAtM (rwM A ln qs g 1) (i:Int)=0∨typeAtM (rwM A ln qs g 1) (i:Int)=((0+1:Nat):Int)
   omega
 |succ r ih=>
  intro i
  have e1:typeAtM (rwM A ln qs g (r+1)) (i:Int)=if i<A.length then(if 0<typeAtM g (i:Int) then rlnM A ln qs (rwM A ln qs g r) i else 0) else 0:=lg_at ..
  have e2:typeAtM (rwM A ln qs g (r+1+1)) (i:Int)=if i<A.length then(if 0<typeAtM g (i:Int) then rlnM A ln qs (rwM A ln qs g (r+1)) i else 0) else 0:=lg_at ..
  rw [e1,e2]
  by_cases hi:i<A.length
  ·rw [if_pos hi,if_pos hi]
   by_cases hg:0<typeAtM g (i:Int)
   ·rw [if_pos hg,if_pos hg]
    unfold rlnM
    by_cases hr:((ln i).any fun nm=>plM nm qs 0 != -1)=true
    ·rw [if_pos hr,if_pos hr]
     exact⟨fun _=>rfl,fun h=>by omega⟩
    ·rw [if_neg hr,if_neg hr]
     rcases ne_next ih (ln i) with⟨_,h2,h3⟩|⟨f,f',y,h1,h2,h3,h4,h5,h6⟩
     ·rw [if_pos (by rw [h3];rfl)]
      refine⟨fun h=>absurd rfl h,fun _=> ?_⟩
      rcases h2 with q|⟨j,q1,q2⟩
      ·rw [if_pos (by rw [q];rfl)];exact .inl rfl
      ·rw [if_neg (by rw [q1];simp),q1,q2];right;omega
     ·rw [if_neg (by rw [h1];simp),if_neg (by rw [h2];simp),h1,h2,h6]
      have:=rw_bound (A:=A) (ln:=ln) (qs:=qs) (g:=g) r f
      exact⟨fun _=>rfl,fun h=>by omega⟩
   ·rw [if_neg hg,if_neg hg];exact⟨fun h=>absurd rfl h,fun _=> .inl rfl⟩
  ·rw [if_neg hi,if_neg hi];exact⟨fun h=>absurd rfl h,fun _=> .inl rfl⟩
theorem rw_step {r i:Nat}{m:Int}(hm:typeAtM (rwM A ln qs g r) (i:Int)=m)(h0:m≠0):
  (m=1∧((ln i).any fun nm=>plM nm qs 0 != -1)=true)∨(2≤m∧ ∃(f:Nat) (y:As),neM (ln i) (rwM A ln qs g r) A 0 (-1)=(f:Int)∧A[f]?=some y∧plM y.by_ (ln i) 0≠ -1∧typeAtM (rwM A ln qs g r) (f:Int)=m - 1):=by
 obtain⟨hi,hg⟩:=rw_given (r:=r) (by rw [hm];exact h0)
 cases r with
 |zero=>unfold rwM at hm;rw [tA_nil] at hm;exact absurd hm.symm h0
 |succ r=>
  have e1:typeAtM (rwM A ln qs g (r+1)) (i:Int)=if i<A.length then(if 0<typeAtM g (i:Int) then rlnM A ln qs (rwM A ln qs g r) i else 0) else 0:=lg_at ..
  rw [if_pos hi,if_pos hg] at e1
  unfold rlnM at e1
  by_cases hr:((ln i).any fun nm=>plM nm qs 0 != -1)=true
  ·rw [if_pos hr] at e1
   exact .inl ⟨by omega,hr⟩
  ·rw [if_neg hr] at e1
   rcases ne_next (rw_still r) (ln i) with⟨_,_,h3⟩|⟨f,f',y,h1,h2,h3,h4,h5,h6⟩
   ·rw [if_pos (by rw [h3];rfl)] at e1;exact absurd (hm.symm.trans e1) h0
   ·rw [if_neg (by rw [h1];simp),h1] at e1
    have:=rw_bound (A:=A) (ln:=ln) (qs:=qs) (g:=g) r f
    exact .inr ⟨by omega,f',y,h2,h3,h4,by omega⟩
def rowS (A:List As)(ln:Nat→List ByteArray)(ls:List Int):Nat→Int→List Int
 |0,_=>[]
 |k+1,nx=>nx::rowS A ln ls k (neM (if nx<0 then [] else ln nx.toNat) ls A 0 (-1))
def Row (A:List As)(ln:Nat→List ByteArray)(qs:List ByteArray)(g ls:List Int):Int→List Int→Prop
 |_,[]=>False
 |m,[k]=>m=1∧ ∃(i:Nat) (x:As),k=(i:Int)∧A[i]?=some x∧0<typeAtM g (i:Int)∧typeAtM ls (i:Int)=m∧((ln i).any fun nm=>plM nm qs 0 != -1)=true
 |m,k::k2::ks=> ∃(i j:Nat) (x y:As),k=(i:Int)∧k2=(j:Int)∧A[i]?=some x∧0<typeAtM g (i:Int)∧typeAtM ls (i:Int)=m∧A[j]?=some y∧plM y.by_ (ln i) 0≠ -1∧Row A ln qs g ls (m - 1) (k2::ks)
theorem row_is {r:Nat}: ∀(k i:Nat),typeAtM (rwM A ln qs g r) (i:Int)=((k+1:Nat):Int)→Row A ln qs g (rwM A ln qs g r) ((k+1:Nat):Int) (rowS A ln (rwM A ln qs g r) (k+1) i):=by
 intro k
 induction k with
 |zero=>
  intro i h
  obtain⟨hi,hg⟩:=rw_given (r:=r) (i:=i) (by rw [h];omega)
  rcases rw_step h (by omega) with⟨_,h2⟩|⟨h2,_⟩
  ·exact⟨rfl,i,_,rfl,List.getElem?_eq_getElem hi,hg,h,h2⟩
  ·omega
 |succ k ih=>
  intro i h
  obtain⟨hi,hg⟩:=rw_given (r:=r) (i:=i) (by rw [h];omega)
  rcases rw_step h (by omega) with⟨h1,_⟩|⟨_,f,y,h2,h3,h4,h5⟩
  ·omega
  ·have h6:=ih f (by rw [h5];omega)
   have e:rowS A ln (rwM A ln qs g r) (k+1+1) i=(i:Int)::rowS A ln (rwM A ln qs g r) (k+1) f:=by
    show(i:Int)::rowS A ln _ (k+1) (neM (if(i:Int)<0 then [] else ln (i:Int).toNat) _ A 0 (-1))=_
    rw [if_neg (by omega),Int.toNat_natCast,h2]
   rw [e]
   have e2: ∃t,rowS A ln (rwM A ln qs g r) (k+1) f=(f:Int)::t:=⟨_,rfl⟩
   obtain⟨t,e2⟩:=e2
   rw [e2] at h6 ⊢
   exact⟨i,f,_,y,rfl,rfl,List.getElem?_eq_getElem hi,hg,h,h3,h4,by rw [show(((k+1+1:Nat):Int)- 1)=((k+1:Nat):Int) by omega];exact h6⟩
theorem row_mem {ls:List Int}: ∀(ks:List Int) (m:Int),Row A ln qs g ls m ks→ ∀k∈ks,∃(i:Nat) (x:As),k=(i:Int)∧A[i]?=some x∧0<typeAtM g (i:Int)∧typeAtM ls k≤m:=by
 intro ks
 induction ks with
 |nil=>intro m h;exact absurd h id
 |cons k ks ih=>
  intro m h q hq
  cases ks with
  |nil=>
   obtain⟨_,i,x,rfl,h1,h2,h3,_⟩:=h
   have e:q=(i:Int):=by simpa using hq
   subst e
   exact⟨i,x,rfl,h1,h2,by omega⟩
  |cons k2 ks=>
   obtain⟨i,j,x,y,rfl,rfl,h1,h2,h3,h4,h5,h6⟩:=h
   rcases List.mem_cons.1 hq with e|e
   ·subst e;exact⟨i,x,rfl,h1,h2,by omega⟩
   ·obtain⟨i',x',z1,z2,z3,z4⟩:=ih (m - 1) h6 q e
    exact⟨i',x',z1,z2,z3,by omega⟩
theorem row_head {ls:List Int}{k m:Int}{ks:List Int}(h:Row A ln qs g ls m (k::ks)):typeAtM ls k=m:=by
 cases ks with
 |nil=>obtain⟨_,i,x,rfl,_,_,h3,_⟩:=h;exact h3
 |cons k2 ks=>obtain⟨i,j,x,y,rfl,_,_,_,h3,_⟩:=h;exact h3
theorem row_two {ls:List Int}: ∀(ks:List Int) (m:Int),Row A ln qs g ls m ks→ ∀(t t':Nat) (k:Int),t'<t→ks[t]?=some k→ks[t']?≠some k:=by
 intro ks
 induction ks with
 |nil=>intro m h;exact absurd h id
 |cons k ks ih=>
  intro m h t t' q ht h1 h2
  cases t with
  |zero=>omega
  |succ t=>
   have h1:ks[t]?=some q:=by simpa using h1
   cases ks with
   |nil=>simp at h1
   |cons k2 ks=>
    have hh:=row_head h
    obtain⟨i,j,x,y,rfl,rfl,_,_,_,_,_,h6⟩:=h
    cases t' with
    |zero=>
     have e:(i:Int)=q:=by simpa using h2
     obtain⟨_,_,_,_,_,hle⟩:=row_mem _ _ h6 q (List.mem_of_getElem? h1)
     rw [e] at hh
     omega
    |succ t'=>exact ih (m - 1) h6 t t' q (by omega) h1 (by simpa using h2)
theorem row_adj {ls:List Int}: ∀(ks:List Int) (m:Int),Row A ln qs g ls m ks→ ∀(t:Nat) (k k':Int),ks[t]?=some k→ks[t+1]?=some k'→ ∃(i j:Nat) (y:As),k=(i:Int)∧k'=(j:Int)∧A[j]?=some y∧plM y.by_ (ln i) 0≠ -1:=by
 intro ks
 induction ks with
 |nil=>intro m h;exact absurd h id
 |cons k ks ih=>
  intro m h t q q' h1 h2
  cases ks with
  |nil=>simp at h2
  |cons k2 ks=>
   obtain⟨i,j,x,y,rfl,rfl,_,_,_,z4,z5,h6⟩:=h
   cases t with
   |zero=>
    have e1:(i:Int)=q:=by simpa using h1
    have e2:(j:Int)=q':=by simpa using h2
    exact⟨i,j,y,e1.symm,e2.symm,z4,z5⟩
   |succ t=>exact ih (m - 1) h6 t q q' (by simpa using h1) (by simpa using h2)
theorem row_last {ls:List Int}: ∀(ks:List Int) (m:Int),Row A ln qs g ls m ks→ ∀k,ks.getLast?=some k→ ∃i:Nat,k=(i:Int)∧((ln i).any fun nm=>plM nm qs 0 != -1)=true:=by
 intro ks
 induction ks with
 |nil=>intro m h;exact absurd h id
 |cons k ks ih=>
  intro m h q hq
  cases ks with
  |nil=>
   obtain⟨_,i,x,rfl,_,_,_,h4⟩:=h
   have e:(i:Int)=q:=by simpa using hq
   exact⟨i,e.symm,h4⟩
  |cons k2 ks=>
   obtain⟨i,j,x,y,rfl,rfl,_,_,_,_,_,h6⟩:=h
   exact ih (m - 1) h6 q (by simpa using hq)
end
def nameOf (x:Lc):Option ByteArray:=if x.form==0 then some x.text else none
def nmsR (L:List Lc)(a e:Nat):List ByteArray:=((L.take e).drop a).filterMap nameOf
theorem nmsR_mem {L:List Lc}{a e:Nat}{nm:ByteArray}:nm∈nmsR L a e↔ ∃(j:Nat) (x:Lc),a≤j∧j<e∧L[j]?=some x∧x.form=0∧x.text=nm:=by
 unfold nmsR
 rw [List.mem_filterMap]
 constructor
 ·rintro⟨x,hx,hn⟩
  obtain⟨j,hj⟩:=List.mem_iff_getElem?.1 hx
  rw [List.getElem?_drop] at hj
  obtain⟨hl,he⟩:=List.getElem?_eq_some_iff.1 hj
  have hlt:a+j<e:=by rw [List.length_take] at hl;omega
  rw [List.getElem?_take_of_lt hlt] at hj
  unfold nameOf at hn
  split at hn
  ·rename_i hf
   exact⟨a+j,x,by omega,hlt,hj,by simpa using hf,by simpa using hn⟩
  ·cases hn
 ·rintro⟨j,x,h1,h2,h3,h4,rfl⟩
  refine⟨x,List.mem_iff_getElem?.2 ⟨j - a,?_⟩,by unfold nameOf;rw [h4];rfl⟩
  rw [List.getElem?_drop,show a+(j - a)=j by omega,List.getElem?_take_of_lt h2]
  exact h3
theorem nmsR_snoc {L:List Lc}{a e:Nat}{x:Lc}(h:L[e]?=some x)(ha:a≤e):nmsR L a (e+1)=nmsR L a e++(nameOf x).toList:=by
 unfold nmsR
 have hl:=(List.getElem?_eq_some_iff.1 h).1
 rw [List.take_add_one,h,List.drop_append_of_le_length (by rw [List.length_take];omega),List.filterMap_append]
 congr 1
 first|done|(show List.filterMap nameOf [x]=_;cases hq:nameOf x<;>simp [List.filterMap,hq])
def licFrom (A:List As)(i:Nat):Int:=if i=0 then 0 else(A.getD (i - 1) ⟨⟨#[]⟩,0,0⟩).to_+1
def lnM (A:List As)(L:List Lc)(i:Nat):List ByteArray:=match A[i]? with
 |some x=>nmsR L (licFrom A i).toNat (x.to_+1).toNat
 |none=>[]
def Tos (A:List As)(L:List Lc):Prop:= ∀(i:Nat) (x:As),A[i]?=some x→ ∃a t:Nat,licFrom A i=(a:Int)∧x.to_=(t:Int)∧a≤t∧t<L.length
theorem segA_tos {X:Nat→Prop}{w:World}{L:List Lc}{E:List Ex}{C:List (List Cl)}{f:Nat}: ∀(ps:List PP) (xs:List As) (a b e g:Nat),SegA (fun p x a b e g=>AsX X w L E C f p x a b e g) ps xs a b e g→a≤e∧ ∀(i:Nat) (x:As) (p:PP),xs[i]?=some x→ps[i]?=some p→ ∃a' t:Nat,(if i=0 then(a:Int) else(xs.getD (i - 1) ⟨⟨#[]⟩,0,0⟩).to_+1)=(a':Int)∧x.to_=(t:Int)∧a'≤t∧t<e∧RefLX X w L f (.pointer p.1) a' t:=by
 intro ps
 induction ps with
 |nil=>
  intro xs a b e g h
  cases xs with
  |nil=>obtain⟨rfl,_⟩:=h;exact⟨Nat.le_refl _,fun i x p h=>by simp at h⟩
  |cons c cs=>exact absurd h id
 |cons u ps ih=>
  intro xs a b e g h
  cases xs with
  |nil=>exact absurd h id
  |cons x xs=>
   obtain⟨m,n,⟨i,ci,q1,_,q3,q4,_⟩,h3⟩:=h
   have hle:=refL_le q4
   obtain⟨r1,r2⟩:=ih xs m n e g h3
   refine⟨by omega,fun k y p hk hp=> ?_⟩
   cases k with
   |zero=>
    have e1:x=y:=by simpa using hk
    have e2:u=p:=by simpa using hp
    subst e1 e2
    exact⟨a,i,rfl,q1,hle,by omega,q4⟩
   |succ k=>
    obtain⟨a',t,z1,z2,z3,z4,z5⟩:=r2 k y p (by simpa using hk) (by simpa using hp)
    refine⟨a',t,?_,z2,z3,z4,z5⟩
    rw [if_neg (by omega)]
    cases k with
    |zero=>
     rw [if_pos rfl] at z1
     show x.to_+1=_
     rw [q1];omega
    |succ k=>
     rw [if_neg (by omega)] at z1
     exact z1
theorem lic_pos {X:Nat→Prop}{w:World}{L:List Lc}(hcnt: ∀x∈L,x.form=2→1≤x.count)(sg:ByteArray→Int)(top:Nat): ∀(f:Nat) (v:Value) (a i:Nat),RefLX X w L f v a i→1≤typeAtM (lcsM sg top L []) (i:Int)→ ∃nm∈nmsR L a (i+1),1≤sg nm:=by
 have up: ∀{a a' i i':Nat},a≤a'→i'≤i→(∃nm∈nmsR L a' (i'+1),1≤sg nm)→ ∃nm∈nmsR L a (i+1),1≤sg nm:=by
  intro a a' i i' h1 h2 ⟨nm,h3,h4⟩
  obtain⟨j,x,q1,q2,q3,q4,q5⟩:=nmsR_mem.1 h3
  exact⟨nm,nmsR_mem.2 ⟨j,x,by omega,by omega,q3,q4,q5⟩,h4⟩
 intro f
 induction f with
 |zero=>intro v a i h;exact absurd h id
 |succ f ih=>
  intro v a i ⟨x,hx,h⟩ h0
  obtain⟨hat,hpre⟩:=lcs_at sg top hx
  rw [hat] at h0
  unfold llM at h0
  rcases h with⟨h1,h2,p,h3⟩|⟨h1,v1,v2,j,k,p,h2,h3,h4,h8,h5,h6,h7⟩|⟨h1,vs,c,h2,h3,h4,h5,h6⟩
  ·rw [h1] at h0
   exact⟨x.text,nmsR_mem.2 ⟨i,x,by omega,by omega,hx,h1,rfl⟩,by simpa using h0⟩
  ·have hj:=refL_le h6
   have hk:=refL_le h7
   have e1:=hpre j (by omega)
   have e2:=hpre k (by omega)
   rw [h1,h3,h4,e1,e2] at h0
   have hor:1≤typeAtM (lcsM sg top L []) (j:Int)∨1≤typeAtM (lcsM sg top L []) (k:Int):=by
    have h0:(1:Int)≤if x.text.toList==[38,38] then lowM (typeAtM (lcsM sg top L []) (j:Int)) (typeAtM (lcsM sg top L []) (k:Int)) else higM (typeAtM (lcsM sg top L []) (j:Int)) (typeAtM (lcsM sg top L []) (k:Int)):=h0
    split at h0
    ·exact .inl (lowM_ge.1 h0).1
    ·exact higM_ge.1 h0
   rcases hor with q|q
   ·exact up (by omega) (by omega) (ih v1 a j h6 q)
   ·exact up (by omega) (by omega) (ih v2 (j+1) k h7 q)
  ·rw [h1] at h0
   have h0:((1:Nat):Int)≤cdM (lcsM sg top (L.take i) []) x.items x.count top:=h0
   have hc:=(cdM_ge _ _ _ (by omega) top).1 h0
   have hc1:=hcnt x (List.mem_of_getElem? hx) h1
   obtain⟨r1,r2,r3⟩:=segL_all _ _ _ _ h6
   have hex: ∃it∈x.items,1≤typeAtM (lcsM sg top (L.take i) []) it:=by
    by_cases hq: ∃it∈x.items,1≤typeAtM (lcsM sg top (L.take i) []) it
    ·exact hq
    ·exfalso
     have:cntM (lcsM sg top (L.take i) []) ((1:Nat):Int) x.items 0=0:=by
      rw [cntM_V]
      refine cntV_zero _ fun y hy hl=> ?_
      obtain⟨it,hi,rfl⟩:=List.mem_map.1 hy
      exact hq ⟨it,hi,hl⟩
     omega
   obtain⟨it,hi,hv⟩:=hex
   obtain⟨n,hn⟩:=List.mem_iff_getElem?.1 hi
   have hlen:=SegV.length _ _ _ _ h6
   have hnl:=(List.getElem?_eq_some_iff.1 hn).1
   obtain⟨j',e1,hj'⟩:=r2 it hi
   rw [e1,hpre j' hj'] at hv
   have gen: ∀(vs:List Value) (is:List Int) (a e:Nat),SegV (fun v a i=>RefLX X w L f v a i) vs is a e→ ∀it∈is,∃(v:Value) (a' j:Nat),it=(j:Int)∧a≤a'∧j<e∧RefLX X w L f v a' j:=by
    intro vs
    induction vs with
    |nil=>
     intro is a e h it hi
     cases is with
     |nil=>cases hi
     |cons i is=>exact absurd h id
    |cons v vs ih2=>
     intro is a e h it hi
     cases is with
     |nil=>exact absurd h id
     |cons i is=>
      obtain⟨j,q1,q2,q3⟩:=h
      have hle:=refL_le q2
      have hle2:=(segL_all _ _ _ _ q3).1
      rcases List.mem_cons.1 hi with e|e
      ·exact⟨v,a,j,by rw [e,q1],by omega,by omega,q2⟩
      ·obtain⟨v',a',j',z1,z2,z3,z4⟩:=ih2 is _ _ q3 it e
       exact⟨v',a',j',z1,by omega,z3,z4⟩
   obtain⟨v',a',j2,z1,z2,z3,z4⟩:=gen _ _ _ _ h6 it hi
   have:j2=j':=by omega
   subst this
   exact up z2 (by omega) (ih v' a' j2 z4 hv)
def PosL (A:List As)(L:List Lc)(top:Nat):Prop:= ∀(sg:ByteArray→Int) (i:Nat) (x:As),A[i]?=some x→1≤typeAtM (lcsM sg top L []) x.to_→ ∃nm∈lnM A L i,1≤sg nm
theorem lnM_mem {A:List As}{L:List Lc}{i:Nat}{x:As}(hx:A[i]?=some x){a t:Nat}(h1:licFrom A i=(a:Int))(h2:x.to_=(t:Int)):lnM A L i=nmsR L a (t+1):=by
 unfold lnM
 rw [hx]
 show nmsR L (licFrom A i).toNat (x.to_+1).toNat=_
 rw [h1,h2]
 congr 1
theorem segA_pos {X:Nat→Prop}{w:World}{L:List Lc}{E:List Ex}{C:List (List Cl)}{f:Nat}{ps:List PP}{A:List As}(hcnt: ∀x∈L,x.form=2→1≤x.count)(top:Nat)(h:SegA (fun p x a b e g=>AsX X w L E C f p x a b e g) ps A 0 0 L.length E.length):PosL A L top∧Tos A L:=by
 have hl:=SegA.len _ _ _ _ _ _ h
 have hh:=(segA_tos ps A 0 0 _ _ h).2
 have tr: ∀(i:Nat) (x:As),A[i]?=some x→ ∃(p:PP) (a t:Nat),licFrom A i=(a:Int)∧x.to_=(t:Int)∧a≤t∧t<L.length∧RefLX X w L f (.pointer p.1) a t:=fun i x hx=>by
  have hi:=(List.getElem?_eq_some_iff.1 hx).1
  obtain⟨a,t,z1,z2,z3,z4,z5⟩:=hh i x (ps[i]'(by omega)) hx (List.getElem?_eq_getElem _)
  exact⟨_,a,t,z1,z2,z3,z4,z5⟩
 refine⟨fun sg i x hx h1=> ?_,fun i x hx=> ?_⟩
 ·obtain⟨p,a,t,z1,z2,z3,z4,z5⟩:=tr i x hx
  rw [lnM_mem hx z1 z2]
  rw [z2] at h1
  exact lic_pos hcnt sg top f _ a t z5 h1
 ·obtain⟨p,a,t,z1,z2,z3,z4,z5⟩:=tr i x hx
  exact⟨a,t,z1,z2,z3,z4⟩
theorem plM_mem {nm:ByteArray}: ∀(l:List ByteArray) (i:Nat),nm∈l→plM nm l i≠ -1:=by
 intro l
 induction l with
 |nil=>intro i h;cases h
 |cons x l ih=>
  intro i h
  unfold plM
  split
  ·omega
  ·rename_i hq
   rcases List.mem_cons.1 h with e|e
   ·exact absurd (by simp [e]) hq
   ·exact ih (i+1) e
theorem mem_plM {nm:ByteArray}: ∀(l:List ByteArray) (i:Nat),plM nm l i≠ -1→nm∈l:=by
 intro l
 induction l with
 |nil=>intro i h;exact absurd rfl h
 |cons x l ih=>
  intro i h
  unfold plM at h
  split at h
  ·rename_i hq
   have e:x=nm:=toList_inj (by simpa using hq)
   exact e▸List.mem_cons_self
  ·exact List.mem_cons_of_mem _ (ih _ h)
theorem gv_rw {A:List As}{L:List Lc}{qs:List ByteArray}{top:Nat}{W:List Int}(hp:PosL A L top): ∀r,r≤A.length→ ∀(i:Nat) (x:As),A[i]?=some x→1≤typeAtM (gvM A L qs top W r) (i:Int)→typeAtM (rwM A (lnM A L) qs (gvM A L qs top W A.length) r) (i:Int)≠0:=by
 intro r
 induction r with
 |zero=>intro _ i x _ h;unfold gvM at h;rw [tA_nil] at h;omega
 |succ r ih=>
  intro hr i x hx h
  have hi:=(List.getElem?_eq_some_iff.1 hx).1
  have hg:0<typeAtM (gvM A L qs top W A.length) (i:Int):=by
   have:=gv_ups (A:=A) (L:=L) (qs:=qs) (top:=top) (W:=W) (k:=1) (Nat.le_refl _) hr (i:Int) h
   omega
  have h1:1≤typeAtM (ltM A W (lcsM (stM A qs top (gvM A L qs top W r)) top L [])) (i:Int):=h
  unfold ltM at h1
  rw [tA_map,hx] at h1
  have h1:=(lowM_ge.1 h1).2
  obtain⟨nm,hn,hs⟩:=hp _ i x hx h1
  have e1:typeAtM (rwM A (lnM A L) qs (gvM A L qs top W A.length) (r+1)) (i:Int)=if i<A.length then(if 0<typeAtM (gvM A L qs top W A.length) (i:Int) then rlnM A (lnM A L) qs (rwM A (lnM A L) qs (gvM A L qs top W A.length) r) i else 0) else 0:=lg_at ..
  rw [e1,if_pos hi,if_pos hg]
  unfold rlnM
  by_cases hq:((lnM A L i).any fun nm=>plM nm qs 0 != -1)=true
  ·rw [if_pos hq];omega
  ·rw [if_neg hq]
   rcases(stM_pos (Int.le_refl 1)).1 hs with⟨q1,_⟩|⟨_,j,y,q2,q3,q4⟩
   ·exact absurd (List.any_eq_true.2 ⟨nm,hn,by simpa using q1⟩) hq
   ·have h2:=ih (by omega) j y q2 q4
    have hc:Cand (lnM A L i) (rwM A (lnM A L) qs (gvM A L qs top W A.length) r) j y:=⟨h2,plM_mem _ _ (by rw [toList_inj q3];exact hn)⟩
    rcases ne_spec (lnM A L i) (rwM A (lnM A L) qs (gvM A L qs top W A.length) r) A with⟨_,hno⟩|⟨f,z,_,e2,_,_⟩
    ·exact absurd hc (hno j y q2)
    ·rw [e2,if_neg (by simp)]
     have:=rw_bound (A:=A) (ln:=lnM A L) (qs:=qs) (g:=gvM A L qs top W A.length) r f
     omega
end Go.Proofs.YtkoohcilbpdgeaaGreatDoor
