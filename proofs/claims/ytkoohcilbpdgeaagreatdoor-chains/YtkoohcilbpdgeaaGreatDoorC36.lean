import Derived.Test.YtkoohcilbpdgeaaGreatDoorC35
set_option linter.all false
set_option linter.unusedVariables false
set_option linter.unusedSimpArgs false
set_option linter.unnecessarySimpa false
set_option linter.constructorNameAsVariable false
set_option linter.deprecated false
namespace Go.Proofs.YtkoohcilbpdgeaaGreatDoor
open Go Go.RowKit
attribute [local go_sem] wrap64_byte
theorem typeAt_range {ls:List Int}{n:Int}(hn:0<n)(h: ∀x∈ls,0≤x∧x<n)(i:Int):0≤typeAtM ls i∧typeAtM ls i<n:=by
 unfold typeAtM
 split
 ·omega
 ·simp only [List.getD]
  cases hq:ls[i.toNat]? with
  |none=>simp;omega
  |some y=>exact h y (List.mem_of_getElem? hq)
theorem highM_range (vals:List ByteArray)(W:List Wt)(ls:List Int)(hn:0<vals.length)(hls: ∀x∈ls,0≤x∧x<(vals.length:Int)): ∀(cs:List Cl) (h:Int),0≤h→h<vals.length→0≤highM vals W ls cs h∧highM vals W ls cs h<vals.length:=by
 intro cs
 induction cs with
 |nil=>intro h h1 h2;exact⟨h1,h2⟩
 |cons c cs ih=>
  intro h h1 h2
  unfold highM
  have hr:rlM vals ls c<vals.length:=by
   unfold rlM
   split
   ·rcases plM_range c.result vals 0 with q|q<;>omega
   ·split
    ·exact(typeAt_range (by omega) hls _).2
    ·omega
  split
  ·rename_i q
   have:h<rlM vals ls c:=by
    simp only [Bool.and_eq_true,decide_eq_true_eq] at q
    exact q.2
   exact ih _ (by omega) hr
  ·exact ih _ h1 h2
theorem lvsM_range (vals:List ByteArray)(W:List Wt)(hn:0<vals.length): ∀(C:List (List Cl)) (ls:List Int),(∀x∈ls,0≤x∧x<(vals.length:Int))→ ∀x∈lvsM vals W C ls,0≤x∧x<(vals.length:Int):=by
 intro C
 induction C with
 |nil=>intro ls h;exact h
 |cons c C ih=>
  intro ls h
  refine ih _ fun x hx=> ?_
  rcases List.mem_append.1 hx with q|q
  ·exact h x q
  ·have e:x=highM vals W ls c 0:=by simpa using q
   rw [e];exact highM_range vals W ls hn h c 0 (by omega) (by omega)
theorem grM_zero {s a v q:ByteArray}{st:St}(h:grM s a v q st=0):(vlM v).2=false∧(raM a).2=false∧(ckM s st).1=0∧s.size≤600∧a.size≤100∧(rqM q).2=false:=by
 unfold grM at h
 split at h
 ·cases h
 ·rename_i h0
  split at h
  ·rename_i h1;rw [h] at h1;simp at h1
  ·rename_i h1
   split at h
   ·cases h
   ·rename_i h2
    simp only [Bool.or_eq_true,not_or,decide_eq_true_eq] at h0 h2
    exact⟨by simpa using h2.1.2,by simpa using h2.1.1,by simpa using h1,by omega,by omega,by simpa using h2.2⟩
theorem vlM_two {v:ByteArray}(h:(vlM v).2=false):2≤(vlM v).1.length:=by
 unfold vlM at h ⊢
 split at h
 ·cases h
 ·rename_i q
  rw [if_neg q]
  simp only [Bool.or_eq_true,not_or,decide_eq_true_eq] at q
  show 2≤(rnM v).1.length
  omega
def RowOk (l:List (ByteArray×ByteArray))(E:List Ex)(p:Nat):Prop:=(wAt (worthsM l E []) (p:Int)).text.size≤600*(p+1)
theorem rowsE {X:Nat→Prop}{w:World}{E:List Ex}(l:List (ByteArray×ByteArray))(hls: ∀p∈l,p.2.size≤600)(hE: ∀x∈E,x.text.size≤600){f:Nat}{v:Value}{a i:Nat}(h:RefEX X w E f v a i): ∀p,a≤p→p≤i→RowOk l E p:=fun p h1 h2=>by
 obtain⟨f',a',hr⟩:=h.rng.sub p h1 h2
 have:=hr.size l hls hE
 unfold RowOk
 omega
theorem rowsS {X:Nat→Prop}{w:World}{E:List Ex}(l:List (ByteArray×ByteArray))(hls: ∀p∈l,p.2.size≤600)(hE: ∀x∈E,x.text.size≤600){f:Nat}{sub:Value→Nat→Nat→Nat→Prop}(hs: ∀v ci a e,sub v ci a e→ ∀p,a≤p→p<e→RowOk l E p):
  ∀(vs:List Value) (cs:List Cl) (a e:Nat),SegC (fun v c a e=>ClX X w E f sub v c a e) vs cs a e→ ∀p,a≤p→p<e→RowOk l E p:=by
 intro vs
 induction vs with
 |nil=>
  intro cs a e h p h1 h2
  cases cs with
  |nil=>have h:a=e:=h;omega
  |cons c cs=>exact absurd h id
 |cons u vs ih=>
  intro cs a e h p h1 h2
  cases cs with
  |nil=>exact absurd h id
  |cons c cs=>
   obtain⟨m,⟨v1,i,x,q1,q2,q3,q4,q5,q6⟩,h3⟩:=h
   by_cases hm:m≤p
   ·exact ih cs m e h3 p hm h2
   ·by_cases hi:p≤i
    ·exact rowsE l hls hE q1 p h1 hi
    ·by_cases hi1:p=i+1
     ·subst hi1
      have:=rowsE l hls hE q1 i q1.le (Nat.le_refl _)
      unfold RowOk at this ⊢
      rw [wAt_test l q2 q3 q4]
      omega
     ·rcases q6 with⟨_,_,r⟩|⟨_,_,_,_,_,r⟩|⟨_,v2,ci,_,_,r⟩
      ·omega
      ·omega
      ·exact hs _ _ _ _ r p (by omega) (by omega)
theorem rowsC {X:Nat→Prop}{w:World}{E:List Ex}{C:List (List Cl)}(l:List (ByteArray×ByteArray))(hls: ∀p∈l,p.2.size≤600)(hE: ∀x∈E,x.text.size≤600): ∀(f:Nat) (v:Value) (ci a e:Nat),RefCX X w E C f v ci a e→ ∀p,a≤p→p<e→RowOk l E p:=by
 intro f
 induction f with
 |zero=>intro v ci a e h;exact absurd h id
 |succ f ih=>
  intro v ci a e ⟨cls,vs,p,h1,h2,h3⟩
  exact rowsS l hls hE ih vs cls a e h3
theorem rowsA {X:Nat→Prop}{w:World}{L:List Lc}{E:List Ex}{C:List (List Cl)}(l:List (ByteArray×ByteArray))(hls: ∀p∈l,p.2.size≤600)(hE: ∀x∈E,x.text.size≤600){f:Nat}: ∀(ps:List PP) (xs:List As) (a b e g:Nat),SegA (fun p x a b e g=>AsX X w L E C f p x a b e g) ps xs a b e g→ ∀p,b≤p→p<g→RowOk l E p:=by
 intro ps
 induction ps with
 |nil=>
  intro xs a b e g h p h1 h2
  cases xs with
  |nil=>obtain⟨_,h⟩:=h;omega
  |cons c cs=>exact absurd h id
 |cons u ps ih=>
  intro xs a b e g h p h1 h2
  cases xs with
  |nil=>exact absurd h id
  |cons x xs=>
   obtain⟨m,n,⟨i,ci,_,_,_,_,q⟩,h3⟩:=h
   by_cases hm:n≤p
   ·exact ih xs m n e g h3 p hm h2
   ·exact rowsC l hls hE f _ ci b n q p h1 (by omega)
theorem set_small {s a v q:ByteArray}{n:Nat}{st:St}(hM:MR s n st0=some st)(hE:st.E.length≤100000)(h0:grM s a v q st=0): ∀x∈worthsM (raM a).1 st.E [],x.text.size≤100000000∧ -999999999≤x.num∧x.num≤999999999:=by
 obtain⟨_,_,hck,hs,ha,_⟩:=grM_zero h0
 obtain⟨e,w',fr,⟨lv,_,_,_,h⟩,_⟩:=read_short s n st (World.holding Tryz.prog default ⟨#[],#[],[]⟩) hM hs []
 obtain⟨f,ps,_,h⟩:=h hck
 have hz:Sz st:=MR_sz s hs n st0 st hM ⟨fun x h=>(by cases h),fun x h=>(by cases h),fun x h=>(by cases h),fun x h=>(by cases h)⟩
 have hra:=raM_sizes a (by omega)
 exact worths_small (raM a).1 hra.1 hz.1 hE fun p hp=>rowsA (raM a).1 hra.1 hz.1 ps st.A 0 0 _ _ h p (Nat.zero_le _) hp
def ClsOk (st:St):Prop:= ∀c∈st.C,c.length≤100000
theorem MC_clo (s:ByteArray): ∀n tag cls st r,MC s n tag cls st=some r→ClsOk st→ClsOk r.2.2:=by
 intro n
 induction n with
 |zero=>intro tag cls st r h;simp [MC] at h
 |succ n ih=>
  intro tag cls st r h hg
  match tag,h with
  |0,h=>
   rw [MC_0] at h
   obtain⟨q,h1,h2⟩:=Option.bind_eq_some_iff.1 h
   exact ih _ _ _ _ h2 (ih _ _ _ _ h1 hg)
  |2,h=>
   rw [MC_2] at h
   split at h
   ·rename_i hlen
    split at h
    ·obtain⟨q,h1,h2⟩:=Option.bind_eq_some_iff.1 h
     exact ih _ _ _ _ h2 (ih _ _ _ _ h1 (show ClsOk (sgn s [59] st) from hg))
    ·obtain⟨q,h1,h2⟩:=Option.bind_eq_some_iff.1 h
     cases h2
     obtain⟨_,rfl⟩:=addC_some h1
     intro c hc
     rcases List.mem_append.1 hc with q|q
     ·exact hg c q
     ·have e:c=cls:=by simpa using q
      rw [e];omega
   ·cases h
  |1,h=>
   rw [MC_1] at h
   obtain⟨q,h1,h2⟩:=Option.bind_eq_some_iff.1 h
   obtain⟨q2,h3,h4⟩:=Option.bind_eq_some_iff.1 h2
   have k1:q.2.C=st.C:=(M_ext s _ _ _ _ _ h1).2.2.2
   obtain⟨_,rfl⟩:=addE_some h3
   have hg1:ClsOk q.2:=by unfold ClsOk;rw [k1];exact hg
   split at h4
   ·cases h4;exact hg1
   ·simp only at h4
    split at h4
    ·obtain⟨v,h7,h8⟩:=Option.bind_eq_some_iff.1 h4
     cases h8
     have kk:=ih _ _ _ _ h7 hg1
     exact kk
    ·cases h4
     exact hg1
  |t+3,h=>simp [MC] at h
theorem MA_clo {s:ByteArray}{n:Nat}{st st':St}(h:MA s n st=some st')(hg:ClsOk st):ClsOk st':=by
 unfold MA at h
 simp only at h
 obtain⟨⟨r1,st1⟩,h1,hM2⟩:=Option.bind_eq_some_iff.1 h
 obtain⟨⟨r2,cl2,st2⟩,h2,hM3⟩:=Option.bind_eq_some_iff.1 hM2
 obtain⟨_,k1,_,k2⟩:=ML_ext s _ _ _ _ _ _ _ _ h1
 have k2:st1.C=st.C:=k2
 have hg1:ClsOk st1:=by unfold ClsOk;rw [k2];exact hg
 have q:ClsOk st2:=MC_clo s _ _ _ _ _ h2 hg1
 obtain⟨_,rfl⟩:=addA_some hM3
 exact q
theorem MR_clo (s:ByteArray): ∀n st st',MR s n st=some st'→ClsOk st→ClsOk st':=by
 intro n
 induction n with
 |zero=>intro st st' h;simp [MR] at h
 |succ n ih=>
  intro st st' h hg
  unfold MR at h
  split at h
  ·obtain⟨u,h1,h2⟩:=Option.bind_eq_some_iff.1 h
   exact ih _ _ h2 (MA_clo h1 hg)
  ·cases h;exact hg
theorem vlM_len (v:ByteArray):(vlM v).1.length≤100000:=by
 unfold vlM
 split
 ·exact Nat.zero_le _
 ·rename_i q
  simp only [Bool.or_eq_true,not_or,decide_eq_true_eq] at q
  show(rnM v).1.length≤100000
  omega
theorem cov0:CovA st0:=⟨0,rfl⟩
end Go.Proofs.YtkoohcilbpdgeaaGreatDoor
