import Derived.Test.YtkoohcilbpdgeaaGreatDoorCards
import Derived.Test.YtkoohcilbpdgeaaGreatDoorTie
import Derived.ProofKit
import Derived.OpenShut
import Derived.Deep.DeepHandedRow
import Derived.Deep.Slices
import Derived.Test.YtkoohcilbpdgeaaGreatDoorC04
set_option linter.all false
set_option linter.unusedVariables false
set_option linter.unusedSimpArgs false
set_option linter.unnecessarySimpa false
set_option linter.constructorNameAsVariable false
set_option linter.deprecated false
set_option maxRecDepth 100000
set_option maxHeartbeats 6400000
namespace Go.Proofs.YtkoohcilbpdgeaaGreatDoor
open Go Go.RowKit
attribute [local go_sem] wrap64_byte
def zC:List Int→Int
 |[]=> -1
 |r::rs=>if 0≤r then r else zC rs
theorem z1c {rs:List Int}{i:Nat}{r:Int}(h:rs[i]?=some r):zC (rs.drop i)=if 0≤r then r else zC (rs.drop (i+1)):=by
 obtain⟨hl,hx⟩:=zgF.1 h
 rw [zgL hl,hx]
 rfl
def z0F (op tx:zgS)(a:Int)(n:Nat)(rs:List Int):Int:=
 if op.toList==[111,102] then(if(tx.data.toList.headD 0).toNat=48∨(n:Int)<((tx.data.toList.headD 0).toNat:Int)- 48 then a else zC rs) else zC rs
theorem z5e {X:Nat→Prop}{w:World}{v:Value}{op tx:zgS}{a:Int}{vs:List Value}(h:NodeX X w v op tx a vs)(hlen:vs.length≤100000)(rs:List Int)(hrl:rs.length=vs.length)
  (hof:(op.toList==[111,102])=true→ ∃c:UInt8,tx=⟨#[c]⟩∧48≤c.toNat∧c.toNat≤57)
  (hk: ∀(i:Nat) (vi:Value) (ri:Int),vs[i]?=some vi→rs[i]?=some ri→Calls Tryz.prog 90 #[vi] w fun e w'=>e= .returned (.int .i64 ri)∧w'=w):
  Calls Tryz.prog 90 #[v] w fun e w'=>e= .returned (.int .i64 (z0F op tx a vs.length rs))∧w'=w:=by
 obtain⟨g,kv,rfl,hh,hg,how⟩:=z2P h
 obtain⟨a5,k5,rfl⟩:=jD how
 obtain⟨y0,y1,y2,y3,yf⟩:=jN hh
 have HK:=z8 hk
 have HOW:=z8 how
 have HRL:=z8 hrl
 cases ho:(op.toList==[111,102])
 ·have hf:Hid (z0F op tx a vs.length rs=zC rs):=z8 (by unfold z0F;rw [ho,if_neg (by decide)])
  clear hk h hh how hrl hof
  go_enter Tryz.func90,Tryz.ntmps90
  go_wp2_with fail
  go_loopg [4,5] (vs.length+1) (fun k iv _ wr=> ∃i:Nat,k+i=vs.length+1∧i≤vs.length∧iv= .int .i64 i∧wr=w∧Hid (zC (rs.drop i)=zC rs))
  case atStart=>exact⟨0,rfl,zgO _,rfl,rfl,rfl⟩
  case round=>
   obtain⟨i,hgk,hile,rfl,rfl,hfp⟩:=hrel
   have HGK:=z8 hgk
   clear hgk
   by_cases hlt:i<vs.length
   ·obtain⟨vi,hvi⟩: ∃vi,vs[i]?=some vi:=⟨vs[i],zgE hlt⟩
    obtain⟨ri,hri⟩: ∃ri,rs[i]?=some ri:=⟨rs[i]'(by rw [HRL.out];exact hlt),zgE _⟩
    obtain⟨gk,capk,hv,hb,hgl⟩:=HOW.out.form (by omega)
    injection hv with e1 e2 e3
    subst e1 e3
    have hcell:wr.cell? ⟨gk,i,none⟩=some vi:=zl HOW.out _ _ hvi
    have hlti:(i:Int)<vs.length:=by omega
    have HC:=z8 (HK.out i vi ri hvi hri)
    have hst:=z8 ((z1c hri).symm.trans hfp.out)
    clear hvi hri hfp
    go_wp2_with fail
    refine HC.out.mono ?_
    rintro e w1 ⟨rfl,rfl⟩
    have hst':=hst.out
    clear hst HC
    by_cases hr0:0≤ri
    ·rw [if_pos hr0] at hst'
     have hst:=z8 hst'
     clear hst'
     go_wp2_with fail
     go_ret
     exact⟨by rw [hf.out,←hst.out];simp,rfl⟩
    ·rw [if_neg hr0] at hst'
     have hst:=z8 hst'
     clear hst'
     go_wp2_with fail
     go_roundg (vs.length - i)
     case measure=>have:=HGK.out;omega
     case rel=>exact⟨i+1,by have:=HGK.out;omega,by omega,by go_num,rfl,hst⟩
   ·have hin:i=vs.length:=by omega
    have hlti: ¬(i:Int)<vs.length:=by omega
    have hfin:Hid (zC rs= -1):=z8 (by rw [←hfp.out,zgK (by rw [HRL.out];omega)];rfl)
    go_wp2_with fail
    go_ret
    exact⟨by rw [hf.out,hfin.out];simp,rfl⟩
 ·obtain⟨c,rfl,hc1,hc2⟩:=hof ho
  have hcl:=c.toNat_lt
  have hf:z0F op ⟨#[c]⟩ a vs.length rs=if c.toNat=48∨(vs.length:Int)<(c.toNat:Int)- 48 then a else zC rs:=by unfold z0F;rw [ho,if_pos rfl];rfl
  obtain⟨K,hK⟩: ∃K:Nat,c.toNat=K+48:=⟨c.toNat - 48,by omega⟩
  have hidx: ∀h,(⟨#[c]⟩:zgS)[0]'h=c:=fun _=>rfl
  have hm:((c.toNat:Int)- 48)%256=(K:Int):=by omega
  have hK9:K≤9:=by omega
  have HKK:=z8 hK
  have hf0:=hf
  clear hk h hh how hrl hof hK hf hcl hc1 hc2
  by_cases h48:K=0
  ·have hf:Hid (z0F op ⟨#[c]⟩ a vs.length rs=a):=z8 (by rw [hf0,if_pos (.inl (by rw [HKK.out,h48]))])
   subst h48
   clear hf0
   have hm:((c.toNat:Int)- 48)%256=0:=hm
   go_enter Tryz.func90,Tryz.ntmps90
   go_wp2_with fail
   go_ret
   exact⟨by rw [hf.out];simp,rfl⟩
  ·have hK0:((K:Int)==0)=false:=by rw [beq_eq_false_iff_ne];omega
   by_cases hgt:(vs.length:Int)<(K:Int)
   ·have hf:Hid (z0F op ⟨#[c]⟩ a vs.length rs=a):=z8 (by rw [hf0,if_pos (.inr (by rw [HKK.out];omega))])
    clear hf0
    go_enter Tryz.func90,Tryz.ntmps90
    go_wp2_with fail
    go_ret
    exact⟨by rw [hf.out];simp,rfl⟩
   ·have hf:Hid (z0F op ⟨#[c]⟩ a vs.length rs=zC rs):=z8 (by rw [hf0,if_neg (by rw [HKK.out];omega)])
    clear hf0
    go_enter Tryz.func90,Tryz.ntmps90
    go_wp2_with fail
    go_loopg [4,5] (vs.length+1) (fun k iv _ wr=> ∃i:Nat,k+i=vs.length+1∧i≤vs.length∧iv= .int .i64 i∧wr=w∧Hid (zC (rs.drop i)=zC rs))
    case atStart=>exact⟨0,rfl,zgO _,rfl,rfl,rfl⟩
    case round=>
     obtain⟨i,hgk,hile,rfl,rfl,hfp⟩:=hrel
     have HGK:=z8 hgk
     clear hgk
     by_cases hlt:i<vs.length
     ·obtain⟨vi,hvi⟩: ∃vi,vs[i]?=some vi:=⟨vs[i],zgE hlt⟩
      obtain⟨ri,hri⟩: ∃ri,rs[i]?=some ri:=⟨rs[i]'(by rw [HRL.out];exact hlt),zgE _⟩
      obtain⟨gk,capk,hv,hb,hgl⟩:=HOW.out.form (by omega)
      injection hv with e1 e2 e3
      subst e1 e3
      have hcell:wr.cell? ⟨gk,i,none⟩=some vi:=zl HOW.out _ _ hvi
      have hlti:(i:Int)<vs.length:=by omega
      have HC:=z8 (HK.out i vi ri hvi hri)
      have hst:=z8 ((z1c hri).symm.trans hfp.out)
      clear hvi hri hfp
      go_wp2_with fail
      refine HC.out.mono ?_
      rintro e w1 ⟨rfl,rfl⟩
      have hst':=hst.out
      clear hst HC
      by_cases hr0:0≤ri
      ·rw [if_pos hr0] at hst'
       have hst:=z8 hst'
       clear hst'
       go_wp2_with fail
       go_ret
       exact⟨by rw [hf.out,←hst.out];simp,rfl⟩
      ·rw [if_neg hr0] at hst'
       have hst:=z8 hst'
       clear hst'
       go_wp2_with fail
       go_roundg (vs.length - i)
       case measure=>have:=HGK.out;omega
       case rel=>exact⟨i+1,by have:=HGK.out;omega,by omega,by go_num,rfl,hst⟩
     ·have hin:i=vs.length:=by omega
      have hlti: ¬(i:Int)<vs.length:=by omega
      have hfin:Hid (zC rs= -1):=z8 (by rw [←hfp.out,zgK (by rw [HRL.out];omega)];rfl)
      go_wp2_with fail
      go_ret
      exact⟨by rw [hf.out,hfin.out];simp,rfl⟩
theorem z39 (p:Int→Bool)(s:zgS)(d:Bool): ∀k a,a≤run p s d k a:=by
 intro k
 induction k with
 |zero=>intro a;exact zgH _
 |succ k ih=>
  intro a
  unfold run
  split
  ·have:=ih (a+1);omega
  ·exact zgH _
theorem z16 (s:zgS)(a:Nat)(d:Bool):a≤skip s a d:=z39 _ _ _ _ _
theorem z1F (s:zgS)(d:Bool): ∀l a,a≤(zt s d l a).1:=by
 intro l
 induction l with
 |nil=>intro a;exact zgH _
 |cons c cs ih=>
  intro a
  unfold zt
  split
  ·have:=ih (a+1);omega
  ·exact zgH _
theorem z1f (s:zgS)(d:Bool)(l:List UInt8)(a:Nat):a≤(jo s d l a).1:=by
 have h1:=z1F s d l a
 have h2:=z16 s (zt s d l a).1 (zt s d l a).2
 simp only [jo];omega
theorem zL (s:zgS)(l:List UInt8)(st:St):st.at_≤(sgn s l st).at_:=z1f s st.bad l st.at_
theorem z09 (s:zgS)(l:List UInt8)(st:St):st.at_≤(wrd s l st).at_:=z1F s st.bad l st.at_
theorem z9k (p:Int→Bool)(m:Nat)(s:zgS)(a:Nat)(d:Bool):a≤(z23 p m s a d).1:=by
 unfold z23
 have h1:=z39 p s d m a
 have h2:=z16 s (run p s d m a) d
 simp only
 split
 ·exact h1
 ·exact zgP h1 h2
theorem jq (s:zgS)(a:Nat)(d:Bool):a≤(zw s a d).1:=z9k _ _ _ _ _
theorem z4E (s:zgS)(a:Nat)(d:Bool):a≤(zO s a d).1:=z9k _ _ _ _ _
theorem z4H (s:zgS)(a:Nat)(d:Bool):a≤(zT s a d).1:=by
 unfold zT
 have h1:=z1F s d [34] a
 have h2:=z39 zo s (zt s d [34] a).2 12 (zt s d [34] a).1
 have h3:=z1f s (zt s d [34] a).2 [34] (run zo s (zt s d [34] a).2 12 (zt s d [34] a).1)
 simp only
 omega
theorem z33 (s short long:zgS)(a:Nat)(d:Bool):a≤(zx s short long a d).1:=by
 unfold zx
 have h1:=z1F s d short.data.toList a
 have h2:=z16 s (zt s d short.data.toList a).1 (zt s d short.data.toList a).2
 have h3:=z1f s (zt s d short.data.toList a).2 [61] (zt s d short.data.toList a).1
 simp only
 split<;>simp only<;>omega
theorem z1b (s:zgS)(a:Nat)(d:Bool):a≤(ze s a d).1:=by
 unfold ze
 split
 ·exact z1f _ _ _ _
 ·split
  ·exact z1f _ _ _ _
  ·split
   ·exact z33 _ _ _ _ _
   ·split
    ·exact z33 _ _ _ _ _
    ·exact zgH _
theorem z7s (s:zgS): ∀n tag l st r,M s n tag l st=some r→st.at_≤r.2.at_:=by
 intro n
 induction n with
 |zero=>intro tag l st r h;simp [M] at h
 |succ n ih=>
  intro tag l st r h
  have two: ∀{t1 t2:Nat} {st0:St},((M s n t1 0 st0).bind fun r=>M s n t2 r.1 r.2)=some r→st0.at_≤r.2.at_:=fun h=>by
   obtain⟨q,h1,h2⟩:=zgD.1 h
   exact zgP (ih _ _ _ _ h1) (ih _ _ _ _ h2)
  have three: ∀{t1 t2:Nat} {st0:St} {x:Int×St→Ex},((M s n t1 0 st0).bind fun r=>(jQ r.2 (x r)).bind fun q=>M s n t2 q.1 q.2)=some r→st0.at_≤r.2.at_:=fun h=>by
   obtain⟨q,h1,h2⟩:=zgD.1 h
   obtain⟨q2,h3,h4⟩:=zgD.1 h2
   have k1:=ih _ _ _ _ h1
   have k2:=(zZ h3).2
   have k3:=ih _ _ _ _ h4
   omega
  match tag,h with
  |0,h=>rw [M_0] at h;exact two h
  |1,h=>rw [M_1] at h;exact two h
  |4,h=>rw [M_4] at h;exact two h
  |5,h=>rw [M_5] at h;exact two h
  |10,h=>
   rw [z71] at h
   split at h
   ·exact zgP (zL _ _ _) (three h)
   ·cases h;exact zgH _
  |11,h=>
   rw [z7h] at h
   split at h
   ·exact zgP (zL _ _ _) (three h)
   ·cases h;exact zgH _
  |14,h=>
   rw [z6x] at h
   simp only at h
   split at h
   ·cases h;exact zgH _
   ·exact zgP (zL _ _ _) (three h)
  |15,h=>
   rw [z7L] at h
   simp only at h
   split at h
   ·cases h;exact zgH _
   ·exact zgP (zL _ _ _) (three h)
  |2,h=>
   rw [M_2] at h
   split at h
   ·exact ih _ _ _ _ h
   ·obtain⟨q,h1,h2⟩:=zgD.1 h
    have k1:=ih _ _ _ _ h1
    have k2:=(zZ h2).2
    have k3:=zL s [33] st
    omega
  |6,h=>
   rw [M_6] at h
   split at h
   ·exact ih _ _ _ _ h
   ·obtain⟨q,h1,h2⟩:=zgD.1 h
    have k1:=ih _ _ _ _ h1
    have k2:=(zZ h2).2
    have k3:=zL s [45] st
    omega
  |3,h=>
   rw [M_3] at h
   obtain⟨q,h1,h2⟩:=zgD.1 h
   have k1:=ih _ _ _ _ h1
   have k2:=z1b s q.2.at_ q.2.bad
   simp only at h2
   split at h2
   ·cases h2
    exact zgP k1 k2
   ·obtain⟨q2,h3,h4⟩:=zgD.1 h2
    have k3:=ih _ _ _ _ h3
    have k4:=(zZ h4).2
    have k5:q.2.at_≤q2.2.at_:=zgP k2 k3
    omega
  |7,h=>
   rw [M_7] at h
   simp only at h
   split at h
   ·have k:=(zZ h).2
    rw [k];exact z4E _ _ _
   ·split at h
    ·have k:=(zZ h).2
     rw [k];exact z4H _ _ _
    ·split at h
     ·have k:=(zZ h).2
      rw [k]
      exact zgP (z09 s [64] st) (jq _ _ _)
     ·split at h
      ·obtain⟨q,h1,h2⟩:=zgD.1 h
       cases h2
       exact zgP (zgP (zL s [40] st) (ih _ _ _ _ h1)) (zL s [41] q.2)
      ·split at h
       ·have k:=(zZ h).2
        rw [k];exact jq _ _ _
       ·have k:=(zZ h).2
        rw [k];exact jq _ _ _
  |8,h=>simp [M] at h
  |9,h=>simp [M] at h
  |12,h=>simp [M] at h
  |13,h=>simp [M] at h
  |t+16,h=>simp [M] at h
theorem z5d (s:zgS): ∀n tag cls st r,MC s n tag cls st=some r→st.at_≤r.2.2.at_:=by
 intro n
 induction n with
 |zero=>intro tag cls st r h;simp [MC] at h
 |succ n ih=>
  intro tag cls st r h
  match tag,h with
  |0,h=>
   rw [z8h] at h
   obtain⟨q,h1,h2⟩:=zgD.1 h
   exact zgP (ih _ _ _ _ h1) (ih _ _ _ _ h2)
  |2,h=>
   rw [z7k] at h
   split at h
   ·split at h
    ·obtain⟨q,h1,h2⟩:=zgD.1 h
     exact zgP (zgP (zL s [59] st) (ih _ _ _ _ h1)) (ih _ _ _ _ h2)
    ·obtain⟨q,h1,h2⟩:=zgD.1 h
     cases h2
     exact Nat.le_of_eq (z8R h1).2.symm
   ·cases h
  |1,h=>
   rw [z6v] at h
   obtain⟨q,h1,h2⟩:=zgD.1 h
   obtain⟨q2,h3,h4⟩:=zgD.1 h2
   have k1:=z7s s _ _ _ _ _ h1
   have k2:=(zZ h3).2
   split at h4
   ·cases h4;simp only;omega
   ·obtain⟨x,h5,h6⟩:=zgD.1 h4
    cases h6
    have k3:=zL s [45,62] q2.2
    have k4:(sgn s [45,62] q2.2).at_≤x.2.2.2.at_:=by
     unfold zb4 at h5
     split at h5
     ·obtain⟨v,h7,h8⟩:=zgD.1 h5
      cases h8
      exact zgP (zgP (zL s [123] _) (ih _ _ _ _ h7)) (zL s [125] _)
     ·cases h5
      exact jq _ _ _
    simp only
    omega
  |t+3,h=>simp [MC] at h
def SegO (P:Nat→Nat→Nat→Nat→Prop):List Int→Nat→Nat→Nat→Nat→Prop
 |[],a,e,lo,hi=>a=e∧lo≤hi
 |j::js,a,e,lo,hi=> ∃i m:Nat,j=(i:Int)∧P a i lo m∧SegO P js (i+1) e m hi
theorem SegO.imp {P Q:Nat→Nat→Nat→Nat→Prop}(h: ∀a i lo hi,P a i lo hi→Q a i lo hi): ∀(js:List Int) (a e lo hi:Nat),SegO P js a e lo hi→SegO Q js a e lo hi:=by
 intro js
 induction js with
 |nil=>intro a e lo hi h;exact h
 |cons j js ih=>intro a e lo hi ⟨i,m,h1,h2,h3⟩;exact⟨i,m,h1,h _ _ _ _ h2,ih _ _ _ _ h3⟩
theorem SegO.snoc {P:Nat→Nat→Nat→Nat→Prop}(wk: ∀a i lo hi lo',P a i lo hi→lo'≤lo→P a i lo' hi): ∀(js:List Int) (a e lo mid i hi:Nat),SegO P js a e lo mid→P e i mid hi→SegO P (js++[(i:Int)]) a (i+1) lo hi:=by
 intro js
 induction js with
 |nil=>intro a e lo mid i hi ⟨h1,h2⟩ hp;subst h1;exact⟨i,hi,rfl,wk _ _ _ _ _ hp h2,rfl,zgH _⟩
 |cons j js ih=>intro a e lo mid i hi ⟨i',m,h1,h2,h3⟩ hp;exact⟨i',m,h1,h2,ih _ _ _ _ _ _ h3 hp⟩
theorem SegO.wkhi {P:Nat→Nat→Nat→Nat→Prop}: ∀(js:List Int) (a e lo hi hi':Nat),SegO P js a e lo hi→hi≤hi'→SegO P js a e lo hi':=by
 intro js
 induction js with
 |nil=>intro a e lo hi hi' ⟨h1,h2⟩ h;exact⟨h1,zgP h2 h⟩
 |cons j js ih=>intro a e lo hi hi' ⟨i',m,h1,h2,h3⟩ h;exact⟨i',m,h1,h2,ih _ _ _ _ _ h3 h⟩
def OrdL (L:List Lc):Nat→Nat→Nat→Nat→Nat→Prop
 |0,_,_,_,_=>False
 |f+1,a,i,lo,hi=> ∃x,L[i]?=some x∧lo≤hi∧((x.form=0∧a=i)∨
   (x.form=1∧ ∃j k m:Nat,i=k+1∧x.left=(j:Int)∧x.right=(k:Int)∧OrdL L f a j lo m∧OrdL L f (j+1) k m hi)∨
   (x.form=2∧ ∃p:Nat,x.place=(p:Int)∧lo≤p∧p<hi∧SegO (fun a i lo hi=>OrdL L f a i lo hi) x.items a i (p+1) hi))
theorem OrdL.wk {L:List Lc}: ∀{f a i lo hi lo' hi':Nat},OrdL L f a i lo hi→lo'≤lo→hi≤hi'→OrdL L f a i lo' hi':=by
 intro f
 induction f with
 |zero=>intro a i lo hi lo' hi' h;exact absurd h id
 |succ f ih=>
  intro a i lo hi lo' hi' ⟨x,h1,h2,h3⟩ h4 h5
  refine⟨x,h1,by omega,?_⟩
  rcases h3 with h3|⟨q1,j,k,m,q2,q3,q4,q5,q6⟩|⟨q1,p,q2,q3,q4,q5⟩
  ·exact .inl h3
  ·exact .inr (.inl ⟨q1,j,k,m,q2,q3,q4,ih q5 h4 (zgH _),ih q6 (zgH _) h5⟩)
  ·exact .inr (.inr ⟨q1,p,q2,by omega,by omega,SegO.wkhi _ _ _ _ _ _ q5 h5⟩)
theorem OrdL.le {L:List Lc}{f a i lo hi:Nat}(h:OrdL L f a i lo hi):lo≤hi:=by
 cases f with
 |zero=>exact absurd h id
 |succ f=>obtain⟨x,_,h2,_⟩:=h;exact h2
theorem OrdL.more {L:List Lc}(F:List Lc): ∀{f a i lo hi:Nat},OrdL L f a i lo hi→OrdL (L++F) f a i lo hi:=by
 intro f
 induction f with
 |zero=>intro a i lo hi h;exact absurd h id
 |succ f ih=>
  intro a i lo hi ⟨x,h1,h2,h3⟩
  refine⟨x,by rw [List.getElem?_append_left (zgF.1 h1).1];exact h1,h2,?_⟩
  rcases h3 with h3|⟨q1,j,k,m,q2,q3,q4,q5,q6⟩|⟨q1,p,q2,q3,q4,q5⟩
  ·exact .inl h3
  ·exact .inr (.inl ⟨q1,j,k,m,q2,q3,q4,ih q5,ih q6⟩)
  ·exact .inr (.inr ⟨q1,p,q2,q3,q4,SegO.imp (fun _ _ _ _ q=>ih q) _ _ _ _ _ q5⟩)
theorem OrdL.up {L:List Lc}: ∀{f a i lo hi:Nat},OrdL L f a i lo hi→OrdL L (f+1) a i lo hi:=by
 intro f
 induction f with
 |zero=>intro a i lo hi h;exact absurd h id
 |succ f ih=>
  intro a i lo hi ⟨x,h1,h2,h3⟩
  refine⟨x,h1,h2,?_⟩
  rcases h3 with h3|⟨q1,j,k,m,q2,q3,q4,q5,q6⟩|⟨q1,p,q2,q3,q4,q5⟩
  ·exact .inl h3
  ·exact .inr (.inl ⟨q1,j,k,m,q2,q3,q4,ih q5,ih q6⟩)
  ·exact .inr (.inr ⟨q1,p,q2,q3,q4,SegO.imp (fun _ _ _ _ q=>ih q) _ _ _ _ _ q5⟩)
theorem OrdL.ups {L:List Lc}{f:Nat}(g:Nat){a i lo hi:Nat}(h:OrdL L f a i lo hi):OrdL L (f+g) a i lo hi:=by
 induction g with
 |zero=>exact h
 |succ g ih=>exact ih.up
theorem zf0 (s:zgS): ∀n tag l p k its st r,ML s n tag l p k its st=some r→
  ((tag=0∨tag=1∨tag=2∨tag=3)→ ∃f i:Nat,r.1=(i:Int)∧i+1=r.2.L.length∧OrdL r.2.L f st.L.length i st.at_ r.2.at_)∧
  ((tag=10∨tag=11)→ ∀f i a lo:Nat,l=(i:Int)→i+1=st.L.length→OrdL st.L f a i lo st.at_→ ∃f' i':Nat,r.1=(i':Int)∧i'+1=r.2.L.length∧OrdL r.2.L f' a i' lo r.2.at_)∧
  (tag=13→ ∀f a q:Nat,p=(q:Int)→q<st.at_→SegO (fun a i lo hi=>OrdL st.L f a i lo hi) its a st.L.length (q+1) st.at_→ ∃f' i':Nat,r.1=(i':Int)∧i'+1=r.2.L.length∧OrdL r.2.L f' a i' q r.2.at_):=by
 intro n
 induction n with
 |zero=>intro tag l p k its st r h;simp [ML] at h
 |succ n ih=>
  intro tag l p k its st r h
  have loop: ∀(t:Nat) (c:UInt8) (ct:Nat),(ct=1∨ct=2)→(t=10∨t=11)→(ML s (n+1) t l p k its st=if pkS s st==(c.toNat:Int) then(ML s n ct 0 0 0 [] (sgn s [c,c] st)).bind fun r=>(z2H r.2 ⟨1,⟨#[c,c]⟩,l,r.1,0,0,[]⟩).bind fun q=>ML s n t q.1 0 0 [] q.2 else some (l,st))→ML s (n+1) t l p k its st=some r→
    ∀f i a lo:Nat,l=(i:Int)→i+1=st.L.length→OrdL st.L f a i lo st.at_→ ∃f' i':Nat,r.1=(i':Int)∧i'+1=r.2.L.length∧OrdL r.2.L f' a i' lo r.2.at_:=by
   intro t c ct hct htt he h f i a lo h1 h2 h3
   rw [he] at h
   split at h
   ·obtain⟨q,g1,g2⟩:=zgD.1 h
    obtain⟨q2,g3,g4⟩:=zgD.1 g2
    obtain⟨_,g5⟩:=zJ g3
    obtain⟨f1,i1,k1,k2,k3⟩:=(ih _ _ _ _ _ _ _ g1).1 (by omega)
    obtain⟨⟨F,hF⟩,_⟩:=z07 s _ _ _ _ _ _ _ _ g1
    have hF:q.2.L=st.L++F:=hF
    subst g5
    refine(ih _ _ _ _ _ _ _ g4).2.1 htt (f+f1+1) q.2.L.length a lo rfl (by simp) ?_
    refine⟨⟨1,⟨#[c,c]⟩,l,q.1,0,0,[]⟩,by simp,?_,.inr (.inl ⟨rfl,i,i1,st.at_,k2.symm,h1,k1,?_,?_⟩)⟩
    ·have:=h3.le
     have:=k3.le
     have:=zL s [c,c] st
     simp only
     omega
    ·have:=(h3.more F).ups f1
     rw [←hF] at this
     exact this.more _
    ·have e:(sgn s [c,c] st).L.length=i+1:=h2.symm
     rw [e] at k3
     have:=((k3.wk (zL s [c,c] st) (zgH _)).ups f).more [⟨1,⟨#[c,c]⟩,l,q.1,0,0,[]⟩]
     rw [Nat.add_comm f1 f] at this
     exact this
   ·cases h;exact⟨f,i,h1,h2,h3⟩
  match tag,h with
  |0,h=>
   refine⟨fun _=> ?_,by omega,by omega⟩
   rw [z7G] at h
   obtain⟨q,h1,h2⟩:=zgD.1 h
   obtain⟨f1,i1,k1,k2,k3⟩:=(ih _ _ _ _ _ _ _ h1).1 (by omega)
   exact(ih _ _ _ _ _ _ _ h2).2.1 (by omega) f1 i1 _ _ k1 k2 k3
  |1,h=>
   refine⟨fun _=> ?_,by omega,by omega⟩
   rw [z7I] at h
   obtain⟨q,h1,h2⟩:=zgD.1 h
   obtain⟨f1,i1,k1,k2,k3⟩:=(ih _ _ _ _ _ _ _ h1).1 (by omega)
   exact(ih _ _ _ _ _ _ _ h2).2.1 (by omega) f1 i1 _ _ k1 k2 k3
  |10,h=>exact⟨by omega,fun _=>loop 10 124 1 (by omega) (by omega) (z2n s n l p k its st) h,by omega⟩
  |11,h=>exact⟨by omega,fun _=>loop 11 38 2 (by omega) (by omega) (z2w s n l p k its st) h,by omega⟩
  |2,h=>
   refine⟨fun _=> ?_,by omega,by omega⟩
   rw [z6l] at h
   simp only at h
   split at h
   ·obtain⟨q,h1,h2⟩:=zgD.1 h
    obtain⟨f1,i1,k1,k2,k3⟩:=(ih _ _ _ _ _ _ _ h1).1 (by omega)
    cases h2
    exact⟨f1,i1,k1,k2,k3.wk (zL s [40] st) (zL s [41] q.2)⟩
   ·split at h
    ·exact(ih _ _ _ _ _ _ _ h).1 (by omega)
    ·obtain⟨_,g5⟩:=zJ h
     subst g5
     refine⟨1,st.L.length,rfl,by simp [St.put3],⟨0,(zw s st.at_ st.bad).2.2,-1,-1,0,0,[]⟩,by simp [St.put3],jq _ _ _,.inl ⟨rfl,rfl⟩⟩
  |3,h=>
   refine⟨fun _=> ?_,by omega,by omega⟩
   rw [z9z] at h
   obtain⟨q,h1,h2⟩:=zgD.1 h
   obtain⟨f1,i1,k1,k2,k3⟩:=(ih _ _ _ _ _ _ _ h1).1 (by omega)
   have hg:=zL s [45,111,102,40] {st with at_:=st.at_+1}
   have hg:st.at_+1≤(sgn s [45,111,102,40] {st with at_:=st.at_+1}).at_:=hg
   have hle:=k3.le
   refine(ih _ _ _ _ _ _ _ h2).2.2 rfl f1 st.L.length st.at_ rfl (by omega) ?_
   exact⟨i1,q.2.at_,k1,k3.wk hg (zgH _),k2,zgH _⟩
  |13,h=>
   refine⟨by omega,by omega,fun _ f a q hp hq hseg=> ?_⟩
   rw [z2U] at h
   split at h
   ·split at h
    ·obtain⟨u,h1,h2⟩:=zgD.1 h
     obtain⟨f1,i1,k1,k2,k3⟩:=(ih _ _ _ _ _ _ _ h1).1 (by omega)
     obtain⟨⟨F,hF⟩,_⟩:=z07 s _ _ _ _ _ _ _ _ h1
     have hF:u.2.L=st.L++F:=hF
     have hg:=zL s [44] st
     have hle:=k3.le
     refine(ih _ _ _ _ _ _ _ h2).2.2 rfl (f+f1) a q hp (by omega) ?_
     rw [k1,←k2]
     refine SegO.snoc (fun a i lo hi lo' h hl=>h.wk hl (zgH _)) _ _ _ _ st.at_ _ _ (SegO.imp (fun _ _ _ _ g=> ?_) _ _ _ _ _ hseg) ?_
     ·have:=(g.more F).ups f1
      rw [←hF] at this
      exact this
     ·have:=(k3.wk hg (zgH _)).ups f
      rw [Nat.add_comm f1 f] at this
      exact this
    ·obtain⟨_,g5⟩:=zJ h
     subst g5
     have hg:=zL s [41] st
     refine⟨f+1,st.L.length,rfl,by simp [sgn,St.put],⟨2,⟨#[]⟩,-1,-1,p,k,its⟩,by simp [sgn,St.put],by simp only;omega,.inr (.inr ⟨rfl,q,hp,zgH _,by simp only;omega,?_⟩)⟩
     exact SegO.wkhi _ _ _ _ _ _ (SegO.imp (fun _ _ _ _ g=>g.more _) _ _ _ _ _ hseg) hg
   ·cases h
  |4,h=>simp [ML] at h
  |5,h=>simp [ML] at h
  |6,h=>simp [ML] at h
  |7,h=>simp [ML] at h
  |8,h=>simp [ML] at h
  |9,h=>simp [ML] at h
  |12,h=>simp [ML] at h
  |t+14,h=>simp [ML] at h
def z0P (x:Lc):Bool:=x.form==2&& !(decide (1≤x.count)&&decide (x.count≤x.items.length))
def zgm (L:List Lc)(a e:Nat)(r:Int):Prop:=(r= -1∧ ∀(j:Nat) x,a≤j→j<e→L[j]?=some x→z0P x=false)∨
 (∃(j:Nat) (x:Lc),a≤j∧j<e∧L[j]?=some x∧z0P x=true∧r=x.place∧ ∀(j':Nat) y,a≤j'→j'<e→L[j']?=some y→z0P y=true→x.place≤y.place)
structure MF (L:List Lc)(a e lo hi:Nat)(r:Int):Prop where
 ae:a≤e
 lh:lo≤hi
 min:zgm L a e r
 span: ∀(j:Nat) x,a≤j→j<e→L[j]?=some x→z0P x=true→(lo:Int)≤x.place∧x.place<(hi:Int)
theorem MF.nil (L:List Lc)(a lo hi:Nat)(h:lo≤hi):MF L a a lo hi (-1):=⟨zgH _,h,.inl ⟨rfl,fun j x h1 h2=>by omega⟩,fun j x h1 h2=>by omega⟩
theorem MF.pos {L:List Lc}{a e lo hi:Nat}{r:Int}(h:MF L a e lo hi r):r= -1∨0≤r:=by
 rcases h.min with⟨h1,_⟩|⟨j,x,h1,h2,h3,h4,h5,_⟩
 ·exact .inl h1
 ·have:=(h.span j x h1 h2 h3 h4).1;omega
theorem MF.join {L:List Lc}{a m e lo mid hi:Nat}{r1 r2:Int}(h:MF L a m lo mid r1)(k:MF L m e mid hi r2):MF L a e lo hi (if 0≤r1 then r1 else r2):=by
 refine⟨zgP h.ae k.ae,zgP h.lh k.lh,?_,fun j x h1 h2 h3 h4=> ?_⟩
 ·rcases h.min with⟨q1,q2⟩|⟨j,x,q1,q2,q3,q4,q5,q6⟩
  ·rw [if_neg (by omega)]
   rcases k.min with⟨p1,p2⟩|⟨j,x,p1,p2,p3,p4,p5,p6⟩
   ·refine .inl ⟨p1,fun j x h1 h2 h3=> ?_⟩
    by_cases hj:j<m
    ·exact q2 j x h1 hj h3
    ·exact p2 j x (by omega) h2 h3
   ·refine .inr ⟨j,x,zgP h.ae p1,p2,p3,p4,p5,fun j' y h1 h2 h3 h4=> ?_⟩
    by_cases hj:j'<m
    ·have:=q2 j' y h1 hj h3;rw [h4] at this;cases this
    ·exact p6 j' y (by omega) h2 h3 h4
  ·have hs:=h.span j x q1 q2 q3 q4
   rw [if_pos (by omega)]
   refine .inr ⟨j,x,q1,zgN q2 k.ae,q3,q4,q5,fun j' y h1 h2 h3 h4=> ?_⟩
   by_cases hj:j'<m
   ·exact q6 j' y h1 hj h3 h4
   ·have:=(k.span j' y (by omega) h2 h3 h4).1;omega
 ·by_cases hj:j<m
  ·have:=h.span j x h1 hj h3 h4;have:=k.lh;omega
  ·have:=k.span j x (by omega) h2 h3 h4;have:=h.lh;omega
theorem MF.wk {L:List Lc}{a e lo hi lo' hi':Nat}{r:Int}(h:MF L a e lo hi r)(h1:lo'≤lo)(h2:hi≤hi'):MF L a e lo' hi' r:=
 ⟨h.ae,by have:=h.lh;omega,h.min,fun j x p1 p2 p3 p4=>by have:=h.span j x p1 p2 p3 p4;omega⟩
theorem MF.plain {L:List Lc}{a i lo hi:Nat}{r:Int}{x:Lc}(h:MF L a i lo hi r)(hx:L[i]?=some x)(hf:z0P x=false):MF L a (i+1) lo hi r:=by
 have hae:=h.ae
 have same: ∀j y,a≤j→j<i+1→L[j]?=some y→z0P y=true→j<i:=fun j y h1 h2 h3 h4=>by
  by_cases hj:j=i
  ·subst hj;rw [hx] at h3;injection h3 with h3;subst h3;rw [hf] at h4;cases h4
  ·omega
 refine⟨by omega,h.lh,?_,fun j y h1 h2 h3 h4=>h.span j y h1 (same j y h1 h2 h3 h4) h3 h4⟩
 rcases h.min with⟨q1,q2⟩|⟨j,y,q1,q2,q3,q4,q5,q6⟩
 ·refine .inl ⟨q1,fun j y h1 h2 h3=> ?_⟩
  cases hy:z0P y with
  |false=>rfl
  |true=>have:=q2 j y h1 (same j y h1 h2 h3 hy) h3;rw [hy] at this;cases this
 ·exact .inr ⟨j,y,q1,by omega,q3,q4,q5,fun j' z h1 h2 h3 h4=>q6 j' z h1 (same j' z h1 h2 h3 h4) h3 h4⟩
theorem MF.head {L:List Lc}{a i p hi:Nat}{r:Int}{x:Lc}(h:MF L a i (p+1) hi r)(hx:L[i]?=some x)(hp:x.place=(p:Int))(hf:z0P x=true):MF L a (i+1) p hi p:=by
 have hae:=h.ae
 have hlh:=h.lh
 have hall: ∀j y,a≤j→j<i+1→L[j]?=some y→z0P y=true→(p:Int)≤y.place∧y.place<(hi:Int):=fun j y h1 h2 h3 h4=>by
  by_cases hj:j=i
  ·subst hj;rw [hx] at h3;injection h3 with h3;subst h3;omega
  ·have:=h.span j y h1 (by omega) h3 h4;omega
 exact⟨by omega,by omega,.inr ⟨i,x,hae,by omega,hx,hf,hp.symm,fun j y h1 h2 h3 h4=>by rw [hp];exact(hall j y h1 h2 h3 h4).1⟩,hall⟩
def z0E (L:List Lc):Nat→Nat→Int
 |0,_=> -1
 |f+1,i=>match L[i]? with
  |none=> -1
  |some x=>if x.form=1 then zC [z0E L f x.left.toNat,z0E L f x.right.toNat]
   else if x.form=2 then(if x.count=0∨(x.items.length:Int)<x.count then x.place else zC (x.items.map fun j=>z0E L f j.toNat)) else -1
theorem zb2 {L:List Lc}{P:Nat→Nat→Nat→Nat→Prop}{g:Nat→Int}(h: ∀a i lo hi,P a i lo hi→MF L a (i+1) lo hi (g i)): ∀(js:List Int) (a e lo hi:Nat),SegO P js a e lo hi→MF L a e lo hi (zC (js.map fun j=>g j.toNat)):=by
 intro js
 induction js with
 |nil=>intro a e lo hi ⟨h1,h2⟩;subst h1;exact MF.nil L a lo hi h2
 |cons j js ih=>
  intro a e lo hi ⟨i,m,h1,h2,h3⟩
  have k1:=h _ _ _ _ h2
  have k2:=ih _ _ _ _ h3
  have:=k1.join k2
  subst h1
  simpa [zC] using this
theorem zak {L:List Lc}(hc: ∀x∈L,x.form=2→0≤x.count): ∀(f a i lo hi:Nat),OrdL L f a i lo hi→MF L a (i+1) lo hi (z0E L f i):=by
 intro f
 induction f with
 |zero=>intro a i lo hi h;exact absurd h id
 |succ f ih=>
  intro a i lo hi ⟨x,h1,h2,h3⟩
  unfold z0E
  rw [h1]
  simp only
  rcases h3 with⟨q1,q2⟩|⟨q1,j,k,m,q2,q3,q4,q5,q6⟩|⟨q1,p,q2,q3,q4,q5⟩
  ·rw [if_neg (by omega),if_neg (by omega)]
   subst q2
   exact(MF.nil L a lo hi h2).plain h1 (by simp [z0P,q1])
  ·rw [if_pos q1]
   have k1:=ih _ _ _ _ q5
   have k2:=ih _ _ _ _ q6
   have k3:=k1.join k2
   have hl:x.left.toNat=j:=by omega
   have hr:x.right.toNat=k:=by omega
   rw [hl,hr]
   have e:zC [z0E L f j,z0E L f k]=if 0≤z0E L f j then z0E L f j else z0E L f k:=by
    unfold zC
    split
    ·rfl
    ·unfold zC
     split
     ·rfl
     ·rcases k2.pos with e|e
      ·rw [e];rfl
      ·exact absurd e ‹_›
   rw [e,q2]
   exact k3.plain (q2▸h1) (by simp [z0P,q1])
  ·rw [if_neg (by omega),if_pos q1]
   have k1:=zb2 (g:=z0E L f) (fun a i lo hi h=>ih a i lo hi h) _ _ _ _ _ q5
   have hcx:=hc x (zgM h1) q1
   by_cases hz:x.count=0∨(x.items.length:Int)<x.count
   ·rw [if_pos hz,q2]
    refine MF.wk (k1.head h1 q2 ?_) q3 (zgH _)
    unfold z0P
    rw [q1]
    simp
    omega
   ·rw [if_neg hz]
    refine MF.wk (k1.plain h1 ?_) (by omega) (zgH _)
    unfold z0P
    rw [q1]
    simp
    omega
theorem zd0 {X:Nat→Prop}{w:World}{L:List Lc}: ∀(f:Nat) (v:Value) (a i:Nat),RefLX X w L f v a i→z0E L (f+1) i=z0E L f i:=by
 intro f
 induction f with
 |zero=>intro v a i h;exact absurd h id
 |succ f ih=>
  intro v a i ⟨x,hx,h⟩
  have e: ∀f,z0E L (f+1) i=if x.form=1 then zC [z0E L f x.left.toNat,z0E L f x.right.toNat] else if x.form=2 then(if x.count=0∨(x.items.length:Int)<x.count then x.place else zC (x.items.map fun j=>z0E L f j.toNat)) else -1:=fun f=>by
   rw [z0E,hx]
  rw [e,e]
  rcases h with⟨h1,h2,p,h3⟩|⟨h1,v1,v2,j,k,p,h2,h3,h4,h8,h5,h6,h7⟩|⟨h1,vs,c,h2,h3,h4,h5,h6⟩
  ·rw [if_neg (by omega),if_neg (by omega),if_neg (by omega),if_neg (by omega)]
  ·rw [if_pos h1,if_pos h1,h3,h4]
   have e1:=ih _ _ _ h6
   have e2:=ih _ _ _ h7
   simp only [Int.toNat_natCast]
   rw [e1,e2]
  ·have n1: ¬x.form=1:=by omega
   have hm:x.items.map (fun j=>z0E L (f+1) j.toNat)=x.items.map (fun j=>z0E L f j.toNat):=by
    have gen: ∀(vs:List Value) (is:List Int) (a e:Nat),SegV (fun v a i=>RefLX X w L f v a i) vs is a e→is.map (fun j=>z0E L (f+1) j.toNat)=is.map (fun j=>z0E L f j.toNat):=by
     intro vs
     induction vs with
     |nil=>intro is a e h;cases is with
      |nil=>rfl
      |cons i is=>exact absurd h id
     |cons v vs ihv=>
      intro is a e h
      cases is with
      |nil=>exact absurd h id
      |cons i is=>
       obtain⟨jj,p1,p2,p3⟩:=h
       have:=ihv is _ _ p3
       have e1:=ih _ _ _ p2
       subst p1
       simp only [List.map_cons,Int.toNat_natCast]
       rw [this,e1]
    exact gen _ _ _ _ h6
   simp only [if_neg n1,if_pos h1,hm]
theorem zcG: ∀(L:List Lc) (f:Int),(∀x∈L,z0P x=true→0≤x.place)→(f= -1∨0≤f)→
  (cfM L f=f∧ ∀x∈L,z0P x=true→f≠ -1∧f≤x.place)∨(∃x∈L,z0P x=true∧cfM L f=x.place∧(∀y∈L,z0P y=true→x.place≤y.place)∧(f= -1∨x.place<f)):=by
 intro L
 induction L with
 |nil=>intro f _ _;exact .inl ⟨rfl,fun x h=>by cases h⟩
 |cons x L ih=>
  intro f hp hf
  have hp': ∀y∈L,z0P y=true→0≤y.place:=fun y hy=>hp y (List.mem_cons_of_mem _ hy)
  unfold cfM
  by_cases hx:z0P x=true
  ·have hx2:=hx
   unfold z0P at hx2
   rw [if_neg (by
    simp only [Bool.and_eq_true,Bool.not_eq_true'] at hx2
    rw [hx2.2]
    simp [show x.form=2 by simpa using hx2.1])]
   have hpx:=hp x (List.mem_cons_self ..) hx
   by_cases hl:(f== -1||decide (x.place<f))=true
   ·rw [if_pos hl]
    have hl2:f= -1∨x.place<f:=by simpa using hl
    rcases ih x.place hp' (.inr hpx) with⟨q1,q2⟩|⟨y,q1,q2,q3,q4,q5⟩
    ·refine .inr ⟨x,List.mem_cons_self ..,hx,q1,fun y hy hfy=> ?_,hl2⟩
     rcases List.mem_cons.1 hy with rfl|hy
     ·exact Int.le_refl _
     ·exact(q2 y hy hfy).2
    ·refine .inr ⟨y,List.mem_cons_of_mem _ q1,q2,q3,fun z hz hfz=> ?_,by omega⟩
     rcases List.mem_cons.1 hz with rfl|hz
     ·omega
     ·exact q4 z hz hfz
   ·rw [if_neg hl]
    have hl2:f≠ -1∧f≤x.place:=by simpa using hl
    rcases ih f hp' hf with⟨q1,q2⟩|⟨y,q1,q2,q3,q4,q5⟩
    ·refine .inl ⟨q1,fun y hy hfy=> ?_⟩
     rcases List.mem_cons.1 hy with rfl|hy
     ·exact hl2
     ·exact q2 y hy hfy
    ·refine .inr ⟨y,List.mem_cons_of_mem _ q1,q2,q3,fun z hz hfz=> ?_,q5⟩
     rcases List.mem_cons.1 hz with rfl|hz
     ·omega
     ·exact q4 z hz hfz
  ·have hx2:z0P x=false:=by simpa using hx
   have hx3:=hx2
   unfold z0P at hx3
   rw [if_pos (by
    cases h:(x.form==2) with
    |false=>simp [bne,h]
    |true=>rw [h] at hx3;simp only [Bool.true_and,Bool.not_eq_false'] at hx3;rw [hx3];simp)]
   rcases ih f hp' hf with⟨q1,q2⟩|⟨y,q1,q2,q3,q4,q5⟩
   ·refine .inl ⟨q1,fun y hy hfy=> ?_⟩
    rcases List.mem_cons.1 hy with rfl|hy
    ·exact absurd hfy hx
    ·exact q2 y hy hfy
   ·refine .inr ⟨y,List.mem_cons_of_mem _ q1,q2,q3,fun z hz hfz=> ?_,q5⟩
    rcases List.mem_cons.1 hz with rfl|hz
    ·exact absurd hfz hx
    ·exact q4 z hz hfz
theorem MF.cf {L:List Lc}{hi:Nat}{r:Int}(h:MF L 0 L.length 0 hi r):cfM L (-1)=r:=by
 have hp: ∀x∈L,z0P x=true→0≤x.place:=fun x hx hf=>by
  obtain⟨j,hj⟩:=List.mem_iff_getElem?.1 hx
  have:=h.span j x (zgO _) (zgF.1 hj).1 hj hf
  omega
 rcases zcG L (-1) hp (.inl rfl) with⟨q1,q2⟩|⟨y,q1,q2,q3,q4,q5⟩
 ·rw [q1]
  rcases h.min with⟨p1,_⟩|⟨j,x,_,p1,p2,p3,p4,_⟩
  ·exact p1.symm
  ·exact absurd rfl (q2 x (zgM p2) p3).1
 ·rw [q3]
  rcases h.min with⟨p1,p2⟩|⟨j,x,_,p1,p2,p3,p4,p5⟩
  ·obtain⟨j,hj⟩:=List.mem_iff_getElem?.1 q1
   have:=p2 j y (zgO _) (zgF.1 hj).1 hj
   rw [q2] at this
   cases this
  ·have e1:=q4 x (zgM p2) p3
   obtain⟨j',hj'⟩:=List.mem_iff_getElem?.1 q1
   have e2:=p5 j' y (zgO _) (zgF.1 hj').1 hj' q2
   omega
theorem zcn {X:Nat→Prop}{w:World}{L:List Lc}(hl: ∀x∈L,x.items.length≤100000): ∀(f:Nat) (v:Value) (a i:Nat),RefLX X w L f v a i→Calls Tryz.prog 90 #[v] w fun e w'=>e= .returned (.int .i64 (z0E L f i))∧w'=w:=by
 intro f
 induction f with
 |zero=>intro v a i h;exact absurd h id
 |succ f ih=>
  intro v a i ⟨x,hx,h⟩
  have e:z0E L (f+1) i=if x.form=1 then zC [z0E L f x.left.toNat,z0E L f x.right.toNat] else if x.form=2 then(if x.count=0∨(x.items.length:Int)<x.count then x.place else zC (x.items.map fun j=>z0E L f j.toNat)) else -1:=by
   rw [z0E,hx]
  rcases h with⟨h1,h2,p,h3⟩|⟨h1,v1,v2,j,k,p,h2,h3,h4,h8,h5,h6,h7⟩|⟨h1,vs,c,h2,h3,h4,h5,h6⟩
  ·have ho:(z4g.toList==[111,102])=false:=by rw [zgG];rfl
   have hr:z0E L (f+1) i=z0F z4g x.text p ([]:List Value).length []:=by
    rw [e,if_neg (by omega),if_neg (by omega)]
    unfold z0F
    rw [ho];rfl
   rw [hr]
   exact z5e h3 (by simp) [] rfl (fun q=>by rw [ho] at q;cases q) (fun i vi ri h=>by simp at h)
  ·have ho:(x.text.toList==[111,102])=false:=by
    rcases h8 with h8|h8<;>(rw [h8,zgG];rfl)
   have hr:z0E L (f+1) i=z0F x.text ⟨#[]⟩ p [v1,v2].length [z0E L f j,z0E L f k]:=by
    rw [e,if_pos h1,h3,h4]
    unfold z0F
    rw [ho];rfl
   rw [hr]
   refine z5e h5 (by simp) _ rfl (fun q=>by rw [ho] at q;cases q) (fun n vi ri g1 g2=> ?_)
   match n,g1,g2 with
   |0,g1,g2=>
    have g1:v1=vi:=by simpa using g1
    have g2:z0E L f j=ri:=by simpa using g2
    subst g1 g2
    exact ih _ _ _ h6
   |1,g1,g2=>
    have g1:v2=vi:=by simpa using g1
    have g2:z0E L f k=ri:=by simpa using g2
    subst g1 g2
    exact ih _ _ _ h7
   |n+2,g1,g2=>simp at g1
  ·have ho:(sOf.toList==[111,102])=true:=by rw [zgG];rfl
   have hlen:=SegV.length _ _ _ _ h6
   have hli:=hl x (zgM hx)
   have hr:z0E L (f+1) i=z0F sOf ⟨#[c]⟩ x.place vs.length (x.items.map fun j=>z0E L f j.toNat):=by
    rw [e,if_neg (by omega),if_pos h1]
    unfold z0F
    rw [ho,if_pos rfl]
    have hcc:((⟨#[c]⟩:zgS).data.toList.headD 0).toNat=c.toNat:=rfl
    rw [hcc]
    by_cases hz:x.count=0∨(x.items.length:Int)<x.count
    ·rw [if_pos hz,if_pos (by omega)]
    ·rw [if_neg hz,if_neg (by omega)]
   rw [hr]
   refine z5e h5 (by omega) _ (by simp [hlen]) (fun _=>⟨c,rfl,h3,h4⟩) ?_
   have gen: ∀(vs:List Value) (is:List Int) (a e:Nat),SegV (fun v a i=>RefLX X w L f v a i) vs is a e→ ∀(n:Nat) (vi:Value) (ri:Int),vs[n]?=some vi→(is.map fun j=>z0E L f j.toNat)[n]?=some ri→Calls Tryz.prog 90 #[vi] w fun e w'=>e= .returned (.int .i64 ri)∧w'=w:=by
    intro vs
    induction vs with
    |nil=>intro is a e h n vi ri h1;simp at h1
    |cons u vs ihv=>
     intro is a e h n vi ri h1 h2
     cases is with
     |nil=>exact absurd h id
     |cons i is=>
      obtain⟨jj,p1,p2,p3⟩:=h
      cases n with
      |zero=>
       have g1:u=vi:=by simpa using h1
       have g2:z0E L f i.toNat=ri:=by simpa using h2
       subst g1 g2 p1
       exact ih _ _ _ p2
      |succ n=>exact ihv is _ _ p3 n vi ri (by simpa using h1) (by simpa using h2)
   exact gen _ _ _ _ h6
theorem zdI (s:zgS): ∀n,zfp s n:=by
 intro n
 induction n using Nat.strongRecOn with
 |_ n ih=>
  cases n with
  |zero=>intro b st w p r cl st' h;simp [MC] at h
  |succ n=>exact z7e s n (fun m=>(zer s m).1) fun m h=>ih m (by omega)
def zeb (b:Nat)(s:zgS)(st st':St)(w:World)(e:Ending)(w':World):Prop:= ∃(nm:zgS) (vt vi:Option Addr),e= .returned (.agg #[.string nm,.pointer vt,.pointer vi])∧Rd w' b s st'.at_ st'.bad∧Rf b w w'∧
 (st'.bad=false→ ∃(f g i ci:Nat),st'.A=st.A++[⟨nm,(i:Int),(ci:Int)⟩]∧i+1=st'.L.length∧ci+1=st'.C.length∧RefLX (Out b w.heap.size) w' st'.L f (.pointer vt) st.L.length i∧RefCX (Out b w.heap.size) w' st'.E st'.C g (.pointer vi) ci st.E.length st'.E.length)
theorem zge {w:World}{g:Nat}{a b c:Value}{t:TypeId}(h:w.heap[g]?=some (.cells #[a,b,c] t)):
  w.cell? ⟨g,0,none⟩=some a∧w.cell? ⟨g,1,none⟩=some b∧w.cell? ⟨g,2,none⟩=some c∧(∀o,w.frozen? ⟨g,o,none⟩=false):=by
 simp [World.cell?,World.frozen?,h]
theorem z7g (s:zgS)(n:Nat)(b:Nat)(st:St)(w:World)(st':St)(hM:MA s n st=some st')(hR:Rd w b s st.at_ st.bad):
  Calls Tryz.prog 89 #[.pointer (some ⟨b,0,none⟩)] w fun e w'=>zeb b s st st' w e w':=by
 unfold MA at hM
 simp only at hM
 obtain⟨⟨r1,st1⟩,h1,hM2⟩:=zgD.1 hM
 obtain⟨⟨r2,cl2,st2⟩,h2,hM3⟩:=zgD.1 hM2
 obtain⟨hl,h6⟩:=jl hM3
 rw [z2E] at h1 h6
 simp only at h1 h2 h6
 have H1:=z8 h1
 have H2:=z8 h2
 have H6:=z8 h6
 clear hM hM2 hM3 h1 h2 h6 hl
 obtain⟨a,ha⟩: ∃a,zp s [98,121] st=a:=⟨_,rfl⟩
 obtain⟨⟨qp,qd,qt⟩,hq⟩: ∃q,z19 s a.at_ a.bad=q:=⟨_,rfl⟩
 rw [ha,hq] at H1 H6
 have HQ:=z8 hq
 have HA:=z8 ha
 clear hq ha
 obtain⟨u,hu⟩: ∃u,wrd s [10] (a.put3 (skip s qp qd,qd,qt))=u:=⟨_,rfl⟩
 have H1':=H1.out
 simp only [hu] at H1'
 have HU:=z8 hu
 obtain⟨d,hd⟩: ∃d,zp s [116,111] u=d:=⟨_,rfl⟩
 rw [hd] at H1'
 have HD:=z8 hd
 have H1:=z8 H1'
 clear hu hd H1'
 obtain⟨v,hv⟩: ∃v,wrd s [10] st1=v:=⟨_,rfl⟩
 obtain⟨x,hx⟩: ∃x,zp s [105,102] v=x:=⟨_,rfl⟩
 have H2':=H2.out
 rw [hv,hx] at H2'
 have HV:=z8 hv
 have HX:=z8 hx
 have H2:=z8 H2'
 clear hv hx H2'
 have hb1:b<w.heap.size:=zd hR.c0
 have hRa:Rd (w.alloc (.cells #[.string ⟨#[]⟩,.pointer none,.pointer none] 91)) b s st.at_ st.bad:=hR.other (zgJ _ _ _ hb1)
 have hga:=heap_alloc_new w (.cells #[.string ⟨#[]⟩,.pointer none,.pointer none] 91)
 have hFa:Rf b w (w.alloc (.cells #[.string ⟨#[]⟩,.pointer none,.pointer none] 91)):=(Rf.refl b w).alloc _
 have HA0:=z8 (zgI hRa (zgI hga hFa))
 clear hRa hga hFa hR
 have hnb:w.heap.size≠b:=by omega
 go_enter Tryz.func89,Tryz.ntmps89
 go_wp2_with fail
 have hz0:Hid ((w.alloc (.cells #[.string ⟨#[]⟩,.pointer none,.pointer none] 91)).heap.size=w.heap.size+1):=z8 (by simp)
 generalize (w.alloc (.cells #[.string ⟨#[]⟩,.pointer none,.pointer none] 91))=W0 at*
 obtain⟨hR0,hg0,hF0⟩:=HA0.out
 clear HA0
 refine(z5j b st.at_ s _ st.bad _ hR0 (by decide)).mono ?_
 rintro e w1 ⟨rfl,hR1,hs1⟩
 have hR1:Rd w1 b s a.at_ a.bad:=by rw [←HA.out];exact hR1
 have hnm:=z0A b a.at_ s a.bad _ hR1
 rw [HQ.out] at hnm
 have HNM:=z8 hnm
 clear hnm
 go_wp2_with fail
 refine HNM.out.mono ?_
 rintro e w2 ⟨rfl,hR2,hs2⟩
 have hR2:Rd w2 b s qp qd:=hR2
 go_wp2_with fail
 refine(z6r b qp s qd _ hR2).mono ?_
 rintro e w3 ⟨rfl,hR3,hs3⟩
 have hR3:Rd w3 b s u.at_ u.bad:=by rw [←HU.out];exact hR3
 go_wp2_with fail
 refine(z5j b u.at_ s _ u.bad _ hR3 (by decide)).mono ?_
 rintro e w4 ⟨rfl,hR4,hs4⟩
 have hsd:Hid (skip s d.at_ d.bad=d.at_):=z8 (by
  rw [←HD.out]
  unfold zp sgn
  refine jp s _ _ ?_
  exact(z0g s _ [32] _ ((z0g s u.bad [116,111] u.at_ hR3.le).2)).2)
 have hR4:Rd w4 b s d.at_ d.bad:=by rw [←HD.out];exact hR4
 have hs14:=((hs1.trans hs2).trans hs3).trans hs4
 have hF4:=hF0.trans hs14.rf
 have hz4:Hid (w4.heap.size=w.heap.size+1):=z8 (hs14.size.trans hz0.out)
 have hg4:w4.heap[w.heap.size]?=some (.cells #[.string ⟨#[]⟩,.pointer none,.pointer none] 91):=(hs14.block _ hnb).trans hg0
 clear hs1 hs2 hs3 hs4 hs14 hR0 hR1 hR2 hR3 HNM hg0 hF0
 go_wp2_with fail
 refine((ze9 s n).1 b d w4 d.at_ r1 st1 H1.out hR4 hsd.out).mono ?_
 rintro e w5 ⟨ao5,p5,rfl,hR5,hF5,hp5,ht5⟩
 rw [hz4.out] at ht5
 have HT5:=z8 ht5
 have hend:=z6r b p5 s st1.bad w5 hR5
 rw [hp5] at hend
 have HEND:=z8 hend
 clear ht5 hend hp5
 go_wp2_with fail
 refine HEND.out.mono ?_
 rintro e w6 ⟨rfl,hR6,hs6⟩
 have hR6:Rd w6 b s v.at_ v.bad:=by rw [←HV.out];exact hR6
 go_wp2_with fail
 refine(z5j b v.at_ s _ v.bad _ hR6 (by decide)).mono ?_
 rintro e w7 ⟨rfl,hR7,hs7⟩
 have hsx:Hid (skip s x.at_ x.bad=x.at_):=z8 (by
  rw [←HX.out]
  unfold zp sgn
  refine jp s _ _ ?_
  exact(z0g s _ [32] _ ((z0g s v.bad [105,102] v.at_ hR6.le).2)).2)
 have hR7:Rd w7 b s x.at_ x.bad:=by rw [←HX.out];exact hR7
 have hF67:=hs6.rf.trans hs7.rf
 have hg7:w7.heap[w.heap.size]?=some (.cells #[.string ⟨#[]⟩,.pointer none,.pointer none] 91):=((hF5.trans hF67).block _ (by rw [hz4.out];omega) hnb).trans hg4
 have hF7:=(hF4.trans hF5).trans hF67
 have hz7:Hid (w.heap.size+1≤w7.heap.size):=z8 (by have h1:=(hF5.trans hF67).size;rw [hz4.out] at h1;exact h1)
 go_wp2_with fail
 refine(zdI s n b x w7 x.at_ r2 cl2 st2 H2.out hR7 hsx.out).mono ?_
 rintro e w8 ⟨ao8,p8,rfl,hR8,hF8,hp8,ht8⟩
 have HT8:=z8 ht8
 have hend:=z6r b p8 s st2.bad w8 hR8
 rw [hp8] at hend
 have HEND2:=z8 hend
 clear ht8 hend hp8
 go_wp2_with fail
 refine HEND2.out.mono ?_
 rintro e w9 ⟨rfl,hR9,hs9⟩
 have hF79:=hF8.trans hs9.rf
 have hg9:w9.heap[w.heap.size]?=some (.cells #[.string ⟨#[]⟩,.pointer none,.pointer none] 91):=(hF79.block _ (by have:=hz7.out;omega) hnb).trans hg7
 have hF9:=hF7.trans hF79
 obtain⟨y0,y1,y2,yf⟩:=zge hg9
 have hRx:Rd (((w9.setCell ⟨w.heap.size,0,none⟩ (.string qt)).setCell ⟨w.heap.size,1,none⟩ (.pointer ao5)).setCell ⟨w.heap.size,2,none⟩ (.pointer ao8)) b s (zt s st2.bad [10] st2.at_).1 (zt s st2.bad [10] st2.at_).2:=
  ((hR9.other (zgQ _ _ _ _ (by simpa using hnb.symm))).other (zgQ _ _ _ _ (by simpa using hnb.symm))).other (zgQ _ _ _ _ (by simpa using hnb.symm))
 have hFx:Rf b w (((w9.setCell ⟨w.heap.size,0,none⟩ (.string qt)).setCell ⟨w.heap.size,1,none⟩ (.pointer ao5)).setCell ⟨w.heap.size,2,none⟩ (.pointer ao8)):=
  ((hF9.setCell (a:=⟨w.heap.size,0,none⟩) (zgH _) _).setCell (a:=⟨w.heap.size,1,none⟩) (zgH _) _).setCell (a:=⟨w.heap.size,2,none⟩) (zgH _) _
 have hsame:z1M (Out b (w.heap.size+1)) w9 (((w9.setCell ⟨w.heap.size,0,none⟩ (.string qt)).setCell ⟨w.heap.size,1,none⟩ (.pointer ao5)).setCell ⟨w.heap.size,2,none⟩ (.pointer ao8)):=fun k hk hn=>by
  have hkn:k≠w.heap.size:=fun e=>hn (.inr (by omega))
  exact(zgQ _ _ _ _ (by simpa using hkn)).trans ((zgQ _ _ _ _ (by simpa using hkn)).trans (zgQ _ _ _ _ (by simpa using hkn)))
 have hfin:zeb b s st st' w (.returned (.agg #[.string qt,.pointer ao5,.pointer ao8])) (((w9.setCell ⟨w.heap.size,0,none⟩ (.string qt)).setCell ⟨w.heap.size,1,none⟩ (.pointer ao5)).setCell ⟨w.heap.size,2,none⟩ (.pointer ao8)):=by
  have h6:=H6.out
  refine⟨qt,ao5,ao8,rfl,by rw [h6];exact hRx,hFx,fun hb=> ?_⟩
  rw [h6] at hb
  have hb:(wrd s [10] st2).bad=false:=hb
  have hb2:st2.bad=false:=by
   cases hq:st2.bad with
   |false=>rfl
   |true=>
    have h2:=(z0L (s:=s) (c:=10) (cs:=[]) hq).1
    rw [h2] at hb
    cases hb
  have hbx:x.bad=false:=by
   cases hq:x.bad with
   |false=>rfl
   |true=>
    have h2:=(z67 s _ _ _ _ _ H2.out hq).1
    simp only at h2
    rw [h2] at hb2
    cases hb2
  have hbv:v.bad=false:=by
   cases hq:v.bad with
   |false=>rfl
   |true=>
    have h1:=(z0L (s:=s) (c:=105) (cs:=[102]) hq).1
    have h2:=(z0b (s:=s) (c:=32) (cs:=[]) h1).1
    have h3:x.bad=true:=by rw [←HX.out];exact h2
    rw [h3] at hbx
    cases hbx
  have hb1:st1.bad=false:=by
   cases hq:st1.bad with
   |false=>rfl
   |true=>
    have h2:=(z0L (s:=s) (c:=10) (cs:=[]) hq).1
    rw [HV.out] at h2
    rw [h2] at hbv
    cases hbv
  obtain⟨f5,i5,e5,l5,t5⟩:=HT5.out hb1
  obtain⟨f8,c8,e8,l8,t8⟩:=HT8.out hb2
  obtain⟨_,_,hA1,hL1⟩:=z1i s _ _ _ _ _ H2.out
  obtain⟨_,hA5,hE5,hC5⟩:=z07 s _ _ _ _ _ _ _ _ H1.out
  have hxA:x.A=st1.A:=by rw [←HX.out,←HV.out];rfl
  have hxL:x.L=st1.L:=by rw [←HX.out,←HV.out];rfl
  have hxE:x.E=st1.E:=by rw [←HX.out,←HV.out];rfl
  have hdA:d.A=st.A:=by rw [←HD.out,←HU.out,←HA.out];rfl
  have hdL:d.L=st.L:=by rw [←HD.out,←HU.out,←HA.out];rfl
  have hdE:d.E=st.E:=by rw [←HD.out,←HU.out,←HA.out];rfl
  simp only at hA1 hL1 hA5 hE5 hC5
  rw [h6]
  refine⟨f5,f8,i5,c8,?_,?_,l8,?_,?_⟩
  ·show st2.A++[_]=st.A++[_]
   rw [hA1,hxA,hA5,hdA,e5,e8]
  ·show i5+1=st2.L.length
   rw [hL1,hxL];exact l5
  ·show RefLX (Out b w.heap.size) _ st2.L f5 (.pointer ao5) st.L.length i5
   rw [hL1,hxL,←hdL]
   have t6:=t5.keep (hF67.trans hF79)
   exact(t6.keepX hsame).mono fun k e=>e.imp id fun e=>by omega
  ·show RefCX (Out b w.heap.size) _ st2.E st2.C f8 (.pointer ao8) c8 st.E.length st2.E.length
   rw [←hdE,←hE5,←hxE]
   have t9:=t8.keepX (hs9.rf.sameX (.inl rfl))
   have t10:=t9.mono (X':=Out b (w.heap.size+1)) fun k e=>e.imp id fun e=>by have:=hz7.out;omega
   exact(t10.keepX hsame).mono fun k e=>e.imp id fun e=>by omega
 have HFIN:=z8 hfin
 clear hfin hsame hFx hRx hg9 hg7 hg4 HT5 HT8 hR9 hF9
 go_wp2_with fail
 refine bodyPost_ret (v:= .agg #[.string qt,.pointer ao5,.pointer ao8]) ?_ rfl HFIN.out
 simp [results,Tryz.results89,go_sem,y0,y1,y2]
theorem z0f {st:St}{x:Ex}{r:Int×St}(h:jQ st x=some r)(hg:jX st.E)(hx:0≤x.place∧(x.form=6→jF x.text=true)):jX r.2.E:=by
 obtain⟨_,rfl⟩:=zj h
 intro y hy
 rcases List.mem_append.1 hy with hy|hy
 ·exact hg y hy
 ·have:y=x:=by simpa using hy
  rw [this];exact hx
theorem z92 (s:zgS)(a:Nat)(d:Bool):zr s a d=⟨#[]⟩∨zr s a d=⟨#[43]⟩∨zr s a d=⟨#[45]⟩∨zr s a d=⟨#[46]⟩:=by
 unfold zr
 split
 ·exact .inl rfl
 ·split
  ·exact .inr (.inl rfl)
  ·split
   ·exact .inr (.inr (.inl rfl))
   ·split
    ·exact .inr (.inr (.inr rfl))
    ·exact .inl rfl
theorem zbs {s:zgS}{a:Nat}{d:Bool}(h: ¬((zr s a d).size==0)=true):jF (zr s a d)=true:=by
 rcases z92 s a d with e|e|e|e
 ·rw [e] at h;exact absurd rfl h
 all_goals rw [e];unfold jF;rw [zgG];rfl
theorem z4Z (s:zgS)(a:Nat)(d:Bool):zh s a d=⟨#[]⟩∨zh s a d=⟨#[42]⟩∨zh s a d=⟨#[47]⟩∨zh s a d=⟨#[37]⟩:=by
 unfold zh
 split
 ·exact .inr (.inl rfl)
 ·split
  ·exact .inr (.inr (.inl rfl))
  ·split
   ·exact .inr (.inr (.inr rfl))
   ·exact .inl rfl
theorem z69 {s:zgS}{a:Nat}{d:Bool}(h: ¬((zh s a d).size==0)=true):jF (zh s a d)=true:=by
 rcases z4Z s a d with e|e|e|e
 ·rw [e] at h;exact absurd rfl h
 all_goals rw [e];unfold jF;rw [zgG];rfl
theorem z1Q (s x y:zgS)(a:Nat)(d:Bool):(zx s x y a d).2.2=x∨(zx s x y a d).2.2=y:=by
 unfold zx
 simp only
 split
 ·exact .inl rfl
 ·exact .inr rfl
theorem z3z (s:zgS)(a:Nat)(d:Bool):(ze s a d).2.2=⟨#[]⟩∨(ze s a d).2.2=⟨#[61,61]⟩∨(ze s a d).2.2=⟨#[33,61]⟩∨(ze s a d).2.2=⟨#[60]⟩∨(ze s a d).2.2=⟨#[60,61]⟩∨(ze s a d).2.2=⟨#[62]⟩∨(ze s a d).2.2=⟨#[62,61]⟩:=by
 unfold ze
 split
 ·exact .inr (.inl rfl)
 ·split
  ·exact .inr (.inr (.inl rfl))
  ·split
   ·rcases z1Q s ⟨#[60]⟩ ⟨#[60,61]⟩ a d with e|e
    ·exact .inr (.inr (.inr (.inl e)))
    ·exact .inr (.inr (.inr (.inr (.inl e))))
   ·split
    ·rcases z1Q s ⟨#[62]⟩ ⟨#[62,61]⟩ a d with e|e
     ·exact .inr (.inr (.inr (.inr (.inr (.inl e)))))
     ·exact .inr (.inr (.inr (.inr (.inr (.inr e)))))
    ·exact .inl rfl
theorem z4f {s:zgS}{a:Nat}{d:Bool}(h: ¬((ze s a d).2.2.size==0)=true):jF (ze s a d).2.2=true:=by
 rcases z3z s a d with e|e|e|e|e|e|e
 ·rw [e] at h;exact absurd rfl h
 all_goals rw [e];unfold jF;rw [zgG];rfl
theorem ze5 (s:zgS): ∀n tag l st r,M s n tag l st=some r→jX st.E→jX r.2.E:=by
 intro n
 induction n with
 |zero=>intro tag l st r h;simp [M] at h
 |succ n ih=>
  intro tag l st r h hg
  have two: ∀{t1 t2:Nat} {st0:St},jX st0.E→((M s n t1 0 st0).bind fun r=>M s n t2 r.1 r.2)=some r→jX r.2.E:=fun hg h=>by
   obtain⟨q,h1,h2⟩:=zgD.1 h
   exact ih _ _ _ _ h2 (ih _ _ _ _ h1 hg)
  have three: ∀{t1 t2:Nat} {st0:St} {x:Int×St→Ex},jX st0.E→(∀r,0≤(x r).place∧((x r).form=6→jF (x r).text=true))→((M s n t1 0 st0).bind fun r=>(jQ r.2 (x r)).bind fun q=>M s n t2 q.1 q.2)=some r→jX r.2.E:=fun hg hx h=>by
   obtain⟨q,h1,h2⟩:=zgD.1 h
   obtain⟨q2,h3,h4⟩:=zgD.1 h2
   exact ih _ _ _ _ h4 (z0f h3 (ih _ _ _ _ h1 hg) (hx q))
  match tag,h with
  |0,h=>rw [M_0] at h;exact two hg h
  |1,h=>rw [M_1] at h;exact two hg h
  |4,h=>rw [M_4] at h;exact two hg h
  |5,h=>rw [M_5] at h;exact two hg h
  |10,h=>
   rw [z71] at h
   split at h
   ·exact three (st0:=sgn s [124,124] st) (x:=fun r=>⟨6,st.at_,⟨#[124,124]⟩,l,r.1⟩) hg (fun r=>⟨Int.natCast_nonneg _,fun _=>by unfold jF;rw [zgG];rfl⟩) h
   ·cases h;exact hg
  |11,h=>
   rw [z7h] at h
   split at h
   ·exact three (st0:=sgn s [38,38] st) (x:=fun r=>⟨6,st.at_,⟨#[38,38]⟩,l,r.1⟩) hg (fun r=>⟨Int.natCast_nonneg _,fun _=>by unfold jF;rw [zgG];rfl⟩) h
   ·cases h;exact hg
  |14,h=>
   rw [z6x] at h
   simp only at h
   split at h
   ·cases h;exact hg
   ·rename_i hs
    exact three (st0:=sgn s (zr s st.at_ st.bad).data.toList st) (x:=fun r=>⟨6,st.at_,zr s st.at_ st.bad,l,r.1⟩) hg (fun r=>⟨Int.natCast_nonneg _,fun _=>zbs hs⟩) h
  |15,h=>
   rw [z7L] at h
   simp only at h
   split at h
   ·cases h;exact hg
   ·rename_i hs
    exact three (st0:=sgn s (zh s st.at_ st.bad).data.toList st) (x:=fun r=>⟨6,st.at_,zh s st.at_ st.bad,l,r.1⟩) hg (fun r=>⟨Int.natCast_nonneg _,fun _=>z69 hs⟩) h
  |2,h=>
   rw [M_2] at h
   split at h
   ·exact ih _ _ _ _ h hg
   ·obtain⟨q,h1,h2⟩:=zgD.1 h
    have hq:=ih _ _ _ _ h1 (show jX (sgn s [33] st).E from hg)
    exact z0f h2 hq ⟨Int.natCast_nonneg _,fun e=>absurd (show(5:Int)=6 from e) (by decide)⟩
  |6,h=>
   rw [M_6] at h
   split at h
   ·exact ih _ _ _ _ h hg
   ·obtain⟨q,h1,h2⟩:=zgD.1 h
    have hq:=ih _ _ _ _ h1 (show jX (sgn s [45] st).E from hg)
    exact z0f h2 hq ⟨Int.natCast_nonneg _,fun e=>absurd (show(5:Int)=6 from e) (by decide)⟩
  |3,h=>
   rw [M_3] at h
   obtain⟨q,h1,h2⟩:=zgD.1 h
   have k1:=ih _ _ _ _ h1 hg
   simp only at h2
   split at h2
   ·cases h2;exact k1
   ·rename_i hs
    obtain⟨q2,h3,h4⟩:=zgD.1 h2
    have hq:=ih _ _ _ _ h3 (show jX (q.2.put3 _).E from k1)
    exact z0f h4 hq ⟨Int.natCast_nonneg _,fun _=>z4f hs⟩
  |7,h=>
   rw [M_7] at h
   simp only at h
   split at h
   ·exact z0f h (show jX (st.put3 _).E from hg) ⟨Int.natCast_nonneg _,fun e=>absurd (show(0:Int)=6 from e) (by decide)⟩
   ·split at h
    ·exact z0f h (show jX (st.put3 _).E from hg) ⟨Int.natCast_nonneg _,fun e=>absurd (show(1:Int)=6 from e) (by decide)⟩
    ·split at h
     ·exact z0f h (show jX ((wrd s [64] st).put3 _).E from hg) ⟨Int.natCast_nonneg _,fun e=>absurd (show(4:Int)=6 from e) (by decide)⟩
     ·split at h
      ·obtain⟨q,h1,h2⟩:=zgD.1 h
       have hq:=ih _ _ _ _ h1 (show jX (sgn s [40] st).E from hg)
       cases h2
       exact hq
      ·split at h
       ·exact z0f h (show jX (st.put3 _).E from hg) ⟨Int.natCast_nonneg _,fun e=>absurd (show(2:Int)=6 from e) (by decide)⟩
       ·exact z0f h (show jX (st.put3 _).E from hg) ⟨Int.natCast_nonneg _,fun e=>absurd (show(3:Int)=6 from e) (by decide)⟩
  |8,h=>simp [M] at h
  |9,h=>simp [M] at h
  |12,h=>simp [M] at h
  |13,h=>simp [M] at h
  |t+16,h=>simp [M] at h
def z5O (C:List (List Cl)):Prop:= ∀cls∈C,cls.length<100000
theorem zdd (s:zgS): ∀n tag cls st r,MC s n tag cls st=some r→jX st.E∧z5O st.C→jX r.2.2.E∧z5O r.2.2.C:=by
 intro n
 induction n with
 |zero=>intro tag cls st r h;simp [MC] at h
 |succ n ih=>
  intro tag cls st r h hg
  match tag,h with
  |0,h=>
   rw [z8h] at h
   obtain⟨q,h1,h2⟩:=zgD.1 h
   exact ih _ _ _ _ h2 (ih _ _ _ _ h1 hg)
  |2,h=>
   rw [z7k] at h
   split at h
   ·rename_i hlen
    split at h
    ·obtain⟨q,h1,h2⟩:=zgD.1 h
     exact ih _ _ _ _ h2 (ih _ _ _ _ h1 (show jX (sgn s [59] st).E∧z5O (sgn s [59] st).C from hg))
    ·obtain⟨q,h1,h2⟩:=zgD.1 h
     cases h2
     obtain⟨_,rfl⟩:=jy h1
     refine⟨hg.1,fun c hc=> ?_⟩
     rcases List.mem_append.1 hc with hc|hc
     ·exact hg.2 c hc
     ·have:c=cls:=by simpa using hc
      rw [this];exact hlen
   ·cases h
  |1,h=>
   rw [z6v] at h
   obtain⟨q,h1,h2⟩:=zgD.1 h
   obtain⟨q2,h3,h4⟩:=zgD.1 h2
   have k1:=ze5 s _ _ _ _ _ h1 hg.1
   have k2:=z0f h3 k1 ⟨Int.natCast_nonneg _,fun e=>absurd (show(7:Int)=6 from e) (by decide)⟩
   have k3:z5O q2.2.C:=by
    obtain⟨_,_,_,c1⟩:=z1z s _ _ _ _ _ h1
    obtain⟨_,_,_,c2⟩:=z0s h3
    rw [c2,c1];exact hg.2
   split at h4
   ·cases h4;exact⟨k2,k3⟩
   ·obtain⟨x,h5,h6⟩:=zgD.1 h4
    cases h6
    unfold zb4 at h5
    split at h5
    ·obtain⟨v,h7,h8⟩:=zgD.1 h5
     cases h8
     have kk:=ih _ _ _ _ h7 (show jX (sgn s [123] (sgn s [45,62] q2.2)).E∧z5O (sgn s [123] (sgn s [45,62] q2.2)).C from⟨k2,k3⟩)
     exact kk
    ·cases h5
     exact⟨k2,k3⟩
  |t+3,h=>simp [MC] at h
def z2j (L:List Lc):Prop:= ∀x∈L,x.items.length≤100000∧(x.form=2→0≤x.count)
theorem z3C {st:St}{x:Lc}{r:Int×St}(h:z2H st x=some r)(hg:z2j st.L)(hx:x.items.length≤100000∧(x.form=2→0≤x.count)):z2j r.2.L:=by
 obtain⟨_,rfl⟩:=zJ h
 intro y hy
 rcases List.mem_append.1 hy with hy|hy
 ·exact hg y hy
 ·have:y=x:=by simpa using hy
  rw [this];exact hx
theorem zcp (s:zgS): ∀n tag l p k its st r,ML s n tag l p k its st=some r→(tag=13→0≤k)→(tag=3→zg (pkS s st)=true)→z2j st.L→z2j r.2.L:=by
 intro n
 induction n with
 |zero=>intro tag l p k its st r h;simp [ML] at h
 |succ n ih=>
  intro tag l p k its st r h hk ht hg
  have three: ∀{t1 t2:Nat} {st0:St} {x:Int×St→Lc},t1≠13→t2≠13→t1≠3→t2≠3→z2j st0.L→(∀r,(x r).items.length≤100000∧((x r).form=2→0≤(x r).count))→((ML s n t1 0 0 0 [] st0).bind fun r=>(z2H r.2 (x r)).bind fun q=>ML s n t2 q.1 0 0 [] q.2)=some r→z2j r.2.L:=fun n1 n2 n3 n4 hg hx h=>by
   obtain⟨q,h1,h2⟩:=zgD.1 h
   obtain⟨q2,h3,h4⟩:=zgD.1 h2
   exact ih _ _ _ _ _ _ _ h4 (fun e=>absurd e n2) (fun e=>absurd e n4) (z3C h3 (ih _ _ _ _ _ _ _ h1 (fun e=>absurd e n1) (fun e=>absurd e n3) hg) (hx q))
  match tag,h,hk,ht with
  |0,h,_,_=>
   rw [z7G] at h
   obtain⟨q,h1,h2⟩:=zgD.1 h
   exact ih _ _ _ _ _ _ _ h2 (by omega) (by omega) (ih _ _ _ _ _ _ _ h1 (by omega) (by omega) hg)
  |1,h,_,_=>
   rw [z7I] at h
   obtain⟨q,h1,h2⟩:=zgD.1 h
   exact ih _ _ _ _ _ _ _ h2 (by omega) (by omega) (ih _ _ _ _ _ _ _ h1 (by omega) (by omega) hg)
  |10,h,_,_=>
   rw [z2n] at h
   split at h
   ·exact three (st0:=sgn s [124,124] st) (by omega) (by omega) (by omega) (by omega) hg (fun r=>⟨by simp,fun e=>absurd (show(1:Int)=2 from e) (by decide)⟩) h
   ·cases h;exact hg
  |11,h,_,_=>
   rw [z2w] at h
   split at h
   ·exact three (st0:=sgn s [38,38] st) (by omega) (by omega) (by omega) (by omega) hg (fun r=>⟨by simp,fun e=>absurd (show(1:Int)=2 from e) (by decide)⟩) h
   ·cases h;exact hg
  |2,h,_,_=>
   rw [z6l] at h
   simp only at h
   split at h
   ·obtain⟨q,h1,h2⟩:=zgD.1 h
    have hq:=ih _ _ _ _ _ _ _ h1 (by omega) (by omega) (show z2j (sgn s [40] st).L from hg)
    cases h2
    exact hq
   ·split at h
    ·rename_i hd
     exact ih _ _ _ _ _ _ _ h (by omega) (fun _=>hd) hg
    ·exact z3C h (show z2j (st.put3 _).L from hg) ⟨by simp,fun e=>absurd (show(0:Int)=2 from e) (by decide)⟩
  |3,h,_,ht=>
   rw [z9z] at h
   obtain⟨q,h1,h2⟩:=zgD.1 h
   have hd:=ht rfl
   have hq:=ih _ _ _ _ _ _ _ h1 (by omega) (by omega) (show z2j (sgn s [45,111,102,40] {st with at_:=st.at_+1}).L from hg)
   refine ih _ _ _ _ _ _ _ h2 (fun _=> ?_) (by omega) hq
   unfold zg at hd
   simp at hd
   omega
  |13,h,hk,_=>
   rw [z2U] at h
   split at h
   ·rename_i hlen
    split at h
    ·obtain⟨u,h1,h2⟩:=zgD.1 h
     have hq:=ih _ _ _ _ _ _ _ h1 (by omega) (by omega) (show z2j (sgn s [44] st).L from hg)
     exact ih _ _ _ _ _ _ _ h2 (fun _=>hk rfl) (by omega) hq
    ·exact z3C h (show z2j (sgn s [41] st).L from hg) ⟨by simp only;omega,fun _=>hk rfl⟩
   ·cases h
  |4,h,_,_=>simp [ML] at h
  |5,h,_,_=>simp [ML] at h
  |6,h,_,_=>simp [ML] at h
  |7,h,_,_=>simp [ML] at h
  |8,h,_,_=>simp [ML] at h
  |9,h,_,_=>simp [ML] at h
  |12,h,_,_=>simp [ML] at h
  |t+14,h,_,_=>simp [ML] at h
def OrdAs (L:List Lc):List As→Nat→Nat→Nat→Nat→Prop
 |[],a,e,lo,hi=>a=e∧lo≤hi
 |x::xs,a,e,lo,hi=> ∃f i m:Nat,x.to_=(i:Int)∧OrdL L f a i lo m∧OrdAs L xs (i+1) e m hi
theorem OrdAs.snoc {L:List Lc}(F:List Lc): ∀(xs:List As) (x:As) (a e lo mid i hi f:Nat),OrdAs L xs a e lo mid→x.to_=(i:Int)→OrdL (L++F) f e i mid hi→OrdAs (L++F) (xs++[x]) a (i+1) lo hi:=by
 intro xs
 induction xs with
 |nil=>intro x a e lo mid i hi f ⟨h1,h2⟩ hx hp;subst h1;exact⟨f,i,hi,hx,hp.wk h2 (zgH _),rfl,zgH _⟩
 |cons y ys ih=>intro x a e lo mid i hi f ⟨f',i',m,h1,h2,h3⟩ hx hp;exact⟨f',i',m,h1,h2.more F,ih _ _ _ _ _ _ _ _ h3 hx hp⟩
structure z5U (st:St):Prop where
 e:jX st.E
 c:z5O st.C
 l:z2j st.L
 o:OrdAs st.L st.A 0 st.L.length 0 st.at_
theorem zdc {s:zgS}{n:Nat}{st st':St}(h:MA s n st=some st')(hg:z5U st):z5U st':=by
 unfold MA at h
 simp only at h
 obtain⟨⟨r1,st1⟩,h1,hM2⟩:=zgD.1 h
 obtain⟨⟨r2,cl2,st2⟩,h2,hM3⟩:=zgD.1 hM2
 obtain⟨_,rfl⟩:=jl hM3
 obtain⟨⟨F,hF⟩,hA1,hE1,hC1⟩:=z07 s _ _ _ _ _ _ _ _ h1
 obtain⟨_,_,hA2,hL2⟩:=z1i s _ _ _ _ _ h2
 have k1:=zcp s _ _ _ _ _ _ _ _ h1 (by omega) (by omega) hg.l
 have k2:=zdd s _ _ _ _ _ h2 (by
  refine⟨?_,?_⟩
  ·show jX st1.E
   simp only at hE1
   rw [hE1];exact hg.e
  ·show z5O st1.C
   simp only at hC1
   rw [hC1];exact hg.c)
 obtain⟨f,i,q1,q2,q3⟩:=(zf0 s _ _ _ _ _ _ _ _ h1).1 (.inl rfl)
 have hL:st2.L=st1.L:=hL2
 have hA:st2.A=st.A:=by
  simp only at hA1 hA2
  rw [hA2]
  show st1.A=st.A
  rw [hA1];rfl
 have hF:st1.L=st.L++F:=hF
 refine⟨k2.1,k2.2,?_,?_⟩
 ·show z2j st2.L
  rw [hL];exact k1
 ·show OrdAs st2.L (st2.A++[_]) 0 st2.L.length 0 (wrd s [10] st2).at_
  have g1:=z09 s [10] st2
  have g2:=z5d s _ _ _ _ _ h2
  have g3:st1.at_≤(zp s [105,102] (wrd s [10] st1)).at_:=zgP (z09 _ _ _) (zgP (z09 _ _ _) (zL _ _ _))
  have g4:st.at_≤(zp s [116,111] (wrd s [10] ((zp s [98,121] st).put3 (zw s (zp s [98,121] st).at_ (zp s [98,121] st).bad)))).at_:=
   zgP (zgP (z09 s [98,121] st) (zL _ _ _)) (zgP (jq s (zp s [98,121] st).at_ (zp s [98,121] st).bad) (zgP (z09 s [10] ((zp s [98,121] st).put3 (zw s (zp s [98,121] st).at_ (zp s [98,121] st).bad))) (zgP (z09 _ _ _) (zL _ _ _))))
  have q3':OrdL st1.L f st.L.length i st.at_ (wrd s [10] st2).at_:=q3.wk g4 (by simp only at g2 ⊢;omega)
  rw [hL,hA]
  simp only at q1 q2
  rw [←q2,hF]
  rw [hF] at q3'
  exact OrdAs.snoc F _ _ _ _ _ _ _ _ _ hg.o q1 q3'
theorem z1V (s:zgS): ∀n st st',MR s n st=some st'→z5U st→z5U st':=by
 intro n
 induction n with
 |zero=>intro st st' h;simp [MR] at h
 |succ n ih=>
  intro st st' h hg
  unfold MR at h
  split at h
  ·obtain⟨u,h1,h2⟩:=zgD.1 h
   exact ih _ _ h2 (zdc h1 hg)
  ·cases h;exact hg
theorem z6O:z5U st0:=⟨fun x h=>(by cases h),fun x h=>(by cases h),fun x h=>(by cases h),rfl,zgH _⟩
theorem info91:(Tryz.prog.info? 91).map (fun i=>(i.zero,i.size,i.bytes))=some (some (.agg #[.string ⟨#[]⟩,.pointer none,.pointer none]),3,32):=by kernel_rfl
abbrev PP:=Option Addr×Option Addr
def AsX (X:Nat→Prop)(w:World)(L:List Lc)(E:List Ex)(C:List (List Cl))(f:Nat)(p:PP)(x:As)(a b e g:Nat):Prop:=
 ∃i ci:Nat,x.to_=(i:Int)∧x.conds=(ci:Int)∧e=i+1∧RefLX X w L f (.pointer p.1) a i∧RefCX X w E C f (.pointer p.2) ci b g
def SegA (P:PP→As→Nat→Nat→Nat→Nat→Prop):List PP→List As→Nat→Nat→Nat→Nat→Prop
 |[],[],a,b,e,g=>a=e∧b=g
 |p::ps,x::xs,a,b,e,g=> ∃m n:Nat,P p x a b m n∧SegA P ps xs m n e g
 |_,_,_,_,_,_=>False
theorem SegA.imp {P Q:PP→As→Nat→Nat→Nat→Nat→Prop}(h: ∀p x a b e g,P p x a b e g→Q p x a b e g): ∀(ps:List PP) (xs:List As) (a b e g:Nat),SegA P ps xs a b e g→SegA Q ps xs a b e g:=by
 intro ps
 induction ps with
 |nil=>intro xs a b e g;cases xs<;>exact id
 |cons p ps ih=>
  intro xs a b e g
  cases xs with
  |nil=>exact id
  |cons x xs=>intro ⟨m,n,h1,h2⟩;exact⟨m,n,h _ _ _ _ _ _ h1,ih xs _ _ _ _ h2⟩
theorem SegA.snoc {P:PP→As→Nat→Nat→Nat→Nat→Prop}: ∀(ps:List PP) (xs:List As) (a b e g:Nat) (p:PP) (x:As) (m n:Nat),SegA P ps xs a b e g→P p x e g m n→SegA P (ps++[p]) (xs++[x]) a b m n:=by
 intro ps
 induction ps with
 |nil=>
  intro xs a b e g p x m n h hp
  cases xs with
  |nil=>obtain⟨rfl,rfl⟩:=h;exact⟨m,n,hp,rfl,rfl⟩
  |cons i is=>exact absurd h id
 |cons u ps ih=>
  intro xs a b e g p x m n h hp
  cases xs with
  |nil=>exact absurd h id
  |cons i is=>
   obtain⟨q,r,h2,h3⟩:=h
   exact⟨q,r,h2,ih is _ _ _ _ p x m n h3 hp⟩
theorem SegA.len {P:PP→As→Nat→Nat→Nat→Nat→Prop}: ∀(ps:List PP) (xs:List As) (a b e g:Nat),SegA P ps xs a b e g→ps.length=xs.length:=by
 intro ps
 induction ps with
 |nil=>intro xs a b e g h;cases xs with
  |nil=>rfl
  |cons i is=>exact absurd h id
 |cons v ps ih=>
  intro xs a b e g h
  cases xs with
  |nil=>exact absurd h id
  |cons i is=>obtain⟨j,k,_,h3⟩:=h;simp [ih is _ _ _ _ h3]
theorem trA (L:List Lc)(E:List Ex)(C:List (List Cl))(f:Nat)(ps:List PP)(xs:List As)(a b e g:Nat):Tr fun X w=>SegA (fun p x a b e g=>AsX X w L E C f p x a b e g) ps xs a b e g:=by
 refine⟨fun X w h=>SegA.imp ?_ _ _ _ _ _ _ h,fun X w w' hs h=>SegA.imp ?_ _ _ _ _ _ _ h,fun X X' w hs h=>SegA.imp ?_ _ _ _ _ _ _ h⟩
 ·intro p x a b e g ⟨i,ci,h1,h2,h3,h4,h5⟩;exact⟨i,ci,h1,h2,h3,h4.cap,h5.cap⟩
 ·intro p x a b e g ⟨i,ci,h1,h2,h3,h4,h5⟩;exact⟨i,ci,h1,h2,h3,h4.keepX hs,h5.keepX hs⟩
 ·intro p x a b e g ⟨i,ci,h1,h2,h3,h4,h5⟩;exact⟨i,ci,h1,h2,h3,h4.mono hs,h5.mono hs⟩
theorem AsX.more {X:Nat→Prop}{w:World}{L:List Lc}{E:List Ex}{C:List (List Cl)}{f:Nat}{p:PP}{x:As}{a b e g:Nat}(F:List Lc)(G:List Ex)(H:List (List Cl))(n:Nat)(h:AsX X w L E C f p x a b e g):AsX X w (L++F) (E++G) (C++H) (f+n) p x a b e g:=by
 obtain⟨i,ci,h1,h2,h3,h4,h5⟩:=h
 exact⟨i,ci,h1,h2,h3,(h4.more F).ups n,(h5.more G H).ups n⟩
def z1x (p:PP×zgS):List Value:=[.string p.2,.pointer p.1.1,.pointer p.1.2]
def zc7 (ps:List PP)(xs:List As):List Value:=(((ps.zip (xs.map (·.by_))).map z1x)).flatten
theorem zaH {ps:List PP}{xs:List As}{i j:Nat}{p:PP}{x:As}(hp:ps[i]?=some p)(hx:xs[i]?=some x)(hj:j<3):(zc7 ps xs)[i*3+j]?=(z1x (p,x.by_))[j]?:=by
 unfold zc7
 refine zS z1x 3 (fun _=>rfl) _ i j (p,x.by_) ?_ hj
 simp [List.getElem?_zip_eq_some,hp,hx]
def zbI (s:zgS)(st:St)(w:World)(e:Ending)(w':World):Prop:= ∃lv,e= .returned (.tuple #[lv,.int .i64 (ckM s st).1,.int .i64 (ckM s st).2])∧Below w.heap.size w w'∧(∃a n c,lv= .slice a n c)∧
 ((ckM s st).1=0→ ∃f ps,w'.ownsRow w.heap.size 91 3 lv st.A.length (zc7 ps st.A)∧SegA (fun p x a b e g=>AsX (fun k=>k<w.heap.size) w' st.L st.E st.C f p x a b e g) ps st.A 0 0 st.L.length st.E.length)
theorem zao {qs:List (PP×zgS)}{xs:List As}(h:qs.map (·.2)=xs.map (·.by_)):zc7 (qs.map (·.1)) xs=(qs.map z1x).flatten:=by
 unfold zc7
 rw [←h]
 have e:(qs.map (·.1)).zip (qs.map (·.2))=qs:=by
  clear h
  induction qs with
  |nil=>rfl
  |cons q qs ih=>simp only [List.map_cons,List.zip_cons_cons,ih]
 rw [e]
theorem zdU {s:zgS}{n:Nat}{st st':St}(h:MA s n st=some st'):st.A.length<100000∧st'.A.length=st.A.length+1:=by
 unfold MA at h
 simp only at h
 obtain⟨⟨r1,st1⟩,h1,hM2⟩:=zgD.1 h
 obtain⟨⟨r2,cl2,st2⟩,h2,hM3⟩:=zgD.1 hM2
 obtain⟨hl,rfl⟩:=jl hM3
 obtain⟨_,hA1,_,_⟩:=z07 s _ _ _ _ _ _ _ _ h1
 obtain⟨_,_,hA2,_⟩:=z1i s _ _ _ _ _ h2
 have hA:st2.A=st.A:=by
  simp only at hA1 hA2
  rw [hA2]
  show st1.A=st.A
  rw [hA1];rfl
 have hl:st2.A.length<100000:=hl
 refine⟨by rw [←hA];exact hl,?_⟩
 show(st2.A++[_]).length=_
 rw [hA];simp
theorem zeL {s:zgS}{n:Nat}{st st':St}(h:MA s n st=some st'):(∃F,st'.L=st.L++F)∧(∃F,st'.E=st.E++F)∧(∃F,st'.C=st.C++F)∧(st.bad=true→st'.bad=true):=by
 unfold MA at h
 simp only at h
 obtain⟨⟨r1,st1⟩,h1,hM2⟩:=zgD.1 h
 obtain⟨⟨r2,cl2,st2⟩,h2,hM3⟩:=zgD.1 hM2
 obtain⟨hl,rfl⟩:=jl hM3
 obtain⟨⟨F,hF⟩,_,hE1,hC1⟩:=z07 s _ _ _ _ _ _ _ _ h1
 obtain⟨⟨G,hG⟩,⟨H,hH⟩,_,hL2⟩:=z1i s _ _ _ _ _ h2
 simp only at hF hE1 hC1 hG hH hL2
 refine⟨⟨F,?_⟩,⟨G,?_⟩,⟨H,?_⟩,fun hb=> ?_⟩
 ·show st2.L=st.L++F
  rw [hL2]
  show st1.L=st.L++F
  rw [hF];rfl
 ·show st2.E=st.E++G
  rw [hG]
  show st1.E++G=st.E++G
  rw [hE1];rfl
 ·show st2.C=st.C++H
  rw [hH]
  show st1.C++H=st.C++H
  rw [hC1];rfl
 ·have k1:=(z0L (s:=s) (c:=98) (cs:=[121]) hb).1
  have k2:=(z0b (s:=s) (c:=32) (cs:=[]) k1).1
  have k3:((zp s [98,121] st).put3 (zw s (zp s [98,121] st).at_ (zp s [98,121] st).bad)).bad=true:=by
   show(zw s (zp s [98,121] st).at_ (zp s [98,121] st).bad).2.1=true
   rw [show(zp s [98,121] st).bad=true from k2,z12]
  have k4:=(z0L (s:=s) (c:=10) (cs:=[]) k3).1
  have k5:=(z0L (s:=s) (c:=116) (cs:=[111]) k4).1
  have k6:=(z0b (s:=s) (c:=32) (cs:=[]) k5).1
  have k7:=(z4v s _ _ _ _ _ _ _ _ h1 (by omega) k6).1
  have k8:=(z0L (s:=s) (c:=10) (cs:=[]) k7).1
  have k9:=(z0L (s:=s) (c:=105) (cs:=[102]) k8).1
  have k10:=(z0b (s:=s) (c:=32) (cs:=[]) k9).1
  have k11:=(z67 s _ _ _ _ _ h2 k10).1
  exact(z0L (s:=s) (c:=10) (cs:=[]) k11).1
theorem SegA.get {P:PP→As→Nat→Nat→Nat→Nat→Prop}: ∀(ps:List PP) (xs:List As) (a b e g i:Nat) (p:PP),SegA P ps xs a b e g→ps[i]?=some p→ ∃x a' b' e' g',xs[i]?=some x∧P p x a' b' e' g':=by
 intro ps
 induction ps with
 |nil=>intro xs a b e g i p _ h;simp at h
 |cons u ps ih=>
  intro xs a b e g i p h hp
  cases xs with
  |nil=>exact absurd h id
  |cons x xs=>
   obtain⟨m,n,h1,h2⟩:=h
   cases i with
   |zero=>
    have:u=p:=by simpa using hp
    subst this
    exact⟨x,a,b,m,n,rfl,h1⟩
   |succ i=>exact ih xs m n e g i p h2 (by simpa using hp)
theorem SegA.split {P:PP→As→Nat→Nat→Nat→Nat→Prop}(ps:List PP)(xs:List As)(a b e g i:Nat)(p:PP)(h:SegA P (ps.drop i) (xs.drop i) a b e g)(hp:ps[i]?=some p): ∃x m n,P p x a b m n∧SegA P (ps.drop (i+1)) (xs.drop (i+1)) m n e g:=by
 obtain⟨hl,hx⟩:=zgF.1 hp
 rw [zgL hl,hx] at h
 cases hc:xs.drop i with
 |nil=>rw [hc] at h;exact absurd h id
 |cons c cs'=>
  rw [hc] at h
  obtain⟨m,n,h1,h2⟩:=h
  refine⟨c,m,n,h1,?_⟩
  have:xs.drop (i+1)=cs':=by rw [←List.drop_drop,hc];rfl
  rw [this]
  exact h2
theorem zb3 {X:Nat→Prop}{w:World}{L:List Lc}{f:Nat}{v:Value}{a i:Nat}(h:RefLX X w L f v a i)(g:Nat):z0E L (f+g) i=z0E L f i:=by
 induction g with
 |zero=>rfl
 |succ g ih=>rw [←ih];exact zd0 _ _ _ _ (h.ups g)
theorem zfF {X:Nat→Prop}{w:World}{L:List Lc}{E:List Ex}{C:List (List Cl)}{f:Nat}(hc: ∀x∈L,x.form=2→0≤x.count): ∀(ps:List PP) (xs:List As) (a b e g lo hi:Nat),SegA (fun p x a b e g=>AsX X w L E C f p x a b e g) ps xs a b e g→OrdAs L xs a e lo hi→MF L a e lo hi (zC (xs.map fun x=>z0E L f x.to_.toNat)):=by
 intro ps
 induction ps with
 |nil=>
  intro xs a b e g lo hi h ho
  cases xs with
  |nil=>obtain⟨rfl,h2⟩:=ho;exact MF.nil L a lo hi h2
  |cons x xs=>exact absurd h id
 |cons p ps ih=>
  intro xs a b e g lo hi h ho
  cases xs with
  |nil=>exact absurd h id
  |cons x xs=>
   obtain⟨m,n,⟨i,ci,q1,q2,q3,q4,q5⟩,h2⟩:=h
   obtain⟨f',i',m',r1,r2,r3⟩:=ho
   have hii:i'=i:=by omega
   subst hii
   subst q3
   have k1:=zak hc _ _ _ _ _ (r2.ups f)
   rw [Nat.add_comm f' f,zb3 q4] at k1
   have k2:=ih xs _ _ _ _ _ _ h2 r3
   have k3:=k1.join k2
   have e1:x.to_.toNat=i':=by omega
   simp only [List.map_cons,zC,e1]
   exact k3
theorem z0d (s:zgS)(n:Nat)(st':St)(w:World)(hM:MR s n st0=some st')(hs:s.size≤600):Calls Tryz.prog 49 #[.string s] w fun e w'=>zbI s st' w e w':=by
 have hG:=z8 (z1V s n st0 st' hM z6O)
 have HM:=z8 hM
 clear hM
 have hR0:Rd (w.alloc (.cells #[.string s,.int .i64 0,.bool false] 94)) w.heap.size s 0 false:=by
  obtain⟨y0,y1,y2,yf⟩:=zge (heap_alloc_new w (.cells #[.string s,.int .i64 0,.bool false] 94))
  exact⟨y0,y1,y2,yf 1,yf 2,zgO _,hs⟩
 have hF0:Below w.heap.size w (w.alloc (.cells #[.string s,.int .i64 0,.bool false] 94)):=(zgR _ _).alloc (zgH _) _
 have hz0:(w.alloc (.cells #[.string s,.int .i64 0,.bool false] 94)).heap.size=w.heap.size+1:=by simp
 have H0:=z8 (zgI hR0 (zgI hF0 hz0))
 clear hR0 hF0 hz0
 have hsi: ¬(600:Int)<s.size:=by omega
 obtain⟨i0,hi,hz0,hz1,hz2⟩:=info_parts info91
 go_enter Tryz.func49,Tryz.ntmps49
 go_wp2_with fail
 go_loopg [6,7] n (fun g lv _ wr=> ∃(sv:St) (qs:List (PP×zgS)),Hid (MR s g sv=some st')∧Rd wr w.heap.size s sv.at_ sv.bad∧Below w.heap.size w wr∧wr.ownsRow (w.heap.size+1) 91 3 lv qs.length ((qs.map z1x).flatten)∧Hid (qs.length=sv.A.length)∧Hid (sv.bad=false→ ∃f,qs.map (·.2)=sv.A.map (·.by_)∧SegA (fun p x a b e g=>AsX (KX w.heap.size w.heap.size lv) wr sv.L sv.E sv.C f p x a b e g) (qs.map (·.1)) sv.A 0 0 sv.L.length sv.E.length))
 case atStart=>exact⟨st0,[],HM,H0.out.1,H0.out.2.1,World.ownsRow_nil _ _ _ _,rfl,z8 fun _=>⟨0,rfl,rfl,rfl⟩⟩
 case round=>
  obtain⟨sv,qs,hm,hRq,hB,hown,hlen,ht⟩:=hrel
  cases gk with
  |zero=>exact absurd hm.out (by simp [MR])
  |succ k=>
   have hm':=hm.out
   unfold MR at hm'
   clear hm H0 HM
   obtain⟨c0,c1,c2,f1,f2,hle,hsz⟩:=id hRq
   obtain⟨a5,k5,rfl⟩:=jD hown
   by_cases hgo:sv.bad=false∧sv.at_<s.size
   ·obtain⟨hbad,hlt⟩:=hgo
    rw [hbad,if_pos (by simp [hlt])] at hm'
    obtain⟨st1,h1,h2⟩:=zgD.1 hm'
    have HH:=z8 (zgI h1 h2)
    have hlA:=zdU h1
    have HXT:=z8 (zeL h1)
    have hq5:qs.length<100000:=by have:=hlen.out;omega
    have HLA:=z8 hlA.2
    clear hm' h1 h2 hlA
    rw [hbad] at c2
    have HBD:=z8 hbad
    clear hbad
    have hlti:(sv.at_:Int)<s.size:=by omega
    go_wp2_with fail
    refine(z7g s k w.heap.size sv wr st1 HH.out.1 hRq).mono ?_
    rintro e w1 ⟨nm,vt,vi,rfl,hR1,hF1,ht1⟩
    have HT1:=z8 ht1
    have hnb: ∀j,(Value.slice a5 qs.length k5).ownBlock=some j→w.heap.size<j∧j<wr.heap.size:=fun j e=>by have:=hown.lt j e;omega
    have hown1:w1.ownsRow (w.heap.size+1) 91 3 (.slice a5 qs.length k5) qs.length ((qs.map z1x).flatten):=zc hown fun j e=>hF1.block j (hnb j e).2 (by have:=(hnb j e).1;omega)
    have hrb:w.heap.size<wr.heap.size:=zd c0
    have hrb1:w.heap.size<w1.heap.size:=zgN hrb hF1.size
    have HNB:=z8 hnb
    clear ht1 hnb c0 c1 c2 f1 f2
    go_wp2_with (at_builtin;go_must (refine wpList_append_lies _ rfl (.tmp 35) (.tmp 37) 85 rfl (w.heap.size+1) 91 i0 _ 3 32 Tryz.underlying85 hi hz0 hz1 hz2 rfl (by omega) (.slice a5 qs.length k5) qs.length _ rfl ((hown1.alloc _).alloc _) ⟨w1.heap.size+1,0,none⟩ 1 1 [.string nm,.pointer vt,.pointer vi] rfl rfl ?news ?one (by omega) ?mm ?bys ?base (w1.heap.size+2) (by simp) ?rest))
    case news=>
     refine World.news_of_block (cs:= #[.string nm,.pointer vt,.pointer vi]) (t:=91) (fr:=(0,0)) ?_
     have h:=heap_alloc_new (w1.alloc (.cells #[.string nm,.pointer vt,.pointer vi] 91)) (.cells #[.string nm,.pointer vt,.pointer vi] 91)
     rw [show(w1.alloc (.cells #[.string nm,.pointer vt,.pointer vi] 91)).heap.size=w1.heap.size+1 by simp] at h
     exact h
    case one=>intro u hu;simp at hu;rcases hu with rfl|rfl|rfl<;>rfl
    case mm=>unfold maxLen;omega
    case bys=>omega
    case base=>simp;omega
    case rest=>
     intro gb cap w5 hown5 hgrow hat hlt2
     have hbk: ∀j,j<w1.heap.size→some j≠(Value.slice a5 qs.length k5).ownBlock→w5.heap[j]?=w1.heap[j]?:=fun j hj hn=>(hgrow.block j (by simp;omega) hn).trans ((zgJ _ _ _ (by simp;omega)).trans (zgJ _ _ _ hj))
     have hz5:w1.heap.size≤w5.heap.size:=zgP (by simp;omega) hgrow.size
     have hB5:Below w.heap.size w w5:=by
      refine⟨hgrow.os.trans (hF1.os.trans hB.os),hgrow.tape.trans (hF1.tape.trans hB.tape),hgrow.output.trans (hF1.output.trans hB.output),by omega,fun j hj=> ?_⟩
      rw [hbk j (by omega) (fun e=>by have:=(HNB.out j e.symm).1;omega),hF1.block j (by omega) (by omega)]
      exact hB.block j hj
     have hR5:Rd w5 w.heap.size s st1.at_ st1.bad:=hR1.other (hbk _ hrb1 fun e=>by have:=(HNB.out _ e.symm).1;omega)
     have hsame:z1M (fun k=>KX w.heap.size w.heap.size (.slice a5 qs.length k5) k∨w1.heap.size≤k) w1 w5:=fun j hj hn=>hbk j hj fun e=>hn (.inl (.inr (.inr e.symm)))
     have hkx: ∀j,KX w.heap.size w.heap.size (.slice (some ⟨gb,0,none⟩) (qs.length+1) cap) j→KX w.heap.size w.heap.size (.slice a5 qs.length k5) j∨w1.heap.size≤j:=fun j e=>by
      rcases e with e|e|e
      ·exact .inl (.inl e)
      ·exact .inl (.inr (.inl e))
      ·have e:gb=j:=by simpa [Value.ownBlock] using e
       rcases hat with q|q
       ·exact .inl (.inr (.inr (e▸q)))
       ·exact .inr (by omega)
     have hts:Hid (st1.bad=false→ ∃f,(qs++[((vt,vi),nm)]).map (·.2)=st1.A.map (·.by_)∧SegA (fun p x a b e g=>AsX (KX w.heap.size w.heap.size (.slice (some ⟨gb,0,none⟩) (qs.length+1) cap)) w5 st1.L st1.E st1.C f p x a b e g) ((qs++[((vt,vi),nm)]).map (·.1)) st1.A 0 0 st1.L.length st1.E.length):=z8 fun hb=>by
      obtain⟨fl,fc,i,ci,q1,q2,q3,q4,q5⟩:=HT1.out hb
      obtain⟨f0,p1,p2⟩:=ht.out HBD.out
      obtain⟨⟨F,hF⟩,⟨G,hG⟩,⟨H,hH⟩,_⟩:=HXT.out
      have t1:=(trA _ _ _ _ _ _ _ _ _ _).rf p2 (.inl rfl) hF1
      have t2:=(trA _ _ _ _ _ _ _ _ _ _).old t1 ⟨hsame,hkx⟩
      have t3:=SegA.imp (fun _ _ _ _ _ _ q=>AsX.more F G H (fl+fc) q) _ _ _ _ _ _ t2
      rw [←hF,←hG,←hH] at t3
      have u1:=Tr.new (T:=fun X w=>RefLX X w st1.L fl (.pointer vt) sv.L.length i) ⟨fun _ _ h=>h.cap,fun _ _ _ hs h=>h.keepX hs,fun _ _ _ hs h=>h.mono hs⟩ q4 hrb (fun j e=>(HNB.out j e).2) ⟨hsame,hkx⟩
      have u2:=(trC _ _ _ _ _ _ _).new q5 hrb (fun j e=>(HNB.out j e).2) ⟨hsame,hkx⟩
      have u1':=u1.ups (f0+fc)
      have u2':=u2.ups (f0+fl)
      refine⟨f0+(fl+fc),?_,?_⟩
      ·rw [q1];simp [p1]
      ·rw [q1,List.map_append]
       refine SegA.snoc _ _ _ _ _ _ _ _ _ _ t3 ⟨i,ci,rfl,rfl,q2.symm,?_,?_⟩
       ·rw [show f0+(fl+fc)=fl+(f0+fc) by omega];exact u1'
       ·rw [show f0+(fl+fc)=fc+(f0+fl) by omega];exact u2'
     have hLN:Hid ((qs++[((vt,vi),nm)]).length=st1.A.length):=z8 (by have:=hlen.out;rw [HLA.out];simp;omega)
     have HO5:Hid (w5.ownsRow (w.heap.size+1) 91 3 (.slice (some ⟨gb,0,none⟩) (qs.length+1) cap) (qs++[((vt,vi),nm)]).length (((qs++[((vt,vi),nm)]).map z1x).flatten)):=z8 (by simpa [z1x] using hown5)
     clear hown5 hgrow hat hlt2 hbk hsame hkx hown1 HT1 ht HXT hown hB hRq hR1 hF1
     go_wp2_with fail
     go_roundg k
     case measure=>omega
     case rel=>exact⟨st1,_,HH.out.2,hR5,hB5,HO5.out,hLN,hts⟩
   ·rw [if_neg (by simpa using hgo)] at hm'
    have e1:=Option.some.inj hm'
    subst e1
    clear hm'
    obtain⟨bd,HBD⟩: ∃bd,Hid (sv.bad=bd):=⟨_,rfl⟩
    rw [HBD.out] at c2 hgo
    cases bd with
    |true=>
     have hck:Hid (ckM s sv=(2,(sv.at_:Int))):=z8 (by unfold ckM;rw [if_neg (by omega),if_pos HBD.out])
     clear hgo ht hown hRq
     by_cases hlt:(sv.at_:Int)<s.size
     ·go_wp2_with fail
      go_quiet (fail)
      go_wp2_with fail
      go_ret3
      refine⟨.slice none 0 0,by rw [hck.out];simp,⟨hB.os,hB.tape,hB.output,hB.size,hB.block⟩,⟨_,_,_,rfl⟩,fun h=> ?_⟩
      rw [hck.out] at h
      cases h
     ·go_wp2_with fail
      go_quiet (fail)
      go_wp2_with fail
      go_ret3
      refine⟨.slice none 0 0,by rw [hck.out];simp,⟨hB.os,hB.tape,hB.output,hB.size,hB.block⟩,⟨_,_,_,rfl⟩,fun h=> ?_⟩
      rw [hck.out] at h
      cases h
    |false=>
     have hlt: ¬(sv.at_:Int)<s.size:=by simp at hgo;omega
     clear hgo
     obtain⟨f,hby,hsegk⟩:=ht.out HBD.out
     clear ht
     have hle5:w.heap.size≤wr.heap.size:=hB.size
     have hseg:Hid (SegA (fun p x a b e g=>AsX (fun k=>k<w.heap.size) wr sv.L sv.E sv.C f p x a b e g) (qs.map (·.1)) sv.A 0 0 sv.L.length sv.E.length):=z8 ((trA _ _ _ _ _ _ _ _ _ _).mono _ _ _ (fun k h=> .inr (.inl (Nat.le_of_lt h))) hsegk)
     have HBY:=z8 hby
     have HB:=z8 hB
     have HOWN:=z8 hown
     clear hby hsegk hB hown hRq
     have hql:(qs.length:Int)=sv.A.length:=by have:=hlen.out;omega
     have HQL:=z8 hql
     clear hql
     by_cases h8:(8:Int)<qs.length
     ·have hck:Hid (ckM s sv=(3,0)):=z8 (by
       unfold ckM
       rw [if_neg (by omega),if_neg (by rw [HBD.out];decide),if_pos (by have:=HQL.out;omega)])
      go_wp2_with fail
      go_ret3
      refine⟨.slice none 0 0,by rw [hck.out];simp,HB.out,⟨_,_,_,rfl⟩,fun h=> ?_⟩
      rw [hck.out] at h
      cases h
     ·have hgoodL:=hG.out.l
      have hfew:=z8 (zfF (fun x hx=>(hgoodL x hx).2) _ _ _ _ _ _ _ _ hseg.out hG.out.o)
      have hcf:Hid (cfM sv.L (-1)=zC (sv.A.map fun x=>z0E sv.L f x.to_.toNat)):=z8 hfew.out.cf
      have hckA:Hid (ckM s sv=if cfM sv.L (-1) != -1 then(4,cfM sv.L (-1)) else if tfM sv.E [] != -1 then(5,tfM sv.E []) else(0,0)):=z8 (by
       unfold ckM
       rw [if_neg (by omega),if_neg (by rw [HBD.out];decide),if_neg (by have:=HQL.out;omega)])
      obtain⟨rs,hrs⟩: ∃rs,(sv.A.map fun x=>z0E sv.L f x.to_.toNat)=rs:=⟨_,rfl⟩
      have HRS:=z8 hrs
      have hfp:Hid (zC rs= -1∨0≤zC rs):=z8 (by rw [←hrs];exact hfew.out.pos)
      have hcf2:Hid (cfM sv.L (-1)=zC rs):=z8 (by rw [←hrs];exact hcf.out)
      have hrl:Hid (rs.length=qs.length):=z8 (by rw [←hrs];have:=HQL.out;simp;omega)
      clear hrs hgoodL hfew hcf
      have hq8:qs.length≤8:=by omega
      go_wp2_with fail
      go_loopg [8,9] (qs.length+1) (fun k iv _ wq=> ∃i:Nat,k+i=qs.length+1∧i≤qs.length∧iv= .int .i64 i∧wq=wr∧Hid (zC (rs.drop i)=zC rs))
      case atStart=>exact⟨0,rfl,zgO _,rfl,rfl,rfl⟩
      case round=>
       obtain⟨i,hgk,hile,rfl,rfl,hfd⟩:=hrel
       have HGK:=z8 hgk
       clear hgk
       by_cases hil:i<qs.length
       ·obtain⟨p,hp⟩: ∃p,qs[i]?=some p:=⟨qs[i],zgE hil⟩
        obtain⟨x,a',b',e',g',hx,⟨iL,ci,r1,r2,r3,r4,r5⟩⟩:=SegA.get _ _ _ _ _ _ i p.1 hseg.out (by simp [hp])
        obtain⟨gk2,capk,hv,hb2,hgl⟩:=HOWN.out.form (by omega)
        injection hv with e1 e2 e3
        subst e1 e3
        have hcell:wr.cell? ⟨gk2,i*3+1,none⟩=some (.pointer p.1.1):=zl HOWN.out _ _ ((zS z1x 3 (fun _=>rfl) qs i 1 p hp (by omega)).trans rfl)
        have hri:rs[i]?=some (z0E sv.L f iL):=by
         rw [←HRS.out]
         simp [hx,r1]
        have hst:=(z1c hri).symm.trans hfd.out
        have HFW:=z8 (zcn (fun x hx=>(hG.out.l x hx).1) f _ _ _ r4)
        have hili:(i:Int)<qs.length:=by omega
        clear hfd hri hx r1 r2 r3 r4 r5 hp
        generalize z0E sv.L f iL=ri at*
        have HST:=z8 hst
        clear hst
        go_wp2_with fail
        refine HFW.out.mono ?_
        rintro e w1 ⟨rfl,rfl⟩
        have hst:=HST.out
        clear HST HFW
        by_cases hr0:0≤ri
        ·rw [if_pos hr0] at hst
         have hck:Hid (ckM s sv=(4,ri)):=z8 (by
          rw [hckA.out,hcf2.out,←hst,if_pos (by simp;omega)])
         clear hst
         go_wp2_with fail
         go_ret3
         refine⟨.slice none 0 0,by rw [hck.out];simp,HB.out,⟨_,_,_,rfl⟩,fun h=> ?_⟩
         rw [hck.out] at h
         cases h
        ·rw [if_neg hr0] at hst
         have HST:=z8 hst
         clear hst
         go_wp2_with fail
         go_roundg (qs.length - i)
         case measure=>have:=HGK.out;omega
         case rel=>exact⟨i+1,by have:=HGK.out;omega,by omega,by go_num,rfl,HST⟩
       ·have hili: ¬(i:Int)<qs.length:=by omega
        have hneg:Hid (zC rs= -1):=z8 (by rw [←hfd.out,zgK (by rw [hrl.out];omega)];rfl)
        have hckB:Hid (ckM s sv=if tfM sv.E [] != -1 then(5,tfM sv.E []) else(0,0)):=z8 (by rw [hckA.out,hcf2.out,hneg.out];rfl)
        clear hckA hcf2 hneg hfd hfp HRS hrl
        go_wp2_with fail
        generalize wr=W5 at*
        go_loopg [10,11,12] (qs.length+1) (fun k iv _ _ wq=> ∃(i a:Nat) (ts:List Int),k+i=qs.length+1∧i≤qs.length∧iv= .int .i64 i∧Below W5.heap.size W5 wq∧Hid (Scan sv.E ts∧SegA (fun p x a b e g=>AsX (fun k=>k<w.heap.size) W5 sv.L sv.E sv.C f p x a b e g) ((qs.map (·.1)).drop i) (sv.A.drop i) a ts.length sv.L.length sv.E.length))
        case atStart=>exact⟨0,0,[],rfl,zgO _,rfl,zgR _ _,z8 ⟨Scan.nil _,hseg.out⟩⟩
        case round=>
         obtain⟨i3,a3,ts,hgk,hile3,rfl,hBq,hsc⟩:=hrel
         have HGK3:=z8 hgk
         clear hgk
         by_cases hil3:i3<qs.length
         ·obtain⟨p,hp⟩: ∃p,qs[i3]?=some p:=⟨qs[i3],zgE hil3⟩
          obtain⟨x,m,n2,⟨iL,ci,r1,r2,r3,r4,r5⟩,hseg3⟩:=SegA.split _ _ _ _ _ _ i3 p.1 hsc.out.2 (by simp [hp])
          obtain⟨gk2,capk,hv,hb2,hgl⟩:=HOWN.out.form (by omega)
          injection hv with e1 e2 e3
          subst e1 e3
          have hcell:wr.cell? ⟨gk2,i3*3+2,none⟩=some (.pointer p.1.2):=by
           rw [hBq.cell (p:=⟨gk2,i3*3+2,none⟩) hgl]
           exact zl HOWN.out _ _ ((zS z1x 3 (fun _=>rfl) qs i3 2 p hp (by omega)).trans rfl)
          have HTY:=z8 (zcZ hG.out.e hG.out.c f _ ci _ n2 ts wr (r5.keepX (zD hBq)) hsc.out.1 rfl)
          have hili3:(i3:Int)<qs.length:=by omega
          have HS3:=z8 hseg3
          have HBQ:=z8 hBq
          have hz5:W5.heap.size≤wr.heap.size:=hBq.size
          clear r1 r2 r3 r4 r5 hp hseg3 hsc hBq
          go_wp2_with fail
          refine HTY.out.mono ?_
          rintro e w1 ⟨hb1,c,at2,rfl,hq⟩
          have hB1:Below W5.heap.size W5 w1:=HBQ.out.trans (hb1.mono hz5)
          have HB1:=z8 hB1
          clear hb1 hB1 HTY hcell
          rcases hq with⟨rfl,rfl,us,q1,q2⟩|⟨rfl,q1,q2⟩
          ·have HQ:=z8 (zgI q1 q2)
           clear q1 q2
           go_wp2_with fail
           go_roundg (qs.length - i3)
           case measure=>have:=HGK3.out;omega
           case rel=>
            refine⟨i3+1,m,us,by have:=HGK3.out;omega,by omega,by go_num,HB1.out,z8 ⟨HQ.out.1,?_⟩⟩
            rw [HQ.out.2]
            exact HS3.out
          ·have hck:Hid (ckM s sv=(5,at2)):=z8 (by
            rw [hckB.out,q2.tf,if_pos (by simp;omega)])
           clear q2
           go_wp2_with fail
           go_ret3
           refine⟨.slice none 0 0,by rw [hck.out];simp,HB.out.trans (HB1.out.mono hle5),⟨_,_,_,rfl⟩,fun h=> ?_⟩
           rw [hck.out] at h
           cases h
         ·have hili3: ¬(i3:Int)<qs.length:=by omega
          have hse:=hsc.out.2
          have hlA:=hlen.out
          rw [zgK (by simp;omega),zgK (by omega)] at hse
          have hck:Hid (ckM s sv=(0,0)):=z8 (by
           rw [hckB.out,hsc.out.1.tf_end hse.2]
           rfl)
          have hrow:Hid (wr.ownsRow w.heap.size 91 3 (.slice a5 qs.length k5) sv.A.length (zc7 (qs.map (·.1)) sv.A)):=z8 (by
           have h1:=zc HOWN.out fun k e=>hBq.block k (HOWN.out.lt k e).2
           have h2:=z0a h1 (Nat.le_succ _)
           have e1:zc7 (qs.map (·.1)) sv.A=(qs.map z1x).flatten:=zao HBY.out
           rw [e1,←hlA]
           exact h2)
          have hseg9:=z8 ((trA _ _ _ _ _ _ _ _ _ _).keep _ _ _ (zD hBq) hseg.out)
          clear hse hlA
          go_wp2_with fail
          go_ret3
          refine⟨.slice a5 qs.length k5,by rw [hck.out];simp,HB.out.trans (hBq.mono hle5),⟨_,_,_,rfl⟩,fun h=> ?_⟩
          exact⟨f,qs.map (·.1),hrow.out,hseg9.out⟩
theorem z9p (p:Int→Bool)(hp:p (-1)=false)(m:Nat)(s:zgS)(a:Nat)(d:Bool)(h:a≤s.size):(z23 p m s a d).1≤s.size:=by
 unfold z23
 have h1:=z3c p hp s d m a h
 simp only
 split
 ·exact h1.2
 ·exact(z56 h1.2).2
theorem z1B (s:zgS)(a:Nat)(d:Bool)(h:a≤s.size):(zw s a d).1≤s.size:=z9p _ (by decide) _ _ _ _ h
theorem z8s (s:zgS)(a:Nat)(d:Bool)(h:a≤s.size):(zO s a d).1≤s.size:=z9p _ (by decide) _ _ _ _ h
theorem z89 (s:zgS)(a:Nat)(d:Bool)(h:a≤s.size):(zT s a d).1≤s.size:=by
 unfold zT
 have h1:=z0g s d [34] a h
 have h2:=z3c zo (by decide) s (zt s d [34] a).2 12 _ h1.2
 exact(z2h s _ [34] _ h2.2).2
theorem z3e (s short long:zgS)(a:Nat)(d:Bool)(h:a≤s.size):(zx s short long a d).1≤s.size:=by
 unfold zx
 have h1:=z0g s d short.data.toList a h
 simp only
 split
 ·exact(z56 h1.2).2
 ·exact(z2h s _ [61] _ h1.2).2
theorem z5k (s:zgS)(a:Nat)(d:Bool)(h:a≤s.size):(ze s a d).1≤s.size:=by
 unfold ze
 split
 ·exact(z2h _ _ _ _ h).2
 ·split
  ·exact(z2h _ _ _ _ h).2
  ·split
   ·exact z3e _ _ _ _ _ h
   ·split
    ·exact z3e _ _ _ _ _ h
    ·exact h
theorem jM {s:zgS}{l:List UInt8}{st:St}(h:st.at_≤s.size):(sgn s l st).at_≤s.size:=(z2h s st.bad l st.at_ h).2
theorem z3K {s:zgS}{l:List UInt8}{st:St}(h:st.at_≤s.size):(wrd s l st).at_≤s.size:=(z0g s st.bad l st.at_ h).2
theorem z1H {s:zgS}{c:UInt8}{cs:List UInt8}{a:Nat}{d:Bool}(h:(pk s a d==(c.toNat:Int))=true):a+1≤(zt s d (c::cs) a).1∧a<s.size:=by
 have h1:pk s a d=(c.toNat:Int):=by simpa using h
 rw [jd h1]
 exact⟨z1F s d cs (a+1),(jT (s:=s) (a:=a) (d:=d) (by rw [h1];omega)).2⟩
theorem j0 {s:zgS}{c:UInt8}{cs:List UInt8}{st:St}(h:(pkS s st==(c.toNat:Int))=true):st.at_+1≤(sgn s (c::cs) st).at_∧st.at_<s.size:=by
 obtain⟨h1,h2⟩:=z1H (cs:=cs) h
 exact⟨zgP h1 (z16 _ _ _),h2⟩
theorem z9A {s:zgS}{st:St}(h: ¬((zr s st.at_ st.bad).size==0)=true):st.at_+1≤(sgn s (zr s st.at_ st.bad).data.toList st).at_∧st.at_<s.size:=by
 unfold zr at h ⊢
 split
 ·rename_i e;rw [if_pos e] at h;exact absurd rfl h
 ·rename_i e
  rw [if_neg e] at h
  split
  ·rename_i e;exact j0 (c:=43) (cs:=[]) e
  ·rename_i e
   rw [if_neg e] at h
   split
   ·rename_i e;exact j0 (c:=45) (cs:=[]) e
   ·rename_i e
    rw [if_neg e] at h
    split
    ·rename_i e;exact j0 (c:=46) (cs:=[]) e
    ·rename_i e;rw [if_neg e] at h;exact absurd rfl h
theorem z5b {s:zgS}{st:St}(h: ¬((zh s st.at_ st.bad).size==0)=true):st.at_+1≤(sgn s (zh s st.at_ st.bad).data.toList st).at_∧st.at_<s.size:=by
 unfold zh at h ⊢
 split
 ·rename_i e;exact j0 (c:=42) (cs:=[]) e
 ·rename_i e
  rw [if_neg e] at h
  split
  ·rename_i e;exact j0 (c:=47) (cs:=[]) e
  ·rename_i e
   rw [if_neg e] at h
   split
   ·rename_i e;exact j0 (c:=37) (cs:=[]) e
   ·rename_i e;rw [if_neg e] at h;exact absurd rfl h
theorem z1O {s long:zgS}{c:UInt8}{a:Nat}{d:Bool}(h:(pk s a d==(c.toNat:Int))=true):a+1≤(zx s ⟨#[c]⟩ long a d).1∧a<s.size:=by
 obtain⟨h1,h2⟩:=z1H (cs:=[]) h
 refine⟨?_,h2⟩
 unfold zx
 have h3:a+1≤(zt s d (⟨#[c]⟩:zgS).data.toList a).1:=h1
 simp only
 split
 ·exact zgP h3 (z16 _ _ _)
 ·exact zgP h3 (z1f _ _ _ _)
theorem z3w {s:zgS}{a:Nat}{d:Bool}(h: ¬((ze s a d).2.2.size==0)=true):a+1≤(ze s a d).1∧a<s.size:=by
 unfold ze at h ⊢
 split
 ·rename_i e
  obtain⟨h1,h2⟩:=z1H (c:=61) (cs:=[61]) e
  exact⟨zgP h1 (z16 _ _ _),h2⟩
 ·rename_i e
  rw [if_neg e] at h
  split
  ·rename_i e
   obtain⟨h1,h2⟩:=z1H (c:=33) (cs:=[61]) e
   exact⟨zgP h1 (z16 _ _ _),h2⟩
  ·rename_i e
   rw [if_neg e] at h
   split
   ·rename_i e;exact z1O (c:=60) e
   ·rename_i e
    rw [if_neg e] at h
    split
    ·rename_i e;exact z1O (c:=62) e
    ·rename_i e;rw [if_neg e] at h;exact absurd rfl h
structure PE (s:zgS)(st:St)(k:Nat):Prop where
 le:st.at_≤s.size
 room:st.E.length+2*(s.size - st.at_)+k<100000
structure QM (s:zgS)(st st':St)(k:Nat):Prop where
 le:st'.at_≤s.size
 ge:st.at_≤st'.at_
 grow:st'.E.length+2*(s.size - st'.at_)≤st.E.length+2*(s.size - st.at_)+k
theorem z1I {st:St}(x:Ex)(h:st.E.length<100000):jQ st x=some ((st.E.length:Int),{st with E:=st.E++[x]}):=by
 unfold jQ
 rw [if_pos h]
def z0C:Nat→Nat
 |7=>1|6=>2|5=>3|4=>4|3=>5|2=>6|1=>7|0=>8|_=>1
def za2 (tag:Nat):Prop:=tag=10∨tag=11∨tag=14∨tag=15
theorem zcv (s:zgS): ∀n tag l st,(tag≤7∨za2 tag)→PE s st (if tag≤7 then 1 else 0)→z0C tag+20*(s.size - st.at_)≤n→ ∃r,M s n tag l st=some r∧QM s st r.2 (if tag≤7 then 1 else 0):=by
 intro n
 induction n with
 |zero=>
  intro tag l st ht hp hn
  exfalso
  have:1≤z0C tag:=by
   rcases ht with h|rfl|rfl|rfl|rfl
   ·match tag,h with
    |0,_=>decide
    |1,_=>decide
    |2,_=>decide
    |3,_=>decide
    |4,_=>decide
    |5,_=>decide
    |6,_=>decide
    |7,_=>decide
   all_goals decide
  omega
 |succ n ih=>
  intro tag l st ht hp hn
  have hle:=hp.le
  have hroom:=hp.room
  have two: ∀(t1 t2:Nat),t1≤7→za2 t2→st.E.length+2*(s.size - st.at_)+1<100000→z0C t1+20*(s.size - st.at_)≤n→1+20*(s.size - st.at_)≤n→ ∃r,((M s n t1 0 st).bind fun r=>M s n t2 r.1 r.2)=some r∧QM s st r.2 1:=by
   intro t1 t2 h1 h2 h0 h3 h4
   obtain⟨q,e1,k1⟩:=ih t1 0 st (.inl h1) (by rw [if_pos h1];exact⟨hle,h0⟩) h3
   rw [if_pos h1] at k1
   have g1:=k1.le;have g2:=k1.ge;have g3:=k1.grow
   have hf:z0C t2=1:=by rcases h2 with rfl|rfl|rfl|rfl<;>rfl
   have hn7: ¬t2≤7:=by rcases h2 with rfl|rfl|rfl|rfl<;>omega
   obtain⟨q2,e2,k2⟩:=ih t2 q.1 q.2 (.inr h2) (by rw [if_neg hn7];exact⟨g1,by omega⟩) (by rw [hf];omega)
   rw [if_neg hn7] at k2
   have g4:=k2.le;have g5:=k2.ge;have g6:=k2.grow
   exact⟨q2,by rw [e1];exact e2,⟨g4,by omega,by omega⟩⟩
  have three: ∀(t1 t2:Nat) (u:St) (x:Int×St→Ex),t1≤7→za2 t2→st.E.length+2*(s.size - st.at_)<100000→u.E=st.E→st.at_+1≤u.at_→st.at_<s.size→u.at_≤s.size→20*(s.size - st.at_)≤n→z0C t1≤8→ ∃r,((M s n t1 0 u).bind fun r=>(jQ r.2 (x r)).bind fun q=>M s n t2 q.1 q.2)=some r∧QM s st r.2 0:=by
   intro t1 t2 u x h1 h2 h0 hE h5 h6 h7 h3 h4
   have hEl:u.E.length=st.E.length:=by rw [hE]
   obtain⟨q,e1,k1⟩:=ih t1 0 u (.inl h1) (by rw [if_pos h1];exact⟨h7,by omega⟩) (by omega)
   rw [if_pos h1] at k1
   have g1:=k1.le;have g2:=k1.ge;have g3:=k1.grow
   have hf:z0C t2=1:=by rcases h2 with rfl|rfl|rfl|rfl<;>rfl
   have hn7: ¬t2≤7:=by rcases h2 with rfl|rfl|rfl|rfl<;>omega
   have ha:=z1I (st:=q.2) (x q) (by omega)
   obtain⟨q2,e2,k2⟩:=ih t2 q.2.E.length {q.2 with E:=q.2.E++[x q]} (.inr h2) (by rw [if_neg hn7];exact⟨g1,by simp;omega⟩) (by rw [hf];simp only;omega)
   rw [if_neg hn7] at k2
   have g4:=k2.le;have g5:=k2.ge;have g6:=k2.grow
   simp only [List.length_append,List.length_cons,List.length_nil] at g5 g6
   exact⟨q2,by rw [e1];simp only [Option.bind_some];rw [ha];exact e2,⟨g4,by omega,by omega⟩⟩
  have stop: ∀k,∃r,some (l,st)=some r∧QM s st r.2 k:=fun k=>⟨_,rfl,hle,zgH _,Nat.le_add_right _ _⟩
  rcases ht with ht|ht
  ·rw [if_pos ht] at hroom ⊢
   match tag,ht,hn with
   |0,_,hn=>rw [M_0];exact two 1 10 (by omega) (.inl rfl) hroom (by simp [z0C] at hn ⊢;omega) (by simp [z0C] at hn ⊢;omega)
   |1,_,hn=>rw [M_1];exact two 2 11 (by omega) (.inr (.inl rfl)) hroom (by simp [z0C] at hn ⊢;omega) (by simp [z0C] at hn ⊢;omega)
   |4,_,hn=>rw [M_4];exact two 5 14 (by omega) (.inr (.inr (.inl rfl))) hroom (by simp [z0C] at hn ⊢;omega) (by simp [z0C] at hn ⊢;omega)
   |5,_,hn=>rw [M_5];exact two 6 15 (by omega) (.inr (.inr (.inr rfl))) hroom (by simp [z0C] at hn ⊢;omega) (by simp [z0C] at hn ⊢;omega)
   |2,_,hn=>
    rw [M_2]
    split
    ·obtain⟨q,e1,k1⟩:=ih 3 0 st (.inl (by omega)) (by rw [if_pos (by omega)];exact⟨hle,hroom⟩) (by simp [z0C] at hn ⊢;omega)
     exact⟨q,e1,k1⟩
    ·rename_i hc
     have hc:(pkS s st==((33:UInt8).toNat:Int))=true:=by simpa using hc
     obtain⟨h5,h6⟩:=j0 (cs:=[]) hc
     have h7:=jM (l:=[33]) hle
     obtain⟨q,e1,k1⟩:=ih 2 0 (sgn s [33] st) (.inl (by omega)) (by rw [if_pos (by omega)];exact⟨h7,by show st.E.length+_+1<100000;omega⟩) (by simp [z0C] at hn ⊢;omega)
     rw [if_pos (by omega)] at k1
     have g1:=k1.le;have g2:=k1.ge;have g3:=k1.grow
     have g3:q.2.E.length+2*(s.size - q.2.at_)≤st.E.length+2*(s.size -(sgn s [33] st).at_)+1:=g3
     rw [e1]
     simp only [Option.bind_some]
     refine⟨_,z1I (st:=q.2) _ (by omega),g1,by simp only;omega,by simp;omega⟩
   |6,_,hn=>
    rw [M_6]
    split
    ·obtain⟨q,e1,k1⟩:=ih 7 0 st (.inl (by omega)) (by rw [if_pos (by omega)];exact⟨hle,hroom⟩) (by simp [z0C] at hn ⊢;omega)
     exact⟨q,e1,k1⟩
    ·rename_i hc
     have hc:(pkS s st==((45:UInt8).toNat:Int))=true:=by simpa using hc
     obtain⟨h5,h6⟩:=j0 (cs:=[]) hc
     have h7:=jM (l:=[45]) hle
     obtain⟨q,e1,k1⟩:=ih 6 0 (sgn s [45] st) (.inl (by omega)) (by rw [if_pos (by omega)];exact⟨h7,by show st.E.length+_+1<100000;omega⟩) (by simp [z0C] at hn ⊢;omega)
     rw [if_pos (by omega)] at k1
     have g1:=k1.le;have g2:=k1.ge;have g3:=k1.grow
     have g3:q.2.E.length+2*(s.size - q.2.at_)≤st.E.length+2*(s.size -(sgn s [45] st).at_)+1:=g3
     rw [e1]
     simp only [Option.bind_some]
     refine⟨_,z1I (st:=q.2) _ (by omega),g1,by simp only;omega,by simp;omega⟩
   |3,_,hn=>
    rw [M_3]
    obtain⟨q,e1,k1⟩:=ih 4 0 st (.inl (by omega)) (by rw [if_pos (by omega)];exact⟨hle,hroom⟩) (by simp [z0C] at hn ⊢;omega)
    rw [if_pos (by omega)] at k1
    have g1:=k1.le;have g2:=k1.ge;have g3:=k1.grow
    rw [e1]
    simp only [Option.bind_some]
    have h7:=z5k s q.2.at_ q.2.bad g1
    by_cases hc:((ze s q.2.at_ q.2.bad).2.2.size==0)=true
    ·have h8:=z1b s q.2.at_ q.2.bad
     rw [if_pos hc]
     exact⟨_,rfl,h7,zgP g2 h8,by
      show q.2.E.length+2*(s.size -(ze s q.2.at_ q.2.bad).1)≤_
      omega⟩
    ·obtain⟨h8,h9⟩:=z3w hc
     rw [if_neg hc]
     obtain⟨q2,e2,k2⟩:=ih 4 0 (q.2.put3 (ze s q.2.at_ q.2.bad)) (.inl (by omega)) (by rw [if_pos (by omega)];exact⟨h7,by show q.2.E.length+2*(s.size -(ze s q.2.at_ q.2.bad).1)+1<100000;omega⟩) (by
      show 4+20*(s.size -(ze s q.2.at_ q.2.bad).1)≤n
      simp [z0C] at hn;omega)
     rw [if_pos (by omega)] at k2
     have f1:=k2.le;have f2:=k2.ge;have f3:=k2.grow
     have f2:(ze s q.2.at_ q.2.bad).1≤q2.2.at_:=f2
     have f3:q2.2.E.length+2*(s.size - q2.2.at_)≤q.2.E.length+2*(s.size -(ze s q.2.at_ q.2.bad).1)+1:=f3
     rw [e2]
     simp only [Option.bind_some]
     refine⟨_,z1I _ (by omega),f1,by simp only;omega,by simp;omega⟩
   |7,_,hn=>
    rw [M_7]
    simp only
    have leaf: ∀(u:St) (x:Ex),u.E=st.E→st.at_≤u.at_→u.at_≤s.size→ ∃r,jQ u x=some r∧QM s st r.2 1:=by
     intro u x hE h1 h2
     have hEl:u.E.length=st.E.length:=by rw [hE]
     refine⟨_,z1I _ (by omega),h2,h1,by simp;omega⟩
    split
    ·exact leaf _ _ rfl (z4E _ _ _) (z8s _ _ _ hle)
    ·split
     ·exact leaf _ _ rfl (z4H _ _ _) (z89 _ _ _ hle)
     ·split
      ·exact leaf _ _ rfl (zgP (z09 s [64] st) (jq _ _ _)) (z1B _ _ _ (z3K hle))
      ·split
       ·rename_i hc
        obtain⟨h5,h6⟩:=j0 (c:=40) (cs:=[]) hc
        have h7:=jM (l:=[40]) hle
        obtain⟨q,e1,k1⟩:=ih 0 0 (sgn s [40] st) (.inl (by omega)) (by rw [if_pos (by omega)];exact⟨h7,by show st.E.length+_+1<100000;omega⟩) (by simp [z0C] at hn ⊢;omega)
        rw [if_pos (by omega)] at k1
        have g1:=k1.le;have g2:=k1.ge;have g3:=k1.grow
        have g3:q.2.E.length+2*(s.size - q.2.at_)≤st.E.length+2*(s.size -(sgn s [40] st).at_)+1:=g3
        have g4:=zL s [41] q.2
        refine⟨_,by rw [e1];rfl,jM g1,by simp only;omega,?_⟩
        show q.2.E.length+2*(s.size -(sgn s [41] q.2).at_)≤_
        omega
       ·split
        ·exact leaf _ _ rfl (jq _ _ _) (z1B _ _ _ hle)
        ·exact leaf _ _ rfl (jq _ _ _) (z1B _ _ _ hle)
  ·have hn7: ¬tag≤7:=by rcases ht with rfl|rfl|rfl|rfl<;>omega
   rw [if_neg hn7] at hroom ⊢
   have hn1:20*(s.size - st.at_)≤n:=by
    have:z0C tag=1:=by rcases ht with rfl|rfl|rfl|rfl<;>rfl
    omega
   rcases ht with rfl|rfl|rfl|rfl
   ·rw [z71]
    split
    ·rename_i hc
     obtain⟨h5,h6⟩:=j0 (c:=124) (cs:=[124]) hc
     exact three 1 10 (sgn s [124,124] st) (fun r=>⟨6,st.at_,⟨#[124,124]⟩,l,r.1⟩) (by omega) (.inl rfl) hroom rfl h5 h6 (jM hle) hn1 (by decide)
    ·exact stop 0
   ·rw [z7h]
    split
    ·rename_i hc
     obtain⟨h5,h6⟩:=j0 (c:=38) (cs:=[38]) hc
     exact three 2 11 (sgn s [38,38] st) (fun r=>⟨6,st.at_,⟨#[38,38]⟩,l,r.1⟩) (by omega) (.inr (.inl rfl)) hroom rfl h5 h6 (jM hle) hn1 (by decide)
    ·exact stop 0
   ·rw [z6x]
    simp only
    split
    ·exact stop 0
    ·rename_i hc
     obtain⟨h5,h6⟩:=z9A hc
     exact three 5 14 (sgn s (zr s st.at_ st.bad).data.toList st) (fun r=>⟨6,st.at_,zr s st.at_ st.bad,l,r.1⟩) (by omega) (.inr (.inr (.inl rfl))) hroom rfl h5 h6 (jM hle) hn1 (by decide)
   ·rw [z7L]
    simp only
    split
    ·exact stop 0
    ·rename_i hc
     obtain⟨h5,h6⟩:=z5b hc
     exact three 6 15 (sgn s (zh s st.at_ st.bad).data.toList st) (fun r=>⟨6,st.at_,zh s st.at_ st.bad,l,r.1⟩) (by omega) (.inr (.inr (.inr rfl))) hroom rfl h5 h6 (jM hle) hn1 (by decide)
theorem z54 {st:St}(x:Lc)(h:st.L.length<100000):z2H st x=some ((st.L.length:Int),{st with L:=st.L++[x]}):=by
 unfold z2H
 rw [if_pos h]
structure QL (s:zgS)(st st':St)(k:Nat):Prop where
 le:st'.at_≤s.size
 ge:st.at_≤st'.at_
 grow:st'.L.length+2*(s.size - st'.at_)≤st.L.length+2*(s.size - st.at_)+k
def z1k:Nat→Nat
 |2=>2|1=>3|0=>4|_=>1
theorem zaU (s:zgS): ∀n tag l p k its st,(tag=0∨tag=1∨tag=2∨(tag=3∧zg (pkS s st)=true)∨tag=10∨tag=11∨(tag=13∧its.length+(s.size - st.at_)<100000))→st.at_≤s.size→st.L.length+2*(s.size - st.at_)+1<100000+(if tag=10∨tag=11∨tag=13 then 1 else 0)→s.size≤600→z1k tag+20*(s.size - st.at_)≤n→
  ∃r,ML s n tag l p k its st=some r∧QL s st r.2 (if tag=10∨tag=11 then 0 else 1):=by
 intro n
 induction n with
 |zero=>
  intro tag l p k its st ht hle hroom h600 hn
  exfalso
  have:1≤z1k tag:=by
   rcases ht with rfl|rfl|rfl|⟨rfl,_⟩|rfl|rfl|⟨rfl,_⟩<;>decide
  omega
 |succ n ih=>
  intro tag l p k its st ht hle hroom h600 hn
  have two: ∀(t1 t2:Nat),(t1=1∨t1=2)→(t2=10∨t2=11)→st.L.length+2*(s.size - st.at_)+1<100000→3+20*(s.size - st.at_)≤n→ ∃r,((ML s n t1 0 0 0 [] st).bind fun r=>ML s n t2 r.1 0 0 [] r.2)=some r∧QL s st r.2 1:=by
   intro t1 t2 h1 h2 h0 h3
   have hf1:z1k t1≤3:=by rcases h1 with rfl|rfl<;>decide
   have hf:z1k t2=1:=by rcases h2 with rfl|rfl<;>rfl
   obtain⟨q,e1,k1⟩:=ih t1 0 0 0 [] st (by omega) hle (by rw [if_neg (by omega)];omega) h600 (by omega)
   rw [if_neg (by omega)] at k1
   have g1:=k1.le;have g2:=k1.ge;have g3:=k1.grow
   obtain⟨q2,e2,k2⟩:=ih t2 q.1 0 0 [] q.2 (by omega) g1 (by rw [if_pos (by omega)];omega) h600 (by rw [hf];omega)
   rw [if_pos (by omega)] at k2
   have g4:=k2.le;have g5:=k2.ge;have g6:=k2.grow
   exact⟨q2,by rw [e1];exact e2,⟨g4,by omega,by omega⟩⟩
  have three: ∀(t1 t2:Nat) (u:St) (x:Int×St→Lc),(t1=1∨t1=2)→(t2=10∨t2=11)→st.L.length+2*(s.size - st.at_)<100000→u.L=st.L→st.at_+1≤u.at_→st.at_<s.size→u.at_≤s.size→20*(s.size - st.at_)≤n→ ∃r,((ML s n t1 0 0 0 [] u).bind fun r=>(z2H r.2 (x r)).bind fun q=>ML s n t2 q.1 0 0 [] q.2)=some r∧QL s st r.2 0:=by
   intro t1 t2 u x h1 h2 h0 hE h5 h6 h7 h3
   have hEl:u.L.length=st.L.length:=by rw [hE]
   have hf1:z1k t1≤3:=by rcases h1 with rfl|rfl<;>decide
   have hf:z1k t2=1:=by rcases h2 with rfl|rfl<;>rfl
   obtain⟨q,e1,k1⟩:=ih t1 0 0 0 [] u (by omega) h7 (by rw [if_neg (by omega)];omega) h600 (by omega)
   rw [if_neg (by omega)] at k1
   have g1:=k1.le;have g2:=k1.ge;have g3:=k1.grow
   have ha:=z54 (st:=q.2) (x q) (by omega)
   obtain⟨q2,e2,k2⟩:=ih t2 q.2.L.length 0 0 [] {q.2 with L:=q.2.L++[x q]} (by omega) g1 (by rw [if_pos (by omega)];simp;omega) h600 (by rw [hf];simp only;omega)
   rw [if_pos (by omega)] at k2
   have g4:=k2.le;have g5:=k2.ge;have g6:=k2.grow
   simp only [List.length_append,List.length_cons,List.length_nil] at g5 g6
   exact⟨q2,by rw [e1];simp only [Option.bind_some];rw [ha];exact e2,⟨g4,by omega,by omega⟩⟩
  have stop: ∃r,some (l,st)=some r∧QL s st r.2 0:=⟨_,rfl,hle,zgH _,Nat.le_add_right _ _⟩
  rcases ht with rfl|rfl|rfl|⟨rfl,hd⟩|rfl|rfl|⟨rfl,hits⟩
  ·rw [if_neg (by omega)] at hroom ⊢
   rw [z7G]
   exact two 1 10 (by omega) (by omega) (by omega) (by simp [z1k] at hn;omega)
  ·rw [if_neg (by omega)] at hroom ⊢
   rw [z7I]
   obtain⟨q,e1,k1⟩:=ih 2 0 0 0 [] st (by omega) hle (by rw [if_neg (by omega)];omega) h600 (by simp [z1k] at hn ⊢;omega)
   rw [if_neg (by omega)] at k1
   have g1:=k1.le;have g2:=k1.ge;have g3:=k1.grow
   obtain⟨q2,e2,k2⟩:=ih 11 q.1 0 0 [] q.2 (by omega) g1 (by rw [if_pos (by omega)];omega) h600 (by simp [z1k] at hn ⊢;omega)
   rw [if_pos (by omega)] at k2
   have g4:=k2.le;have g5:=k2.ge;have g6:=k2.grow
   exact⟨q2,by rw [e1];exact e2,⟨g4,by omega,by omega⟩⟩
  ·rw [if_neg (by omega)] at hroom ⊢
   rw [z6l]
   simp only
   split
   ·rename_i hc
    obtain⟨h5,h6⟩:=j0 (c:=40) (cs:=[]) hc
    have h7:=jM (l:=[40]) hle
    obtain⟨q,e1,k1⟩:=ih 0 0 0 0 [] (sgn s [40] st) (by omega) h7 (by rw [if_neg (by omega)];show st.L.length+_+1<100000;omega) h600 (by simp [z1k] at hn ⊢;omega)
    rw [if_neg (by omega)] at k1
    have g1:=k1.le;have g2:=k1.ge;have g3:=k1.grow
    have g3:q.2.L.length+2*(s.size - q.2.at_)≤st.L.length+2*(s.size -(sgn s [40] st).at_)+1:=g3
    have g4:=zL s [41] q.2
    refine⟨_,by rw [e1];rfl,jM g1,by simp only;omega,?_⟩
    show q.2.L.length+2*(s.size -(sgn s [41] q.2).at_)≤_
    omega
   ·split
    ·rename_i hd
     obtain⟨q,e1,k1⟩:=ih 3 0 0 0 [] st (by simp [hd]) hle (by rw [if_neg (by omega)];omega) h600 (by simp [z1k] at hn ⊢;omega)
     rw [if_neg (by omega)] at k1
     exact⟨q,e1,k1⟩
    ·have g1:=jq s st.at_ st.bad
     have g2:=z1B s st.at_ st.bad hle
     refine⟨_,z54 (st:=st.put3 (zw s st.at_ st.bad)) _ (by show st.L.length<_;omega),g2,g1,?_⟩
     show(st.L++[_]).length+2*(s.size -(zw s st.at_ st.bad).1)≤_
     simp
     omega
  ·rw [if_neg (by omega)] at hroom ⊢
   rw [z9z]
   have hat:st.at_<s.size:=(jT (s:=s) (a:=st.at_) (d:=st.bad) (fun e=>by unfold pkS at hd;rw [e] at hd;revert hd;decide)).2
   have h5:st.at_+1≤(sgn s [45,111,102,40] {st with at_:=st.at_+1}).at_:=zL s [45,111,102,40] {st with at_:=st.at_+1}
   have h7:(sgn s [45,111,102,40] {st with at_:=st.at_+1}).at_≤s.size:=jM (st:={st with at_:=st.at_+1}) hat
   generalize hu:sgn s [45,111,102,40] {st with at_:=st.at_+1}=u at*
   have hul:u.L=st.L:=by rw [←hu];rfl
   have hull:u.L.length=st.L.length:=by rw [hul]
   obtain⟨q,e1,k1⟩:=ih 0 0 0 0 [] u (by omega) h7 (by rw [if_neg (by omega)];omega) h600 (by simp [z1k] at hn ⊢;omega)
   rw [if_neg (by omega)] at k1
   have g1:=k1.le;have g2:=k1.ge;have g3:=k1.grow
   obtain⟨q2,e2,k2⟩:=ih 13 0 st.at_ (pkS s st - 48) [q.1] q.2 (by simp;omega) g1 (by rw [if_pos (by omega)];omega) h600 (by simp [z1k] at hn ⊢;omega)
   rw [if_neg (by omega)] at k2
   have g4:=k2.le;have g5:=k2.ge;have g6:=k2.grow
   exact⟨q2,by rw [e1];exact e2,⟨g4,by omega,by omega⟩⟩
  ·rw [if_pos (by omega)] at hroom ⊢
   rw [z2n]
   split
   ·rename_i hc
    obtain⟨h5,h6⟩:=j0 (c:=124) (cs:=[124]) hc
    exact three 1 10 (sgn s [124,124] st) (fun r=>⟨1,⟨#[124,124]⟩,l,r.1,0,0,[]⟩) (by omega) (by omega) (by omega) rfl h5 h6 (jM hle) (by simp [z1k] at hn;omega)
   ·exact stop
  ·rw [if_pos (by omega)] at hroom ⊢
   rw [z2w]
   split
   ·rename_i hc
    obtain⟨h5,h6⟩:=j0 (c:=38) (cs:=[38]) hc
    exact three 2 11 (sgn s [38,38] st) (fun r=>⟨1,⟨#[38,38]⟩,l,r.1,0,0,[]⟩) (by omega) (by omega) (by omega) rfl h5 h6 (jM hle) (by simp [z1k] at hn;omega)
   ·exact stop
  ·rw [if_pos (by omega)] at hroom
   rw [if_neg (by omega)]
   rw [z2U,if_pos (by omega)]
   split
   ·rename_i hc
    obtain⟨h5,h6⟩:=j0 (c:=44) (cs:=[]) hc
    have h7:=jM (l:=[44]) hle
    obtain⟨q,e1,k1⟩:=ih 0 0 0 0 [] (sgn s [44] st) (by omega) h7 (by rw [if_neg (by omega)];show st.L.length+_+1<100000;omega) h600 (by simp [z1k] at hn ⊢;omega)
    rw [if_neg (by omega)] at k1
    have g1:=k1.le;have g2:=k1.ge;have g3:=k1.grow
    have g3:q.2.L.length+2*(s.size - q.2.at_)≤st.L.length+2*(s.size -(sgn s [44] st).at_)+1:=g3
    obtain⟨q2,e2,k2⟩:=ih 13 0 p k (its++[q.1]) q.2 (by simp;omega) g1 (by rw [if_pos (by omega)];omega) h600 (by simp [z1k] at hn ⊢;omega)
    rw [if_neg (by omega)] at k2
    have g4:=k2.le;have g5:=k2.ge;have g6:=k2.grow
    exact⟨q2,by rw [e1];exact e2,⟨g4,by omega,by omega⟩⟩
   ·have g4:=zL s [41] st
    refine⟨_,z54 (st:=sgn s [41] st) _ (by show st.L.length<_;omega),jM hle,g4,?_⟩
    show(st.L++[_]).length+2*(s.size -(sgn s [41] st).at_)≤_
    simp
    omega
structure QX (s:zgS)(st st':St)(k j:Nat):Prop where
 le:st'.at_≤s.size
 ge:st.at_≤st'.at_
 grow:st'.E.length+4*(s.size - st'.at_)≤st.E.length+4*(s.size - st.at_)+k
 growC:st'.C.length+(s.size - st'.at_)≤st.C.length+(s.size - st.at_)+j
def z4Q:Nat→Nat
 |0=>11|1=>10|_=>1
theorem zbk {st:St}(x:List Cl)(h:st.C.length<100000):z8I st x=some ((st.C.length:Int),{st with C:=st.C++[x]}):=by
 unfold z8I
 rw [if_pos h]
theorem zay (s:zgS)(h600:s.size≤600): ∀n tag cls st,(tag=0∨tag=1∨(tag=2∧cls.length+(s.size - st.at_)<100000))→st.at_≤s.size→st.E.length+4*(s.size - st.at_)+(if tag=2 then 0 else 2)<100000→st.C.length+(s.size - st.at_)<100000→z4Q tag+20*(s.size - st.at_)≤n→
  ∃r,MC s n tag cls st=some r∧QX s st r.2.2 (if tag=2 then 0 else 2) (if tag=1 then 0 else 1):=by
 intro n
 induction n with
 |zero=>
  intro tag cls st ht hle hroom hC hn
  exfalso
  have:1≤z4Q tag:=by
   rcases ht with rfl|rfl|⟨rfl,_⟩<;>decide
  omega
 |succ n ih=>
  intro tag cls st ht hle hroom hC hn
  rcases ht with rfl|rfl|⟨rfl,hcl⟩
  ·rw [if_neg (by omega)] at hroom ⊢
   rw [if_neg (by omega)]
   rw [z8h]
   obtain⟨q,e1,k1⟩:=ih 1 [] st (by omega) hle (by rw [if_neg (by omega)];omega) hC (by simp [z4Q] at hn ⊢;omega)
   rw [if_neg (by omega),if_pos rfl] at k1
   have g1:=k1.le;have g2:=k1.ge;have g3:=k1.grow;have g4:=k1.growC
   obtain⟨q2,e2,k2⟩:=ih 2 [q.2.1] q.2.2 (by simp;omega) g1 (by rw [if_pos rfl];omega) (by omega) (by simp [z4Q] at hn ⊢;omega)
   rw [if_pos rfl,if_neg (by omega)] at k2
   have f1:=k2.le;have f2:=k2.ge;have f3:=k2.grow;have f4:=k2.growC
   exact⟨q2,by rw [e1];exact e2,⟨f1,by omega,by omega,by omega⟩⟩
  ·rw [if_neg (by omega)] at hroom ⊢
   rw [if_pos rfl]
   rw [z6v]
   obtain⟨q,e1,k1⟩:=zcv s n 0 0 st (.inl (by omega)) (by rw [if_pos (by omega)];exact⟨hle,by omega⟩) (by simp [z0C,z4Q] at hn ⊢;omega)
   rw [if_pos (by omega)] at k1
   have g1:=k1.le;have g2:=k1.ge;have g3:=k1.grow
   obtain⟨_,_,_,hCq⟩:=z1z s _ _ _ _ _ e1
   have hCl:q.2.C.length=st.C.length:=by rw [hCq]
   have ha:=z1I (st:=q.2) ⟨7,st.at_,⟨#[]⟩,q.1,-1⟩ (by omega)
   rw [e1]
   simp only [Option.bind_some]
   rw [ha]
   simp only [Option.bind_some]
   generalize hv:({q.2 with E:=q.2.E++[⟨7,st.at_,⟨#[]⟩,q.1,-1⟩]}:St)=v
   have hva:v.at_=q.2.at_:=by rw [←hv]
   have hvE:v.E.length=q.2.E.length+1:=by rw [←hv];simp
   have hvC:v.C.length=st.C.length:=by rw [←hv];exact hCl
   have hvb:q.2.bad=v.bad:=by rw [←hv]
   by_cases har:(!zz s v.at_ v.bad)=true
   ·have har':(!zz s q.2.at_ q.2.bad)=true:=by rw [←hva,hvb];exact har
    rw [if_pos har']
    exact⟨_,rfl,by simp only;omega,by simp only;omega,by simp only;omega,by simp only;omega⟩
   ·have har': ¬(!zz s q.2.at_ q.2.bad)=true:=by rw [←hva,hvb];exact har
    rw [if_neg har']
    have h45:(pkS s v==((45:UInt8).toNat:Int))=true:=by
     have h:=har
     unfold zz at h
     simp at h
     simpa [pkS] using h.1
    obtain⟨h5,h6⟩:=j0 (cs:=[62]) h45
    have h7:(sgn s [45,62] v).at_≤s.size:=jM (by omega)
    generalize hu:sgn s [45,62] v=u at*
    have huE:u.E.length=v.E.length:=by rw [←hu];rfl
    have huC:u.C.length=v.C.length:=by rw [←hu];rfl
    unfold zb4
    split
    ·rename_i hc
     obtain⟨h8,h9⟩:=j0 (c:=123) (cs:=[]) hc
     have h10:(sgn s [123] u).at_≤s.size:=jM h7
     generalize hy:sgn s [123] u=y at*
     have hyE:y.E.length=u.E.length:=by rw [←hy];rfl
     have hyC:y.C.length=u.C.length:=by rw [←hy];rfl
     obtain⟨q3,e3,k3⟩:=ih 0 [] y (by omega) h10 (by rw [if_neg (by omega)];omega) (by omega) (by simp [z4Q] at hn ⊢;omega)
     rw [if_neg (by omega),if_neg (by omega)] at k3
     have f1:=k3.le;have f2:=k3.ge;have f3:=k3.grow;have f4:=k3.growC
     have f5:=zL s [125] q3.2.2
     have f6:(sgn s [125] q3.2.2).at_≤s.size:=jM f1
     rw [e3]
     refine⟨_,rfl,f6,by simp only;omega,?_,?_⟩
     ·show q3.2.2.E.length+4*(s.size -(sgn s [125] q3.2.2).at_)≤_
      omega
     ·show q3.2.2.C.length+(s.size -(sgn s [125] q3.2.2).at_)≤_
      omega
    ·have f5:=jq s u.at_ u.bad
     have f6:=z1B s u.at_ u.bad h7
     refine⟨_,rfl,f6,?_,?_,?_⟩
     ·show st.at_≤(zw s u.at_ u.bad).1
      omega
     ·show u.E.length+4*(s.size -(zw s u.at_ u.bad).1)≤_
      omega
     ·show u.C.length+(s.size -(zw s u.at_ u.bad).1)≤_
      omega
  ·rw [if_pos rfl] at hroom ⊢
   rw [if_neg (by omega)]
   rw [z7k,if_pos (by omega)]
   split
   ·rename_i hc
    obtain⟨h5,h6⟩:=j0 (c:=59) (cs:=[]) hc
    have h7:(sgn s [59] st).at_≤s.size:=jM hle
    generalize hu:sgn s [59] st=u at*
    have huE:u.E.length=st.E.length:=by rw [←hu];rfl
    have huC:u.C.length=st.C.length:=by rw [←hu];rfl
    obtain⟨q,e1,k1⟩:=ih 1 [] u (by omega) h7 (by rw [if_neg (by omega)];omega) (by omega) (by simp [z4Q] at hn ⊢;omega)
    rw [if_neg (by omega),if_pos rfl] at k1
    have g1:=k1.le;have g2:=k1.ge;have g3:=k1.grow;have g4:=k1.growC
    obtain⟨q2,e2,k2⟩:=ih 2 (cls++[q.2.1]) q.2.2 (by simp;omega) g1 (by rw [if_pos rfl];omega) (by omega) (by simp [z4Q] at hn ⊢;omega)
    rw [if_pos rfl,if_neg (by omega)] at k2
    have f1:=k2.le;have f2:=k2.ge;have f3:=k2.grow;have f4:=k2.growC
    exact⟨q2,by rw [e1];exact e2,⟨f1,by omega,by omega,by omega⟩⟩
   ·rw [zbk _ (by omega)]
    refine⟨_,rfl,hle,zgH _,zgH _,?_⟩
    simp
    omega
structure PA (s:zgS)(st:St):Prop where
 le:st.at_≤s.size
 a:st.A.length+3*(s.size - st.at_)≤10000
 l:st.L.length+3*(s.size - st.at_)≤10000
 e:st.E.length+8*(s.size - st.at_)≤10000
 c:st.C.length+3*(s.size - st.at_)≤10000
theorem zam (s:zgS)(h600:s.size≤600)(n:Nat)(st:St)(hp:PA s st)(hn:11+20*(s.size - st.at_)≤n): ∃u,MA s n st=some u∧u.at_≤s.size∧u.A.length≤10010∧u.L.length≤10010∧u.E.length≤10010∧u.C.length≤10010∧(u.bad=false→st.at_+1≤u.at_∧PA s u):=by
 obtain⟨hle,hA,hL,hE,hC⟩:=hp
 unfold MA
 simp only
 have i1:(zp s [98,121] st).at_≤s.size:=jM (z3K hle)
 have i1':st.at_≤(zp s [98,121] st).at_:=zgP (z09 _ _ _) (zL _ _ _)
 generalize ha:zp s [98,121] st=a at*
 have i2:=jq s a.at_ a.bad
 have i3:=z1B s a.at_ a.bad i1
 generalize hb:zp s [116,111] (wrd s [10] (a.put3 (zw s a.at_ a.bad)))=d
 have i4:a.at_≤d.at_:=by
  rw [←hb]
  exact zgP i2 (zgP (z09 s [10] (a.put3 (zw s a.at_ a.bad))) (zgP (z09 _ _ _) (zL _ _ _)))
 have i5:d.at_≤s.size:=by
  rw [←hb]
  exact jM (z3K (z3K (st:=a.put3 (zw s a.at_ a.bad)) i3))
 have dL:d.L=st.L:=by rw [←hb,←ha];rfl
 have dE:d.E=st.E:=by rw [←hb,←ha];rfl
 have dC:d.C=st.C:=by rw [←hb,←ha];rfl
 have dA:d.A=st.A:=by rw [←hb,←ha];rfl
 obtain⟨r,e1,k1⟩:=zaU s n 0 0 0 0 [] d (by omega) i5 (by rw [if_neg (by omega),dL];omega) h600 (by simp [z1k];omega)
 rw [if_neg (by omega)] at k1
 have g1:=k1.le;have g2:=k1.ge;have g3:=k1.grow
 rw [dL] at g3
 obtain⟨_,rA,rE,rC⟩:=z07 s _ _ _ _ _ _ _ _ e1
 rw [e1]
 simp only [Option.bind_some]
 generalize hx:zp s [105,102] (wrd s [10] r.2)=x
 have j1:r.2.at_≤x.at_:=by
  rw [←hx]
  exact zgP (z09 _ _ _) (zgP (z09 _ _ _) (zL _ _ _))
 have j2:x.at_≤s.size:=by rw [←hx];exact jM (z3K (z3K g1))
 have xE:x.E=st.E:=by rw [←hx];show r.2.E=_;rw [rE,dE]
 have xC:x.C=st.C:=by rw [←hx];show r.2.C=_;rw [rC,dC]
 have xA:x.A=st.A:=by rw [←hx];show r.2.A=_;rw [rA,dA]
 have xL:x.L=r.2.L:=by rw [←hx];rfl
 obtain⟨q,e2,k2⟩:=zay s h600 n 0 [] x (by omega) j2 (by rw [if_neg (by omega),xE];omega) (by rw [xC];omega) (by simp [z4Q];omega)
 rw [if_neg (by omega),if_neg (by omega)] at k2
 have f1:=k2.le;have f2:=k2.ge;have f3:=k2.grow;have f4:=k2.growC
 rw [xE] at f3
 rw [xC] at f4
 obtain⟨_,_,qA,qL⟩:=z1i s _ _ _ _ _ e2
 rw [e2]
 simp only [Option.bind_some]
 have m1:=z09 s [10] q.2.2
 have m2:(wrd s [10] q.2.2).at_≤s.size:=z3K f1
 have aA:(wrd s [10] q.2.2).A.length=st.A.length:=by
  show q.2.2.A.length=_
  rw [qA,xA]
 have aL:(wrd s [10] q.2.2).L.length=r.2.L.length:=by
  show q.2.2.L.length=_
  rw [qL,xL]
 have aE:(wrd s [10] q.2.2).E.length=q.2.2.E.length:=rfl
 have aC:(wrd s [10] q.2.2).C.length=q.2.2.C.length:=rfl
 generalize hz:wrd s [10] q.2.2=z at*
 have hadd: ∀y,zbp z y=some {z with A:=z.A++[y]}:=fun y=>by
  unfold zbp
  rw [if_pos (by omega)]
 rw [hadd]
 refine⟨_,rfl,m2,by simp;omega,by simp only;omega,by simp only;omega,by simp only;omega,fun hbad=> ?_⟩
 have hzb:z.bad=false:=hbad
 have hstep:q.2.2.at_+1≤z.at_:=by
  rw [←hz] at hzb ⊢
  unfold wrd at hzb ⊢
  by_cases hc:pk s q.2.2.at_ q.2.2.bad=((10:UInt8).toNat:Int)
  ·show q.2.2.at_+1≤(zt s q.2.2.bad [10] q.2.2.at_).1
   rw [jd hc]
   exact zgH _
  ·have hb2:(zt s q.2.2.bad [10] q.2.2.at_).2=false:=hzb
   rw [je hc] at hb2
   cases hb2
 exact⟨by simp only;omega,m2,by simp;omega,by simp only;omega,by simp only;omega,by simp only;omega⟩
theorem zbe (s:zgS)(h600:s.size≤600): ∀n st,(st.bad=false→PA s st∧12+20*(s.size - st.at_)≤n)→1≤n→(st.A.length≤10010∧st.L.length≤10010∧st.E.length≤10010∧st.C.length≤10010)→ ∃u,MR s n st=some u∧u.A.length≤10010∧u.L.length≤10010∧u.E.length≤10010∧u.C.length≤10010:=by
 intro n
 induction n with
 |zero=>intro st _ h;omega
 |succ n ih=>
  intro st hp h1 hb
  unfold MR
  split
  ·rename_i hc
   have hbd:st.bad=false:=by
    cases h:st.bad with
    |false=>rfl
    |true=>rw [h] at hc;cases hc
   have hlt:st.at_<s.size:=by rw [hbd] at hc;simpa using hc
   obtain⟨p1,p2⟩:=hp hbd
   obtain⟨u,e1,e2,e3,e4,e5,e6,e7⟩:=zam s h600 n st p1 (by omega)
   rw [e1]
   exact ih u (fun h=>⟨(e7 h).2,by have:=(e7 h).1;omega⟩) (by omega) ⟨e3,e4,e5,e6⟩
  ·exact⟨st,rfl,hb⟩
theorem z7B (s:zgS)(h600:s.size≤600): ∃n u,MR s n st0=some u∧u.A.length≤10010∧u.L.length≤10010∧u.E.length≤10010∧u.C.length≤10010:=by
 obtain⟨u,h⟩:=zbe s h600 (12+20*s.size) st0 (fun _=>⟨⟨zgO _,by simp [st0];omega,by simp [st0];omega,by simp [st0];omega,by simp [st0];omega⟩,zgH _⟩) (by omega) (by simp [st0])
 exact⟨_,u,h⟩
theorem jw (n:Int)(w:World):Calls Tryz.prog 23 #[.int .i64 n] w fun e w'=>e= .returned (.int .i64 n)∧w'=w:=by
 go_enter Tryz.func23,Tryz.ntmps23
 go_wp2_with fail
 go_ret
 exact⟨rfl,rfl⟩
theorem z2u {w:World}{g:Nat}{a b c d e f:Value}{t:TypeId}(hh:w.heap[g]?=some (.cells #[a,b,c,d,e,f] t)):
  w.cell? ⟨g,0,none⟩=some a∧w.cell? ⟨g,1,none⟩=some b∧w.cell? ⟨g,2,none⟩=some c∧w.cell? ⟨g,3,none⟩=some d∧w.cell? ⟨g,4,none⟩=some e∧w.cell? ⟨g,5,none⟩=some f:=by
 simp [World.cell?,hh]
structure Ops (w:World)(b off len:Nat)(K N:Nat→Int)(S A V Q:Nat→zgS):Prop where
 lt:0<len→b<w.heap.size
 c0: ∀i,i<len→w.cell? ⟨b,off+i*6,none⟩=some (.int .i64 (K i))
 c1: ∀i,i<len→w.cell? ⟨b,off+i*6+1,none⟩=some (.int .i64 (N i))
 c2: ∀i,i<len→w.cell? ⟨b,off+i*6+2,none⟩=some (.string (S i))
 c3: ∀i,i<len→w.cell? ⟨b,off+i*6+3,none⟩=some (.string (A i))
 c4: ∀i,i<len→w.cell? ⟨b,off+i*6+4,none⟩=some (.string (V i))
 c5: ∀i,i<len→w.cell? ⟨b,off+i*6+5,none⟩=some (.string (Q i))
end Go.Proofs.YtkoohcilbpdgeaaGreatDoor
namespace Go.Proofs.YtkoohcilbpdgeaaGreatDoor
open Go Go.ChangeShapes Go.WideShapes Go.ChangeAt Go.RowKit Go.Deep
theorem own:ownKnob Tryz.prog.godebug=none:=by kernel_rfl
theorem zdr:laidOutB Tryz.prog=true:=by kernel_rfl
theorem zad:Tryz.prog.cellsOf 27=6:=by kernel_rfl
theorem zeD:Tryz.prog.cellsOf 3=1:=by kernel_rfl
theorem ze4:Tryz.prog.cellsOf 9=1:=by kernel_rfl
theorem zco {H:Type}{enc:TypeId×Value→H}{w:World}{base:Nat}{spare:Nat→Bool}{held:Bool}{n:Nat}{cs:List Value}{x:DataW H×List MemPlace}(h:DataW.trod enc Tryz.prog w base spare held n 27 cs=some x):
  ∃(k m:Int) (s a v q:zgS),cs=[.int .i64 k,.int .i64 m,.string s,.string a,.string v,.string q]∧s.size≤maxLen∧a.size≤maxLen∧v.size≤maxLen∧q.size≤maxLen:=by
 obtain⟨xs,j,_,_,hlen,hxl,hf⟩:=DataW.trod_struct Tryz.underlying27 h
 rw [zad] at hlen
 match cs,hlen with
 |[c0,c1,c2,c3,c4,c5],_=>
  match xs,hxl with
  |[y0,y1,y2,y3,y4,y5],_=>
   have g0:=hf 0 _ rfl
   have g1:=hf 1 _ rfl
   have g2:=hf 2 _ rfl
   have g3:=hf 3 _ rfl
   have g4:=hf 4 _ rfl
   have g5:=hf 5 _ rfl
   simp [zeD,ze4] at g0 g1 g2 g3 g4 g5
   obtain⟨k,e0,_,_⟩:=DataW.trod_int Tryz.underlying3 g0
   obtain⟨m,e1,_,_⟩:=DataW.trod_int Tryz.underlying3 g1
   obtain⟨s,e2,_,l2⟩:=DataW.trod_string Tryz.underlying9 g2
   obtain⟨a,e3,_,l3⟩:=DataW.trod_string Tryz.underlying9 g3
   obtain⟨v,e4,_,l4⟩:=DataW.trod_string Tryz.underlying9 g4
   obtain⟨q,e5,_,l5⟩:=DataW.trod_string Tryz.underlying9 g5
   simp at e0 e1 e2 e3 e4 e5
   exact⟨k,m,s,a,v,q,by rw [e0,e1,e2,e3,e4,e5],l2,l3,l4,l5⟩
theorem z76 {H:Type}{enc:TypeId×Value→H}{W:World}{base:Nat}{v:Value}{d:DataW H}{p:List MemPlace}(hval:Value.okWide Tryz.prog W .any base 22 v)(h:DataW.Trod enc Tryz.prog W 0 (fun _=>true) true 22 v d p)(hlt: ∀x∈p,x.block<W.heap.size):
  v= .slice none 0 0∨(∃(b off len cap:Nat) (K N:Nat→Int) (S A V Q:Nat→zgS),v= .slice (some ⟨b,off,none⟩) len cap∧len≤maxLen∧Ops W b off len K N S A V Q∧(∀i,i<len→(S i).size≤maxLen∧(A i).size≤maxLen∧(V i).size≤maxLen∧(Q i).size≤maxLen))∨ ∃a cap,v= .slice (some a) 0 cap:=by
 obtain⟨a0,len,cap,rfl⟩:=okWide_slice Tryz.underlying22 hval
 obtain⟨fuel,hf⟩:=h
 rcases open_slice Tryz.underlying22 hf with⟨hcs,hx⟩|⟨a,len',cap',m,n,D,Pl,hcs,_,hl,hm,hmm,hx,hel⟩
 ·simp [Value.cells] at hcs
  obtain⟨rfl,rfl,rfl⟩:=hcs
  exact .inl rfl
 ·simp [Value.cells] at hcs
  obtain⟨rfl,rfl,rfl⟩:=hcs
  simp only [if_true] at hmm
  subst hmm
  by_cases h0:len=0
  ·subst h0
   exact .inr (.inr ⟨a,_,rfl⟩)
  ·refine .inr (.inl ?_)
   have each: ∀i,i<len→ ∃q:Int×Int×zgS×zgS×zgS×zgS,W.cells? 0 (a.add (i*6)) 6=some [.int .i64 q.1,.int .i64 q.2.1,.string q.2.2.1,.string q.2.2.2.1,.string q.2.2.2.2.1,.string q.2.2.2.2.2]∧q.2.2.1.size≤maxLen∧q.2.2.2.1.size≤maxLen∧q.2.2.2.2.1.size≤maxLen∧q.2.2.2.2.2.size≤maxLen:=fun i hi=>by
    obtain⟨cs',h1,h2⟩:=hel i (by omega)
    rw [zad] at h1
    obtain⟨k,m,s,a',v',q,rfl,l1,l2,l3,l4⟩:=zco h2
    exact⟨(k,m,s,a',v',q),h1,l1,l2,l3,l4⟩
   obtain⟨q,hq⟩:=choose_lt (α:=Int×Int×zgS×zgS×zgS×zgS) each
   obtain⟨b,off,spot⟩:=a
   have hc0: ∀i,i<len→ ∀j,j<6→W.cell? ((⟨b,off,spot⟩:Addr).add (i*6+j))=[Value.int .i64 (q i).1,.int .i64 (q i).2.1,.string (q i).2.2.1,.string (q i).2.2.2.1,.string (q i).2.2.2.2.1,.string (q i).2.2.2.2.2][j]?:=fun i hi j hj=>by
    obtain⟨_,_,hcell⟩:=World.cells?_some (hq i hi).1
    have:=hcell j hj
    rw [Go.Deep.add_add] at this
    exact this
   have hspot:spot=none:=by
    have h00:W.cell? ((⟨b,off,spot⟩:Addr).add 0)=some (.int .i64 (q 0).1):=hc0 0 (by omega) 0 (by omega)
    simpa [Addr.add] using World.cell?_spot h00
   subst hspot
   have hadd: ∀j,(⟨b,off,none⟩:Addr).add j=⟨b,off+j,none⟩:=fun j=>by unfold Addr.add;split<;>simp_all
   have hc: ∀i,i<len→ ∀j,j<6→W.cell? ⟨b,off+(i*6+j),none⟩=[Value.int .i64 (q i).1,.int .i64 (q i).2.1,.string (q i).2.2.1,.string (q i).2.2.2.1,.string (q i).2.2.2.2.1,.string (q i).2.2.2.2.2][j]?:=fun i hi j hj=>by
    rw [←hadd];exact hc0 i hi j hj
   refine⟨b,off,len,_,fun i=>(q i).1,fun i=>(q i).2.1,fun i=>(q i).2.2.1,fun i=>(q i).2.2.2.1,fun i=>(q i).2.2.2.2.1,fun i=>(q i).2.2.2.2.2,rfl,by omega,⟨fun _=>zd (hc 0 (by omega) 0 (by omega)),?_,?_,?_,?_,?_,?_⟩,fun i hi=>(hq i hi).2⟩
   ·exact fun i hi=>hc i hi 0 (by omega)
   ·exact fun i hi=>hc i hi 1 (by omega)
   ·exact fun i hi=>hc i hi 2 (by omega)
   ·exact fun i hi=>hc i hi 3 (by omega)
   ·exact fun i hi=>hc i hi 4 (by omega)
   ·exact fun i hi=>hc i hi 5 (by omega)
def z2C (cs:Array Value):Obj→Obj
 | .cells _ t frozen=> .cells cs t frozen
 |o=>o
end Go.Proofs.YtkoohcilbpdgeaaGreatDoor
namespace Go.Proofs.YtkoohcilbpdgeaaGreatDoor
open Go Go.RowKit
theorem info9:(Tryz.prog.info? 9).map (fun i=>(i.zero,i.size,i.bytes))=some (some (.string ⟨#[]⟩),1,16):=by kernel_rfl
theorem zbt {P:Value→Cl→Nat→Nat→Prop}: ∀(vs:List Value) (cs:List Cl) (a e k:Nat) (v:Value),SegC P vs cs a e→vs[k]?=some v→ ∃(c:Cl) (a' e':Nat),cs[k]?=some c∧P v c a' e':=by
 intro vs
 induction vs with
 |nil=>intro is a e k v _ h;simp at h
 |cons u vs ih=>
  intro is a e k v h hv
  cases is with
  |nil=>exact absurd h id
  |cons i is=>
   obtain⟨j,h2,h3⟩:=h
   cases k with
   |zero=>
    have:u=v:=by simpa using hv
    subst this
    exact⟨i,a,j,rfl,h2⟩
   |succ k=>exact ih is _ _ k v h3 (by simpa using hv)
theorem zaB {P:Value→Cl→Nat→Nat→Prop}: ∀(vs:List Value) (cs:List Cl) (a e:Nat),SegC P vs cs a e→vs.length=cs.length:=by
 intro vs
 induction vs with
 |nil=>intro is a e h;cases is with
  |nil=>rfl
  |cons i is=>exact absurd h id
 |cons v vs ih=>
  intro is a e h
  cases is with
  |nil=>exact absurd h id
  |cons i is=>obtain⟨j,_,h3⟩:=h;simp [ih is _ _ h3]
def Sz (st:St):Prop:=(∀x∈st.E,x.text.size≤600)∧(∀x∈st.L,x.text.size≤600)∧(∀cls∈st.C,∀c∈cls,c.result.size≤600)∧(∀x∈st.A,x.by_.size≤600)
theorem z0Q {st:St}{x:Ex}{r:Int×St}(h:jQ st x=some r)(hg:Sz st)(hx:x.text.size≤600):Sz r.2:=by
 obtain⟨_,rfl⟩:=zj h
 refine⟨fun y hy=> ?_,hg.2⟩
 rcases List.mem_append.1 hy with hy|hy
 ·exact hg.1 y hy
 ·have:y=x:=by simpa using hy
  rw [this];exact hx
theorem z6E {st:St}{x:Lc}{r:Int×St}(h:z2H st x=some r)(hg:Sz st)(hx:x.text.size≤600):Sz r.2:=by
 obtain⟨_,rfl⟩:=zJ h
 refine⟨hg.1,fun y hy=> ?_,hg.2.2⟩
 rcases List.mem_append.1 hy with hy|hy
 ·exact hg.2.1 y hy
 ·have:y=x:=by simpa using hy
  rw [this];exact hx
theorem zcN {st:St}{x:List Cl}{r:Int×St}(h:z8I st x=some r)(hg:Sz st)(hx: ∀c∈x,c.result.size≤600):Sz r.2:=by
 obtain⟨_,rfl⟩:=jy h
 refine⟨hg.1,hg.2.1,fun y hy=> ?_,hg.2.2.2⟩
 rcases List.mem_append.1 hy with hy|hy
 ·exact hg.2.2.1 y hy
 ·have:y=x:=by simpa using hy
  rw [this];exact hx
theorem zd2 {st:St}{x:As}{r:St}(h:zbp st x=some r)(hg:Sz st)(hx:x.by_.size≤600):Sz r:=by
 obtain⟨_,rfl⟩:=jl h
 refine⟨hg.1,hg.2.1,hg.2.2.1,fun y hy=> ?_⟩
 rcases List.mem_append.1 hy with hy|hy
 ·exact hg.2.2.2 y hy
 ·have:y=x:=by simpa using hy
  rw [this];exact hx
theorem zbx (s:zgS)(a b:Nat)(h:s.size≤600):(s.extract a b).size≤600:=by
 rw [ByteArray.size_extract];omega
theorem z9V (p:Int→Bool)(m:Nat)(s:zgS)(a:Nat)(d:Bool)(h:s.size≤600):(z23 p m s a d).2.2.size≤600:=by
 unfold z23
 simp only
 split
 ·show ByteArray.size ⟨#[]⟩≤600;decide
 ·exact zbx s _ _ h
theorem z1L (s:zgS)(a:Nat)(d:Bool)(h:s.size≤600):(zw s a d).2.2.size≤600:=z9V _ _ _ _ _ h
theorem z8v (s:zgS)(a:Nat)(d:Bool)(h:s.size≤600):(zO s a d).2.2.size≤600:=z9V _ _ _ _ _ h
theorem z8m (s:zgS)(a:Nat)(d:Bool)(h:s.size≤600):(zT s a d).2.2.size≤600:=zbx s _ _ h
theorem z2Y (s x y:zgS)(a:Nat)(d:Bool)(hx:x.size≤600)(hy:y.size≤600):(zx s x y a d).2.2.size≤600:=by
 unfold zx
 simp only
 split
 ·exact hx
 ·exact hy
theorem z4L (s:zgS)(a:Nat)(d:Bool):(ze s a d).2.2.size≤600:=by
 unfold ze
 split
 ·show ByteArray.size ⟨#[61,61]⟩≤600;decide
 ·split
  ·show ByteArray.size ⟨#[33,61]⟩≤600;decide
  ·split
   ·exact z2Y _ _ _ _ _ (by decide) (by decide)
   ·split
    ·exact z2Y _ _ _ _ _ (by decide) (by decide)
    ·show ByteArray.size ⟨#[]⟩≤600;decide
theorem zgz (s:zgS)(h600:s.size≤600): ∀n tag l st r,M s n tag l st=some r→Sz st→Sz r.2:=by
 intro n
 induction n with
 |zero=>intro tag l st r h;simp [M] at h
 |succ n ih=>
  intro tag l st r h hg
  have two: ∀{t1 t2:Nat} {st0:St},Sz st0→((M s n t1 0 st0).bind fun r=>M s n t2 r.1 r.2)=some r→Sz r.2:=fun hg h=>by
   obtain⟨q,h1,h2⟩:=zgD.1 h
   exact ih _ _ _ _ h2 (ih _ _ _ _ h1 hg)
  have three: ∀{t1 t2:Nat} {st0:St} {x:Int×St→Ex},Sz st0→(∀r,(x r).text.size≤600)→((M s n t1 0 st0).bind fun r=>(jQ r.2 (x r)).bind fun q=>M s n t2 q.1 q.2)=some r→Sz r.2:=fun hg hx h=>by
   obtain⟨q,h1,h2⟩:=zgD.1 h
   obtain⟨q2,h3,h4⟩:=zgD.1 h2
   exact ih _ _ _ _ h4 (z0Q h3 (ih _ _ _ _ h1 hg) (hx q))
  match tag,h with
  |0,h=>rw [M_0] at h;exact two hg h
  |1,h=>rw [M_1] at h;exact two hg h
  |4,h=>rw [M_4] at h;exact two hg h
  |5,h=>rw [M_5] at h;exact two hg h
  |10,h=>
   rw [z71] at h
   split at h
   ·exact three (st0:=sgn s [124,124] st) (x:=fun r=>⟨6,st.at_,⟨#[124,124]⟩,l,r.1⟩) hg (fun r=>by show ByteArray.size ⟨#[124,124]⟩≤600;decide) h
   ·cases h;exact hg
  |11,h=>
   rw [z7h] at h
   split at h
   ·exact three (st0:=sgn s [38,38] st) (x:=fun r=>⟨6,st.at_,⟨#[38,38]⟩,l,r.1⟩) hg (fun r=>by show ByteArray.size ⟨#[38,38]⟩≤600;decide) h
   ·cases h;exact hg
  |14,h=>
   rw [z6x] at h
   simp only at h
   split at h
   ·cases h;exact hg
   ·rename_i hs
    exact three (st0:=sgn s (zr s st.at_ st.bad).data.toList st) (x:=fun r=>⟨6,st.at_,zr s st.at_ st.bad,l,r.1⟩) hg (fun r=>z2s _ _ _) h
  |15,h=>
   rw [z7L] at h
   simp only at h
   split at h
   ·cases h;exact hg
   ·rename_i hs
    exact three (st0:=sgn s (zh s st.at_ st.bad).data.toList st) (x:=fun r=>⟨6,st.at_,zh s st.at_ st.bad,l,r.1⟩) hg (fun r=>z0T _ _ _) h
  |2,h=>
   rw [M_2] at h
   split at h
   ·exact ih _ _ _ _ h hg
   ·obtain⟨q,h1,h2⟩:=zgD.1 h
    have hq:=ih _ _ _ _ h1 (show Sz (sgn s [33] st) from hg)
    exact z0Q h2 hq (by show ByteArray.size ⟨#[33]⟩≤600;decide)
  |6,h=>
   rw [M_6] at h
   split at h
   ·exact ih _ _ _ _ h hg
   ·obtain⟨q,h1,h2⟩:=zgD.1 h
    have hq:=ih _ _ _ _ h1 (show Sz (sgn s [45] st) from hg)
    exact z0Q h2 hq (by show ByteArray.size ⟨#[45]⟩≤600;decide)
  |3,h=>
   rw [M_3] at h
   obtain⟨q,h1,h2⟩:=zgD.1 h
   have k1:=ih _ _ _ _ h1 hg
   simp only at h2
   split at h2
   ·cases h2;exact k1
   ·rename_i hs
    obtain⟨q2,h3,h4⟩:=zgD.1 h2
    have hq:=ih _ _ _ _ h3 (show Sz (q.2.put3 _) from k1)
    exact z0Q h4 hq (z4L _ _ _)
  |7,h=>
   rw [M_7] at h
   simp only at h
   split at h
   ·exact z0Q h (show Sz (st.put3 _) from hg) (z8v _ _ _ h600)
   ·split at h
    ·exact z0Q h (show Sz (st.put3 _) from hg) (z8m _ _ _ h600)
    ·split at h
     ·exact z0Q h (show Sz ((wrd s [64] st).put3 _) from hg) (z1L _ _ _ h600)
     ·split at h
      ·obtain⟨q,h1,h2⟩:=zgD.1 h
       have hq:=ih _ _ _ _ h1 (show Sz (sgn s [40] st) from hg)
       cases h2
       exact hq
      ·split at h
       ·exact z0Q h (show Sz (st.put3 _) from hg) (z1L _ _ _ h600)
       ·exact z0Q h (show Sz (st.put3 _) from hg) (z1L _ _ _ h600)
  |8,h=>simp [M] at h
  |9,h=>simp [M] at h
  |12,h=>simp [M] at h
  |13,h=>simp [M] at h
  |t+16,h=>simp [M] at h
theorem zfP (s:zgS)(h600:s.size≤600): ∀n tag cls st r,MC s n tag cls st=some r→Sz st→(∀c∈cls,c.result.size≤600)→Sz r.2.2∧r.2.1.result.size≤600:=by
 intro n
 induction n with
 |zero=>intro tag cls st r h;simp [MC] at h
 |succ n ih=>
  intro tag cls st r h hg hc
  match tag,h with
  |0,h=>
   rw [z8h] at h
   obtain⟨q,h1,h2⟩:=zgD.1 h
   have k1:=ih _ _ _ _ h1 hg (by simp)
   refine ih _ _ _ _ h2 k1.1 fun c hm=> ?_
   have:c=q.2.1:=by simpa using hm
   rw [this];exact k1.2
  |2,h=>
   rw [z7k] at h
   split at h
   ·split at h
    ·obtain⟨q,h1,h2⟩:=zgD.1 h
     have k1:=ih _ _ _ _ h1 (show Sz (sgn s [59] st) from hg) (by simp)
     refine ih _ _ _ _ h2 k1.1 fun c hm=> ?_
     rcases List.mem_append.1 hm with hm|hm
     ·exact hc c hm
     ·have:c=q.2.1:=by simpa using hm
      rw [this];exact k1.2
    ·obtain⟨q,h1,h2⟩:=zgD.1 h
     cases h2
     exact⟨zcN h1 hg hc,by show ByteArray.size ⟨#[]⟩≤600;decide⟩
   ·cases h
  |1,h=>
   rw [zai] at h
   obtain⟨q,h1,h2⟩:=zgD.1 h
   obtain⟨q2,h3,h4⟩:=zgD.1 h2
   have k1:=zgz s h600 _ _ _ _ _ h1 hg
   have k2:=z0Q h3 k1 (by show ByteArray.size ⟨#[]⟩≤600;decide)
   split at h4
   ·cases h4;exact⟨k2,by show ByteArray.size ⟨#[]⟩≤600;decide⟩
   ·simp only at h4
    split at h4
    ·obtain⟨v,h7,h8⟩:=zgD.1 h4
     cases h8
     have kk:=ih _ _ _ _ h7 (show Sz (sgn s [123] (sgn s [45,62] q2.2)) from k2) (by simp)
     exact⟨kk.1,by show ByteArray.size ⟨#[]⟩≤600;decide⟩
    ·cases h4
     exact⟨k2,z1L _ _ _ h600⟩
  |t+3,h=>simp [MC] at h
theorem zfC (s:zgS)(h600:s.size≤600): ∀n tag l p k its st r,ML s n tag l p k its st=some r→Sz st→Sz r.2:=by
 intro n
 induction n with
 |zero=>intro tag l p k its st r h;simp [ML] at h
 |succ n ih=>
  intro tag l p k its st r h hg
  have three: ∀{t1 t2:Nat} {st0:St} {x:Int×St→Lc},Sz st0→(∀r,(x r).text.size≤600)→((ML s n t1 0 0 0 [] st0).bind fun r=>(z2H r.2 (x r)).bind fun q=>ML s n t2 q.1 0 0 [] q.2)=some r→Sz r.2:=fun hg hx h=>by
   obtain⟨q,h1,h2⟩:=zgD.1 h
   obtain⟨q2,h3,h4⟩:=zgD.1 h2
   exact ih _ _ _ _ _ _ _ h4 (z6E h3 (ih _ _ _ _ _ _ _ h1 hg) (hx q))
  match tag,h with
  |0,h=>
   rw [z7G] at h
   obtain⟨q,h1,h2⟩:=zgD.1 h
   exact ih _ _ _ _ _ _ _ h2 (ih _ _ _ _ _ _ _ h1 hg)
  |1,h=>
   rw [z7I] at h
   obtain⟨q,h1,h2⟩:=zgD.1 h
   exact ih _ _ _ _ _ _ _ h2 (ih _ _ _ _ _ _ _ h1 hg)
  |10,h=>
   rw [z2n] at h
   split at h
   ·exact three (st0:=sgn s [124,124] st) (x:=fun r=>⟨1,⟨#[124,124]⟩,l,r.1,0,0,[]⟩) hg (fun r=>by show ByteArray.size ⟨#[124,124]⟩≤600;decide) h
   ·cases h;exact hg
  |11,h=>
   rw [z2w] at h
   split at h
   ·exact three (st0:=sgn s [38,38] st) (x:=fun r=>⟨1,⟨#[38,38]⟩,l,r.1,0,0,[]⟩) hg (fun r=>by show ByteArray.size ⟨#[38,38]⟩≤600;decide) h
   ·cases h;exact hg
  |2,h=>
   rw [z6l] at h
   simp only at h
   split at h
   ·obtain⟨q,h1,h2⟩:=zgD.1 h
    have hq:=ih _ _ _ _ _ _ _ h1 (show Sz (sgn s [40] st) from hg)
    cases h2
    exact hq
   ·split at h
    ·exact ih _ _ _ _ _ _ _ h hg
    ·exact z6E h (show Sz (st.put3 _) from hg) (z1L _ _ _ h600)
  |3,h=>
   rw [z9z] at h
   obtain⟨q,h1,h2⟩:=zgD.1 h
   have hq:=ih _ _ _ _ _ _ _ h1 (show Sz (sgn s [45,111,102,40] {st with at_:=st.at_+1}) from hg)
   exact ih _ _ _ _ _ _ _ h2 hq
  |13,h=>
   rw [z2U] at h
   split at h
   ·split at h
    ·obtain⟨u,h1,h2⟩:=zgD.1 h
     have hq:=ih _ _ _ _ _ _ _ h1 (show Sz (sgn s [44] st) from hg)
     exact ih _ _ _ _ _ _ _ h2 hq
    ·exact z6E h (show Sz (sgn s [41] st) from hg) (by show ByteArray.size ⟨#[]⟩≤600;decide)
   ·cases h
  |4,h=>simp [ML] at h
  |5,h=>simp [ML] at h
  |6,h=>simp [ML] at h
  |7,h=>simp [ML] at h
  |8,h=>simp [ML] at h
  |9,h=>simp [ML] at h
  |12,h=>simp [ML] at h
  |t+14,h=>simp [ML] at h
theorem zg8 {s:zgS}(h600:s.size≤600){n:Nat}{st st':St}(h:MA s n st=some st')(hg:Sz st):Sz st':=by
 unfold MA at h
 simp only at h
 obtain⟨⟨r1,st1⟩,h1,hM2⟩:=zgD.1 h
 obtain⟨⟨r2,cl2,st2⟩,h2,hM3⟩:=zgD.1 hM2
 have k1:Sz st1:=zfC s h600 _ _ _ _ _ _ _ _ h1 hg
 have k2:Sz st2:=(zfP s h600 _ _ _ _ _ h2 (show Sz (zp s [105,102] (wrd s [10] st1)) from k1) (by simp)).1
 exact zd2 hM3 (show Sz (wrd s [10] st2) from k2) (z1L _ _ _ h600)
theorem z8O (s:zgS)(h600:s.size≤600): ∀n st st',MR s n st=some st'→Sz st→Sz st':=by
 intro n
 induction n with
 |zero=>intro st st' h;simp [MR] at h
 |succ n ih=>
  intro st st' h hg
  unfold MR at h
  split at h
  ·obtain⟨u,h1,h2⟩:=zgD.1 h
   exact ih _ _ h2 (zg8 h600 h1 hg)
  ·cases h;exact hg
end Go.Proofs.YtkoohcilbpdgeaaGreatDoor
