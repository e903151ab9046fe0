import Derived.Test.YtkoohcilbpdgeaaDoorCards
import Derived.Test.YtkoohcilbpdgeaaDoorTie
import Derived.ProofKit
import Derived.OpenShut
import Derived.Deep.DeepHandedRow
import Derived.Deep.Slices
import Derived.Stop.LaidErr
import Derived.Test.YtkoohcilbpdgeaaDoorC03
set_option linter.all false
set_option linter.unusedVariables false
set_option linter.unusedSimpArgs false
set_option linter.unnecessarySimpa false
set_option linter.constructorNameAsVariable false
set_option linter.deprecated false
set_option maxRecDepth 100000
set_option maxHeartbeats 6400000
namespace Go.Proofs.YtkoohcilbpdgeaaDoor
open Go Go.RowKit
attribute [local go_sem] wrap64_byte
theorem Rng.ext {E:List Ex}(F:List Ex): ∀{f a i:Nat},Rng E f a i→Rng (E++F) f a i:=by
 intro f
 induction f with
 |zero=>intro a i h;exact absurd h id
 |succ f ih=>
  intro a i ⟨x,hx,h⟩
  refine⟨x,z0N F hx,?_⟩
  rcases h with h|⟨h1,j,h2,h3,h4⟩|⟨h1,j,k,h2,h3,h4,h5,h6⟩
  ·exact .inl h
  ·exact .inr (.inl ⟨h1,j,h2,h3,ih h4⟩)
  ·exact .inr (.inr ⟨h1,j,k,h2,h3,h4,ih h5,ih h6⟩)
theorem Rng.up1 {E:List Ex}: ∀{f a i:Nat},Rng E f a i→Rng E (f+1) a i:=by
 intro f
 induction f with
 |zero=>intro a i h;exact absurd h id
 |succ f ih=>
  intro a i ⟨x,hx,h⟩
  refine⟨x,hx,?_⟩
  rcases h with h|⟨h1,j,h2,h3,h4⟩|⟨h1,j,k,h2,h3,h4,h5,h6⟩
  ·exact .inl h
  ·exact .inr (.inl ⟨h1,j,h2,h3,ih h4⟩)
  ·exact .inr (.inr ⟨h1,j,k,h2,h3,h4,ih h5,ih h6⟩)
theorem Rng.upto {E:List Ex}{f g a i:Nat}(h:Rng E f a i)(hg:f≤g):Rng E g a i:=by
 induction hg with
 |refl=>exact h
 |step _ ih=>exact ih.up1
theorem z5C (s:z6P): ∀n tag l st r,M s n tag l st=some r→ ∀a,(tag<10→a=st.E.length)→(10≤tag→ ∃f i:Nat,l=(i:Int)∧i+1=st.E.length∧Rng st.E f a i)→ ∃f i:Nat,r.1=(i:Int)∧i+1=r.2.E.length∧Rng r.2.E f a i:=by
 intro n
 induction n with
 |zero=>intro tag l st r h;simp [M] at h
 |succ n ih=>
  intro tag l st r h a ha hl
  have two: ∀{t1 t2:Nat},t1<10→10≤t2→a=st.E.length→((M s n t1 0 st).bind fun r=>M s n t2 r.1 r.2)=some r→ ∃f i:Nat,r.1=(i:Int)∧i+1=r.2.E.length∧Rng r.2.E f a i:=fun h1 h2 h3 h=>by
   obtain⟨q,g1,g2⟩:=z6A.1 h
   exact ih _ _ _ _ g2 a (fun e=>by omega) fun _=>ih _ _ _ _ g1 a (fun _=>h3) (fun e=>by omega)
  have three: ∀{t1 t2:Nat} {st0:St} {c:z6P} {p:Int},t1<10→10≤t2→(∃f i:Nat,l=(i:Int)∧i+1=st.E.length∧Rng st.E f a i)→((M s n t1 0 st0).bind fun r=>(zX r.2 ⟨6,p,c,l,r.1⟩).bind fun q=>M s n t2 q.1 q.2)=some r→st0.E=st.E→ ∃f i:Nat,r.1=(i:Int)∧i+1=r.2.E.length∧Rng r.2.E f a i:=fun h1 h2 hT h he=>by
   obtain⟨q,g1,g2⟩:=z6A.1 h
   obtain⟨q2,g3,g4⟩:=z6A.1 g2
   obtain⟨_,rfl⟩:=zh g3
   obtain⟨f0,i0,e1,e2,e3⟩:=hT
   obtain⟨f1,i1,k1,k2,k3⟩:=ih _ _ _ _ g1 st.E.length (fun _=>by rw [he]) (fun e=>by omega)
   obtain⟨⟨F,hF⟩,_⟩:=z3W s _ _ _ _ _ g1
   rw [he] at hF
   have e3':Rng q.2.E f0 a i0:=by rw [hF];exact e3.ext F
   refine ih _ _ _ _ g4 a (fun e=>by omega) fun _=>⟨f0+f1+1,q.2.E.length,rfl,by simp,_,js q.2.E _,.inr (.inr ⟨rfl,i0,i1,by omega,e1,k1,(e3'.upto (by omega)).ext _,?_⟩)⟩
   rw [e2]
   exact(k3.upto (by omega)).ext _
  have one: ∀{t1:Nat} {st0:St} {c:z6P} {p:Int},t1<10→a=st.E.length→((M s n t1 0 st0).bind fun r=>zX r.2 ⟨5,p,c,r.1,-1⟩)=some r→st0.E=st.E→ ∃f i:Nat,r.1=(i:Int)∧i+1=r.2.E.length∧Rng r.2.E f a i:=fun h1 h3 h he=>by
   obtain⟨q,g1,g2⟩:=z6A.1 h
   obtain⟨_,rfl⟩:=zh g2
   obtain⟨f1,i1,k1,k2,k3⟩:=ih _ _ _ _ g1 a (fun _=>by rw [he];exact h3) (fun e=>by omega)
   exact⟨f1+1,q.2.E.length,rfl,by simp,_,js q.2.E _,.inr (.inl ⟨rfl,i1,by omega,k1,k3.ext _⟩)⟩
  have leaf: ∀{st0:St} {fo p:Int} {c:z6P},a=st.E.length→0≤fo→fo≤4→zX st0 ⟨fo,p,c,-1,-1⟩=some r→st0.E=st.E→ ∃f i:Nat,r.1=(i:Int)∧i+1=r.2.E.length∧Rng r.2.E f a i:=fun h3 h4 h5 h he=>by
   obtain⟨_,rfl⟩:=zh h
   exact⟨1,_,rfl,by simp,_,js _ _,.inl ⟨h4,h5,by rw [h3,he]⟩⟩
  match tag,h,ha,hl with
  |0,h,ha,hl=>rw [M_0] at h;exact two (t1:=1) (t2:=10) (by omega) (by omega) (ha (by omega)) h
  |1,h,ha,hl=>rw [M_1] at h;exact two (t1:=2) (t2:=11) (by omega) (by omega) (ha (by omega)) h
  |4,h,ha,hl=>rw [M_4] at h;exact two (t1:=5) (t2:=14) (by omega) (by omega) (ha (by omega)) h
  |5,h,ha,hl=>rw [M_5] at h;exact two (t1:=6) (t2:=15) (by omega) (by omega) (ha (by omega)) h
  |10,h,ha,hl=>
   rw [z2K] at h
   split at h
   ·exact three (t1:=1) (t2:=10) (by omega) (by omega) (hl (by omega)) h rfl
   ·cases h;exact hl (by omega)
  |11,h,ha,hl=>
   rw [z2p] at h
   split at h
   ·exact three (t1:=2) (t2:=11) (by omega) (by omega) (hl (by omega)) h rfl
   ·cases h;exact hl (by omega)
  |14,h,ha,hl=>
   rw [z2z] at h
   simp only at h
   split at h
   ·cases h;exact hl (by omega)
   ·exact three (t1:=5) (t2:=14) (by omega) (by omega) (hl (by omega)) h rfl
  |15,h,ha,hl=>
   rw [z2B] at h
   simp only at h
   split at h
   ·cases h;exact hl (by omega)
   ·exact three (t1:=6) (t2:=15) (by omega) (by omega) (hl (by omega)) h rfl
  |2,h,ha,hl=>
   rw [M_2] at h
   split at h
   ·exact ih _ _ _ _ h a (fun _=>ha (by omega)) (fun e=>by omega)
   ·exact one (t1:=2) (by omega) (ha (by omega)) h rfl
  |6,h,ha,hl=>
   rw [M_6] at h
   split at h
   ·exact ih _ _ _ _ h a (fun _=>ha (by omega)) (fun e=>by omega)
   ·exact one (t1:=6) (by omega) (ha (by omega)) h rfl
  |3,h,ha,hl=>
   rw [M_3] at h
   obtain⟨q,h1,h2⟩:=z6A.1 h
   obtain⟨f0,i0,e1,e2,e3⟩:=ih _ _ _ _ h1 a (fun _=>ha (by omega)) (fun e=>by omega)
   simp only at h2
   split at h2
   ·cases h2
    exact⟨f0,i0,e1,e2,e3⟩
   ·obtain⟨q2,h3,h4⟩:=z6A.1 h2
    obtain⟨_,rfl⟩:=zh h4
    obtain⟨f1,i1,k1,k2,k3⟩:=ih _ _ _ _ h3 q.2.E.length (fun _=>rfl) (fun e=>by omega)
    obtain⟨⟨F,hF⟩,_⟩:=z3W s _ _ _ _ _ h3
    have hF:q2.2.E=q.2.E++F:=hF
    have e3':Rng q2.2.E f0 a i0:=by rw [hF];exact e3.ext F
    refine⟨f0+f1+1,q2.2.E.length,rfl,by simp,_,js q2.2.E _,.inr (.inr ⟨rfl,i0,i1,by omega,e1,k1,(e3'.upto (by omega)).ext _,?_⟩)⟩
    rw [e2]
    exact(k3.upto (by omega)).ext _
  |7,h,ha,hl=>
   rw [M_7] at h
   split at h
   ·exact leaf (ha (by omega)) (by decide) (by decide) h rfl
   ·split at h
    ·exact leaf (ha (by omega)) (by decide) (by decide) h rfl
    ·split at h
     ·exact leaf (ha (by omega)) (by decide) (by decide) h rfl
     ·split at h
      ·obtain⟨q,h1,h2⟩:=z6A.1 h
       cases h2
       obtain⟨f0,i0,e1,e2,e3⟩:=ih _ _ _ _ h1 a (fun _=>ha (by omega)) (fun e=>by omega)
       exact⟨f0,i0,e1,e2,e3⟩
      ·simp only at h
       split at h
       ·exact leaf (ha (by omega)) (by decide) (by decide) h rfl
       ·exact leaf (ha (by omega)) (by decide) (by decide) h rfl
  |8,h,ha,hl=>simp [M] at h
  |9,h,ha,hl=>simp [M] at h
  |12,h,ha,hl=>simp [M] at h
  |13,h,ha,hl=>simp [M] at h
  |t+16,h,ha,hl=>simp [M] at h
theorem z4b (s:z6P)(a:Nat)(d:Bool):(zN s a d).2.2.2.size≤20:=by
 unfold zN
 simp only
 rw [ByteArray.size_extract]
 have:=z4B zS s (zm s (zH s a d).2.1 [61] (zH s a d).1).2 20 (zm s (zH s a d).2.1 [61] (zH s a d).1).1
 omega
theorem z5X {Q:z6P→Prop}(s:z6P)(hq: ∀a d,Q (zN s a d).2.2.2): ∀(n a:Nat) (d:Bool) (l:List (z6P×z6P)),(∀p∈l,Q p.2)→ ∀p∈(paM s n a d l).2.2,Q p.2:=by
 intro n
 induction n with
 |zero=>intro a d l h;exact h
 |succ n ih=>
  intro a d l h
  unfold paM
  split
  ·refine ih _ _ _ fun p hp=> ?_
   rcases List.mem_append.1 hp with hp|hp
   ·exact h p hp
   ·rw [List.mem_singleton.1 hp];exact hq _ _
  ·exact h
theorem z4C {Q:z6P→Prop}(s:z6P)(hq: ∀a d,Q (zN s a d).2.2.2): ∀p∈(raM s).1,Q p.2:=by
 unfold raM
 split
 ·intro p hp;cases hp
 ·simp only
  exact z5X s hq _ _ _ _ fun p hp=>by rw [List.mem_singleton.1 hp];exact hq _ _
theorem z5u (s:z6P): ∀(n a:Nat) (d:Bool) (l:List (z6P×z6P)),(paM s n a d l).2.2.length≤l.length+n:=by
 intro n
 induction n with
 |zero=>intro a d l;exact z6E _
 |succ n ih=>
  intro a d l
  unfold paM
  split
  ·refine z6M (ih _ _ _) ?_
   simp;omega
  ·show l.length≤l.length+(n+1)
   omega
theorem z0M (s:z6P)(h:s.size≤600):(∀p∈(raM s).1,p.2.size≤600)∧(raM s).1.length≤100000:=by
 refine⟨z4C (Q:=fun t=>t.size≤600) s fun a d=>z6M (z4b s a d) (by decide),?_⟩
 unfold raM
 split
 ·exact z6L _
 ·simp only
  have:=z5u s (s.size+1) (zN s 0 false).1 (zN s 0 false).2.1 [((zN s 0 false).2.2.1,(zN s 0 false).2.2.2)]
  simp at this
  omega
def noQ (t:z6P):Prop:= ∀c∈t.data.toList,c≠34
theorem z4c (s:z6P)(a:Nat)(d:Bool):noQ (zN s a d).2.2.2:=by
 intro c hc e
 unfold zN at hc
 simp only at hc
 rw [zD] at hc
 obtain⟨i,hi⟩:=List.mem_iff_getElem?.1 hc
 generalize hu:zm s (zH s a d).2.1 [61] (zH s a d).1=u at*
 have hlt:i<run zS s u.2 20 u.1 - u.1:=by
  have:=(z6C.1 hi).1
  rw [List.length_take] at this
  omega
 rw [List.getElem?_take_of_lt hlt,List.getElem?_drop] at hi
 cases hb:u.2 with
 |true=>
  rw [hb,jr (by rfl)] at hlt
  omega
 |false=>
  rw [hb] at hlt
  have hv:=(z1Y (p:=zS) (s:=s) 20 u.1).2 (u.1+i) (by omega) (by omega)
  have hl:=(z6C.1 hi).1
  have hs:u.1+i<s.size:=by simpa using hl
  rw [zT hs] at hv
  have e2:s.data.toList[u.1+i]?=some s[u.1+i]:=by
   rw [z6B hl]
   rfl
  rw [e2] at hi
  rw [Option.some.inj hi,e] at hv
  exact absurd hv (by decide)
theorem z4H (s:z6P): ∀p∈(raM s).1,noQ p.2:=z4C s (z4c s)
theorem z3q:jv []:=fun x h=>by cases h
theorem z1w (s a:z6P)(hs:s.size≤600)(ha:a.size≤600): ∃n r st,M s n 0 0 (st1 s)=some (r,st)∧st.at_≤s.size∧st.E.length≤100000∧jv st.E∧(∀x∈st.E,x.text.size≤600)∧ ∀x∈zb (raM a).1 st.E [],x.text.size≤100000000∧ -999999999≤x.num∧x.num≤999999999:=by
 have hsk:=z1P (s:=s) (a:=0) (d:=false) (z6L _)
 obtain⟨⟨r,st⟩,hM,hq⟩:=z5b s (jj 0+20*(s.size -(st1 s).at_)) 0 0 (st1 s) (.inl (by omega)) ⟨hsk.2,by show(0:Nat)+2*(s.size - _)+_<100000;simp only [if_pos (show(0:Nat)≤7 by omega)];omega⟩ (z6E _)
 have hlen:st.E.length≤100000:=by
  have h1:=hq.grow
  have h2:(st1 s).E.length=0:=rfl
  rw [h2] at h1
  simp only [if_pos (show(0:Nat)≤7 by omega)] at h1
  omega
 have hsz:Sz st:=z6t s hs _ _ _ _ _ hM ⟨fun x h=>(by cases h),fun x h=>(by cases h),fun x h=>(by cases h),fun x h=>(by cases h)⟩
 have hgd:jv st.E:=z5l s _ _ _ _ _ hM z3q
 refine⟨_,r,st,hM,hq.le,hlen,hgd,hsz.1,?_⟩
 obtain⟨f,i,e1,e2,e3⟩:=z5C s _ _ _ _ _ hM 0 (fun _=>rfl) (fun e=>by omega)
 have hra:=z0M a ha
 refine z0F (raM a).1 hra.1 hsz.1 hlen fun p hp=> ?_
 have e2:i+1=st.E.length:=e2
 obtain⟨f',a',hr⟩:=e3.sub p (z6L _) (by omega)
 have:=hr.size (raM a).1 hra.1 hsz.1
 omega
def WfW (O:Wt):Prop:=O=z0g∨(∃b,O=zB b)∨(∃n:Int,-999999999≤n∧n≤999999999∧O=⟨2,false,n,⟨#[]⟩⟩)∨(∃t,noQ t∧O=z1A t)
theorem z3N (n:Int):WfW (jo n):=by
 unfold jo
 split
 ·exact .inl rfl
 ·exact .inr (.inr (.inl ⟨n,by omega,by omega,rfl⟩))
theorem z2y (b:Bool):WfW (zB b):= .inr (.inl ⟨b,rfl⟩)
theorem z5F (t:z6P):WfW (nsM t):=by
 unfold nsM
 simp only
 split
 ·exact .inl rfl
 ·exact z3N _
theorem z5h (t:z6P)(a b:Int):WfW (zF t a b):=by
 unfold zF
 repeat' split
 all_goals first|exact z3N _|exact .inl rfl
theorem z1W:noQ ⟨#[]⟩:=fun c hc=>by cases hc
theorem z3V {x:Wt}(h:WfW x):noQ x.text:=by
 rcases h with rfl|⟨b,rfl⟩|⟨n,_,_,rfl⟩|⟨t,ht,rfl⟩
 ·exact z1W
 ·exact z1W
 ·exact z1W
 ·exact ht
theorem z4Y {a b:z6P}(ha:noQ a)(hb:noQ b):noQ (a++b):=fun c hc=>by
 rw [zY] at hc
 rcases List.mem_append.1 hc with hc|hc
 ·exact ha c hc
 ·exact hb c hc
theorem z58 (t:z6P){x y:Wt}(hx:WfW x)(hy:WfW y):WfW (zt t x y):=by
 unfold zt
 repeat' split
 all_goals first|exact hx|exact hy|exact z5h _ _ _|exact z2y _|exact .inr (.inr (.inr ⟨_,z4Y (z3V hx) (z3V hy),rfl⟩))
theorem z57 (t:z6P){x:Wt}(hx:WfW x):WfW (jh t x):=by
 unfold jh
 repeat' split
 all_goals first|exact hx|exact z2y _|exact z3N _
theorem z5a (nm:z6P): ∀(l:List (z6P×z6P)),(∀p∈l,noQ p.2)→noQ (z1f nm l):=by
 intro l
 induction l with
 |nil=>intro _;exact z1W
 |cons x xs ih=>
  intro h
  unfold z1f
  split
  ·exact h x List.mem_cons_self
  ·exact ih fun p hp=>h p (List.mem_cons_of_mem _ hp)
theorem z5v {t:z6P}(h:z4R t.data.toList):noQ t:=fun c hc e=>by
 have:=h.2 c hc
 rw [e] at this
 exact absurd this (by decide)
theorem z5s {E:List Ex}(al:List (z6P×z6P))(hal: ∀p∈al,noQ p.2): ∀{T:TE} {i:Int},VlE T→IsE E T i→WfW (wAt (zb al E []) i):=by
 intro T
 induction T using TE.ind with
 |lf f t=>
  intro i hv ⟨n,x,h1,h2,h3,h4⟩
  subst h1
  rw [(j3 al h2).1]
  unfold wOf
  rw [h3]
  rcases hv with⟨rfl,_⟩|⟨rfl,hq⟩|⟨rfl,_⟩|⟨rfl,_⟩|⟨rfl,_⟩
  ·exact z5F _
  ·exact .inr (.inr (.inr ⟨_,z5v (by rw [h4];exact hq),rfl⟩))
  ·exact z2y _
  ·exact .inr (.inr (.inr ⟨_,z5a _ al hal,rfl⟩))
  ·exact z5F _
 |pr t a ih=>
  intro i hv ⟨n,x,h1,h2,h3,h4,h5,h6⟩
  subst h1
  obtain⟨k1,k2⟩:=j3 al h2
  rw [k1,k2 _ h5]
  unfold wOf
  rw [h3]
  exact z57 _ (ih hv.2 h6)
 |pa t a b iha ihb=>
  intro i hv ⟨n,x,h1,h2,h3,h4,h5,h6,h7,h8⟩
  subst h1
  obtain⟨k1,k2⟩:=j3 al h2
  rw [k1,k2 _ h5,k2 _ h6]
  unfold wOf
  rw [h3]
  exact z58 _ (iha hv.2.1 h7) (ihb hv.2.2 h8)
theorem z3B (n:Int):(jo n).kind=0∨(jo n).kind=2:=by
 unfold jo
 split
 ·exact .inl rfl
 ·exact .inr rfl
theorem z5E (t:z6P):(nsM t).kind=0∨(nsM t).kind=2:=by
 unfold nsM
 simp only
 split
 ·exact .inl rfl
 ·exact z3B _
theorem z13 (t:z6P)(a b:Int):(zF t a b).kind=0∨(zF t a b).kind=2:=by
 unfold zF
 repeat' split
 all_goals first|exact z3B _|exact .inl rfl
theorem tif {b:Bool}{m:Int}(h:zo b m≠0):b=true∧zo b m=m:=by
 unfold zo at h ⊢
 cases b
 ·exact absurd rfl h
 ·exact⟨rfl,rfl⟩
theorem tyP (t:List UInt8)(a b:TE):tyE (.pa t a b)=za ⟨t.toArray⟩ (tyE a) (tyE b):=by
 show zg ⟨6,0,⟨t.toArray⟩,-1,-1⟩ (tyE a) (tyE b)=_
 unfold zg
 simp
theorem z4P {t:List UInt8}{l:Int}{X Y:Wt}(hc:orS t∨anS t∨cmS t∨smS t∨pdS t)(hz:za ⟨t.toArray⟩ l l≠0)(ka:X.kind=0∨X.kind=l)(kb:Y.kind=0∨Y.kind=l):(zt ⟨t.toArray⟩ X Y).kind=0∨(zt ⟨t.toArray⟩ X Y).kind=za ⟨t.toArray⟩ l l:=by
 have key: ∀v:Int,za ⟨t.toArray⟩ l l=v→((zt ⟨t.toArray⟩ X Y).kind=0∨(zt ⟨t.toArray⟩ X Y).kind=v)→(zt ⟨t.toArray⟩ X Y).kind=0∨(zt ⟨t.toArray⟩ X Y).kind=za ⟨t.toArray⟩ l l:=fun v e h=>by rw [e];exact h
 by_cases hx0:X.kind=0
 ·refine .inl ?_
  unfold zt
  rw [if_pos (by simpa using hx0)]
  exact hx0
 ·have ka:=ka.resolve_left hx0
  have hxb:(X.kind==0)=false:=by simpa using hx0
  unfold orS anS cmS smS pdS at hc
  rcases hc with rfl|rfl|(rfl|rfl|rfl|rfl|rfl|rfl)|(rfl|rfl|rfl)|(rfl|rfl|rfl)
  ·have e:za ⟨#[124,124]⟩ l l=zo (l==1) 1:=by unfold za;simp [z6D]
   have hz':=hz
   rw [show([124,124]:List UInt8).toArray= #[124,124] from rfl,e] at hz'
   obtain⟨q1,q2⟩:=tif hz'
   have q1:l=1:=by simpa using q1
   refine key 1 (e.trans q2) ?_
   unfold zt
   simp only [z6D,hxb]
   show(if X.truth then X else Y).kind=0∨(if X.truth then X else Y).kind=1
   split
   ·exact .inr (by rw [ka,q1])
   ·rcases kb with e|e
    ·exact .inl e
    ·exact .inr (by rw [e,q1])
  ·have e:za ⟨#[38,38]⟩ l l=zo (l==1) 1:=by unfold za;simp [z6D]
   have hz':=hz
   rw [show([38,38]:List UInt8).toArray= #[38,38] from rfl,e] at hz'
   obtain⟨q1,q2⟩:=tif hz'
   have q1:l=1:=by simpa using q1
   refine key 1 (e.trans q2) ?_
   unfold zt
   simp only [z6D,hxb]
   show(if !X.truth then X else Y).kind=0∨(if !X.truth then X else Y).kind=1
   split
   ·exact .inr (by rw [ka,q1])
   ·rcases kb with e|e
    ·exact .inl e
    ·exact .inr (by rw [e,q1])
  ·have e:za ⟨#[61,61]⟩ l l=zo (l !=1) 1:=by unfold za;simp [je,z6D]
   have hz':=hz
   rw [show([61,61]:List UInt8).toArray= #[61,61] from rfl,e] at hz'
   refine key 1 (e.trans (tif hz').2) ?_
   unfold zt zL
   simp only [z6D,hxb]
   show(if Y.kind==0 then Y else zB (z0a ⟨#[61,61]⟩ X Y)).kind=0∨(if Y.kind==0 then Y else zB (z0a ⟨#[61,61]⟩ X Y)).kind=1
   split
   ·rename_i q;exact .inl (by simpa using q)
   ·exact .inr rfl
  ·have e:za ⟨#[33,61]⟩ l l=zo (l !=1) 1:=by unfold za;simp [je,z6D]
   have hz':=hz
   rw [show([33,61]:List UInt8).toArray= #[33,61] from rfl,e] at hz'
   refine key 1 (e.trans (tif hz').2) ?_
   unfold zt zL
   simp only [z6D,hxb]
   show(if Y.kind==0 then Y else zB (z0a ⟨#[33,61]⟩ X Y)).kind=0∨(if Y.kind==0 then Y else zB (z0a ⟨#[33,61]⟩ X Y)).kind=1
   split
   ·rename_i q;exact .inl (by simpa using q)
   ·exact .inr rfl
  ·have e:za ⟨#[60]⟩ l l=zo (l !=1) 1:=by unfold za;simp [je,z6D]
   have hz':=hz
   rw [show([60]:List UInt8).toArray= #[60] from rfl,e] at hz'
   refine key 1 (e.trans (tif hz').2) ?_
   unfold zt zL
   simp only [z6D,hxb]
   show(if Y.kind==0 then Y else zB (z0a ⟨#[60]⟩ X Y)).kind=0∨(if Y.kind==0 then Y else zB (z0a ⟨#[60]⟩ X Y)).kind=1
   split
   ·rename_i q;exact .inl (by simpa using q)
   ·exact .inr rfl
  ·have e:za ⟨#[60,61]⟩ l l=zo (l !=1) 1:=by unfold za;simp [je,z6D]
   have hz':=hz
   rw [show([60,61]:List UInt8).toArray= #[60,61] from rfl,e] at hz'
   refine key 1 (e.trans (tif hz').2) ?_
   unfold zt zL
   simp only [z6D,hxb]
   show(if Y.kind==0 then Y else zB (z0a ⟨#[60,61]⟩ X Y)).kind=0∨(if Y.kind==0 then Y else zB (z0a ⟨#[60,61]⟩ X Y)).kind=1
   split
   ·rename_i q;exact .inl (by simpa using q)
   ·exact .inr rfl
  ·have e:za ⟨#[62]⟩ l l=zo (l !=1) 1:=by unfold za;simp [je,z6D]
   have hz':=hz
   rw [show([62]:List UInt8).toArray= #[62] from rfl,e] at hz'
   refine key 1 (e.trans (tif hz').2) ?_
   unfold zt zL
   simp only [z6D,hxb]
   show(if Y.kind==0 then Y else zB (z0a ⟨#[62]⟩ X Y)).kind=0∨(if Y.kind==0 then Y else zB (z0a ⟨#[62]⟩ X Y)).kind=1
   split
   ·rename_i q;exact .inl (by simpa using q)
   ·exact .inr rfl
  ·have e:za ⟨#[62,61]⟩ l l=zo (l !=1) 1:=by unfold za;simp [je,z6D]
   have hz':=hz
   rw [show([62,61]:List UInt8).toArray= #[62,61] from rfl,e] at hz'
   refine key 1 (e.trans (tif hz').2) ?_
   unfold zt zL
   simp only [z6D,hxb]
   show(if Y.kind==0 then Y else zB (z0a ⟨#[62,61]⟩ X Y)).kind=0∨(if Y.kind==0 then Y else zB (z0a ⟨#[62,61]⟩ X Y)).kind=1
   split
   ·rename_i q;exact .inl (by simpa using q)
   ·exact .inr rfl
  ·have e:za ⟨#[43]⟩ l l=zo (l==2) 2:=by unfold za;simp [je,z6D]
   have hz':=hz
   rw [show([43]:List UInt8).toArray= #[43] from rfl,e] at hz'
   refine key 2 (e.trans (tif hz').2) ?_
   unfold zt zL
   simp only [z6D,hxb]
   show(if Y.kind==0 then Y else zF ⟨#[43]⟩ X.num Y.num).kind=0∨(if Y.kind==0 then Y else zF ⟨#[43]⟩ X.num Y.num).kind=2
   split
   ·rename_i q;exact .inl (by simpa using q)
   ·exact z13 _ _ _
  ·have e:za ⟨#[45]⟩ l l=zo (l==2) 2:=by unfold za;simp [je,z6D]
   have hz':=hz
   rw [show([45]:List UInt8).toArray= #[45] from rfl,e] at hz'
   refine key 2 (e.trans (tif hz').2) ?_
   unfold zt zL
   simp only [z6D,hxb]
   show(if Y.kind==0 then Y else zF ⟨#[45]⟩ X.num Y.num).kind=0∨(if Y.kind==0 then Y else zF ⟨#[45]⟩ X.num Y.num).kind=2
   split
   ·rename_i q;exact .inl (by simpa using q)
   ·exact z13 _ _ _
  ·have e:za ⟨#[46]⟩ l l=zo (l==3) 3:=by unfold za;simp [je,z6D]
   have hz':=hz
   rw [show([46]:List UInt8).toArray= #[46] from rfl,e] at hz'
   refine key 3 (e.trans (tif hz').2) ?_
   unfold zt zL
   simp only [z6D,hxb]
   show(if Y.kind==0 then Y else z1A (X.text++Y.text)).kind=0∨(if Y.kind==0 then Y else z1A (X.text++Y.text)).kind=3
   split
   ·rename_i q;exact .inl (by simpa using q)
   ·exact .inr rfl
  ·have e:za ⟨#[42]⟩ l l=zo (l==2) 2:=by unfold za;simp [je,z6D]
   have hz':=hz
   rw [show([42]:List UInt8).toArray= #[42] from rfl,e] at hz'
   refine key 2 (e.trans (tif hz').2) ?_
   unfold zt zL
   simp only [z6D,hxb]
   show(if Y.kind==0 then Y else zF ⟨#[42]⟩ X.num Y.num).kind=0∨(if Y.kind==0 then Y else zF ⟨#[42]⟩ X.num Y.num).kind=2
   split
   ·rename_i q;exact .inl (by simpa using q)
   ·exact z13 _ _ _
  ·have e:za ⟨#[47]⟩ l l=zo (l==2) 2:=by unfold za;simp [je,z6D]
   have hz':=hz
   rw [show([47]:List UInt8).toArray= #[47] from rfl,e] at hz'
   refine key 2 (e.trans (tif hz').2) ?_
   unfold zt zL
   simp only [z6D,hxb]
   show(if Y.kind==0 then Y else zF ⟨#[47]⟩ X.num Y.num).kind=0∨(if Y.kind==0 then Y else zF ⟨#[47]⟩ X.num Y.num).kind=2
   split
   ·rename_i q;exact .inl (by simpa using q)
   ·exact z13 _ _ _
  ·have e:za ⟨#[37]⟩ l l=zo (l==2) 2:=by unfold za;simp [je,z6D]
   have hz':=hz
   rw [show([37]:List UInt8).toArray= #[37] from rfl,e] at hz'
   refine key 2 (e.trans (tif hz').2) ?_
   unfold zt zL
   simp only [z6D,hxb]
   show(if Y.kind==0 then Y else zF ⟨#[37]⟩ X.num Y.num).kind=0∨(if Y.kind==0 then Y else zF ⟨#[37]⟩ X.num Y.num).kind=2
   split
   ·rename_i q;exact .inl (by simpa using q)
   ·exact z13 _ _ _
theorem z6p {E:List Ex}(al:List (z6P×z6P)): ∀{T:TE} {i:Int},VlE T→WtE T→tyE T≠0→IsE E T i→(wAt (zb al E []) i).kind=0∨(wAt (zb al E []) i).kind=tyE T:=by
 have nz: ∀{a:TE},VlE a→WtE a→tyE a≠0:=fun{a} hv hw=>by
  cases a using TE.cas with
  |lf f t'=>rcases hv with⟨rfl,_⟩|⟨rfl,_⟩|⟨rfl,_⟩|⟨rfl,_⟩|⟨rfl,_⟩<;>simp [z2T,zg]
  |pr t' b=>exact hw.1
  |pa t' b c=>exact hw.1
 intro T
 induction T using TE.ind with
 |lf f t=>
  intro i hv _ _ ⟨n,x,h1,h2,h3,h4⟩
  subst h1
  rw [(j3 al h2).1]
  unfold wOf
  rw [h3]
  rcases hv with⟨rfl,_⟩|⟨rfl,hq⟩|⟨rfl,_⟩|⟨rfl,_⟩|⟨rfl,_⟩
  ·exact z5E _
  ·exact .inr rfl
  ·exact .inr rfl
  ·exact .inr rfl
  ·exact z5E _
 |pr t a ih=>
  intro i hv hw hz ⟨n,x,h1,h2,h3,h4,h5,h6⟩
  subst h1
  obtain⟨k1,k2⟩:=j3 al h2
  rw [k1,k2 _ h5]
  have e1: ∀u v,wOf al x u v=jh x.text u:=fun u v=>by unfold wOf;rw [h3];rfl
  rw [e1]
  rcases hv.1 with rfl|rfl
  ·have e:tyE (.pr [33] a)=zo (tyE a==1) 1:=by
    show zg ⟨5,0,⟨#[33]⟩,-1,-1⟩ (tyE a) 0=_
    unfold zg
    simp [z6D]
   rw [e] at hz ⊢
   rw [(tif hz).2]
   unfold jh
   split
   ·rename_i q;exact .inl (by simpa using q)
   ·rw [z6D,h4]
    exact .inr rfl
  ·have e:tyE (.pr [45] a)=zo (tyE a==2) 2:=by
    show zg ⟨5,0,⟨#[45]⟩,-1,-1⟩ (tyE a) 0=_
    unfold zg
    simp [z6D]
   rw [e] at hz ⊢
   rw [(tif hz).2]
   unfold jh
   split
   ·rename_i q;exact .inl (by simpa using q)
   ·rw [z6D,h4]
    exact z3B _
 |pa t a b iha ihb=>
  intro i hv hw hz ⟨n,x,h1,h2,h3,h4,h5,h6,h7,h8⟩
  subst h1
  obtain⟨k1,k2⟩:=j3 al h2
  rw [k1,k2 _ h5,k2 _ h6]
  have e1: ∀u v,wOf al x u v=zt x.text u v:=fun u v=>by unfold wOf;rw [h3];rfl
  rw [e1]
  have ka:=iha hv.2.1 hw.2.1 (nz hv.2.1 hw.2.1) h7
  have kb:=ihb hv.2.2 hw.2.2 (nz hv.2.2 hw.2.2) h8
  rw [tyP] at hz ⊢
  generalize wAt (zb al E []) x.left=X at*
  generalize wAt (zb al E []) x.right=Y at*
  have tx:x.text=⟨t.toArray⟩:=jk h4
  rw [tx]
  by_cases hl:tyE a=tyE b
  ·rw [←hl] at hz kb ⊢
   exact z4P hv.1 hz ka kb
  ·exfalso
   refine hz ?_
   unfold za
   rw [if_pos (by simpa using hl)]
theorem z55: ∀u:Nat,z5P (Lib.decDigits u):=by
 intro u
 induction u using Nat.strongRecOn with
 |ind u ih=>
  intro c hc
  by_cases hu:u<10
  ·rw [ji hu] at hc
   rw [List.mem_singleton.1 hc,UInt8.toNat_ofNat']
   omega
  ·rw [z0S hu] at hc
   rcases List.mem_append.1 hc with hc|hc
   ·exact ih (u/10) (by omega) c hc
   ·rw [List.mem_singleton.1 hc,UInt8.toNat_ofNat']
    omega
theorem z52: ∀u:Nat,z0v (Lib.decDigits u)=(u:Int):=by
 intro u
 induction u using Nat.strongRecOn with
 |ind u ih=>
  by_cases hu:u<10
  ·rw [ji hu]
   unfold z0v
   simp only [List.foldl_cons,List.foldl_nil,UInt8.toNat_ofNat']
   omega
  ·rw [z0S hu,z0r,ih (u/10) (by omega),UInt8.toNat_ofNat']
   omega
theorem z3v: ∀u:Nat,1≤(Lib.decDigits u).length:=by
 intro u
 by_cases hu:u<10
 ·rw [ji hu];simp
 ·rw [z0S hu];simp
theorem z45: ∀u:Nat,u≠0→(Lib.decDigits u).head?≠some 48:=by
 intro u
 induction u using Nat.strongRecOn with
 |ind u ih=>
  intro h0
  by_cases hu:u<10
  ·rw [ji hu]
   intro e
   have e:UInt8.ofNat (48+u)=48:=by simpa using e
   have:=congrArg UInt8.toNat e
   rw [UInt8.toNat_ofNat'] at this
   have h48:(48:UInt8).toNat=48:=rfl
   omega
  ·rw [z0S hu]
   have hn:=z3v (u/10)
   cases hd:Lib.decDigits (u/10) with
   |nil=>rw [hd] at hn;simp at hn
   |cons c cs=>
    have:=ih (u/10) (by omega) (by omega)
    rw [hd] at this
    simpa using this
theorem z3t {u:Nat}(h:u≤999999999):z65 (Lib.decDigits u):=by
 refine⟨z3v u,z2H 8 u (by omega),fun c hc=> ?_,fun e=> ?_⟩
 ·have:=z55 u c hc
  show zc (c.toNat:Int)=true
  unfold zc
  simp
  omega
 ·by_cases h0:u=0
  ·subst h0;rw [ji (by omega)];rfl
  ·exact absurd e (z45 u h0)
theorem z3P {n:Int}(h1: -999999999≤n)(h2:n≤999999999):jo n=⟨2,false,n,⟨#[]⟩⟩:=by
 unfold jo
 rw [if_neg (by omega)]
theorem z4z {u:Nat}(h:u≤999999999){t:z6P}(ht:t.data.toList=Lib.decDigits u):nsM t=⟨2,false,(u:Int),⟨#[]⟩⟩:=by
 have hn:=z3t h
 rw [←ht] at hn
 have hsz:t.size=t.data.toList.length:=by rw [Array.length_toList];rfl
 have hdig: ∀i,i<t.size→zc (pk t i false)=true:=fun i hi=>by
  rw [zT hi]
  exact hn.2.2.1 _ (z6J (i:=i) (by rw [z6B (by simpa using hi)];rfl))
 have h0:0<t.size:=by have:=hn.1;omega
 have hneg:z3o t=false:=by
  unfold z3o
  have:=z3E (hdig 0 h0)
  simp
  omega
 have hfr:zP t=0:=by unfold zP;rw [hneg];rfl
 rw [z6r (by rw [hfr];exact h0) (by rw [hfr];have:=hn.2.1;omega) (fun i hi=>by rw [hfr] at hi ⊢;exact hdig _ hi) (fun e=>by
  rw [hfr] at e ⊢
  refine⟨fun hlt=> ?_,hneg⟩
  have hh:t.data.toList.head?=some 48:=by
   cases hl:t.data.toList with
   |nil=>rw [hl] at hsz;have hsz:t.size=0:=hsz;omega
   |cons c cs=>
    have hat:=z2O t
    rw [hl] at hat
    have:=hat.1
    rw [e] at this
    have:c=48:=UInt8.toNat_inj.1 (by show c.toNat=48;omega)
    rw [this];rfl
  have:=hn.2.2.2 hh
  omega),hneg,hfr]
 have ex:(t.extract 0 t.size).toList=Lib.decDigits u:=by
  rw [z6D,zD,List.drop_zero,←ht,Nat.sub_zero,hsz,List.take_length]
 show jo (z0v (t.extract 0 t.size).toList)=_
 rw [ex,z52,z3P (by omega) (by omega)]
structure TxE (O:Wt)(T:TE):Prop where
 v:VlE T
 w:WtE T
 t:tyE T=O.kind
 p:prE T=(prM O).data.toList
 e: ∀(E:List Ex) (al:List (z6P×z6P)) (i:Int),IsE E T i→wAt (zb al E []) i=O
theorem z5S {n:Int}(h1: -999999999≤n)(h2:n≤999999999): ∃T,TxE ⟨2,false,n,⟨#[]⟩⟩ T:=by
 have hp:(prM ⟨2,false,n,⟨#[]⟩⟩).data.toList=Lib.itoa n:=by
  show(⟨(Lib.itoa n).toArray⟩:z6P).data.toList=_
  simp
 by_cases h0:0≤n
 ·have hu:n.toNat≤999999999:=by omega
  refine⟨.lf 0 (Lib.decDigits n.toNat),.inl ⟨rfl,z3t hu⟩,trivial,rfl,?_,fun E al i ⟨k,x,e1,e2,e3,e4⟩=> ?_⟩
  ·rw [hp,jS h0];rfl
  ·subst e1
   rw [(j3 al e2).1]
   unfold wOf
   rw [e3]
   show nsM x.text=_
   rw [z4z hu e4,show((n.toNat:Nat):Int)=n by omega]
 ·have hu:(-n).toNat≤999999999:=by omega
  refine⟨.pr [45] (.lf 0 (Lib.decDigits (-n).toNat)),⟨.inr rfl,.inl ⟨rfl,z3t hu⟩⟩,⟨?_,trivial⟩,?_,?_,fun E al i ⟨k,x,e1,e2,e3,e4,e5,e6⟩=> ?_⟩
  ·show zg ⟨5,0,⟨#[45]⟩,-1,-1⟩ 2 0≠0
   unfold zg zo
   simp [z6D]
  ·show zg ⟨5,0,⟨#[45]⟩,-1,-1⟩ 2 0=2
   unfold zg zo
   simp [z6D]
  ·rw [hp,z1R (by omega),jS (by omega)];rfl
  ·subst e1
   obtain⟨k1,k2⟩:=j3 al e2
   rw [k1,k2 _ e5]
   have e7: ∀u v,wOf al x u v=jh x.text u:=fun u v=>by unfold wOf;rw [e3];rfl
   rw [e7]
   obtain⟨k',x',f1,f2,f3,f4⟩:=e6
   have e8:wAt (zb al E []) x.left=⟨2,false,((-n).toNat:Int),⟨#[]⟩⟩:=by
    rw [f1,(j3 al f2).1]
    unfold wOf
    rw [f3]
    exact z4z hu f4
   rw [e8]
   unfold jh
   rw [z6D,e4]
   show jo (wrap64 (-((-n).toNat:Int)))=_
   rw [show wrap64 (-((-n).toNat:Int))=n by unfold wrap64;omega,z3P h1 h2]
theorem z5m {t:z6P}(hq:z4R t.data.toList): ∃T,TxE (z1A t) T:=by
 refine⟨.lf 1 t.data.toList,.inr (.inl ⟨rfl,hq⟩),trivial,rfl,?_,fun E al i ⟨k,x,e1,e2,e3,e4⟩=> ?_⟩
 ·show 34::(t.data.toList++[34])=((⟨#[34]⟩++t)++⟨#[34]⟩:z6P).data.toList
  rw [zY,zY]
  rfl
 ·subst e1
  rw [(j3 al e2).1]
  unfold wOf
  rw [e3]
  show z1A x.text=z1A t
  rw [z0d e4]
section
variable {s:z6P} {K:Int×St→Prop} {st:St} {a:Nat}
theorem ku6 (hK: ∀r,K r→r.2.bad=false∧r.2.at_=a)(H: ∀n r,M s n 7 0 st=some r→K r)(h:pkS s st≠45): ∀n r,M s n 6 0 st=some r→K r:=by
 intro n r hm
 cases n with
 |zero=>simp [M] at hm
 |succ n=>rw [M_6,if_pos (by simpa using h)] at hm;exact H n r hm
theorem ku5 (hK: ∀r,K r→r.2.bad=false∧r.2.at_=a)(H: ∀n r,M s n 6 0 st=some r→K r)(h:z8 s a false=⟨#[]⟩): ∀n r,M s n 5 0 st=some r→K r:=by
 intro n r hm
 cases n with
 |zero=>simp [M] at hm
 |succ n=>
  rw [M_5] at hm
  obtain⟨q,h1,h2⟩:=z6A.1 hm
  have k:=H n q h1
  cases n with
  |zero=>simp [M] at h2
  |succ n=>
   rw [z2B,(hK _ k).2,(hK _ k).1,h] at h2
   have h2:some (q.1,q.2)=some r:=h2
   cases h2
   exact k
theorem ku4 (hK: ∀r,K r→r.2.bad=false∧r.2.at_=a)(H: ∀n r,M s n 5 0 st=some r→K r)(h:zd s a false=⟨#[]⟩): ∀n r,M s n 4 0 st=some r→K r:=by
 intro n r hm
 cases n with
 |zero=>simp [M] at hm
 |succ n=>
  rw [M_4] at hm
  obtain⟨q,h1,h2⟩:=z6A.1 hm
  have k:=H n q h1
  cases n with
  |zero=>simp [M] at h2
  |succ n=>
   rw [z2z,(hK _ k).2,(hK _ k).1,h] at h2
   have h2:some (q.1,q.2)=some r:=h2
   cases h2
   exact k
theorem ku3 (hK: ∀r,K r→r.2.bad=false∧r.2.at_=a)(H: ∀n r,M s n 4 0 st=some r→K r)(h:z7 s a false=(a,false,⟨#[]⟩)): ∀n r,M s n 3 0 st=some r→K r:=by
 intro n r hm
 cases n with
 |zero=>simp [M] at hm
 |succ n=>
  rw [M_3] at hm
  obtain⟨q,h1,h2⟩:=z6A.1 hm
  have k:=H n q h1
  simp only at h2
  rw [(hK _ k).2,(hK _ k).1,h] at h2
  have h2:some (q.1,q.2.put3 (a,false,⟨#[]⟩))=some r:=h2
  cases h2
  have e:q.2.put3 (a,false,⟨#[]⟩)=q.2:=by
   obtain⟨g1,g2⟩:=hK _ k
   unfold St.put3
   rw [←g2,←g1]
  rw [e]
  exact k
theorem ku2 (hK: ∀r,K r→r.2.bad=false∧r.2.at_=a)(H: ∀n r,M s n 3 0 st=some r→K r)(h:pkS s st≠33): ∀n r,M s n 2 0 st=some r→K r:=by
 intro n r hm
 cases n with
 |zero=>simp [M] at hm
 |succ n=>rw [M_2,if_pos (by simpa using h)] at hm;exact H n r hm
theorem ku1 (hK: ∀r,K r→r.2.bad=false∧r.2.at_=a)(H: ∀n r,M s n 2 0 st=some r→K r)(h:pk s a false≠38): ∀n r,M s n 1 0 st=some r→K r:=by
 intro n r hm
 cases n with
 |zero=>simp [M] at hm
 |succ n=>
  rw [M_1] at hm
  obtain⟨q,h1,h2⟩:=z6A.1 hm
  have k:=H n q h1
  cases n with
  |zero=>simp [M] at h2
  |succ n=>
   rw [z2p,if_neg (by unfold pkS;rw [(hK _ k).2,(hK _ k).1];simpa using h)] at h2
   cases h2
   exact k
theorem ku0 (hK: ∀r,K r→r.2.bad=false∧r.2.at_=a)(H: ∀n r,M s n 1 0 st=some r→K r)(h:pk s a false≠124): ∀n r,M s n 0 0 st=some r→K r:=by
 intro n r hm
 cases n with
 |zero=>simp [M] at hm
 |succ n=>
  rw [M_0] at hm
  obtain⟨q,h1,h2⟩:=z6A.1 hm
  have k:=H n q h1
  cases n with
  |zero=>simp [M] at h2
  |succ n=>
   rw [z2K,if_neg (by unfold pkS;rw [(hK _ k).2,(hK _ k).1];simpa using h)] at h2
   cases h2
   exact k
theorem z5p (hK: ∀r,K r→r.2.bad=false∧r.2.at_=a){lv:Nat}(hlv:lv≤7)(H: ∀n r,M s n lv 0 st=some r→K r)(h45:lv=7→pkS s st≠45)(h33:3≤lv→pkS s st≠33): ∀d tag,tag+d=lv→qt s tag a→ ∀n r,M s n tag 0 st=some r→K r:=by
 intro d
 induction d with
 |zero=>
   intro tag e _;have:tag=lv:=by omega
   subst this;exact H
 |succ d ih=>
  intro tag e q
  have k:=ih (tag+1) (by omega) (q.mono (by omega))
  match tag,q,k,e with
  |0,q,k,e=>exact ku0 hK k (q.2.2.2.2 (by omega))
  |1,q,k,e=>exact ku1 hK k (q.2.2.2.1 (by omega))
  |2,q,k,e=>exact ku2 hK k (h33 (by omega))
  |3,q,k,e=>exact ku3 hK k (q.2.2.1 (by omega))
  |4,q,k,e=>exact ku4 hK k (q.2.1 (by omega))
  |5,q,k,e=>exact ku5 hK k (q.1 (by omega))
  |6,q,k,e=>exact ku6 hK k (h45 (by omega))
  |t+7,q,k,e=>omega
theorem z5c (hK: ∀r,K r→r.2.bad=false∧r.2.at_=a){lv tag:Nat}(hlv:lv≤7)(H: ∀n r,M s n lv 0 st=some r→K r)(h45:lv=7→pkS s st≠45)(h33:3≤lv→pkS s st≠33)(ht:tag≤lv)(q:qt s tag a): ∀n r,M s n tag 0 st=some r→K r:=z5p hK hlv H h45 h33 (lv - tag) tag (by omega) q
end
theorem z5D {E:List Ex}(o:Nat): ∀{T:TE} {i:Int},IsE E T i→IsE (E.map (shE o 0)) T i:=by
 have gm: ∀{n:Nat} {x:Ex},E[n]?=some x→(E.map (shE o 0))[n]?=some (shE o 0 x):=fun h=>by rw [List.getElem?_map,h];rfl
 intro T
 induction T using TE.ind with
 |lf f t=>intro i ⟨n,x,h1,h2,h3,h4⟩;exact⟨n,_,h1,gm h2,h3,h4⟩
 |pr t a ih=>intro i ⟨n,x,h1,h2,h3,h4,h5,h6⟩;exact⟨n,_,h1,gm h2,h3,h4,by show shi 0 x.left<_;rw [z2e];exact h5,by show IsE _ a (shi 0 x.left);rw [z2e];exact ih h6⟩
 |pa t a b iha ihb=>intro i ⟨n,x,h1,h2,h3,h4,h5,h6,h7,h8⟩;exact⟨n,_,h1,gm h2,h3,h4,by show shi 0 x.left<_;rw [z2e];exact h5,by show shi 0 x.right<_;rw [z2e];exact h6,by show IsE _ a (shi 0 x.left);rw [z2e];exact iha h7,by show IsE _ b (shi 0 x.right);rw [z2e];exact ihb h8⟩
theorem z41 (o:Nat): ∀(xs:List Ex) (ts:List Int),z1i (xs.map (shE o 0)) ts↔z1i xs ts:=by
 intro xs
 induction xs with
 |nil=>intro ts;exact Iff.rfl
 |cons x xs ih=>
  intro ts
  have e:zg (shE o 0 x) (zf ts (shE o 0 x).left) (zf ts (shE o 0 x).right)=zg x (zf ts x.left) (zf ts x.right):=by
   unfold shE zg
   simp only [z2e]
  have k:=ih (ts++[zg x (zf ts x.left) (zf ts x.right)])
  show(zg (shE o 0 x) (zf ts (shE o 0 x).left) (zf ts (shE o 0 x).right)≠0∧z1i (xs.map (shE o 0)) (ts++[zg (shE o 0 x) (zf ts (shE o 0 x).left) (zf ts (shE o 0 x).right)]))↔_
  rw [e]
  exact⟨fun⟨a,b⟩=>⟨a,k.1 b⟩,fun⟨a,b⟩=>⟨a,k.2 b⟩⟩
structure Par (s t:z6P):Prop where
 win:Win s t 1 s.size
 b0:pk t 0 false=40
 b1:pk t (1+s.size) false=41
theorem Par.st {s t:z6P}(h:Par s t):st1 t=st0:=by
 unfold st1
 rw [zx (by rw [h.b0];decide)]
 rfl
theorem z6s {s t:z6P}(P:Par s t){n:Nat}{r:Int}{st:St}(hM:M s n 0 0 (st1 s)=some (r,st))(hb:st.bad=false)(he:st.at_=s.size): ∀m q,M t m 7 0 st0=some q→q=(r,{shS 1 st0 st with at_:=skip t (s.size+2) false}):=by
 intro m q hm
 have hp:pkS t st0=40:=P.b0
 cases m with
 |zero=>simp [M] at hm
 |succ m=>
  rw [M_7,hp,if_neg (by decide),if_neg (by decide),if_neg (by decide),if_pos (by decide)] at hm
  obtain⟨q0,h7,h8⟩:=z6A.1 hm
  have hs:sgn t [40] st0=shS 1 st0 (st1 s):=by
   rw [z16 (l:=[40]) (st:=st0) rfl ⟨P.b0,trivial⟩]
   show({st0 with at_:=skip t (1+0) false}:St)=_
   rw [(P.win.skp (a:=0) (z6L _)).2]
   rfl
  rw [hs] at h7
  have e:=z6f (P:=st0) P.win n 0 0 (st1 s) (r,st) hM hb (by show st.at_≤s.size;omega) m 0 q0 (fun e=>by omega) h7
  have e0:(st0).E.length=0:=rfl
  rw [e0,z2e] at e
  subst e
  have hs2:sgn t [41] (shS 1 st0 st)={shS 1 st0 st with at_:=skip t (s.size+2) false}:=by
   rw [z16 (l:=[41]) (st:=shS 1 st0 st) hb (by
    show At t (1+st.at_) [41]
    rw [he]
    exact⟨P.b1,trivial⟩)]
   show({shS 1 st0 st with at_:=skip t (1+st.at_+1) false}:St)=_
   rw [he,show 1+s.size+1=s.size+2 by omega]
  rw [hs2] at h8
  exact(Option.some.inj h8).symm
def Wo (s a x:z6P)(e:Int):Prop:=((600<s.size∨100<a.size)∧x=⟨#[]⟩∧e=1)∨((s.size≤600∧a.size≤100)∧ ∃n r st,M s n 0 0 (st1 s)=some (r,st)∧st.at_≤s.size∧jv st.E∧(x,e)=woM s a r st)
theorem z4A {s:z6P}{a:Nat}{d:Bool}(h:z1g s a d=false)(hl:a≤s.size):d=false∧a=s.size:=by
 unfold z1g at h
 simp only [Bool.or_eq_false_iff,decide_eq_false_iff_not] at h
 exact⟨h.1,by omega⟩
theorem z1E {s a x:z6P}(h:Wo s a x 0):s.size≤600∧a.size≤100∧(raM a).2=false∧ ∃n r st T,M s n 0 0 (st1 s)=some (r,st)∧st.bad=false∧st.at_=s.size∧z1i st.E []∧VlE T∧WtE T∧tyE T≠0∧IsE st.E T r∧x=prM (wAt (zb (raM a).1 st.E []) r):=by
 rcases h with⟨_,_,h⟩|⟨⟨hs,ha⟩,n,r,st,hM,hl,hg,hw⟩
 ·cases h
 ·unfold woM at hw
  split at hw
  ·cases hw
  ·rename_i h1
   split at hw
   ·cases hw
   ·rename_i h2
    split at hw
    ·cases hw
    ·rename_i h3
     obtain⟨hb,he⟩:=z4A (by simpa using h1) hl
     have hty:z1i st.E []:=z6c _ _ (fun x hx=>(hg x hx).1) (by simpa using h2)
     obtain⟨T,v,i⟩:=z5z s _ _ _ _ _ hM hb (fun e=>by omega)
     exact⟨hs,ha,by simpa using h3,n,r,st,T,hM,hb,he,hty,v,z6o hty v i,z59 hty v i,i,congrArg Prod.fst hw⟩
theorem z5J {s a x:z6P}{e:Int}(h:Wo s a x e)(hn:e≠0):x=⟨#[]⟩:=by
 rcases h with⟨_,h,_⟩|⟨_,n,r,st,_,_,_,hw⟩
 ·exact h
 ·unfold woM at hw
  split at hw
  ·exact congrArg Prod.fst hw
  ·split at hw
   ·exact congrArg Prod.fst hw
   ·split at hw
    ·exact congrArg Prod.fst hw
    ·exact absurd (congrArg Prod.snd hw) hn
def GR (t:z6P)(T:TE):Prop:= ∀n r st,M t n 0 0 (st1 t)=some (r,st)→RdE T st0 t.size (r,st)
theorem z4l {t a x:z6P}{e:Int}{T:TE}(G:GR t T)(hv:VlE T)(h:Wo t a x e)(ht:t.size≤600)(ha:a.size≤100)(hr:(raM a).2=false):e=0∧ ∃(E:List Ex) (i:Int),IsE E T i∧x=prM (wAt (zb (raM a).1 E []) i):=by
 rcases h with⟨h,_⟩|⟨_,n,r,st,hM,hl,hg,hw⟩
 ·omega
 ·have k:=G n r st hM
  have e1:z1g t st.at_ st.bad=false:=by
   have k1:st.bad=false:=k.bad
   have k2:st.at_=t.size:=k.at_
   unfold z1g
   rw [k1,k2]
   simp
  have e2:tfM st.E []= -1:=z5r _ _ (k.ty trivial)
  unfold woM at hw
  rw [e1,e2,hr] at hw
  have hw:(x,e)=(prM (wAt (zb (raM a).1 st.E []) r),0):=hw
  exact⟨congrArg Prod.snd hw,st.E,r,k.is,congrArg Prod.fst hw⟩
theorem z2f {t:z6P}(tag:Nat):qt t tag t.size:=z4S (c:= -1) (by unfold pk;rw [if_neg (by decide),dif_neg (Nat.lt_irrefl _)]) (by
 unfold qb
 simp)
theorem j9 (t:z6P):pk t t.size false= -1:=by unfold pk;rw [if_neg (by decide),dif_neg (Nat.lt_irrefl _)]
theorem zU (t:z6P):t.data.toList.length=t.size:=by rw [Array.length_toList];rfl
theorem z2V {t:z6P}{T:TE}(hv:VlE T)(hw:WtE T)(hz:tyE T≠0)(hp:prE T=t.data.toList):GR t T:=by
 intro n r st hM
 have hat:At t 0 (prE T):=by rw [hp];exact z2O t
 have hst:st1 t=st0:=by
  unfold st1
  rw [zx (jD hv hat).1]
  rfl
 have hl:(prE T).length=t.size:=by rw [hp,zU]
 rw [hst] at hM
 have k:=z4q t T hv hw hz 0 (z6L _) st0 rfl hat (by
  show dlm (pk t (0+(prE T).length) false)=true
  rw [hl,Nat.zero_add,j9]
  rfl) (by
  show qt t 0 (skip t (0+(prE T).length) false)
  rw [hl,Nat.zero_add,zx (by rw [j9];decide)]
  exact z2f 0) n (r,st) hM
 have e:skip t (st0.at_+(prE T).length) false=t.size:=by
  show skip t (0+(prE T).length) false=t.size
  rw [hl,Nat.zero_add,zx (by rw [j9];decide)]
 rw [e] at k
 exact k
theorem z3X (s u:z6P)(hu:pk u 0 false=41):Par s ((⟨#[40]⟩++s)++u):=by
 have z1:(⟨#[40]⟩:z6P).size=1:=rfl
 have z2:(⟨#[40]⟩++s:z6P).size=1+s.size:=by rw [ByteArray.size_append,z1]
 have e1: ∀a,a<s.size→pk ((⟨#[40]⟩++s)++u) (1+a) false=pk s a false:=fun a h=>by
  rw [z1X _ _ _ (by rw [z2];omega)]
  have:=z3r ⟨#[40]⟩ s a
  rw [z1] at this
  exact this
 have e2:pk ((⟨#[40]⟩++s)++u) (1+s.size) false=41:=by
  have:=z3r (⟨#[40]⟩++s) u 0
  rw [z2] at this
  exact this.trans hu
 refine⟨⟨e1,by rw [j9];rfl,by rw [e2];rfl,z6E _⟩,?_,e2⟩
 rw [z1X _ _ _ (by rw [z2];omega),z1X _ _ _ (by rw [z1];omega)]
 rfl
theorem z4M {s t:z6P}(P:Par s t){n:Nat}{r:Int}{st:St}{T:TE}(hM:M s n 0 0 (st1 s)=some (r,st))(hb:st.bad=false)(he:st.at_=s.size)(hty:z1i st.E [])(hi:IsE st.E T r){tag:Nat}(ht:tag≤7)(hq:qt t tag (skip t (s.size+2) false)): ∀m q,M t m tag 0 st0=some q→RdE T st0 (skip t (s.size+2) false) q:=by
 have hp:pkS t st0=40:=P.b0
 refine z01 (lv:=7) (z6E _) ?_ (fun _=>by rw [hp];decide) (fun _=>by rw [hp];decide) ht hq
 intro m q hm
 rw [z6s P hM hb he m q hm]
 obtain⟨_,xA,xL,xC⟩:=z3W s _ _ _ _ _ hM
 have xA:st.A=[]:=xA
 have xL:st.L=[]:=xL
 have xC:st.C=[]:=xC
 refine⟨hb,rfl,⟨⟨_,rfl⟩,?_,?_,?_⟩,z5D 1 hi,fun _=>(z41 1 _ _).2 hty⟩
 ·show []++st.A.map _=[]
  rw [xA];rfl
 ·show []++st.L.map _=[]
  rw [xL];rfl
 ·show []++st.C.map _=[]
  rw [xC];rfl
theorem jU (s:z6P):((⟨#[40]⟩++s)++⟨#[41]⟩:z6P).size=s.size+2:=by
 rw [ByteArray.size_append,ByteArray.size_append]
 show 1+s.size+1=s.size+2
 omega
theorem z5T {s:z6P}{n:Nat}{r:Int}{st:St}{T:TE}(hM:M s n 0 0 (st1 s)=some (r,st))(hb:st.bad=false)(he:st.at_=s.size)(hty:z1i st.E [])(hi:IsE st.E T r):GR ((⟨#[40]⟩++s)++⟨#[41]⟩) T:=by
 intro m q u hm
 have P:=z3X s ⟨#[41]⟩ rfl
 rw [P.st] at hm
 have e:skip ((⟨#[40]⟩++s)++⟨#[41]⟩) (s.size+2) false=((⟨#[40]⟩++s)++⟨#[41]⟩:z6P).size:=by
  rw [←jU,zx (by rw [j9];decide)]
 have:=z4M P hM hb he hty hi (tag:=0) (by omega) (by rw [e];exact z2f 0) m (q,u) hm
 rw [e] at this
 exact this
theorem wd1 {s a x y:z6P}{e f:Int}(h:Wo s a x e)(k:Wo ((⟨#[40]⟩++s)++⟨#[41]⟩) a y f)(hn:e≠0):x=⟨#[]⟩∧(f≠0∨e=2):=by
 refine⟨z5J h hn,?_⟩
 by_cases hf:f=0
 ·subst hf
  obtain⟨hz,ha,hra,n',r',st',T',hM',_,_,hty',_⟩:=z1E k
  rw [jU] at hz
  rcases h with⟨h,_⟩|⟨_,n,r,st,hM,hl,hg,hw⟩
  ·omega
  ·unfold woM at hw
   split at hw
   ·exact .inr (congrArg Prod.snd hw)
   ·rename_i h1
    obtain⟨hb,he⟩:=z4A (by simpa using h1) hl
    exfalso
    have P:=z3X s ⟨#[41]⟩ rfl
    rw [P.st] at hM'
    have hp:pkS ((⟨#[40]⟩++s)++⟨#[41]⟩) st0=40:=P.b0
    have e0:skip ((⟨#[40]⟩++s)++⟨#[41]⟩) (s.size+2) false=((⟨#[40]⟩++s)++⟨#[41]⟩:z6P).size:=by
     rw [←jU,zx (by rw [j9];decide)]
    have q:=z5c (K:=fun q=>q=(r,{shS 1 st0 st with at_:=skip ((⟨#[40]⟩++s)++⟨#[41]⟩) (s.size+2) false})) (a:=skip ((⟨#[40]⟩++s)++⟨#[41]⟩) (s.size+2) false) (fun r hr=>by rw [hr];exact⟨hb,rfl⟩) (lv:=7) (tag:=0) (z6E _) (z6s P hM hb he) (fun _=>by rw [hp];decide) (fun _=>by rw [hp];decide) (by omega) (by rw [e0];exact z2f 0) n' (r',st') hM'
    have hE:st'.E=st.E.map (shE 1 0):=by
     have:=congrArg (fun z:Int×St=>z.2.E) q
     exact this
    rw [hE] at hty'
    have htf:=z5r _ _ ((z41 1 _ _).1 hty')
    rw [htf,hra] at hw
    exact hn (congrArg Prod.snd hw)
 ·exact .inl hf
theorem z5j (n:Int):1≤(Lib.itoa n).length:=by
 by_cases h:0≤n
 ·rw [jS h];exact z3v _
 ·rw [z1R (by omega)];simp
theorem z5g (O:Wt):0<(prM O).size:=by
 unfold prM
 repeat' split
 ·decide
 ·decide
 ·have:=z5j O.num
  rw [←zU]
  simp
  exact this
 ·rw [ByteArray.size_append,ByteArray.size_append]
  show 0<1+O.text.size+1
  omega
 ·decide
theorem wd2 {s a x y:z6P}{f:Int}(h:Wo s a x 0)(k:Wo ((⟨#[40]⟩++s)++⟨#[41]⟩) a y f):(f=1∨(f=0∧y=x))∧0<x.size:=by
 obtain⟨hs,ha,hra,n,r,st,T,hM,hb,he,hty,hv,hw,hz,hi,rfl⟩:=z1E h
 refine⟨?_,z5g _⟩
 by_cases hz:s.size+2≤600
 ·obtain⟨e1,E',i',j1,j2⟩:=z4l (z5T hM hb he hty hi) hv k (by rw [jU];exact hz) ha hra
  exact .inr ⟨e1,by rw [j2,z4L (raM a).1 hv j1 hi]⟩
 ·rcases k with⟨_,_,e⟩|⟨⟨k,_⟩,_⟩
  ·exact .inl e
  ·rw [jU] at k;omega
def z67:List UInt8:=[101,114,114,111,114]
theorem z3L (b:Bool): ∃T,TxE (zB b) T:=by
 have ev: ∀(t:List UInt8) (b:Bool),(t==z1j)=b→(t=z1j∨t=z0p)→t=(prM (zB b)).data.toList→TxE (zB b) (.lf 2 t):=fun t b h1 h2 h3=>⟨.inr (.inr (.inl ⟨rfl,h2⟩)),trivial,rfl,h3,fun E al i ⟨k,x,e1,e2,e3,e4⟩=>by
  subst e1
  rw [(j3 al e2).1]
  unfold wOf
  rw [e3]
  show zB (x.text.toList==[116,114,117,101])=zB b
  rw [z6D,e4]
  exact congrArg zB h1⟩
 cases b
 ·exact⟨_,ev z0p false rfl (.inr rfl) rfl⟩
 ·exact⟨_,ev z1j true rfl (.inl rfl) rfl⟩
theorem z5w {O:Wt}(hO:WfW O)(h1:(prM O).data.toList≠z67)(h2:(prM O).size≤14)(h3: ∀c∈(prM O).data.toList,c≠10):(∃T,TxE O T)∧O.kind≠0∧(O.kind=1→ ∃b,O=zB b):=by
 rcases hO with rfl|⟨b,rfl⟩|⟨n,n1,n2,rfl⟩|⟨t,ht,rfl⟩
 ·exact absurd rfl h1
 ·exact⟨z3L b,by show(1:Int)≠0;decide,fun _=>⟨b,rfl⟩⟩
 ·exact⟨z5S n1 n2,by show(2:Int)≠0;decide,fun e=>absurd e (by show ¬((2:Int)=1);decide)⟩
 ·have hp:(prM (z1A t)).data.toList=34::(t.data.toList++[34]):=by
   show((⟨#[34]⟩++t)++⟨#[34]⟩:z6P).data.toList=_
   rw [zY,zY]
   rfl
  have hq:z4R t.data.toList:=by
   refine⟨?_,fun c hc=> ?_⟩
   ·rw [←zU,hp] at h2
    simp at h2
    rw [zU]
    omega
   ·have c1:=ht c hc
    have c2:=h3 c (by rw [hp];exact List.mem_cons_of_mem _ (List.mem_append.2 (.inl hc)))
    have d1:c.toNat≠34:=fun e=>c1 (UInt8.toNat_inj.1 e)
    have d2:c.toNat≠10:=fun e=>c2 (UInt8.toNat_inj.1 e)
    show zi (c.toNat:Int)=true
    unfold zi
    simp
    omega
  exact⟨z5m hq,by show(3:Int)≠0;decide,fun e=>absurd e (by show ¬((3:Int)=1);decide)⟩
theorem z4v:(raM ⟨#[]⟩).2=false:=rfl
theorem wd3 {s a x z:z6P}{g:Int}(h:Wo s a x 0)(h1:x.data.toList≠z67)(h2:x.size≤14)(h3: ∀c∈x.data.toList,c≠10)(k:Wo x ⟨#[]⟩ z g):g=0∧z=x:=by
 obtain⟨hs,ha,hra,n,r,st,T,hM,hb,he,hty,hv,hw,hz,hi,rfl⟩:=z1E h
 obtain⟨⟨Tx,tx⟩,k0,_⟩:=z5w (z5s (raM a).1 (z4H a) hv hi) h1 h2 h3
 obtain⟨e1,E',i',j1,j2⟩:=z4l (z2V tx.v tx.w (by rw [tx.t];exact k0) tx.p) tx.v k (by omega) (by decide) z4v
 exact⟨e1,by rw [j2,tx.e E' _ i' j1]⟩
theorem wd4 (b:Bool){x n:z6P}{h:Int}(hx:x.data.toList=(prM (zB b)).data.toList)(k:Wo (⟨#[33]⟩++x) ⟨#[]⟩ n h):h=0∧n=prM (zB !b):=by
 obtain⟨Tx,tx⟩:=z3L b
 have hv:VlE (.pr [33] Tx):=⟨.inl rfl,tx.v⟩
 have hz:tyE (.pr [33] Tx)≠0:=by
  show zg ⟨5,0,⟨#[33]⟩,-1,-1⟩ (tyE Tx) 0≠0
  rw [tx.t]
  unfold zg zo
  simp [z6D,zB]
 have hp:prE (.pr [33] Tx)=(⟨#[33]⟩++x:z6P).data.toList:=by
  show [33]++prE Tx=_
  rw [zY,tx.p,hx]
 have hsz:(⟨#[33]⟩++x:z6P).size≤600:=by
  rw [←zU,zY,hx]
  cases b<;>decide
 obtain⟨e1,E',i',j1,j2⟩:=z4l (z2V hv ⟨hz,tx.w⟩ hz hp) hv k hsz (by decide) z4v
 refine⟨e1,?_⟩
 rw [j2]
 obtain⟨m,y,f1,f2,f3,f4,f5,f6⟩:=j1
 subst f1
 obtain⟨k1,k2⟩:=j3 (raM ⟨#[]⟩).1 f2
 rw [k1,k2 _ f5]
 have e7: ∀u v,wOf (raM ⟨#[]⟩).1 y u v=jh y.text u:=fun u v=>by unfold wOf;rw [f3];rfl
 rw [e7,tx.e E' _ _ f6]
 unfold jh
 rw [z6D,f4]
 rfl
theorem z3y (s x:z6P):(((⟨#[40]⟩++s)++⟨#[41,32,61,61,32]⟩)++x:z6P).data.toList=[40]++(s.data.toList++([41,32,61,61,32]++x.data.toList)):=by
 rw [zY,zY,zY]
 simp
theorem z5U (s x:z6P):Par s (((⟨#[40]⟩++s)++⟨#[41,32,61,61,32]⟩)++x):=by
 have e:(((⟨#[40]⟩++s)++⟨#[41,32,61,61,32]⟩)++x:z6P)=(⟨#[40]⟩++s)++(⟨#[41,32,61,61,32]⟩++x):=z0d (by simp only [zY,List.append_assoc])
 rw [e]
 exact z3X s _ (by rw [z1X _ _ _ (by decide)];rfl)
theorem z6g {s x:z6P}{n:Nat}{r:Int}{st:St}{T Tx:TE}(hM:M s n 0 0 (st1 s)=some (r,st))(hb:st.bad=false)(he:st.at_=s.size)(hty:z1i st.E [])(hi:IsE st.E T r)(hv:VlE (.pa [61,61] T Tx))(hwx:WtE Tx)(hzx:tyE Tx≠0)(hx1:tyE Tx≠1)(hz:tyE (.pa [61,61] T Tx)≠0)(hp:prE Tx=x.data.toList):GR (((⟨#[40]⟩++s)++⟨#[41,32,61,61,32]⟩)++x) (.pa [61,61] T Tx):=by
 intro m q0 u hm
 have P:=z5U s x
 have hat:=z2O (((⟨#[40]⟩++s)++⟨#[41,32,61,61,32]⟩)++x)
 rw [z3y] at hat
 have hsz:(((⟨#[40]⟩++s)++⟨#[41,32,61,61,32]⟩)++x:z6P).size=s.size+6+x.size:=by
  rw [←zU,z3y]
  simp only [List.length_append,zU,List.length_cons,List.length_nil]
  omega
 generalize hT:(((⟨#[40]⟩++s)++⟨#[41,32,61,61,32]⟩)++x:z6P)=t at*
 obtain⟨_,hat⟩:=(ja _ _ _).1 hat
 obtain⟨_,hat⟩:=(ja _ _ _).1 hat
 obtain⟨w5,ax⟩:=(ja _ _ _).1 hat
 have z1:0+([40]:List UInt8).length+s.data.toList.length=s.size+1:=by rw [zU];show 0+1+s.size=s.size+1;omega
 rw [z1] at w5 ax
 obtain⟨_,c32,c61,c61',c32',_⟩:=w5
 have ax:At t (s.size+6) (prE Tx):=by rw [hp];exact ax
 have hvx:VlE Tx:=hv.2.2
 have hx32:=(jD hvx ax).1
 have sk:skip t (s.size+2) false=s.size+3:=z0O c32 (by rw [c61];decide)
 have lx:s.size+6+(prE Tx).length=t.size:=by rw [hp,zU,hsz]
 have hp40:pkS t st0=40:=P.b0
 have cm:z7 t (s.size+3) false=(s.size+6,false,⟨#[61,61]⟩):=by
  unfold z7
  rw [if_pos (by rw [c61];decide),z05 (l:=[61,61]) (a:=s.size+3) ⟨c61,c61',trivial⟩]
  show(skip t (s.size+5) false,false,_)=_
  rw [z0O c32' hx32]
 rw [P.st] at hm
 refine z01 (s:=t) (T:= .pa [61,61] T Tx) (st:=st0) (a:=t.size) (lv:=3) (tag:=0) (by omega) ?_ (fun e=>by omega) (fun _=>by rw [hp40];decide) (by omega) (z2f 0) m (q0,u) hm
 intro n3 r3 h3
 cases n3 with
 |zero=>simp [M] at h3
 |succ n3=>
  rw [M_3] at h3
  obtain⟨q,g1,g2⟩:=z6A.1 h3
  have k:=z4M P hM hb he hty hi (tag:=4) (by omega) (by rw [sk];exact z4S c61 (by decide)) n3 q g1
  rw [sk] at k
  simp only at g2
  rw [k.at_,k.bad,cm] at g2
  simp only at g2
  rw [if_neg (by decide)] at g2
  obtain⟨q2,g3,g4⟩:=z6A.1 g2
  have e9:skip t (s.size+6+(prE Tx).length) false=t.size:=by rw [lx,zx (by rw [j9];decide)]
  have k2:=z4q t Tx hvx hwx hzx 4 (by have:=z0o hzx hx1;omega) (q.2.put3 (s.size+6,false,⟨#[61,61]⟩)) rfl ax (by
   show dlm (pk t (s.size+6+(prE Tx).length) false)=true
   rw [lx,j9]
   rfl) (by
   show qt t 4 (skip t (s.size+6+(prE Tx).length) false)
   rw [e9]
   exact z2f 4) n3 q2 g3
  have k2:RdE Tx (q.2.put3 (s.size+6,false,⟨#[61,61]⟩)) t.size q2:=by
   have e10:skip t ((q.2.put3 (s.size+6,false,⟨#[61,61]⟩)).at_+(prE Tx).length) false=t.size:=e9
   rw [e10] at k2
   exact k2
  exact z3b (c:=⟨#[61,61]⟩) k k2 ⟨⟨[],by simp [St.put3]⟩,rfl,rfl,rfl⟩ rfl g4 hv hz
theorem wd5 {s a x z:z6P}{h:Int}(k0:Wo s a x 0)(h1:x.data.toList≠z67)(h2:x.size≤14)(h3: ∀c∈x.data.toList,c≠10)(h4:x.data.toList≠z1j)(h5:x.data.toList≠z0p)(k:Wo (((⟨#[40]⟩++s)++⟨#[41,32,61,61,32]⟩)++x) a z h):h=1∨(h=0∧z=prM (zB true)):=by
 obtain⟨hs,ha,hra,n,r,st,T,hM,hb,he,hty,hv,hw,hz,hi,rfl⟩:=z1E k0
 obtain⟨⟨Tx,tx⟩,n0,nb⟩:=z5w (z5s (raM a).1 (z4H a) hv hi) h1 h2 h3
 have n1:(wAt (zb (raM a).1 st.E []) r).kind≠1:=fun e=>by
  obtain⟨b,eb⟩:=nb e
  rw [eb] at h4 h5
  cases b
  ·exact h5 rfl
  ·exact h4 rfl
 have kt:=(z6p (raM a).1 hv hw hz hi).resolve_left n0
 by_cases hsz:(((⟨#[40]⟩++s)++⟨#[41,32,61,61,32]⟩)++prM (wAt (zb (raM a).1 st.E []) r):z6P).size≤600
 ·have hvp:VlE (.pa [61,61] T Tx):=⟨.inr (.inr (.inl (.inl rfl))),hv,tx.v⟩
  have hzp:tyE (.pa [61,61] T Tx)≠0:=by
   rw [tyP,tx.t,←kt]
   have e: ∀l:Int,za ⟨#[61,61]⟩ l l=zo (l !=1) 1:=fun l=>by unfold za;simp [je,z6D]
   rw [show([61,61]:List UInt8).toArray= #[61,61] from rfl,e]
   unfold zo
   rw [if_pos (by simpa using n1)]
   decide
  obtain⟨e1,E',i',j1,j2⟩:=z4l (z6g hM hb he hty hi hvp tx.w (by rw [tx.t];exact n0) (by rw [tx.t];exact n1) hzp tx.p) hvp k hsz ha hra
  refine .inr ⟨e1,?_⟩
  rw [j2]
  congr 1
  obtain⟨m,y,f1,f2,f3,f4,f5,f6,f7,f8⟩:=j1
  subst f1
  obtain⟨k1,k2⟩:=j3 (raM a).1 f2
  rw [k1,k2 _ f5,k2 _ f6]
  have e7: ∀u v,wOf (raM a).1 y u v=zt y.text u v:=fun u v=>by unfold wOf;rw [f3];rfl
  rw [e7,tx.e E' _ _ f8,z4L (raM a).1 hv f7 hi,jk f4]
  generalize wAt (zb (raM a).1 st.E []) r=O at*
  have nb0:(O.kind==0)=false:=by simpa using n0
  unfold zt zL
  simp only [z6D,nb0]
  show zB (z0a ⟨#[61,61]⟩ O O)=zB true
  unfold z0a z0V
  simp [z6D]
 ·rcases k with⟨_,_,e⟩|⟨⟨k,_⟩,_⟩
  ·exact .inl e
  ·exact absurd k hsz
theorem z5n (s a:z6P)(hs:s.size≤maxLen)(ha:a.size≤maxLen): ∃(x:z6P) (e:Int),Wo s a x e∧ ∀w,Tab w→Calls Tryd.prog 6 #[.string s,.string a] w fun r w'=>zZ x e w r w':=by
 by_cases h:s.size≤600∧a.size≤100
 ·obtain⟨n,r,st,hM,hl,hlen,hg,hE,hW⟩:=z1w s a h.1 (by omega)
  have hra:=z0M a (by omega)
  exact⟨_,_,.inr ⟨h,n,r,st,hM,hl,hg,rfl⟩,fun w ht=>z04 s a n r st w hM h.1 h.2 hlen hra.2 hra.1 hE hW ht⟩
 ·exact⟨⟨#[]⟩,1,.inl ⟨by omega,rfl,rfl⟩,fun w _=>z1u s a w hs ha (by omega)⟩
theorem z6e:True:=by
 have:= @wd1
 have:= @wd2
 have:= @wd3
 have:= @wd4
 have:= @wd5
 have:= @z5n
 trivial
theorem zI (n:Int)(w:World):Calls Tryd.prog 7 #[.int .i64 n] w fun e w'=>e= .returned (.int .i64 n)∧w'=w:=by
 go_enter Tryd.func7,Tryd.ntmps7
 go_wp2_with fail
 go_ret
 exact⟨rfl,rfl⟩
theorem jB {w:World}{g:Nat}{a b c d e f:Value}{t:TypeId}(hh:w.heap[g]?=some (.cells #[a,b,c,d,e,f] t)):
  w.cell? ⟨g,0,none⟩=some a∧w.cell? ⟨g,1,none⟩=some b∧w.cell? ⟨g,2,none⟩=some c∧w.cell? ⟨g,3,none⟩=some d∧w.cell? ⟨g,4,none⟩=some e∧w.cell? ⟨g,5,none⟩=some f:=by
 simp [World.cell?,hh]
def eL:z6P:=⟨#[49,32,43,32,50,32,42,32,51]⟩
def z1r:Int×St:=(M eL 20 0 0 (st1 eL)).getD (0,st0)
theorem z3I {α:Type}{o:Option α}{d:α}(h:o.isSome=true):o=some (o.getD d):=by cases o with|none=>cases h|some x=>rfl
theorem z3n (w:World)(ht:Tab w):Calls Tryd.prog 6 #[.string eL,.string ⟨#[]⟩] w fun e w'=>zZ ⟨#[55]⟩ 0 w e w':=by
 have hM:M eL 20 0 0 (st1 eL)=some (z1r.1,z1r.2):=z3I (d:=(0,st0)) (by decide+kernel)
 have hz:Sz z1r.2:=z6t eL (by decide) _ _ _ _ _ hM ⟨fun x h=>(by cases h),fun x h=>(by cases h),fun x h=>(by cases h),fun x h=>(by cases h)⟩
 have hl:z1r.2.E.length≤100000:=by decide+kernel
 have hra:=z0M ⟨#[]⟩ (by decide)
 have hW: ∀x∈zb (raM ⟨#[]⟩).1 z1r.2.E [],x.text.size≤100000000∧ -999999999≤x.num∧x.num≤999999999:=by
  obtain⟨f,i,e1,e2,e3⟩:=z5C eL _ _ _ _ _ hM 0 (fun _=>rfl) (fun e=>by omega)
  refine z0F (raM ⟨#[]⟩).1 hra.1 hz.1 hl fun p hp=> ?_
  have e2:i+1=z1r.2.E.length:=e2
  obtain⟨f',a',hr⟩:=e3.sub p (z6L _) (by omega)
  have:=hr.size (raM ⟨#[]⟩).1 hra.1 hz.1
  omega
 have h:=z04 eL ⟨#[]⟩ 20 z1r.1 z1r.2 w hM (by decide) (by decide) hl hra.2 hra.1 hz.1 hW ht
 rw [show woM eL ⟨#[]⟩ z1r.1 z1r.2=(⟨#[55]⟩,0) by decide+kernel] at h
 exact h
theorem z1y (w:World)(ht:Tab w):Calls Tryd.prog 4 #[] w fun e w'=>e= .returned (.bool true)∧Below w.heap.size w w':=by
 have HT:=z6 ht
 clear ht
 go_enter Tryd.func4,Tryd.ntmps4
 go_wp2_with fail
 refine(z3n _ HT.out).mono ?_
 rintro e w1 ⟨rfl,hB1⟩
 have HB1:=z6 hB1
 clear hB1
 go_wp2_with fail
 refine(zI _ _).mono ?_
 rintro e w5 ⟨rfl,rfl⟩
 go_wp2_with fail
 go_ret
 exact⟨rfl,HB1.out⟩
def z0P (x:z6P):Nat→Bool
 |0=>false
 |i+1=>z0P x i||(pk x i false==10)
theorem z3j (kk n:Int)(S A V Q y:z6P)(e f:Int)(hs1: ¬1+S.size>9223372036854775807)(hs2: ¬1+S.size+1>9223372036854775807)(he: ¬e=0)(hef:(¬f=0)∨e=2)
  (h1: ∀w,Tab w→Calls Tryd.prog 6 #[.string S,.string A] w fun r w'=>zZ ⟨#[]⟩ e w r w')
  (h2: ∀w,Tab w→Calls Tryd.prog 6 #[.string ((⟨#[40]⟩++S)++⟨#[41]⟩),.string A] w fun r w'=>zZ y f w r w') (w:World) (ht:Tab w):
  Calls Tryd.prog 5 #[.agg #[.int .i64 kk,.int .i64 n,.string S,.string A,.string V,.string Q]] w fun e w'=>e= .returned (.bool true)∧Below w.heap.size w w':=by
 have H:=z6 (z6F h1 h2)
 have HT:=z6 ht
 clear h1 h2 ht
 have heb:(e==0)=false:=by simpa using he
 have hB0:Below w.heap.size w (w.alloc (.cells #[.int .i64 kk,.int .i64 n,.string S,.string A,.string V,.string Q] 26)):=(z6O _ _).alloc (z6E _) _
 have hg0:(w.alloc (.cells #[.int .i64 kk,.int .i64 n,.string S,.string A,.string V,.string Q] 26)).heap[w.heap.size]?=some (.cells #[.int .i64 kk,.int .i64 n,.string S,.string A,.string V,.string Q] 26):=heap_alloc_new w _
 have hz0:w.heap.size<(w.alloc (.cells #[.int .i64 kk,.int .i64 n,.string S,.string A,.string V,.string Q] 26)).heap.size:=by simp
 have HB0:=z6 (z6F hB0 (z6F hg0 hz0))
 obtain⟨y0,y1,y2,y3,y4,y5⟩:=jB hg0
 clear hB0 hg0 hz0
 go_enter Tryd.func5,Tryd.ntmps5
 go_wp2_with fail
 refine(H.out.1 _ (HT.out.below HB0.out.1)).mono ?_
 rintro e' w1 ⟨rfl,hB1⟩
 obtain⟨hB00,hg0,hz0⟩:=HB0.out
 clear HB0
 have hg1:=(hB1.block _ hz0).trans hg0
 have hB01:Below w.heap.size w w1:=hB00.trans (hB1.mono (Nat.le_of_lt hz0))
 have hz1:w.heap.size<w1.heap.size:=z6K hz0 hB1.size
 clear y0 y1 y2 y3 y4 y5
 obtain⟨y0,y1,y2,y3,y4,y5⟩:=jB hg1
 have HB1:=z6 (z6F hB01 (z6F hg1 hz1))
 clear hB1 hB00 hg0 hz0 hB01 hg1 hz1
 go_wp2_with fail
 refine(H.out.2 _ (HT.out.below HB1.out.1)).mono ?_
 rintro e' w2 ⟨rfl,hB2⟩
 obtain⟨hB01,hg1,hz1⟩:=HB1.out
 clear HB1
 have hg2:=(hB2.block _ hz1).trans hg1
 have hB02:Below w.heap.size w w2:=hB01.trans (hB2.mono (Nat.le_of_lt hz1))
 have hz2:w.heap.size<w2.heap.size:=z6K hz1 hB2.size
 clear y0 y1 y2 y3 y4 y5
 obtain⟨y0,y1,y2,y3,y4,y5⟩:=jB hg2
 have HB2:=z6 (z6F hB02 (z6F hg2 hz2))
 clear hB2 hB01 hg1 hz1 hB02 hg2 hz2
 go_wp2_with fail
 refine(zI _ _).mono ?_
 rintro e' wn ⟨rfl,rfl⟩
 go_wp2_with fail
 by_cases hf:f=0
 ·obtain rfl:=hef.resolve_left (fun h=>h hf)
  subst hf
  refine(zI _ _).mono ?_
  rintro e' wn ⟨rfl,rfl⟩
  go_wp2_with fail
  refine(zI _ _).mono ?_
  rintro e' wn ⟨rfl,rfl⟩
  go_wp2_with fail
  go_ret
  exact⟨rfl,HB2.out.1⟩
 ·have hfb:(f==0)=false:=by simpa using hf
  clear hef
  refine(zI _ _).mono ?_
  rintro e' wn ⟨rfl,rfl⟩
  go_wp2_with fail
  go_ret
  exact⟨rfl,HB2.out.1⟩
theorem z2D (kk n:Int)(S A V Q x y:z6P)(hs1: ¬1+S.size>9223372036854775807)(hs2: ¬1+S.size+1>9223372036854775807)
  (h1: ∀w,Tab w→Calls Tryd.prog 6 #[.string S,.string A] w fun r w'=>zZ x 0 w r w')
  (h2: ∀w,Tab w→Calls Tryd.prog 6 #[.string ((⟨#[40]⟩++S)++⟨#[41]⟩),.string A] w fun r w'=>zZ y 1 w r w') (w:World) (ht:Tab w):
  Calls Tryd.prog 5 #[.agg #[.int .i64 kk,.int .i64 n,.string S,.string A,.string V,.string Q]] w fun e w'=>e= .returned (.bool true)∧Below w.heap.size w w':=by
 have H:=z6 (z6F h1 h2)
 have HT:=z6 ht
 clear h1 h2 ht
 have hB0:Below w.heap.size w (w.alloc (.cells #[.int .i64 kk,.int .i64 n,.string S,.string A,.string V,.string Q] 26)):=(z6O _ _).alloc (z6E _) _
 have hg0:(w.alloc (.cells #[.int .i64 kk,.int .i64 n,.string S,.string A,.string V,.string Q] 26)).heap[w.heap.size]?=some (.cells #[.int .i64 kk,.int .i64 n,.string S,.string A,.string V,.string Q] 26):=heap_alloc_new w _
 have hz0:w.heap.size<(w.alloc (.cells #[.int .i64 kk,.int .i64 n,.string S,.string A,.string V,.string Q] 26)).heap.size:=by simp
 have HB0:=z6 (z6F hB0 (z6F hg0 hz0))
 obtain⟨y0,y1,y2,y3,y4,y5⟩:=jB hg0
 clear hB0 hg0 hz0
 go_enter Tryd.func5,Tryd.ntmps5
 go_wp2_with fail
 refine(H.out.1 _ (HT.out.below HB0.out.1)).mono ?_
 rintro e' w1 ⟨rfl,hB1⟩
 obtain⟨hB00,hg0,hz0⟩:=HB0.out
 clear HB0
 have hg1:=(hB1.block _ hz0).trans hg0
 have hB01:Below w.heap.size w w1:=hB00.trans (hB1.mono (Nat.le_of_lt hz0))
 have hz1:w.heap.size<w1.heap.size:=z6K hz0 hB1.size
 clear y0 y1 y2 y3 y4 y5
 obtain⟨y0,y1,y2,y3,y4,y5⟩:=jB hg1
 have HB1:=z6 (z6F hB01 (z6F hg1 hz1))
 clear hB1 hB00 hg0 hz0 hB01 hg1 hz1
 go_wp2_with fail
 refine(H.out.2 _ (HT.out.below HB1.out.1)).mono ?_
 rintro e' w2 ⟨rfl,hB2⟩
 obtain⟨hB01,hg1,hz1⟩:=HB1.out
 clear HB1
 have hg2:=(hB2.block _ hz1).trans hg1
 have hB02:Below w.heap.size w w2:=hB01.trans (hB2.mono (Nat.le_of_lt hz1))
 have hz2:w.heap.size<w2.heap.size:=z6K hz1 hB2.size
 clear y0 y1 y2 y3 y4 y5
 obtain⟨y0,y1,y2,y3,y4,y5⟩:=jB hg2
 have HB2:=z6 (z6F hB02 (z6F hg2 hz2))
 clear hB2 hB01 hg1 hz1 hB02 hg2 hz2
 go_wp2_with fail
 refine(zI _ _).mono ?_
 rintro e' wn ⟨rfl,rfl⟩
 go_wp2_with fail
 refine(zI _ _).mono ?_
 rintro e' wn ⟨rfl,rfl⟩
 go_wp2_with fail
 refine(zI _ _).mono ?_
 rintro e' wn ⟨rfl,rfl⟩
 go_wp2_with fail
 go_ret
 exact⟨rfl,HB2.out.1⟩
theorem z2w (kk n:Int)(S A V Q x:z6P)(hx9:x.size≤9000000000)(hxp:x.toList.isEmpty=false)(hs1: ¬1+S.size>9223372036854775807)(hs2: ¬1+S.size+1>9223372036854775807)(hst:(x.toList==[101,114,114,111,114])=true∨(14:Int)<x.size∨z0P x x.size=true)
  (h1: ∀w,Tab w→Calls Tryd.prog 6 #[.string S,.string A] w fun r w'=>zZ x 0 w r w')
  (h2: ∀w,Tab w→Calls Tryd.prog 6 #[.string ((⟨#[40]⟩++S)++⟨#[41]⟩),.string A] w fun r w'=>zZ x 0 w r w') (w:World) (ht:Tab w):
  Calls Tryd.prog 5 #[.agg #[.int .i64 kk,.int .i64 n,.string S,.string A,.string V,.string Q]] w fun e w'=>e= .returned (.bool true)∧Below w.heap.size w w':=by
 have H:=z6 (z6F h1 h2)
 have HT:=z6 ht
 clear h1 h2 ht
 have hB0:Below w.heap.size w (w.alloc (.cells #[.int .i64 kk,.int .i64 n,.string S,.string A,.string V,.string Q] 26)):=(z6O _ _).alloc (z6E _) _
 have hg0:(w.alloc (.cells #[.int .i64 kk,.int .i64 n,.string S,.string A,.string V,.string Q] 26)).heap[w.heap.size]?=some (.cells #[.int .i64 kk,.int .i64 n,.string S,.string A,.string V,.string Q] 26):=heap_alloc_new w _
 have hz0:w.heap.size<(w.alloc (.cells #[.int .i64 kk,.int .i64 n,.string S,.string A,.string V,.string Q] 26)).heap.size:=by simp
 have HB0:=z6 (z6F hB0 (z6F hg0 hz0))
 obtain⟨y0,y1,y2,y3,y4,y5⟩:=jB hg0
 clear hB0 hg0 hz0
 go_enter Tryd.func5,Tryd.ntmps5
 go_wp2_with fail
 refine(H.out.1 _ (HT.out.below HB0.out.1)).mono ?_
 rintro e' w1 ⟨rfl,hB1⟩
 obtain⟨hB00,hg0,hz0⟩:=HB0.out
 clear HB0
 have hg1:=(hB1.block _ hz0).trans hg0
 have hB01:Below w.heap.size w w1:=hB00.trans (hB1.mono (Nat.le_of_lt hz0))
 have hz1:w.heap.size<w1.heap.size:=z6K hz0 hB1.size
 clear y0 y1 y2 y3 y4 y5
 obtain⟨y0,y1,y2,y3,y4,y5⟩:=jB hg1
 have HB1:=z6 (z6F hB01 (z6F hg1 hz1))
 clear hB1 hB00 hg0 hz0 hB01 hg1 hz1
 go_wp2_with fail
 refine(H.out.2 _ (HT.out.below HB1.out.1)).mono ?_
 rintro e' w2 ⟨rfl,hB2⟩
 obtain⟨hB01,hg1,hz1⟩:=HB1.out
 clear HB1
 have hg2:=(hB2.block _ hz1).trans hg1
 have hB02:Below w.heap.size w w2:=hB01.trans (hB2.mono (Nat.le_of_lt hz1))
 have hz2:w.heap.size<w2.heap.size:=z6K hz1 hB2.size
 clear y0 y1 y2 y3 y4 y5
 obtain⟨y0,y1,y2,y3,y4,y5⟩:=jB hg2
 have HB2:=z6 (z6F hB02 (z6F hg2 hz2))
 clear hB2 hB01 hg1 hz1 hB02 hg2 hz2
 go_wp2_with fail
 refine(zI _ _).mono ?_
 rintro e' wn ⟨rfl,rfl⟩
 go_wp2_with fail
 refine(zI _ _).mono ?_
 rintro e' wn ⟨rfl,rfl⟩
 go_wp2_with fail
 go_loopg [7,8] (x.size+1) (fun g fv iv wr=> ∃i:Nat,g+i=x.size+1∧i≤x.size∧iv= .int .i64 i∧fv= .bool (z0P x i)∧wr=wn)
 case atStart=>exact⟨0,rfl,z6L _,rfl,rfl,rfl⟩
 case round=>
  obtain⟨i,hgk,hil,rfl,rfl,rfl⟩:=hrel
  have HGK:=z6 hgk
  clear hgk
  by_cases hlt:i<x.size
  ·have hli:(i:Int)<x.size:=by omega
   have HN:Hid (z0P x (i+1)=(z0P x i||((x[i].toNat:Int)==10))):=z6 (by show(z0P x i||(pk x i false==10))=_;rw [zT hlt])
   cases hq:z0P x i
   ·rw [hq] at HN
    go_wp2_with fail
    go_roundg (x.size - i)
    case measure=>have:=HGK.out;omega
    case rel=>exact⟨i+1,by have:=HGK.out;omega,by omega,by go_num,by rw [HN.out];rfl,rfl⟩
   ·rw [hq] at HN
    go_wp2_with fail
    go_roundg (x.size - i)
    case measure=>have:=HGK.out;omega
    case rel=>exact⟨i+1,by have:=HGK.out;omega,by omega,by go_num,by rw [HN.out];rfl,rfl⟩
  ·have hli: ¬(i:Int)<x.size:=by omega
   obtain rfl:i=x.size:=by omega
   clear hli hlt hil HGK
   cases hb:(x.toList==[101,114,114,111,114])
   ·rcases hst with h|h|h
    ·rw [hb] at h;cases h
    ·go_wp2_with fail
     go_ret
     exact⟨rfl,HB2.out.1⟩
    ·by_cases h14:(14:Int)<x.size
     ·go_wp2_with fail
      go_ret
      exact⟨rfl,HB2.out.1⟩
     ·rw [h]
      go_wp2_with fail
      go_ret
      exact⟨rfl,HB2.out.1⟩
   ·go_wp2_with fail
    go_ret
    exact⟨rfl,HB2.out.1⟩
theorem z18 (kk n:Int)(S A V Q x y:z6P)(hxp:x.toList.isEmpty=false)(hs1: ¬1+S.size>9223372036854775807)(hs2: ¬1+S.size+1>9223372036854775807)(hxe:(x.toList==[101,114,114,111,114])=false)(hx14: ¬(14:Int)<x.size)(hxn:z0P x x.size=false)(hs3: ¬1+x.size>9223372036854775807)(bt:Bool)(hxt:(x.toList==[116,114,117,101])=bt)(hxf:(x.toList==[102,97,108,115,101])= !bt)(hyx:(y.toList==x.toList)=false)(hyt:(y.toList==[116,114,117,101])= !bt)(hyf:(y.toList==[102,97,108,115,101])=bt)
  (h1: ∀w,Tab w→Calls Tryd.prog 6 #[.string S,.string A] w fun r w'=>zZ x 0 w r w')
  (h2: ∀w,Tab w→Calls Tryd.prog 6 #[.string ((⟨#[40]⟩++S)++⟨#[41]⟩),.string A] w fun r w'=>zZ x 0 w r w')
  (h3: ∀w,Tab w→Calls Tryd.prog 6 #[.string x,.string ⟨#[]⟩] w fun r w'=>zZ x 0 w r w')
  (h4: ∀w,Tab w→Calls Tryd.prog 6 #[.string (⟨#[33]⟩++x),.string ⟨#[]⟩] w fun r w'=>zZ y 0 w r w') (w:World) (ht:Tab w):
  Calls Tryd.prog 5 #[.agg #[.int .i64 kk,.int .i64 n,.string S,.string A,.string V,.string Q]] w fun e w'=>e= .returned (.bool true)∧Below w.heap.size w w':=by
 have H:=z6 (z6F h1 (z6F h2 (z6F h3 h4)))
 have HT:=z6 ht
 clear h1 h2 h3 h4 ht
 have hB0:Below w.heap.size w (w.alloc (.cells #[.int .i64 kk,.int .i64 n,.string S,.string A,.string V,.string Q] 26)):=(z6O _ _).alloc (z6E _) _
 have hg0:(w.alloc (.cells #[.int .i64 kk,.int .i64 n,.string S,.string A,.string V,.string Q] 26)).heap[w.heap.size]?=some (.cells #[.int .i64 kk,.int .i64 n,.string S,.string A,.string V,.string Q] 26):=heap_alloc_new w _
 have hz0:w.heap.size<(w.alloc (.cells #[.int .i64 kk,.int .i64 n,.string S,.string A,.string V,.string Q] 26)).heap.size:=by simp
 have HB0:=z6 (z6F hB0 (z6F hg0 hz0))
 obtain⟨y0,y1,y2,y3,y4,y5⟩:=jB hg0
 clear hB0 hg0 hz0
 go_enter Tryd.func5,Tryd.ntmps5
 go_wp2_with fail
 refine(H.out.1 _ (HT.out.below HB0.out.1)).mono ?_
 rintro e' w1 ⟨rfl,hB1⟩
 obtain⟨hB00,hg0,hz0⟩:=HB0.out
 clear HB0
 have hg1:=(hB1.block _ hz0).trans hg0
 have hB01:Below w.heap.size w w1:=hB00.trans (hB1.mono (Nat.le_of_lt hz0))
 have hz1:w.heap.size<w1.heap.size:=z6K hz0 hB1.size
 clear y0 y1 y2 y3 y4 y5
 obtain⟨y0,y1,y2,y3,y4,y5⟩:=jB hg1
 have HB1:=z6 (z6F hB01 (z6F hg1 hz1))
 clear hB1 hB00 hg0 hz0 hB01 hg1 hz1
 go_wp2_with fail
 refine(H.out.2.1 _ (HT.out.below HB1.out.1)).mono ?_
 rintro e' w2 ⟨rfl,hB2⟩
 obtain⟨hB01,hg1,hz1⟩:=HB1.out
 clear HB1
 have hg2:=(hB2.block _ hz1).trans hg1
 have hB02:Below w.heap.size w w2:=hB01.trans (hB2.mono (Nat.le_of_lt hz1))
 have hz2:w.heap.size<w2.heap.size:=z6K hz1 hB2.size
 clear y0 y1 y2 y3 y4 y5
 obtain⟨y0,y1,y2,y3,y4,y5⟩:=jB hg2
 have HB2:=z6 (z6F hB02 (z6F hg2 hz2))
 clear hB2 hB01 hg1 hz1 hB02 hg2 hz2
 go_wp2_with fail
 refine(zI _ _).mono ?_
 rintro e' wn ⟨rfl,rfl⟩
 go_wp2_with fail
 refine(zI _ _).mono ?_
 rintro e' wn ⟨rfl,rfl⟩
 go_wp2_with fail
 go_loopg [7,8] (x.size+1) (fun g fv iv wr=> ∃i:Nat,g+i=x.size+1∧i≤x.size∧iv= .int .i64 i∧fv= .bool (z0P x i)∧wr=wn)
 case atStart=>exact⟨0,rfl,z6L _,rfl,rfl,rfl⟩
 case round=>
  obtain⟨i,hgk,hil,rfl,rfl,rfl⟩:=hrel
  have HGK:=z6 hgk
  clear hgk
  by_cases hlt:i<x.size
  ·have hli:(i:Int)<x.size:=by omega
   have HN:Hid (z0P x (i+1)=(z0P x i||((x[i].toNat:Int)==10))):=z6 (by show(z0P x i||(pk x i false==10))=_;rw [zT hlt])
   cases hq:z0P x i
   ·rw [hq] at HN
    go_wp2_with fail
    go_roundg (x.size - i)
    case measure=>have:=HGK.out;omega
    case rel=>exact⟨i+1,by have:=HGK.out;omega,by omega,by go_num,by rw [HN.out];rfl,rfl⟩
   ·rw [hq] at HN
    go_wp2_with fail
    go_roundg (x.size - i)
    case measure=>have:=HGK.out;omega
    case rel=>exact⟨i+1,by have:=HGK.out;omega,by omega,by go_num,by rw [HN.out];rfl,rfl⟩
  ·have hli: ¬(i:Int)<x.size:=by omega
   obtain rfl:i=x.size:=by omega
   clear hli hlt hil HGK
   rw [hxn]
   go_wp2_with fail
   refine(H.out.2.2.1 _ (HT.out.below HB2.out.1)).mono ?_
   rintro e' w3 ⟨rfl,hB3⟩
   obtain⟨hB02,hg2,hz2⟩:=HB2.out
   clear HB2
   have hg3:=(hB3.block _ hz2).trans hg2
   have hB03:Below w.heap.size w w3:=hB02.trans (hB3.mono (Nat.le_of_lt hz2))
   have hz3:w.heap.size<w3.heap.size:=z6K hz2 hB3.size
   clear y0 y1 y2 y3 y4 y5
   obtain⟨y0,y1,y2,y3,y4,y5⟩:=jB hg3
   have HB3:=z6 (z6F hB03 (z6F hg3 hz3))
   clear hB3 hB02 hg2 hz2 hB03 hg3 hz3
   go_wp2_with fail
   cases bt
   all_goals
    refine(zI _ _).mono ?_
    rintro e' wn ⟨rfl,rfl⟩
    go_wp2_with fail
    refine(H.out.2.2.2 _ (HT.out.below HB3.out.1)).mono ?_
    rintro e' w4 ⟨rfl,hB4⟩
    obtain⟨hB03,hg3,hz3⟩:=HB3.out
    clear HB3
    have hg4:=(hB4.block _ hz3).trans hg3
    have hB04:Below w.heap.size w w4:=hB03.trans (hB4.mono (Nat.le_of_lt hz3))
    have hz4:w.heap.size<w4.heap.size:=z6K hz3 hB4.size
    clear y0 y1 y2 y3 y4 y5
    obtain⟨y0,y1,y2,y3,y4,y5⟩:=jB hg4
    have HB4:=z6 (z6F hB04 (z6F hg4 hz4))
    clear hB4 hB03 hg3 hz3 hB04 hg4 hz4
    go_wp2_with fail
    refine(zI _ _).mono ?_
    rintro e' wn ⟨rfl,rfl⟩
    go_wp2_with fail
    go_ret
    exact⟨rfl,HB4.out.1⟩
theorem z3D (kk n:Int)(S A V Q x y:z6P)(h:Int)(hxp:x.toList.isEmpty=false)(hs1: ¬1+S.size>9223372036854775807)(hs2: ¬1+S.size+1>9223372036854775807)(hxe:(x.toList==[101,114,114,111,114])=false)(hx14: ¬(14:Int)<x.size)(hxn:z0P x x.size=false)(hs3: ¬1+S.size+5>9223372036854775807)(hs4: ¬1+S.size+5+x.size>9223372036854775807)(hxt:(x.toList==[116,114,117,101])=false)(hxf:(x.toList==[102,97,108,115,101])=false)(hh:h=1∨(h=0∧(y.toList==[116,114,117,101])=true))
  (h1: ∀w,Tab w→Calls Tryd.prog 6 #[.string S,.string A] w fun r w'=>zZ x 0 w r w')
  (h2: ∀w,Tab w→Calls Tryd.prog 6 #[.string ((⟨#[40]⟩++S)++⟨#[41]⟩),.string A] w fun r w'=>zZ x 0 w r w')
  (h3: ∀w,Tab w→Calls Tryd.prog 6 #[.string x,.string ⟨#[]⟩] w fun r w'=>zZ x 0 w r w')
  (h4: ∀w,Tab w→Calls Tryd.prog 6 #[.string (((⟨#[40]⟩++S)++⟨#[41,32,61,61,32]⟩)++x),.string A] w fun r w'=>zZ y h w r w') (w:World) (ht:Tab w):
  Calls Tryd.prog 5 #[.agg #[.int .i64 kk,.int .i64 n,.string S,.string A,.string V,.string Q]] w fun e w'=>e= .returned (.bool true)∧Below w.heap.size w w':=by
 have H:=z6 (z6F h1 (z6F h2 (z6F h3 h4)))
 have HT:=z6 ht
 clear h1 h2 h3 h4 ht
 have hB0:Below w.heap.size w (w.alloc (.cells #[.int .i64 kk,.int .i64 n,.string S,.string A,.string V,.string Q] 26)):=(z6O _ _).alloc (z6E _) _
 have hg0:(w.alloc (.cells #[.int .i64 kk,.int .i64 n,.string S,.string A,.string V,.string Q] 26)).heap[w.heap.size]?=some (.cells #[.int .i64 kk,.int .i64 n,.string S,.string A,.string V,.string Q] 26):=heap_alloc_new w _
 have hz0:w.heap.size<(w.alloc (.cells #[.int .i64 kk,.int .i64 n,.string S,.string A,.string V,.string Q] 26)).heap.size:=by simp
 have HB0:=z6 (z6F hB0 (z6F hg0 hz0))
 obtain⟨y0,y1,y2,y3,y4,y5⟩:=jB hg0
 clear hB0 hg0 hz0
 go_enter Tryd.func5,Tryd.ntmps5
 go_wp2_with fail
 refine(H.out.1 _ (HT.out.below HB0.out.1)).mono ?_
 rintro e' w1 ⟨rfl,hB1⟩
 obtain⟨hB00,hg0,hz0⟩:=HB0.out
 clear HB0
 have hg1:=(hB1.block _ hz0).trans hg0
 have hB01:Below w.heap.size w w1:=hB00.trans (hB1.mono (Nat.le_of_lt hz0))
 have hz1:w.heap.size<w1.heap.size:=z6K hz0 hB1.size
 clear y0 y1 y2 y3 y4 y5
 obtain⟨y0,y1,y2,y3,y4,y5⟩:=jB hg1
 have HB1:=z6 (z6F hB01 (z6F hg1 hz1))
 clear hB1 hB00 hg0 hz0 hB01 hg1 hz1
 go_wp2_with fail
 refine(H.out.2.1 _ (HT.out.below HB1.out.1)).mono ?_
 rintro e' w2 ⟨rfl,hB2⟩
 obtain⟨hB01,hg1,hz1⟩:=HB1.out
 clear HB1
 have hg2:=(hB2.block _ hz1).trans hg1
 have hB02:Below w.heap.size w w2:=hB01.trans (hB2.mono (Nat.le_of_lt hz1))
 have hz2:w.heap.size<w2.heap.size:=z6K hz1 hB2.size
 clear y0 y1 y2 y3 y4 y5
 obtain⟨y0,y1,y2,y3,y4,y5⟩:=jB hg2
 have HB2:=z6 (z6F hB02 (z6F hg2 hz2))
 clear hB2 hB01 hg1 hz1 hB02 hg2 hz2
 go_wp2_with fail
 refine(zI _ _).mono ?_
 rintro e' wn ⟨rfl,rfl⟩
 go_wp2_with fail
 refine(zI _ _).mono ?_
 rintro e' wn ⟨rfl,rfl⟩
 go_wp2_with fail
 go_loopg [7,8] (x.size+1) (fun g fv iv wr=> ∃i:Nat,g+i=x.size+1∧i≤x.size∧iv= .int .i64 i∧fv= .bool (z0P x i)∧wr=wn)
 case atStart=>exact⟨0,rfl,z6L _,rfl,rfl,rfl⟩
 case round=>
  obtain⟨i,hgk,hil,rfl,rfl,rfl⟩:=hrel
  have HGK:=z6 hgk
  clear hgk
  by_cases hlt:i<x.size
  ·have hli:(i:Int)<x.size:=by omega
   have HN:Hid (z0P x (i+1)=(z0P x i||((x[i].toNat:Int)==10))):=z6 (by show(z0P x i||(pk x i false==10))=_;rw [zT hlt])
   cases hq:z0P x i
   ·rw [hq] at HN
    go_wp2_with fail
    go_roundg (x.size - i)
    case measure=>have:=HGK.out;omega
    case rel=>exact⟨i+1,by have:=HGK.out;omega,by omega,by go_num,by rw [HN.out];rfl,rfl⟩
   ·rw [hq] at HN
    go_wp2_with fail
    go_roundg (x.size - i)
    case measure=>have:=HGK.out;omega
    case rel=>exact⟨i+1,by have:=HGK.out;omega,by omega,by go_num,by rw [HN.out];rfl,rfl⟩
  ·have hli: ¬(i:Int)<x.size:=by omega
   obtain rfl:i=x.size:=by omega
   clear hli hlt hil HGK
   rw [hxn]
   go_wp2_with fail
   refine(H.out.2.2.1 _ (HT.out.below HB2.out.1)).mono ?_
   rintro e' w3 ⟨rfl,hB3⟩
   obtain⟨hB02,hg2,hz2⟩:=HB2.out
   clear HB2
   have hg3:=(hB3.block _ hz2).trans hg2
   have hB03:Below w.heap.size w w3:=hB02.trans (hB3.mono (Nat.le_of_lt hz2))
   have hz3:w.heap.size<w3.heap.size:=z6K hz2 hB3.size
   clear y0 y1 y2 y3 y4 y5
   obtain⟨y0,y1,y2,y3,y4,y5⟩:=jB hg3
   have HB3:=z6 (z6F hB03 (z6F hg3 hz3))
   clear hB3 hB02 hg2 hz2 hB03 hg3 hz3
   go_wp2_with fail
   refine(zI _ _).mono ?_
   rintro e' wn ⟨rfl,rfl⟩
   go_wp2_with fail
   refine(H.out.2.2.2 _ (HT.out.below HB3.out.1)).mono ?_
   rintro e' w4 ⟨rfl,hB4⟩
   obtain⟨hB03,hg3,hz3⟩:=HB3.out
   clear HB3
   have hg4:=(hB4.block _ hz3).trans hg3
   have hB04:Below w.heap.size w w4:=hB03.trans (hB4.mono (Nat.le_of_lt hz3))
   have hz4:w.heap.size<w4.heap.size:=z6K hz3 hB4.size
   clear y0 y1 y2 y3 y4 y5
   obtain⟨y0,y1,y2,y3,y4,y5⟩:=jB hg4
   have HB4:=z6 (z6F hB04 (z6F hg4 hz4))
   clear hB4 hB03 hg3 hz3 hB04 hg4 hz4
   go_wp2_with fail
   rcases hh with rfl|⟨rfl,hy⟩
   ·refine(zI _ _).mono ?_
    rintro e' wn ⟨rfl,rfl⟩
    go_wp2_with fail
    go_ret
    exact⟨rfl,HB4.out.1⟩
   ·refine(zI _ _).mono ?_
    rintro e' wn ⟨rfl,rfl⟩
    go_wp2_with fail
    refine(zI _ _).mono ?_
    rintro e' wn ⟨rfl,rfl⟩
    go_wp2_with fail
    go_ret
    exact⟨rfl,HB4.out.1⟩
theorem z4d {n:Int}(h1: -999999999≤n)(h2:n≤999999999):(Lib.itoa n).length≤10:=by
 by_cases h:0≤n
 ·rw [jS h];have:=z2H 8 n.toNat (by omega);omega
 ·rw [z1R (by omega),jS (by omega)];have:=z2H 8 (-n).toNat (by omega);simp;omega
theorem z4g {O:Wt}(h:O.text.size≤100000000∧ -999999999≤O.num∧O.num≤999999999):(prM O).size≤200000000:=by
 unfold prM
 repeat' split
 ·decide
 ·decide
 ·have:=z4d h.2.1 h.2.2
  rw [←zU]
  show(Lib.itoa O.num).toArray.toList.length≤200000000
  simp
  omega
 ·rw [ByteArray.size_append,ByteArray.size_append]
  show 1+O.text.size+1≤200000000
  omega
 ·decide
theorem z0Z (s a:z6P)(hs:s.size≤maxLen)(ha:a.size≤maxLen): ∃(x:z6P) (e:Int),Wo s a x e∧x.size≤200000000∧ ∀w,Tab w→Calls Tryd.prog 6 #[.string s,.string a] w fun r w'=>zZ x e w r w':=by
 by_cases h:s.size≤600∧a.size≤100
 ·obtain⟨n,r,st,hM,hl,hlen,hg,hE,hW⟩:=z1w s a h.1 (by omega)
  have hra:=z0M a (by omega)
  refine⟨(woM s a r st).1,(woM s a r st).2,.inr ⟨h,n,r,st,hM,hl,hg,rfl⟩,?_,fun w ht=>z04 s a n r st w hM h.1 h.2 hlen hra.2 hra.1 hE hW ht⟩
  unfold woM
  repeat' split
  ·decide
  ·decide
  ·decide
  ·refine z4g ?_
   rcases z21 (zb (raM a).1 st.E []) r with q|q
   ·rw [q];decide
   ·exact hW _ q
 ·exact⟨⟨#[]⟩,1,.inl ⟨by omega,rfl,rfl⟩,by decide,fun w _=>z1u s a w hs ha (by omega)⟩
theorem z5d {x:z6P}: ∀i,z0P x i=false→ ∀j,j<i→pk x j false≠10:=by
 intro i
 induction i with
 |zero=>intro _ j hj;omega
 |succ i ih=>
  intro h j hj
  have h:(z0P x i||(pk x i false==10))=false:=h
  simp only [Bool.or_eq_false_iff,beq_eq_false_iff_ne] at h
  by_cases e:j=i
  ·subst e;exact h.2
  ·exact ih h.1 j (by omega)
theorem z6i {x:z6P}(h:z0P x x.size=false): ∀c∈x.data.toList,c≠10:=by
 intro c hc e
 obtain⟨j,hj⟩:=List.mem_iff_getElem?.1 hc
 have hl:=(z6C.1 hj).1
 have hs:j<x.size:=by simpa using hl
 refine z5d x.size h j hs ?_
 rw [zT hs]
 have e2:x.data.toList[j]?=some x[j]:=by
  rw [z6B hl]
  rfl
 rw [e2] at hj
 rw [Option.some.inj hj,e]
 rfl
theorem z3e (kk n:Int)(S A V Q:z6P)(hS:S.size≤140737488355328)(hA:A.size≤maxLen)(w:World)(ht:Tab w):
  Calls Tryd.prog 5 #[.agg #[.int .i64 kk,.int .i64 n,.string S,.string A,.string V,.string Q]] w fun e w'=>e= .returned (.bool true)∧Below w.heap.size w w':=by
 have hm:(140737488355328:Nat)+1000000000≤maxLen:=by unfold maxLen;omega
 have hps:=jU S
 obtain⟨x,e,o1,b1,c1⟩:=z0Z S A (by omega) hA
 obtain⟨y,f,o2,b2,c2⟩:=z0Z ((⟨#[40]⟩++S)++⟨#[41]⟩) A (by omega) hA
 by_cases he:e=0
 ·subst he
  obtain⟨hf,hx0⟩:=wd2 o1 o2
  rcases hf with rfl|⟨rfl,rfl⟩
  ·exact z2D kk n S A V Q x y (by omega) (by omega) c1 c2 w ht
  ·have hxp:y.toList.isEmpty=false:=by rw [z0z];simpa using Nat.ne_of_gt hx0
   have tl:y.toList=y.data.toList:=z6D y
   by_cases hst:(y.toList==[101,114,114,111,114])=true∨(14:Int)<y.size∨z0P y y.size=true
   ·exact z2w kk n S A V Q y (by omega) hxp (by omega) (by omega) hst c1 c2 w ht
   ·simp only [not_or] at hst
    obtain⟨g1,g2,g3⟩:=hst
    have g1':(y.toList==[101,114,114,111,114])=false:=by simpa using g1
    have g3':z0P y y.size=false:=by simpa using g3
    have k1:y.data.toList≠z67:=fun e=>g1 (by rw [tl,e];rfl)
    have k2:y.size≤14:=by omega
    have k3:=z6i g3'
    obtain⟨z,g,o3,_,c3⟩:=z0Z y ⟨#[]⟩ (by omega) (z6L _)
    obtain⟨rfl,rfl⟩:=wd3 o1 k1 k2 k3 o3
    by_cases hb: ∃b,z.data.toList=(prM (zB b)).data.toList
    ·obtain⟨b,hb⟩:=hb
     have hsz:(⟨#[33]⟩++z:z6P).size≤maxLen:=by rw [ByteArray.size_append];show 1+z.size≤maxLen;omega
     obtain⟨v,h,o4,_,c4⟩:=z0Z (⟨#[33]⟩++z) ⟨#[]⟩ hsz (z6L _)
     obtain⟨rfl,rfl⟩:=wd4 b hb o4
     obtain rfl:=z0d hb
     cases b
     ·exact z18 kk n S A V Q _ _ hxp (by omega) (by omega) g1' g2 g3' (by omega) false (by decide+kernel) (by decide+kernel) (by decide+kernel) (by decide+kernel) (by decide+kernel) c1 c2 c3 c4 w ht
     ·exact z18 kk n S A V Q _ _ hxp (by omega) (by omega) g1' g2 g3' (by omega) true (by decide+kernel) (by decide+kernel) (by decide+kernel) (by decide+kernel) (by decide+kernel) c1 c2 c3 c4 w ht
    ·have n1:z.data.toList≠z1j:=fun e=>hb ⟨true,e⟩
     have n2:z.data.toList≠z0p:=fun e=>hb ⟨false,e⟩
     have hsz:(((⟨#[40]⟩++S)++⟨#[41,32,61,61,32]⟩)++z:z6P).size≤maxLen:=by
      rw [ByteArray.size_append,ByteArray.size_append,ByteArray.size_append]
      show 1+S.size+5+z.size≤maxLen
      omega
     obtain⟨v,h,o4,_,c4⟩:=z0Z _ A hsz hA
     have hh:=wd5 o1 k1 k2 k3 n1 n2 o4
     refine z3D kk n S A V Q z v h hxp (by omega) (by omega) g1' g2 g3' (by omega) (by omega) ?_ ?_ ?_ c1 c2 c3 c4 w ht
     ·rw [tl];simpa [z1j] using n1
     ·rw [tl];simpa [z0p] using n2
     ·rcases hh with e|⟨e1,rfl⟩
      ·exact .inl e
      ·exact .inr ⟨e1,by decide+kernel⟩
 ·obtain⟨rfl,hef⟩:=wd1 o1 o2 he
  exact z3j kk n S A V Q y e f (by omega) (by omega) he hef c1 c2 w ht
structure Ops (w:World)(b off len:Nat)(K N:Nat→Int)(S A V Q:Nat→z6P):Prop where
 lt:0<len→b<w.heap.size
 c0: ∀i,i<len→w.cell? ⟨b,off+i*6,none⟩=some (.int .i64 (K i))
 c1: ∀i,i<len→w.cell? ⟨b,off+i*6+1,none⟩=some (.int .i64 (N i))
 c2: ∀i,i<len→w.cell? ⟨b,off+i*6+2,none⟩=some (.string (S i))
 c3: ∀i,i<len→w.cell? ⟨b,off+i*6+3,none⟩=some (.string (A i))
 c4: ∀i,i<len→w.cell? ⟨b,off+i*6+4,none⟩=some (.string (V i))
 c5: ∀i,i<len→w.cell? ⟨b,off+i*6+5,none⟩=some (.string (Q i))
theorem z2t (b off len cap:Nat)(K N:Nat→Int)(S A V Q:Nat→z6P)(w:World)(h:Ops w b off len K N S A V Q)(hlen:len≤maxLen)(ht:Tab w)
  (hp: ∀i wr,i<len→Below w.heap.size w wr→Calls Tryd.prog 5 #[.agg #[.int .i64 (K i),.int .i64 (N i),.string (S i),.string (A i),.string (V i),.string (Q i)]] wr fun e w'=>e= .returned (.bool true)∧Below wr.heap.size wr w'):
  Calls Tryd.prog 3 #[.slice (some ⟨b,off,none⟩) len cap] w fun e w'=>e= .returned (.bool true)∧Below w.heap.size w w':=by
 have HO:=z6 h
 have HP:=z6 hp
 have HT:=z6 ht
 clear h hp ht
 have hl63:len≤9223372036854775807:=by unfold maxLen at hlen;omega
 clear hlen
 go_enter Tryd.func3,Tryd.ntmps3
 go_wp2_with fail
 refine(z1y _ HT.out).mono ?_
 rintro e w1 ⟨rfl,hB1⟩
 have HB1:=z6 hB1
 clear hB1
 go_wp2_with fail
 go_loopg [4,5] (1152921504606846976+1) (fun g iv _ wr=> ∃i:Nat,g+i=1152921504606846976+1∧i≤1152921504606846976∧i≤len∧iv= .int .i64 i∧Below w.heap.size w wr)
 case atStart=>exact⟨0,rfl,z6L _,z6L _,rfl,HB1.out⟩
 case round=>
  obtain⟨i,hgk,hi60,hil,rfl,hB⟩:=hrel
  have HGK:=z6 hgk
  have HB:=z6 hB
  clear hgk
  by_cases hlt:i<len
  ·by_cases h60:i<1152921504606846976
   ·have hb:=HO.out.lt (by omega)
    have c0:=(hB.cell (p:=⟨b,off+i*6,none⟩) hb).trans (HO.out.c0 i hlt)
    have c1:=(hB.cell (p:=⟨b,off+i*6+1,none⟩) hb).trans (HO.out.c1 i hlt)
    have c2:=(hB.cell (p:=⟨b,off+i*6+2,none⟩) hb).trans (HO.out.c2 i hlt)
    have c3:=(hB.cell (p:=⟨b,off+i*6+3,none⟩) hb).trans (HO.out.c3 i hlt)
    have c4:=(hB.cell (p:=⟨b,off+i*6+4,none⟩) hb).trans (HO.out.c4 i hlt)
    have c5:=(hB.cell (p:=⟨b,off+i*6+5,none⟩) hb).trans (HO.out.c5 i hlt)
    have hli:(i:Int)<len:=by omega
    have h60i:(i:Int)<1152921504606846976:=by omega
    have hPi:=z6 (HP.out i)
    have hz1:w.heap.size≤wr.heap.size:=hB.size
    clear hB
    generalize K i=ki at*
    generalize N i=ni at*
    generalize S i=si at*
    generalize A i=ai at*
    generalize V i=vi at*
    generalize Q i=qi at*
    go_wp2_with fail
    refine(hPi.out _ hlt HB.out).mono ?_
    rintro e w1 ⟨rfl,hb1⟩
    have HB2:=z6 (HB.out.trans (hb1.mono HB.out.size))
    clear hb1
    go_wp2_with fail
    go_roundg (1152921504606846976 - i)
    case measure=>have:=HGK.out;omega
    case rel=>exact⟨i+1,by have:=HGK.out;omega,by omega,by omega,by go_num,HB2.out⟩
   ·have hli:(i:Int)<len:=by omega
    have h60i: ¬(i:Int)<1152921504606846976:=by omega
    go_wp2_with fail
    go_ret
    exact⟨rfl,HB.out⟩
  ·have hli: ¬(i:Int)<len:=by omega
   go_wp2_with fail
   go_ret
   exact⟨rfl,HB.out⟩
end Go.Proofs.YtkoohcilbpdgeaaDoor
namespace Go.Proofs.YtkoohcilbpdgeaaDoor
open Go Go.ChangeShapes Go.WideShapes Go.ChangeAt Go.RowKit Go.Deep
theorem own:ownKnob Tryd.prog.godebug=none:=by kernel_rfl
theorem z4U:laidOutB Tryd.prog=true:=by kernel_rfl
theorem z1Z:Tryd.prog.cellsOf 26=6:=by kernel_rfl
theorem z5M:Tryd.prog.cellsOf 3=1:=by kernel_rfl
theorem z4E:Tryd.prog.cellsOf 9=1:=by kernel_rfl
theorem z4Z {H:Type}{enc:TypeId×Value→H}{w:World}{base:Nat}{spare:Nat→Bool}{held:Bool}{n:Nat}{cs:List Value}{x:DataW H×List MemPlace}(h:DataW.trod enc Tryd.prog w base spare held n 26 cs=some x):
  ∃(k m:Int) (s a v q:z6P),cs=[.int .i64 k,.int .i64 m,.string s,.string a,.string v,.string q]∧s.size≤maxLen∧a.size≤maxLen∧v.size≤maxLen∧q.size≤maxLen:=by
 obtain⟨xs,j,_,_,hlen,hxl,hf⟩:=DataW.trod_struct Tryd.underlying26 h
 rw [z1Z] at hlen
 match cs,hlen with
 |[c0,c1,c2,c3,c4,c5],_=>
  match xs,hxl with
  |[y0,y1,y2,y3,y4,y5],_=>
   have g0:=hf 0 _ rfl
   have g1:=hf 1 _ rfl
   have g2:=hf 2 _ rfl
   have g3:=hf 3 _ rfl
   have g4:=hf 4 _ rfl
   have g5:=hf 5 _ rfl
   simp [z5M,z4E] at g0 g1 g2 g3 g4 g5
   obtain⟨k,e0,_,_⟩:=DataW.trod_int Tryd.underlying3 g0
   obtain⟨m,e1,_,_⟩:=DataW.trod_int Tryd.underlying3 g1
   obtain⟨s,e2,_,l2⟩:=DataW.trod_string Tryd.underlying9 g2
   obtain⟨a,e3,_,l3⟩:=DataW.trod_string Tryd.underlying9 g3
   obtain⟨v,e4,_,l4⟩:=DataW.trod_string Tryd.underlying9 g4
   obtain⟨q,e5,_,l5⟩:=DataW.trod_string Tryd.underlying9 g5
   simp at e0 e1 e2 e3 e4 e5
   exact⟨k,m,s,a,v,q,by rw [e0,e1,e2,e3,e4,e5],l2,l3,l4,l5⟩
theorem z2u {H:Type}{enc:TypeId×Value→H}{W:World}{base:Nat}{v:Value}{d:DataW H}{p:List MemPlace}(hval:Value.okWide Tryd.prog W .any base 22 v)(h:DataW.Trod enc Tryd.prog W 0 (fun _=>true) true 22 v d p)(hlt: ∀x∈p,x.block<W.heap.size):
  v= .slice none 0 0∨(∃(b off len cap:Nat) (K N:Nat→Int) (S A V Q:Nat→z6P),v= .slice (some ⟨b,off,none⟩) len cap∧len≤maxLen∧Ops W b off len K N S A V Q∧(∀i,i<len→(S i).size≤maxLen∧(A i).size≤maxLen∧(V i).size≤maxLen∧(Q i).size≤maxLen))∨ ∃a cap,v= .slice (some a) 0 cap:=by
 obtain⟨a0,len,cap,rfl⟩:=okWide_slice Tryd.underlying22 hval
 obtain⟨fuel,hf⟩:=h
 rcases open_slice Tryd.underlying22 hf with⟨hcs,hx⟩|⟨a,len',cap',m,n,D,Pl,hcs,_,hl,hm,hmm,hx,hel⟩
 ·simp [Value.cells] at hcs
  obtain⟨rfl,rfl,rfl⟩:=hcs
  exact .inl rfl
 ·simp [Value.cells] at hcs
  obtain⟨rfl,rfl,rfl⟩:=hcs
  simp only [if_true] at hmm
  subst hmm
  by_cases h0:len=0
  ·subst h0
   exact .inr (.inr ⟨a,_,rfl⟩)
  ·refine .inr (.inl ?_)
   have each: ∀i,i<len→ ∃q:Int×Int×z6P×z6P×z6P×z6P,W.cells? 0 (a.add (i*6)) 6=some [.int .i64 q.1,.int .i64 q.2.1,.string q.2.2.1,.string q.2.2.2.1,.string q.2.2.2.2.1,.string q.2.2.2.2.2]∧q.2.2.1.size≤maxLen∧q.2.2.2.1.size≤maxLen∧q.2.2.2.2.1.size≤maxLen∧q.2.2.2.2.2.size≤maxLen:=fun i hi=>by
    obtain⟨cs',h1,h2⟩:=hel i (by omega)
    rw [z1Z] at h1
    obtain⟨k,m,s,a',v',q,rfl,l1,l2,l3,l4⟩:=z4Z h2
    exact⟨(k,m,s,a',v',q),h1,l1,l2,l3,l4⟩
   obtain⟨q,hq⟩:=choose_lt (α:=Int×Int×z6P×z6P×z6P×z6P) each
   obtain⟨b,off,spot⟩:=a
   have hc0: ∀i,i<len→ ∀j,j<6→W.cell? ((⟨b,off,spot⟩:Addr).add (i*6+j))=[Value.int .i64 (q i).1,.int .i64 (q i).2.1,.string (q i).2.2.1,.string (q i).2.2.2.1,.string (q i).2.2.2.2.1,.string (q i).2.2.2.2.2][j]?:=fun i hi j hj=>by
    obtain⟨_,_,hcell⟩:=World.cells?_some (hq i hi).1
    have:=hcell j hj
    rw [Go.Deep.add_add] at this
    exact this
   have hspot:spot=none:=by
    have h00:W.cell? ((⟨b,off,spot⟩:Addr).add 0)=some (.int .i64 (q 0).1):=hc0 0 (by omega) 0 (by omega)
    simpa [Addr.add] using World.cell?_spot h00
   subst hspot
   have hadd: ∀j,(⟨b,off,none⟩:Addr).add j=⟨b,off+j,none⟩:=fun j=>by unfold Addr.add;split<;>simp_all
   have hc: ∀i,i<len→ ∀j,j<6→W.cell? ⟨b,off+(i*6+j),none⟩=[Value.int .i64 (q i).1,.int .i64 (q i).2.1,.string (q i).2.2.1,.string (q i).2.2.2.1,.string (q i).2.2.2.2.1,.string (q i).2.2.2.2.2][j]?:=fun i hi j hj=>by
    rw [←hadd];exact hc0 i hi j hj
   refine⟨b,off,len,_,fun i=>(q i).1,fun i=>(q i).2.1,fun i=>(q i).2.2.1,fun i=>(q i).2.2.2.1,fun i=>(q i).2.2.2.2.1,fun i=>(q i).2.2.2.2.2,rfl,by omega,⟨fun _=>zC (hc 0 (by omega) 0 (by omega)),?_,?_,?_,?_,?_,?_⟩,fun i hi=>(hq i hi).2⟩
   ·exact fun i hi=>hc i hi 0 (by omega)
   ·exact fun i hi=>hc i hi 1 (by omega)
   ·exact fun i hi=>hc i hi 2 (by omega)
   ·exact fun i hi=>hc i hi 3 (by omega)
   ·exact fun i hi=>hc i hi 4 (by omega)
   ·exact fun i hi=>hc i hi 5 (by omega)
def z0i (cs:Array Value):Obj→Obj
 | .cells _ t frozen=> .cells cs t frozen
 |o=>o
theorem z5O {W:World}(h:laidMetH Tryd.prog Rows.wordedRow.laid W):Tab W:=by
 have h1:laidMet Tryd.prog Rows.wordedRow.laid W:=h
 have h2:=h1.tail.tail
 exact Lib.tabIs_of_head (g:=0) (t:=88) (e:=79) (n:=20) (by kernel_rfl) (by kernel_rfl) (by kernel_rfl) (by kernel_rfl) (by kernel_rfl) (by kernel_rfl) h2
theorem z1q {H:Type}{P:Program}{e:TypeId}: ∀{l:List (DataW H)} {d:DataW H} {n:Nat},d∈l→n∈d.weights P e→n∈DataW.weightsAll P e l:=by
 intro l
 induction l with
 |nil=>intro d n h;cases h
 |cons x l ih=>
  intro d n h hn
  unfold DataW.weightsAll
  rcases List.mem_cons.1 h with rfl|h
  ·exact List.mem_append.2 (.inl hn)
  ·exact List.mem_append.2 (.inr (ih h hn))
theorem z3H {H:Type}{enc:TypeId×Value→H}{w:World}{base:Nat}{spare:Nat→Bool}{held:Bool}{n:Nat}{cs:List Value}{x:DataW H×List MemPlace}(h:DataW.trod enc Tryd.prog w base spare held n 26 cs=some x){s:z6P}(hs:cs[2]?=some (.string s)):s.size∈x.1.weights Tryd.prog 26:=by
 obtain⟨xs,j,_,hx,hlen,hxl,hf⟩:=DataW.trod_struct Tryd.underlying26 h
 rw [z1Z] at hlen
 match cs,hlen,hs with
 |[c0,c1,c2,c3,c4,c5],_,hs=>
  match xs,hxl,hx,hf with
  |[y0,y1,y2,y3,y4,y5],_,hx,hf=>
   have g2:=hf 2 _ rfl
   simp [z4E] at g2
   obtain⟨s',e2,e3,_⟩:=DataW.trod_string Tryd.underlying9 g2
   simp at e2 hs
   rw [e2] at hs
   injection hs with hs
   subst hs
   rw [hx,e3]
   show s'.size∈DataW.weights Tryd.prog 26 (.agg _)
   unfold DataW.weights
   rw [Tryd.underlying26]
   refine DataW.weights_mem_each (j:=2) (t:=9) (d:= .lit (.string s'.data.toList)) rfl rfl _ ?_
   have e:s'.size=s'.data.toList.length:=by rw [Array.length_toList];rfl
   rw [e]
   simp [DataW.weights]
theorem z2k {H:Type}{enc:TypeId×Value→H}{W:World}{b off len cap:Nat}{d:DataW H}{p:List MemPlace}{K N:Nat→Int}{S A V Q:Nat→z6P}(h:DataW.Trod enc Tryd.prog W 0 (fun _=>true) true 22 (.slice (some ⟨b,off,none⟩) len cap) d p)(hwt:(d.weights Tryd.prog 22).all (·≤reachBytes)=true)(ho:Ops W b off len K N S A V Q): ∀i,i<len→(S i).size≤reachBytes:=by
 obtain⟨fuel,hf⟩:=h
 rcases open_slice Tryd.underlying22 hf with⟨hcs,hx⟩|⟨a,len',cap',m,n,D,Pl,hcs,_,hl,hm,hmm,hx,hel⟩
 ·simp [Value.cells] at hcs
 ·simp [Value.cells] at hcs
  obtain⟨rfl,rfl,rfl⟩:=hcs
  simp only [if_true] at hmm
  subst hmm
  intro i hi
  obtain⟨cs',h1,h2⟩:=hel i (by omega)
  rw [z1Z] at h1
  obtain⟨hl6,_,hcell⟩:=World.cells?_some h1
  have hc2:=hcell 2 (by omega)
  rw [Go.Deep.add_add] at hc2
  have hadd:(⟨b,off,none⟩:Addr).add (i*6+2)=⟨b,off+i*6+2,none⟩:=by unfold Addr.add;simp<;>omega
  rw [hadd,ho.c2 i hi] at hc2
  have hw:=z3H h2 hc2.symm
  have hd:d= .slice ((List.range len).map D) _:=congrArg Prod.fst hx
  have hin:(S i).size∈d.weights Tryd.prog 22:=by
   rw [hd]
   unfold DataW.weights
   rw [Tryd.underlying22]
   exact List.mem_cons_of_mem _ (List.mem_append.2 (.inl (z1q (List.mem_map.2 ⟨i,List.mem_range.2 hi,rfl⟩) hw)))
  simpa using List.all_eq_true.1 hwt _ hin
theorem z0T (a:Option Addr)(cap:Nat)(w:World)(ht:Tab w):Calls Tryd.prog 3 #[.slice a 0 cap] w fun e w'=>e= .returned (.bool true)∧Below w.heap.size w w':=by
 have HT:=z6 ht
 clear ht
 go_enter Tryd.func3,Tryd.ntmps3
 go_wp2_with fail
 refine(z1y _ HT.out).mono ?_
 rintro e w1 ⟨rfl,hB1⟩
 have HB1:=z6 hB1
 clear hB1
 go_wp2_with fail
 go_loopg [4,5] 1 (fun g iv _ wr=>iv= .int .i64 0∧Below w.heap.size w wr)
 case atStart=>exact⟨rfl,HB1.out⟩
 case round=>
  obtain⟨rfl,hB⟩:=hrel
  have HB:=z6 hB
  clear hB
  go_wp2_with fail
  go_ret
  exact⟨rfl,HB.out⟩
theorem z1K {H:Type}{enc:TypeId×Value→H}{W:World}{base:Nat}{v:Value}{d:DataW H}{p:List MemPlace}(hval:Value.okWide Tryd.prog W .any base 22 v)(h:DataW.Trod enc Tryd.prog W 0 (fun _=>true) true 22 v d p)(hlt: ∀x∈p,x.block<W.heap.size)(ht:Tab W)(hwt:(d.weights Tryd.prog 22).all (·≤reachBytes)=true):
  Calls Tryd.prog 3 #[v] W fun e w'=>e= .returned (.bool true)∧Below W.heap.size W w':=by
 rcases z2u hval h hlt with rfl|⟨b,off,len,cap,K,N,S,A,V,Q,rfl,hl,ho,hs⟩|⟨a,cap,rfl⟩
 ·exact z0T none 0 W ht
 ·have hsm:=z2k h hwt ho
  refine z2t b off len cap K N S A V Q W ho hl ht fun i wr hi hb=> ?_
  obtain⟨q1,q2,q3,q4⟩:=hs i hi
  exact z3e _ _ _ _ _ _ (z6M (hsm i hi) (by decide)) q2 wr (ht.below hb)
 ·exact z0T _ cap W ht
theorem z0R (H:Type)(enc:TypeId×Value→H)(W:World)(base:Nat)(args:Array Value)(ds gs:List (DataW H))(before:List MemPlace)
  (hval: ∀(j:Nat) t v,Tryd.f3.params[j]?=some t→args[j]?=some v→Value.okWide Tryd.prog W .any base t v)
  (hW:DataW.Whole enc Tryd.prog Tryd.f3.params.toList Rows.wordedSpec.vars false W args.toList ds gs before) (hT:Tab W) (hz:(DataW.weightsEach Tryd.prog (Tryd.f3.params.toList++(OpenSpec.ofChange Rows.wordedSpec).bare.plain.varTypes Tryd.prog) (ds++gs)).all (·≤reachBytes)=true):
  Calls Tryd.prog 3 args W fun e W'=> ∃v,e= .returned v∧Rows.wordedSpec.post enc Tryd.prog Tryd.f3 false true false false W args v W':=by
 have hW':=hW
 obtain⟨p,q,hA0,hV,rfl,_,_⟩:=hW
 have hA:DataW.TrodAll enc Tryd.prog W 0 (fun _=>true) true Tryd.f3.params.toList args.toList ds p:=hA0
 rw [Tryd.params3] at hA hval
 obtain⟨v0,d0,rfl,rfl,h0⟩:=trodAll_one hA
 obtain⟨rfl,rfl⟩:=trodVars_none hV
 clear hA0
 simp only [List.append_nil] at hW'
 have hlt: ∀x∈p,x.block<W.heap.size:=fun x hx=>by simpa using hW'.lt x hx
 have hwt:(d0.weights Tryd.prog 22).all (·≤reachBytes)=true:=List.all_eq_true.2 fun n hn=>List.all_eq_true.1 hz n (DataW.weights_mem_each (j:=0) (t:=22) (d:=d0) (by rw [Tryd.params3];rfl) rfl n hn)
 have hcall:=z1K (hval 0 22 v0 rfl rfl) h0 hlt hT hwt
 refine hcall.mono fun e W' ⟨he,hb⟩=> ?_
 subst he
 exact⟨_,rfl,⟨_,_,_,[],_,[],hW',trodAll_mk1 (shut_bool Tryd.underlying4 true),trodAll_mk1 (Below.trod z4U (by kernel_rfl) (of_decide_eq_true (by kernel_rfl)) h0 hb hlt),rfl,hb.frame _,fun h=>by cases h⟩⟩
theorem z0Y (os:Os):laidMet Tryd.prog Rows.wordedRow.laid (({World.holding Tryd.prog os ⟨#[],#[],[]⟩ with heap:=(((World.holding Tryd.prog os ⟨#[],#[],[]⟩).heap.modify 0 (z0i #[.int .u64 1,.int .u64 10,.int .u64 100,.int .u64 1000,.int .u64 10000,.int .u64 100000,.int .u64 1000000,.int .u64 10000000,.int .u64 100000000,.int .u64 1000000000,.int .u64 10000000000,.int .u64 100000000000,.int .u64 1000000000000,.int .u64 10000000000000,.int .u64 100000000000000,.int .u64 1000000000000000,.int .u64 10000000000000000,.int .u64 100000000000000000,.int .u64 1000000000000000000,.int .u64 10000000000000000000])).modify 1 (z0i #[.int .u8 0,.int .u8 1,.int .u8 28,.int .u8 2,.int .u8 29,.int .u8 14,.int .u8 24,.int .u8 3,.int .u8 30,.int .u8 22,.int .u8 20,.int .u8 15,.int .u8 25,.int .u8 17,.int .u8 4,.int .u8 8,.int .u8 31,.int .u8 27,.int .u8 13,.int .u8 23,.int .u8 21,.int .u8 19,.int .u8 16,.int .u8 7,.int .u8 26,.int .u8 12,.int .u8 18,.int .u8 6,.int .u8 11,.int .u8 5,.int .u8 10,.int .u8 9])).modify 2 (z0i #[.int .u8 0,.int .u8 1,.int .u8 56,.int .u8 2,.int .u8 57,.int .u8 49,.int .u8 28,.int .u8 3,.int .u8 61,.int .u8 58,.int .u8 42,.int .u8 50,.int .u8 38,.int .u8 29,.int .u8 17,.int .u8 4,.int .u8 62,.int .u8 47,.int .u8 59,.int .u8 36,.int .u8 45,.int .u8 43,.int .u8 51,.int .u8 22,.int .u8 53,.int .u8 39,.int .u8 33,.int .u8 30,.int .u8 24,.int .u8 18,.int .u8 12,.int .u8 5,.int .u8 63,.int .u8 55,.int .u8 48,.int .u8 27,.int .u8 60,.int .u8 41,.int .u8 37,.int .u8 16,.int .u8 46,.int .u8 35,.int .u8 44,.int .u8 21,.int .u8 52,.int .u8 32,.int .u8 23,.int .u8 11,.int .u8 54,.int .u8 26,.int .u8 40,.int .u8 15,.int .u8 34,.int .u8 20,.int .u8 31,.int .u8 10,.int .u8 25,.int .u8 14,.int .u8 19,.int .u8 9,.int .u8 13,.int .u8 8,.int .u8 7,.int .u8 6])}:World).forCall (fun _ _=>0) ⟨#[],#[.slice none 0 0],[]⟩).memory:=
 laidMet_of_run' 8 (by kernel_rfl) (by kernel_rfl)
theorem z27 (os:Os){H:Type}(enc:TypeId×Value→H): ∃places,DataW.whole enc Tryd.prog (({World.holding Tryd.prog os ⟨#[],#[],[]⟩ with heap:=(((World.holding Tryd.prog os ⟨#[],#[],[]⟩).heap.modify 0 (z0i #[.int .u64 1,.int .u64 10,.int .u64 100,.int .u64 1000,.int .u64 10000,.int .u64 100000,.int .u64 1000000,.int .u64 10000000,.int .u64 100000000,.int .u64 1000000000,.int .u64 10000000000,.int .u64 100000000000,.int .u64 1000000000000,.int .u64 10000000000000,.int .u64 100000000000000,.int .u64 1000000000000000,.int .u64 10000000000000000,.int .u64 100000000000000000,.int .u64 1000000000000000000,.int .u64 10000000000000000000])).modify 1 (z0i #[.int .u8 0,.int .u8 1,.int .u8 28,.int .u8 2,.int .u8 29,.int .u8 14,.int .u8 24,.int .u8 3,.int .u8 30,.int .u8 22,.int .u8 20,.int .u8 15,.int .u8 25,.int .u8 17,.int .u8 4,.int .u8 8,.int .u8 31,.int .u8 27,.int .u8 13,.int .u8 23,.int .u8 21,.int .u8 19,.int .u8 16,.int .u8 7,.int .u8 26,.int .u8 12,.int .u8 18,.int .u8 6,.int .u8 11,.int .u8 5,.int .u8 10,.int .u8 9])).modify 2 (z0i #[.int .u8 0,.int .u8 1,.int .u8 56,.int .u8 2,.int .u8 57,.int .u8 49,.int .u8 28,.int .u8 3,.int .u8 61,.int .u8 58,.int .u8 42,.int .u8 50,.int .u8 38,.int .u8 29,.int .u8 17,.int .u8 4,.int .u8 62,.int .u8 47,.int .u8 59,.int .u8 36,.int .u8 45,.int .u8 43,.int .u8 51,.int .u8 22,.int .u8 53,.int .u8 39,.int .u8 33,.int .u8 30,.int .u8 24,.int .u8 18,.int .u8 12,.int .u8 5,.int .u8 63,.int .u8 55,.int .u8 48,.int .u8 27,.int .u8 60,.int .u8 41,.int .u8 37,.int .u8 16,.int .u8 46,.int .u8 35,.int .u8 44,.int .u8 21,.int .u8 52,.int .u8 32,.int .u8 23,.int .u8 11,.int .u8 54,.int .u8 26,.int .u8 40,.int .u8 15,.int .u8 34,.int .u8 20,.int .u8 31,.int .u8 10,.int .u8 25,.int .u8 14,.int .u8 19,.int .u8 9,.int .u8 13,.int .u8 8,.int .u8 7,.int .u8 6])}:World).forCall (fun _ _=>0) ⟨#[],#[.slice none 0 0],[]⟩).memory Tryd.f3.params.toList Rows.wordedSpec.vars false #[Value.slice none 0 0].toList 8=some ([.nil],[],places):=
 ⟨[],by kernel_rfl⟩
theorem z1J (os:Os)(started:os.Started)(H:Type)(enc:TypeId×Value→H)(F:Stop.Interp):
  ReturnsInHanded {} Tryd.checked os 3 .any ((OpenSpec.ofChange Rows.wordedSpec).preRow enc Tryd.prog Tryd.f3 Rows.wordedRow.domain false Rows.wordedRow.laid) (((OpenSpec.ofChange Rows.wordedSpec).at F).post enc Tryd.prog Tryd.f3 false true false false):=by
 obtain⟨places,hx⟩:=z27 os enc
 refine returnsInHanded_of_row (C:=Tryd.checked) (s:=OpenSpec.ofChange Rows.wordedSpec) own started (by kernel_rfl) Tryd.func3
  (witness_row_at (enc:=enc) (C:=Tryd.checked) false ({World.holding Tryd.prog os ⟨#[],#[],[]⟩ with heap:=(((World.holding Tryd.prog os ⟨#[],#[],[]⟩).heap.modify 0 (z0i #[.int .u64 1,.int .u64 10,.int .u64 100,.int .u64 1000,.int .u64 10000,.int .u64 100000,.int .u64 1000000,.int .u64 10000000,.int .u64 100000000,.int .u64 1000000000,.int .u64 10000000000,.int .u64 100000000000,.int .u64 1000000000000,.int .u64 10000000000000,.int .u64 100000000000000,.int .u64 1000000000000000,.int .u64 10000000000000000,.int .u64 100000000000000000,.int .u64 1000000000000000000,.int .u64 10000000000000000000])).modify 1 (z0i #[.int .u8 0,.int .u8 1,.int .u8 28,.int .u8 2,.int .u8 29,.int .u8 14,.int .u8 24,.int .u8 3,.int .u8 30,.int .u8 22,.int .u8 20,.int .u8 15,.int .u8 25,.int .u8 17,.int .u8 4,.int .u8 8,.int .u8 31,.int .u8 27,.int .u8 13,.int .u8 23,.int .u8 21,.int .u8 19,.int .u8 16,.int .u8 7,.int .u8 26,.int .u8 12,.int .u8 18,.int .u8 6,.int .u8 11,.int .u8 5,.int .u8 10,.int .u8 9])).modify 2 (z0i #[.int .u8 0,.int .u8 1,.int .u8 56,.int .u8 2,.int .u8 57,.int .u8 49,.int .u8 28,.int .u8 3,.int .u8 61,.int .u8 58,.int .u8 42,.int .u8 50,.int .u8 38,.int .u8 29,.int .u8 17,.int .u8 4,.int .u8 62,.int .u8 47,.int .u8 59,.int .u8 36,.int .u8 45,.int .u8 43,.int .u8 51,.int .u8 22,.int .u8 53,.int .u8 39,.int .u8 33,.int .u8 30,.int .u8 24,.int .u8 18,.int .u8 12,.int .u8 5,.int .u8 63,.int .u8 55,.int .u8 48,.int .u8 27,.int .u8 60,.int .u8 41,.int .u8 37,.int .u8 16,.int .u8 46,.int .u8 35,.int .u8 44,.int .u8 21,.int .u8 52,.int .u8 32,.int .u8 23,.int .u8 11,.int .u8 54,.int .u8 26,.int .u8 40,.int .u8 15,.int .u8 34,.int .u8 20,.int .u8 31,.int .u8 10,.int .u8 25,.int .u8 14,.int .u8 19,.int .u8 9,.int .u8 13,.int .u8 8,.int .u8 7,.int .u8 6])}:World) #[.slice none 0 0] rfl (by kernel_rfl) (by kernel_rfl) (by kernel_rfl)
   (OpenSpec.preRow_of_cond 8 hx (by kernel_rfl) (fun k hk=>by cases hk) (by kernel_rfl) (z0Y os))) ?_
 intro W base args ds gs before hval hW _ _ hz hL _ _
 exact z0R H enc W base args ds gs before hval hW (z5O hL) hz
theorem z2q:Rows.WordedSaid:=
 OpenClaim.holds_of_cond 3 Tryd.f3 rfl rfl rfl rfl rfl rfl rfl ⟨rfl,rfl,rfl,rfl,rfl⟩ rfl rfl rfl rfl rfl (by kernel_rfl) Tryd.func3 (by kernel_rfl)
  (of_decide_eq_true (by kernel_rfl)) (by unfold Func.isWrapper;first|(rw [if_pos (by decide+kernel)];kernel_rfl)|(rw [if_neg (by decide+kernel)];exact⟨rfl,rfl⟩))
  (fun os started H enc _ F=>by rw [OpenClaim.pre_eq_preRow];exact z1J os started H enc F)
theorem z2g (f:FuncId)(fn:Func)(hf:Tryd.pinned.checked.prog.funcNamed "trustquery/trustquerylaw.Worded" =some f)(hfn:Tryd.pinned.checked.prog.funcs[f]?=some fn):
  false=Tryd.pinned.checked.prog.looks []∧ ∀(j:Nat) t,fn.params[j]?=some t→Tryd.pinned.checked.prog.wantsStandIn t=false:=by
 obtain rfl:f=3:=Option.some.inj ((show Tryd.prog.funcNamed "trustquery/trustquerylaw.Worded" =some 3 by kernel_rfl).symm.trans hf)|>.symm
 obtain rfl:fn=Tryd.f3:=(Option.some.inj (Tryd.func3.symm.trans hfn)).symm
 refine⟨by kernel_rfl,fun j t ht=> ?_⟩
 rw [Tryd.params3] at ht
 obtain rfl:t=22:=by simpa using Array.mem_of_getElem? ht
 exact(show Tryd.prog.wantsStandIn 22=false by kernel_rfl)
theorem worded_card:Rows.WordedCardSaid:=
 Claim7.holds_tied_plain_at .later [] _ _ _ _ z2q (fun _ h=>by cases h) (by kernel_rfl) (fun _ h=>by cases h) worded_row_tie rfl ⟨rfl,rfl⟩ (by kernel_rfl) rfl z2g (by kernel_rfl)
end Go.Proofs.YtkoohcilbpdgeaaDoor
