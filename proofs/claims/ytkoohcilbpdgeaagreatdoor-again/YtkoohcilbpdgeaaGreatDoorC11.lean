import Derived.Test.YtkoohcilbpdgeaaGreatDoorC10
set_option linter.all false
set_option linter.unusedVariables false
set_option linter.unusedSimpArgs false
set_option linter.unnecessarySimpa false
set_option linter.constructorNameAsVariable false
set_option linter.deprecated false
set_option maxRecDepth 100000
set_option maxHeartbeats 6400000
namespace Go.Proofs.YtkoohcilbpdgeaaGreatDoor
open Go Go.RowKit
attribute [local go_sem] wrap64_byte
theorem zf9 {T:TE}{st:St}{p:Nat}{q r:Int×St}{c:zgS}{pl:Int}(k:RdE T st p q)(h:jQ q.2 ⟨5,pl,c,q.1,-1⟩=some r)(hv:VlE (.pr c.data.toList T))(hz:tyE (.pr c.data.toList T)≠0):RdE (.pr c.data.toList T) st p r:=by
 obtain⟨_,rfl⟩:=zj h
 have hi:IsE (q.2.E++[⟨5,pl,c,q.1,-1⟩]) (.pr c.data.toList T) (q.2.E.length:Int):=zcc k.is
 exact⟨k.bad,k.at_,k.ext.trans ⟨⟨_,rfl⟩,rfl,rfl,rfl⟩,hi,fun hE=>z3P (k.ty hE) hv hi hz⟩
theorem z8T {T U:TE}{st st2:St}{p1 p:Nat}{q q2 r:Int×St}{c:zgS}{pl:Int}(k:RdE T st p1 q)(k2:RdE U st2 p q2)(e:ExtE q.2 st2)(eE:st2.E=q.2.E)(h:jQ q2.2 ⟨6,pl,c,q.1,q2.1⟩=some r)(hv:VlE (.pa c.data.toList T U))(hz:tyE (.pa c.data.toList T U)≠0):RdE (.pa c.data.toList T U) st p r:=by
 obtain⟨_,rfl⟩:=zj h
 obtain⟨⟨F,hF⟩,_⟩:=k2.ext
 have hi:IsE (q2.2.E++[⟨6,pl,c,q.1,q2.1⟩]) (.pa c.data.toList T U) (q2.2.E.length:Int):=z9O (by rw [hF,eE];exact k.is.more F) k2.is
 refine⟨k2.bad,k2.at_,(k.ext.trans (e.trans k2.ext)).trans ⟨⟨_,rfl⟩,rfl,rfl,rfl⟩,hi,fun hE=>z3P (k2.ty ?_) hv hi hz⟩
 rw [eE]
 exact k.ty hE
theorem z7m (st:St)(a:Nat):ExtE st {st with at_:=a}:=⟨⟨[],by simp⟩,rfl,rfl,rfl⟩
def Rb (s:zgS)(T:TE):Prop:= ∀(tag:Nat),tag≤lvE T→ ∀(st:St),st.bad=false→At s st.at_ (prE T)→dlm (pk s (st.at_+(prE T).length) false)=true→qt s tag (skip s (st.at_+(prE T).length) false)→ ∀n r,M s n tag 0 st=some r→RdE T st (skip s (st.at_+(prE T).length) false) r
theorem zfL {s:zgS}{f:Int}{t:List UInt8}(hv:VlE (.lf f t))(hz:tyE (.lf f t)≠0):Rb s (.lf f t):=by
 intro tag ht st hb hat hd hq
 obtain⟨hh1,hh2,hh3⟩:=z0O hv hat
 have hp:pkS s st=pk s st.at_ false:=by unfold pkS;rw [hb]
 refine z3g (lv:=7) (zgH _) ?_ (fun _=>by rw [hp];exact hh3 rfl) (fun _=>by rw [hp];exact hh2 (show(7:Nat)≠2 by decide)) ht hq
 intro n r hm
 cases n with
 |zero=>simp [M] at hm
 |succ n=>
  rw [M_7] at hm
  simp only [hp,hb] at hm
  have nm:z4y t→At s st.at_ t→zg (pk s st.at_ false)=false∧(pk s st.at_ false==34)=false∧(pk s st.at_ false==64)=false∧(pk s st.at_ false==40)=false:=fun ht h=>by
   cases t with
   |nil=>have:=ht.1;simp at this
   |cons c cs=>
    have:=(z2G (ht.2.2 c List.mem_cons_self)).1
    rw [h.1]
    refine⟨zbQ (by omega),?_,?_,?_⟩<;>simp<;>omega
  have hv':=hv
  rcases hv with⟨rfl,hn⟩|⟨rfl,hn⟩|⟨rfl,hn⟩|⟨rfl,hn,n1,n2⟩|⟨rfl,hn⟩
  ·have e:prE (.lf 0 t)=t:=rfl
   rw [e] at hat hd ⊢
   have hdg:zg (pk s st.at_ false)=true:=by
    cases t with
    |nil=>have:=hn.1;simp at this
    |cons c cs=>rw [hat.1];exact hn.2.2.1 c List.mem_cons_self
   rw [if_pos hdg,za6 hat hn (zbd hd).2] at hm
   exact z3D hm (jI hat) hv' hz
  ·have e:prE (.lf 1 t)=34::(t++[34]):=rfl
   rw [e] at hat hd ⊢
   have h0:=hat.1
   rw [if_neg (by rw [h0];decide),if_pos (by rw [h0];decide),z9U hat hn] at hm
   rw [show(34::(t++[34]):List UInt8).length=t.length+2 by simp]
   exact z3D hm (jI ((zy _ _ _).1 hat.2).1) hv' hz
  ·have e:prE (.lf 2 t)=t:=rfl
   rw [e] at hat hd ⊢
   have hnm:z4y t:=by rcases hn with rfl|rfl;exact z5h.1;exact z5h.2
   obtain⟨g1,g2,g3,g4⟩:=nm hnm hat
   have hx:=jI hat
   have hc:((s.extract st.at_ (st.at_+t.length)).data.toList==[116,114,117,101]||(s.extract st.at_ (st.at_+t.length)).data.toList==[102,97,108,115,101])=true:=by
    rw [hx]
    rcases hn with rfl|rfl<;>decide
   rw [if_neg (by rw [g1];decide),if_neg (by rw [g2];decide),if_neg (by rw [g3];decide),if_neg (by rw [g4];decide),z2O hat hnm (zbd hd).1] at hm
   simp only [hc,if_true] at hm
   exact z3D hm hx hv' hz
  ·have e:prE (.lf 3 t)=t:=rfl
   rw [e] at hat hd ⊢
   obtain⟨g1,g2,g3,g4⟩:=nm hn hat
   have hx:=jI hat
   have hc:((s.extract st.at_ (st.at_+t.length)).data.toList==[116,114,117,101]||(s.extract st.at_ (st.at_+t.length)).data.toList==[102,97,108,115,101])=false:=by
    rw [hx]
    have n1:(t==[116,114,117,101])=false:=by simpa [zbi] using n1
    have n2:(t==[102,97,108,115,101])=false:=by simpa [z7E] using n2
    rw [n1,n2]
    rfl
   rw [if_neg (by rw [g1];decide),if_neg (by rw [g2];decide),if_neg (by rw [g3];decide),if_neg (by rw [g4];decide),z2O hat hn (zbd hd).1] at hm
   simp only [hc] at hm
   exact z3D hm hx hv' hz
  ·have e:prE (.lf 4 t)=64::t:=rfl
   rw [e] at hat hd ⊢
   have h0:=hat.1
   have hd:dlm (pk s (st.at_+1+t.length) false)=true:=by rw [show st.at_+1+t.length=st.at_+(64::t).length by simp;omega];exact hd
   rw [if_neg (by rw [h0];decide),if_neg (by rw [h0];decide),if_pos (by rw [h0];decide),z5x hb (l:=[64]) ⟨hat.1,trivial⟩] at hm
   have e1:st.at_+([64]:List UInt8).length=st.at_+1:=rfl
   simp only [e1,hb,z2O hat.2 hn (zbd hd).1] at hm
   rw [show st.at_+(64::t).length=st.at_+1+t.length by simp;omega]
   exact z3D (st:=st) hm (jI hat.2) hv' hz
theorem zg5 {s:zgS}{t:List UInt8}{a:TE}(ih:Rb s a)(hv:VlE (.pr t a))(hz:tyE (.pr t a)≠0)(hza:tyE a≠0):Rb s (.pr t a):=by
 intro tag ht st hb hat hd hq
 have hp:pkS s st=pk s st.at_ false:=by unfold pkS;rw [hb]
 obtain⟨hh1,hh2,hh3⟩:=z0O hv hat
 rcases hv.1 with rfl|rfl
 ·have e:prE (.pr [33] a)=33::prE a:=rfl
  rw [e] at hat hd hq ⊢
  obtain⟨h0,h1⟩:=hat
  have hl:st.at_+(33::prE a).length=st.at_+1+(prE a).length:=by simp;omega
  rw [hl] at hd hq ⊢
  have ht2:tag≤2:=by simpa [z4K] using ht
  refine z3g (lv:=2) (by omega) ?_ (fun e=>by omega) (fun e=>by omega) ht2 hq
  intro n r hm
  cases n with
  |zero=>simp [M] at hm
  |succ n=>
   rw [M_2,if_neg (by rw [hp,h0];decide)] at hm
   obtain⟨q,h2,h3⟩:=zgD.1 hm
   have hs:sgn s [33] st={st with at_:=st.at_+1}:=by
    rw [z0m (l:=[33]) hb ⟨h0,trivial⟩]
    show({st with at_:=skip s (st.at_+1) false}:St)=_
    rw [zI (z0O hv.2 h1).1]
   rw [hs] at h2
   have k:=ih 2 z8N.2 {st with at_:=st.at_+1} hb h1 hd (hq.mono ht2) n q h2
   exact zf9 (c:=⟨#[33]⟩) (st:=st) ⟨k.bad,k.at_,k.ext,k.is,k.ty⟩ h3 hv hz
 ·have e:prE (.pr [45] a)=45::prE a:=rfl
  rw [e] at hat hd hq ⊢
  obtain⟨h0,h1⟩:=hat
  have hl:st.at_+(45::prE a).length=st.at_+1+(prE a).length:=by simp;omega
  rw [hl] at hd hq ⊢
  have ht6:tag≤6:=by simpa [z4K] using ht
  refine z3g (lv:=6) (by omega) ?_ (fun e=>by omega) (fun _=>by rw [hp,h0];decide) ht6 hq
  intro n r hm
  cases n with
  |zero=>simp [M] at hm
  |succ n=>
   rw [M_6,if_neg (by rw [hp,h0];decide)] at hm
   obtain⟨q,h2,h3⟩:=zgD.1 hm
   have hs:sgn s [45] st={st with at_:=st.at_+1}:=by
    rw [z0m (l:=[45]) hb ⟨h0,trivial⟩]
    show({st with at_:=skip s (st.at_+1) false}:St)=_
    rw [zI (z0O hv.2 h1).1]
   rw [hs] at h2
   have k:=ih 6 (z3d hza (zdm hz)) {st with at_:=st.at_+1} hb h1 hd (qt.mono hq ht6) n q h2
   exact zf9 (c:=⟨#[45]⟩) (st:=st) ⟨k.bad,k.at_,k.ext,k.is,k.ty⟩ h3 hv hz
structure Lay (s:zgS)(t:List UInt8)(a b:TE)(x0 q0 q1 p:Nat):Prop where
 at1:At s x0 (prE a)
 sk1:skip s (x0+(prE a).length) false=q0
 d1:dlm (pk s (x0+(prE a).length) false)=true
 ats:At s q0 t
 b2:pk s (q0+t.length) false=32
 sk2:skip s (q0+t.length) false=q1
 at2:At s q1 (prE b)
 end_:q1+(prE b).length=p
 c41:pk s p false=41
theorem Lay.d2 {s:zgS}{t:List UInt8}{a b:TE}{x0 q0 q1 p:Nat}(h:Lay s t a b x0 q0 q1 p):dlm (pk s (q1+(prE b).length) false)=true:=by rw [h.end_,h.c41];rfl
theorem Lay.sk3 {s:zgS}{t:List UInt8}{a b:TE}{x0 q0 q1 p:Nat}(h:Lay s t a b x0 q0 q1 p):skip s (q1+(prE b).length) false=p:=by rw [h.end_,zI (by rw [h.c41];decide)]
section
variable {s:zgS} {t:List UInt8} {a b:TE} {st:St} {q0 q1 p:Nat}
theorem Lay.ra (L:Lay s t a b st.at_ q0 q1 p)(ih:Rb s a){tag:Nat}(ht:tag≤lvE a)(hb:st.bad=false){c:Int}(hc:pk s q0 false=c)(hq:qb tag c=true){n:Nat}{r:Int×St}(h:M s n tag 0 st=some r):RdE a st q0 r:=by
 have:=ih tag ht st hb L.at1 L.d1 (by rw [L.sk1];exact zdt hc hq) n r h
 rw [L.sk1] at this
 exact this
theorem Lay.rb (L:Lay s t a b st.at_ q0 q1 p)(ih:Rb s b){tag:Nat}(ht:tag≤lvE b){st2:St}(hb:st2.bad=false)(ha:st2.at_=q1)(hq:qb tag 41=true){n:Nat}{r:Int×St}(h:M s n tag 0 st2=some r):RdE b st2 p r:=by
 have:=ih tag ht st2 hb (by rw [ha];exact L.at2) (by rw [ha];exact L.d2) (by rw [ha,L.sk3];exact zdt L.c41 hq) n r h
 rw [ha,L.sk3] at this
 exact this
theorem Lay.sg (L:Lay s t a b st.at_ q0 q1 p){r:Int×St}(k:RdE a st q0 r):sgn s t r.2={r.2 with at_:=q1}:=by
 rw [z0m k.bad (by rw [k.at_];exact L.ats),k.at_,L.sk2]
theorem zeG (L:Lay s t a b st.at_ q0 q1 p)(iha:Rb s a)(ihb:Rb s b)(hb:st.bad=false)(hv:VlE (.pa t a b))(hz:tyE (.pa t a b)≠0)(ht:orS t)(la:1≤lvE a)(lb:1≤lvE b): ∀n r,M s n 0 0 st=some r→RdE (.pa t a b) st p r:=by
 intro n r hm
 cases n with
 |zero=>simp [M] at hm
 |succ n=>
  rw [M_0] at hm
  obtain⟨q,h1,h2⟩:=zgD.1 hm
  cases n with
  |zero=>simp [M] at h2
  |succ n=>
   obtain rfl:t=[124,124]:=ht
   have k:=L.ra iha la hb L.ats.1 (by decide) h1
   rw [z71,if_pos (by unfold pkS;rw [k.at_,k.bad,L.ats.1];decide),L.sg k] at h2
   obtain⟨q2,h3,h4⟩:=zgD.1 h2
   obtain⟨q3,h5,h6⟩:=zgD.1 h4
   have k2:=L.rb ihb lb (st2:={q.2 with at_:=q1}) k.bad rfl (by decide) h3
   have k3:=z8T (c:=⟨#[124,124]⟩) k k2 (z7m _ _) rfl h5 hv hz
   cases n with
   |zero=>simp [M] at h6
   |succ n=>
    rw [z71,if_neg (by unfold pkS;rw [k3.at_,k3.bad,L.c41];decide)] at h6
    cases h6
    exact k3
theorem zdS (L:Lay s t a b st.at_ q0 q1 p)(iha:Rb s a)(ihb:Rb s b)(hb:st.bad=false)(hv:VlE (.pa t a b))(hz:tyE (.pa t a b)≠0)(ht:anS t)(la:2≤lvE a)(lb:2≤lvE b): ∀n r,M s n 1 0 st=some r→RdE (.pa t a b) st p r:=by
 intro n r hm
 cases n with
 |zero=>simp [M] at hm
 |succ n=>
  rw [M_1] at hm
  obtain⟨q,h1,h2⟩:=zgD.1 hm
  cases n with
  |zero=>simp [M] at h2
  |succ n=>
   obtain rfl:t=[38,38]:=ht
   have k:=L.ra iha la hb L.ats.1 (by decide) h1
   rw [z7h,if_pos (by unfold pkS;rw [k.at_,k.bad,L.ats.1];decide),L.sg k] at h2
   obtain⟨q2,h3,h4⟩:=zgD.1 h2
   obtain⟨q3,h5,h6⟩:=zgD.1 h4
   have k2:=L.rb ihb lb (st2:={q.2 with at_:=q1}) k.bad rfl (by decide) h3
   have k3:=z8T (c:=⟨#[38,38]⟩) k k2 (z7m _ _) rfl h5 hv hz
   cases n with
   |zero=>simp [M] at h6
   |succ n=>
    rw [z7h,if_neg (by unfold pkS;rw [k3.at_,k3.bad,L.c41];decide)] at h6
    cases h6
    exact k3
theorem zeq (L:Lay s t a b st.at_ q0 q1 p)(iha:Rb s a)(ihb:Rb s b)(hb:st.bad=false)(hv:VlE (.pa t a b))(hz:tyE (.pa t a b)≠0)(ht:smS t)(la:5≤lvE a)(lb:5≤lvE b): ∀n r,M s n 4 0 st=some r→RdE (.pa t a b) st p r:=by
 intro n r hm
 cases n with
 |zero=>simp [M] at hm
 |succ n=>
  rw [M_4] at hm
  obtain⟨q,h1,h2⟩:=zgD.1 hm
  cases n with
  |zero=>simp [M] at h2
  |succ n=>
   have key: ∃c:UInt8,t=[c]∧zr s q0 false=⟨#[c]⟩∧qb 5 (c.toNat:Int)=true:=by
    have hn:pk s (q0+1) false=32:=by
     rcases ht with rfl|rfl|rfl<;>exact L.b2
    rcases ht with rfl|rfl|rfl
    ·exact⟨43,rfl,by unfold zr zz;rw [L.ats.1,hn];rfl,by decide⟩
    ·exact⟨45,rfl,by unfold zr zz;rw [L.ats.1,hn];rfl,by decide⟩
    ·exact⟨46,rfl,by unfold zr zz;rw [L.ats.1,hn];rfl,by decide⟩
   obtain⟨c,rfl,hs,hqb⟩:=key
   have k:=L.ra iha la hb L.ats.1 hqb h1
   rw [z6x,k.at_,k.bad,hs] at h2
   have h2:((M s n 5 0 (sgn s [c] q.2)).bind fun r=>(jQ r.2 ⟨6,(q0:Int),⟨#[c]⟩,q.1,r.1⟩).bind fun q=>M s n 14 q.1 q.2)=some r:=h2
   rw [L.sg k] at h2
   obtain⟨q2,h3,h4⟩:=zgD.1 h2
   obtain⟨q3,h5,h6⟩:=zgD.1 h4
   have k2:=L.rb ihb lb (st2:={q.2 with at_:=q1}) k.bad rfl (by decide) h3
   have k3:=z8T (c:=⟨#[c]⟩) k k2 (z7m _ _) rfl h5 hv hz
   have hend:zr s p false=⟨#[]⟩:=(zdt (tag:=0) L.c41 (by decide)).2.1 (by omega)
   cases n with
   |zero=>simp [M] at h6
   |succ n=>
    rw [z6x,k3.at_,k3.bad,hend] at h6
    have h6:some (q3.1,q3.2)=some r:=h6
    cases h6
    exact k3
theorem zeu (L:Lay s t a b st.at_ q0 q1 p)(iha:Rb s a)(ihb:Rb s b)(hb:st.bad=false)(hv:VlE (.pa t a b))(hz:tyE (.pa t a b)≠0)(ht:pdS t)(la:6≤lvE a)(lb:6≤lvE b): ∀n r,M s n 5 0 st=some r→RdE (.pa t a b) st p r:=by
 intro n r hm
 cases n with
 |zero=>simp [M] at hm
 |succ n=>
  rw [M_5] at hm
  obtain⟨q,h1,h2⟩:=zgD.1 hm
  cases n with
  |zero=>simp [M] at h2
  |succ n=>
   have key: ∃c:UInt8,t=[c]∧zh s q0 false=⟨#[c]⟩∧qb 6 (c.toNat:Int)=true:=by
    rcases ht with rfl|rfl|rfl
    ·exact⟨42,rfl,by unfold zh;rw [L.ats.1];rfl,by decide⟩
    ·exact⟨47,rfl,by unfold zh;rw [L.ats.1];rfl,by decide⟩
    ·exact⟨37,rfl,by unfold zh;rw [L.ats.1];rfl,by decide⟩
   obtain⟨c,rfl,hs,hqb⟩:=key
   have k:=L.ra iha la hb L.ats.1 hqb h1
   rw [z7L,k.at_,k.bad,hs] at h2
   have h2:((M s n 6 0 (sgn s [c] q.2)).bind fun r=>(jQ r.2 ⟨6,(q0:Int),⟨#[c]⟩,q.1,r.1⟩).bind fun q=>M s n 15 q.1 q.2)=some r:=h2
   rw [L.sg k] at h2
   obtain⟨q2,h3,h4⟩:=zgD.1 h2
   obtain⟨q3,h5,h6⟩:=zgD.1 h4
   have k2:=L.rb ihb lb (st2:={q.2 with at_:=q1}) k.bad rfl (by decide) h3
   have k3:=z8T (c:=⟨#[c]⟩) k k2 (z7m _ _) rfl h5 hv hz
   have hend:zh s p false=⟨#[]⟩:=(zdt (tag:=0) L.c41 (by decide)).1 (by omega)
   cases n with
   |zero=>simp [M] at h6
   |succ n=>
    rw [z7L,k3.at_,k3.bad,hend] at h6
    have h6:some (q3.1,q3.2)=some r:=h6
    cases h6
    exact k3
theorem zff (L:Lay s t a b st.at_ q0 q1 p)(iha:Rb s a)(ihb:Rb s b)(hb:st.bad=false)(hv:VlE (.pa t a b))(hz:tyE (.pa t a b)≠0)(ht:cmS t)(la:4≤lvE a)(lb:4≤lvE b): ∀n r,M s n 3 0 st=some r→RdE (.pa t a b) st p r:=by
 intro n r hm
 cases n with
 |zero=>simp [M] at hm
 |succ n=>
  rw [M_3] at hm
  obtain⟨q,h1,h2⟩:=zgD.1 hm
  have key:ze s q0 false=(q1,false,⟨t.toArray⟩)∧(∃c:Int,pk s q0 false=c∧qb 4 c=true)∧((⟨t.toArray⟩:zgS).size==0)=false:=by
   have hb2:=L.b2
   have hsk:=L.sk2
   rcases ht with rfl|rfl|rfl|rfl|rfl|rfl
   ·refine⟨?_,⟨_,L.ats.1,by decide⟩,by decide⟩
    unfold ze
    rw [if_pos (by rw [L.ats.1];decide),z2R L.ats,hsk]
   ·refine⟨?_,⟨_,L.ats.1,by decide⟩,by decide⟩
    unfold ze
    rw [if_neg (by rw [L.ats.1];decide),if_pos (by rw [L.ats.1];decide),z2R L.ats,hsk]
   ·refine⟨?_,⟨_,L.ats.1,by decide⟩,by decide⟩
    unfold ze
    rw [if_neg (by rw [L.ats.1];decide),if_neg (by rw [L.ats.1];decide),if_pos (by rw [L.ats.1];decide)]
    unfold zx
    simp only
    rw [z1Z [60] q0 L.ats]
    simp only
    rw [if_pos (by rw [hb2];decide),hsk]
   ·refine⟨?_,⟨_,L.ats.1,by decide⟩,by decide⟩
    unfold ze
    rw [if_neg (by rw [L.ats.1];decide),if_neg (by rw [L.ats.1];decide),if_pos (by rw [L.ats.1];decide)]
    unfold zx
    simp only
    rw [z1Z [60] q0 ⟨L.ats.1,trivial⟩]
    simp only
    rw [if_neg (by show ¬(pk s (q0+1) false !=61)=true;rw [L.ats.2.1];decide),z2R (l:=[61]) (show At s (q0+([60]:List UInt8).length) [61] from L.ats.2)]
    rw [show q0+([60]:List UInt8).length+([61]:List UInt8).length=q0+([60,61]:List UInt8).length from rfl,hsk]
   ·refine⟨?_,⟨_,L.ats.1,by decide⟩,by decide⟩
    unfold ze
    rw [if_neg (by rw [L.ats.1];decide),if_neg (by rw [L.ats.1];decide),if_neg (by rw [L.ats.1];decide),if_pos (by rw [L.ats.1];decide)]
    unfold zx
    simp only
    rw [z1Z [62] q0 L.ats]
    simp only
    rw [if_pos (by rw [hb2];decide),hsk]
   ·refine⟨?_,⟨_,L.ats.1,by decide⟩,by decide⟩
    unfold ze
    rw [if_neg (by rw [L.ats.1];decide),if_neg (by rw [L.ats.1];decide),if_neg (by rw [L.ats.1];decide),if_pos (by rw [L.ats.1];decide)]
    unfold zx
    simp only
    rw [z1Z [62] q0 ⟨L.ats.1,trivial⟩]
    simp only
    rw [if_neg (by show ¬(pk s (q0+1) false !=61)=true;rw [L.ats.2.1];decide),z2R (l:=[61]) (show At s (q0+([62]:List UInt8).length) [61] from L.ats.2)]
    rw [show q0+([62]:List UInt8).length+([61]:List UInt8).length=q0+([62,61]:List UInt8).length from rfl,hsk]
  obtain⟨hc,⟨c,hc1,hc2⟩,hsz⟩:=key
  have k:=L.ra iha la hb hc1 hc2 h1
  simp only at h2
  rw [k.at_,k.bad,hc] at h2
  simp only at h2
  rw [if_neg (by rw [hsz];decide)] at h2
  obtain⟨q2,h3,h4⟩:=zgD.1 h2
  have k2:=L.rb ihb lb (st2:=q.2.put3 (q1,false,⟨t.toArray⟩)) rfl rfl (by decide) h3
  exact z8T (c:=⟨t.toArray⟩) k k2 ⟨⟨[],by simp [St.put3]⟩,rfl,rfl,rfl⟩ rfl h4 hv hz
end
theorem zg3 {s:zgS}{t:List UInt8}{a b:TE}(iha:Rb s a)(ihb:Rb s b)(hv:VlE (.pa t a b))(hz:tyE (.pa t a b)≠0)(hza:tyE a≠0)(hzb:tyE b≠0):Rb s (.pa t a b):=by
 intro tag ht st hb hat hd hq
 have hp:pkS s st=pk s st.at_ false:=by unfold pkS;rw [hb]
 have e:prE (.pa t a b)=40::(prE a++(32::(t++(32::(prE b++[41]))))):=rfl
 rw [e] at hat hd hq ⊢
 obtain⟨h0,h1⟩:=hat
 obtain⟨a1,h2⟩:=(zy _ _ _).1 h1
 obtain⟨b1,h3⟩:=h2
 obtain⟨a2,h4⟩:=(zy _ _ _).1 h3
 obtain⟨b2,h5⟩:=h4
 obtain⟨a3,h6⟩:=(zy _ _ _).1 h5
 have c41:=h6.1
 have hnb:pk s (st.at_+1+(prE a).length+1) false≠32:=by
  have:=hv.1
  unfold orS anS cmS smS pdS at this
  rcases this with rfl|rfl|(rfl|rfl|rfl|rfl|rfl|rfl)|(rfl|rfl|rfl)|(rfl|rfl|rfl)<;>rw [a2.1]<;>decide
 have L:Lay s t a b ({st with at_:=st.at_+1}:St).at_ (st.at_+1+(prE a).length+1) (st.at_+1+(prE a).length+1+t.length+1) (st.at_+1+(prE a).length+1+t.length+1+(prE b).length):=
  ⟨a1,z0J b1 hnb,by show dlm (pk s (st.at_+1+(prE a).length) false)=true;rw [b1];rfl,a2,b2,z0J b2 (z0O hv.2.2 a3).1,a3,rfl,c41⟩
 have hl:st.at_+(40::(prE a++(32::(t++(32::(prE b++[41])))))).length=st.at_+1+(prE a).length+1+t.length+1+(prE b).length+1:=by simp;omega
 rw [hl] at hq ⊢
 have inner: ∀n r,M s n 0 0 {st with at_:=st.at_+1}=some r→RdE (.pa t a b) {st with at_:=st.at_+1} (st.at_+1+(prE a).length+1+t.length+1+(prE b).length) r:=by
  have hp1:pkS s {st with at_:=st.at_+1}=pk s (st.at_+1) false:=by unfold pkS;simp only;rw [hb]
  have q0:qt s 0 (st.at_+1+(prE a).length+1+t.length+1+(prE b).length):=zdt c41 (by decide)
  have no33:tyE a≠1→pkS s {st with at_:=st.at_+1}≠33:=fun h=>by
   rw [hp1]
   exact(z0O hv.2.1 a1).2.1 (by have:=z3d hza h;omega)
  rcases hv.1 with h|h|h|h|h
  ·exact zeG L iha ihb hb hv hz h (by have:=(z8N (T:=a)).2;omega) (by have:=(z8N (T:=b)).2;omega)
  ·exact z3g (lv:=1) (by omega) (zdS L iha ihb hb hv hz h z8N.2 z8N.2) (fun e=>by omega) (fun e=>by omega) (by omega) q0
  ·obtain⟨t1,t2⟩:=z6G hz (.inl h)
   have l1:=z3d hza t1
   have l2:=z3d hzb t2
   exact z3g (lv:=3) (by omega) (zff L iha ihb hb hv hz h (by omega) (by omega)) (fun e=>by omega) (fun _=>no33 t1) (by omega) q0
  ·obtain⟨t1,t2⟩:=z6G hz (.inr (.inl h))
   have l1:=z3d hza t1
   have l2:=z3d hzb t2
   exact z3g (lv:=4) (by omega) (zeq L iha ihb hb hv hz h (by omega) (by omega)) (fun e=>by omega) (fun _=>no33 t1) (by omega) q0
  ·obtain⟨t1,t2⟩:=z6G hz (.inr (.inr h))
   have l1:=z3d hza t1
   have l2:=z3d hzb t2
   exact z3g (lv:=5) (by omega) (zeu L iha ihb hb hv hz h l1 l2) (fun e=>by omega) (fun _=>no33 t1) (by omega) q0
 refine z3g (lv:=7) (zgH _) ?_ (fun _=>by rw [hp,h0];decide) (fun _=>by rw [hp,h0];decide) ht hq
 intro n r hm
 cases n with
 |zero=>simp [M] at hm
 |succ n=>
  rw [M_7,hp,h0,if_neg (by decide),if_neg (by decide),if_neg (by decide),if_pos (by decide)] at hm
  obtain⟨q,h7,h8⟩:=zgD.1 hm
  have hs:sgn s [40] st={st with at_:=st.at_+1}:=by
   rw [z0m (l:=[40]) hb ⟨h0,trivial⟩]
   show({st with at_:=skip s (st.at_+1) false}:St)=_
   rw [zI (z0O hv.2.1 a1).1]
  rw [hs] at h7
  have k:=inner n q h7
  have hs2:sgn s [41] q.2={q.2 with at_:=skip s (st.at_+1+(prE a).length+1+t.length+1+(prE b).length+1) false}:=by
   rw [z0m k.bad (by rw [k.at_];exact⟨c41,trivial⟩),k.at_]
   rfl
  rw [hs2] at h8
  cases h8
  exact⟨k.bad,rfl,k.ext,k.is,k.ty⟩
theorem zbC (s:zgS): ∀(T:TE),VlE T→WtE T→tyE T≠0→Rb s T:=by
 intro T
 induction T using TE.ind with
 |lf f t=>intro hv _ hz;exact zfL hv hz
 |pr t a ih=>
  intro hv hw hz
  have hza:tyE a≠0:=by
   cases a using TE.cas with
   |lf f t'=>rcases hv.2 with⟨rfl,_⟩|⟨rfl,_⟩|⟨rfl,_⟩|⟨rfl,_⟩|⟨rfl,_⟩<;>simp [za5,zv]
   |pr t' b=>exact hw.2.1
   |pa t' b c=>exact hw.2.1
  exact zg5 (ih hv.2 hw.2 hza) hv hz hza
 |pa t a b iha ihb=>
  intro hv hw hz
  have nz: ∀{a:TE},VlE a→WtE a→tyE a≠0:=fun{a} hv hw=>by
   cases a using TE.cas with
   |lf f t'=>rcases hv with⟨rfl,_⟩|⟨rfl,_⟩|⟨rfl,_⟩|⟨rfl,_⟩|⟨rfl,_⟩<;>simp [za5,zv]
   |pr t' b=>exact hw.1
   |pa t' b c=>exact hw.1
  have hza:=nz hv.2.1 hw.2.1
  have hzb:=nz hv.2.2 hw.2.2
  exact zg3 (iha hv.2.1 hw.2.1 hza) (ihb hv.2.2 hw.2.2 hzb) hv hz hza hzb
def zdb:TB→Prop
 | .inner 0 k _ l r=>k.1=0∧l= .leaf∧r= .leaf
 | .inner 1 k _ l r=>k.1=0∧zdb l∧zdb r
 | .inner 2 k _ l r=>(∃c,k=(0,[c]))∧zdb l∧r= .leaf
 | .inner 3 k _ l r=>k=(0,[])∧zdb l∧r= .leaf
 | .inner 4 k _ l r=>k=(0,[])∧zdb l∧zdb r
 |_=>False
def TL:Type:={T:TB//zdb T}
def TL.nm (t:List UInt8):TL:=⟨.inner 0 (0,t) () .leaf .leaf,rfl,rfl,rfl⟩
def TL.pa (t:List UInt8)(a b:TL):TL:=⟨.inner 1 (0,t) () (Subtype.val a) (Subtype.val b),rfl,a.2,b.2⟩
def TL.of (c:UInt8)(l:TL):TL:=⟨.inner 2 (0,[c]) () (Subtype.val l) .leaf,⟨c,rfl⟩,l.2,rfl⟩
def TL.one (x:TL):TL:=⟨.inner 3 (0,[]) () (Subtype.val x) .leaf,rfl,x.2,rfl⟩
def TL.mo (x r:TL):TL:=⟨.inner 4 (0,[]) () (Subtype.val x) (Subtype.val r),rfl,x.2,r.2⟩
theorem TL.ind {motive:TL→Prop}(nm: ∀t,motive (TL.nm t))(pa: ∀t a b,motive a→motive b→motive (TL.pa t a b))(of: ∀c l,motive l→motive (TL.of c l))(one: ∀x,motive x→motive (TL.one x))(mo: ∀x r,motive x→motive r→motive (TL.mo x r))(T:TL):motive T:=by
 obtain⟨T,h⟩:=T
 induction T with
 |leaf=>exact absurd h id
 |inner n k v l r ihl ihr=>
  obtain⟨f,t⟩:=k
  cases v
  match n,h with
  |0,h=>
   obtain⟨hk,rfl,rfl⟩:=h
   have hk:f=0:=hk
   subst hk
   exact nm t
  |1,h=>
   obtain⟨hk,hl,hr⟩:=h
   have hk:f=0:=hk
   subst hk
   exact pa t ⟨l,hl⟩ ⟨r,hr⟩ (ihl hl) (ihr hr)
  |2,h=>
   obtain⟨⟨c,hk⟩,hl,rfl⟩:=h
   cases hk
   exact of c ⟨l,hl⟩ (ihl hl)
  |3,h=>
   obtain⟨hk,hl,rfl⟩:=h
   cases hk
   exact one ⟨l,hl⟩ (ihl hl)
  |4,h=>
   obtain⟨hk,hl,hr⟩:=h
   cases hk
   exact mo ⟨l,hl⟩ ⟨r,hr⟩ (ihl hl) (ihr hr)
  |n+5,h=>exact absurd h id
theorem TL.cas {motive:TL→Prop}(nm: ∀t,motive (TL.nm t))(pa: ∀t a b,motive (TL.pa t a b))(of: ∀c l,motive (TL.of c l))(one: ∀x,motive (TL.one x))(mo: ∀x r,motive (TL.mo x r))(T:TL):motive T:=TL.ind nm (fun t a b _ _=>pa t a b) (fun c l _=>of c l) (fun x _=>one x) (fun x r _ _=>mo x r) T
def zcY (L:List Lc):TB→List Int→Prop
 | .inner 0 (_,t) _ _ _,is=> ∃(n:Nat) (x:Lc),is=[(n:Int)]∧L[n]?=some x∧x.form=0∧x.text.data.toList=t
 | .inner 1 (_,t) _ a b,is=> ∃(n:Nat) (x:Lc),is=[(n:Int)]∧L[n]?=some x∧x.form=1∧x.text.data.toList=t∧x.left<(n:Int)∧x.right<(n:Int)∧zcY L a [x.left]∧zcY L b [x.right]
 | .inner 2 (_,[c]) _ l _,is=> ∃(n:Nat) (x:Lc),is=[(n:Int)]∧L[n]?=some x∧x.form=2∧x.count=(c.toNat:Int)- 48∧(∀i∈x.items,i<(n:Int))∧zcY L l x.items
 | .inner 3 _ _ x _,is=>zcY L x is
 | .inner 4 _ _ x r,is=> ∃(i:Int) (js:List Int),is=i::js∧zcY L x [i]∧zcY L r js
 |_,_=>False
def IsL (L:List Lc)(T:TL)(is:List Int):Prop:=zcY L (Subtype.val T) is
theorem IsL.more {L:List Lc}(F:List Lc): ∀{T:TL} {is:List Int},IsL L T is→IsL (L++F) T is:=by
 intro T
 induction T using TL.ind with
 |nm t=>intro is ⟨n,x,h1,h2,h3⟩;exact⟨n,x,h1,z0t F h2,h3⟩
 |pa t a b iha ihb=>intro is ⟨n,x,h1,h2,h3,h4,h5,h6,h7,h8⟩;exact⟨n,x,h1,z0t F h2,h3,h4,h5,h6,iha h7,ihb h8⟩
 |of c l ih=>intro is ⟨n,x,h1,h2,h3,h4,h5,h6⟩;exact⟨n,x,h1,z0t F h2,h3,h4,h5,ih h6⟩
 |one x ih=>intro is h;exact ih h
 |mo x r ihx ihr=>intro is ⟨i,js,h1,h2,h3⟩;exact⟨i,js,h1,ihx h2,ihr h3⟩
theorem IsL.lt {L:List Lc}: ∀{T:TL} {is:List Int},IsL L T is→ ∀i∈is,i<(L.length:Int):=by
 intro T
 induction T using TL.ind with
 |nm t=>intro is ⟨n,x,h1,h2,_⟩ i hi;have:=(zgF.1 h2).1;rw [h1] at hi;rw [List.mem_singleton.1 hi];omega
 |pa t a b _ _=>intro is ⟨n,x,h1,h2,_⟩ i hi;have:=(zgF.1 h2).1;rw [h1] at hi;rw [List.mem_singleton.1 hi];omega
 |of c l _=>intro is ⟨n,x,h1,h2,_⟩ i hi;have:=(zgF.1 h2).1;rw [h1] at hi;rw [List.mem_singleton.1 hi];omega
 |one x ih=>intro is h;exact ih h
 |mo x r ihx ihr=>
  intro is ⟨i,js,h1,h2,h3⟩ k hk
  rw [h1] at hk
  rcases List.mem_cons.1 hk with rfl|hk
  ·exact ihx h2 _ List.mem_cons_self
  ·exact ihr h3 k hk
theorem IsL.lt1 {L:List Lc}{T:TL}{i:Int}(h:IsL L T [i]):i<(L.length:Int):=h.lt i List.mem_cons_self
def zd7:TB→Bool→Prop
 | .inner 0 (_,t) _ _ _,false=>z4y t
 | .inner 1 (_,t) _ a b,false=>(orS t∨anS t)∧zd7 a false∧zd7 b false
 | .inner 2 (_,[c]) _ l _,false=>isD c=true∧zd7 l true
 | .inner 3 _ _ x _,true=>zd7 x false
 | .inner 4 _ _ x r,true=>zd7 x false∧zd7 r true
 |_,_=>False
def VlL (T:TL)(b:Bool):Prop:=zd7 (Subtype.val T) b
theorem zbN {L:List Lc}{c:zgS}{l r p k:Int}{is:List Int}:IsL (L++[⟨0,c,l,r,p,k,is⟩]) (.nm c.data.toList) [(L.length:Int)]:=⟨L.length,_,rfl,z0e L _,rfl,rfl⟩
theorem zbW {L:List Lc}{T U:TL}{l r p k:Int}{c:zgS}{is:List Int}(h:IsL L T [l])(h2:IsL L U [r]):IsL (L++[⟨1,c,l,r,p,k,is⟩]) (.pa c.data.toList T U) [(L.length:Int)]:=⟨L.length,_,rfl,z0e L _,rfl,rfl,h.lt1,h2.lt1,h.more _,h2.more _⟩
theorem zc3 {L:List Lc}{T:TL}{l r p k:Int}{t:zgS}{is:List Int}{c:UInt8}(h:IsL L T is)(hk:k=(c.toNat:Int)- 48):IsL (L++[⟨2,t,l,r,p,k,is⟩]) (.of c T) [(L.length:Int)]:=⟨L.length,_,rfl,z0e L _,rfl,hk,fun i hi=>h.lt i hi,h.more _⟩
def LsL (L:List Lc):List TL→List Int→Prop
 |[],[]=>True
 |T::Ts,i::is=>(VlL T false∧IsL L T [i])∧LsL L Ts is
 |_,_=>False
theorem LsL.more {L:List Lc}(F:List Lc): ∀{Ts:List TL} {is:List Int},LsL L Ts is→LsL (L++F) Ts is:=by
 intro Ts
 induction Ts with
 |nil=>intro is h;cases is with
  |nil=>trivial
  |cons i is=>exact absurd h id
 |cons T Ts ih=>intro is h;cases is with
  |nil=>exact absurd h id
  |cons i is=>exact⟨⟨h.1.1,h.1.2.more F⟩,ih h.2⟩
theorem LsL.snoc {L:List Lc}: ∀{Ts:List TL} {is:List Int} {T:TL} {i:Int},LsL L Ts is→VlL T false→IsL L T [i]→LsL L (Ts++[T]) (is++[i]):=by
 intro Ts
 induction Ts with
 |nil=>intro is T i h hv hi;cases is with
  |nil=>exact⟨⟨hv,hi⟩,trivial⟩
  |cons i is=>exact absurd h id
 |cons U Ts ih=>intro is T i h hv hi;cases is with
  |nil=>exact absurd h id
  |cons j is=>exact⟨h.1,ih h.2 hv hi⟩
def mkL:List TL→TL
 |[]=> .nm []
 |[x]=> .one x
 |x::y::ys=> .mo x (mkL (y::ys))
theorem zel {L:List Lc}: ∀{Ts:List TL} {is:List Int},Ts≠[]→LsL L Ts is→VlL (mkL Ts) true∧IsL L (mkL Ts) is:=by
 intro Ts
 induction Ts with
 |nil=>intro is h;exact absurd rfl h
 |cons T Ts ih=>
  intro is _ h
  cases is with
  |nil=>exact absurd h id
  |cons i is=>
   cases Ts with
   |nil=>
    cases is with
    |nil=>exact⟨h.1.1,h.1.2⟩
    |cons j is=>exact absurd h.2 id
   |cons U Ts=>
    obtain⟨k1,k2⟩:=ih (by simp) h.2
    exact⟨⟨h.1.1,k1⟩,i,is,rfl,h.1.2,k2⟩
theorem zcF (s:zgS): ∀n tag l p k its st r,ML s n tag l p k its st=some r→r.2.bad=false→(tag=3→zg (pkS s st)=true)→(tag=10∨tag=11→ ∃T,VlL T false∧IsL st.L T [l])→(tag=13→ ∃c:UInt8,isD c=true∧k=(c.toNat:Int)- 48∧ ∃Ts,Ts≠[]∧LsL st.L Ts its)→ ∃T,VlL T false∧IsL r.2.L T [r.1]:=by
 intro n
 induction n with
 |zero=>intro tag l p k its st r h;simp [ML] at h
 |succ n ih=>
  intro tag l p k its st r h hr h3 hl h13
  have two: ∀{t1 t2:Nat} {st0:St},t1<3→(t2=10∨t2=11)→((ML s n t1 0 0 0 [] st0).bind fun r=>ML s n t2 r.1 0 0 [] r.2)=some r→ ∃T,VlL T false∧IsL r.2.L T [r.1]:=fun ht ht2 h=>by
   obtain⟨q,h1,h2⟩:=zgD.1 h
   have hb:q.2.bad=false:=z0K h2 hr (by omega)
   exact ih _ _ _ _ _ _ _ h2 hr (fun e=>by omega) (fun _=>ih _ _ _ _ _ _ _ h1 hb (fun e=>by omega) (fun e=>by omega) (fun e=>by omega)) (fun e=>by omega)
  have three: ∀{t1 t2:Nat} {st0:St} {c:zgS},t1<3→(t2=10∨t2=11)→(∃T,VlL T false∧IsL st.L T [l])→(orS c.data.toList∨anS c.data.toList)→((ML s n t1 0 0 0 [] st0).bind fun r=>(z2H r.2 ⟨1,c,l,r.1,0,0,[]⟩).bind fun q=>ML s n t2 q.1 0 0 [] q.2)=some r→st0.L=st.L→ ∃T,VlL T false∧IsL r.2.L T [r.1]:=fun ht ht2 hT hc h he=>by
   obtain⟨q,h1,h2⟩:=zgD.1 h
   obtain⟨q2,h3,h4⟩:=zgD.1 h2
   obtain⟨_,rfl⟩:=zJ h3
   have hb:q.2.bad=false:=by have:=z0K h4 hr (by omega);exact this
   obtain⟨T1,v1,i1⟩:=ih _ _ _ _ _ _ _ h1 hb (fun e=>by omega) (fun e=>by omega) (fun e=>by omega)
   obtain⟨T0,v0,i0⟩:=hT
   obtain⟨⟨F,hF⟩,_⟩:=z07 s _ _ _ _ _ _ _ _ h1
   rw [he] at hF
   exact ih _ _ _ _ _ _ _ h4 hr (fun e=>by omega) (fun _=>⟨.pa _ T0 T1,⟨hc,v0,v1⟩,zbW (by rw [hF];exact i0.more F) i1⟩) (fun e=>by omega)
  match tag,h,h3,hl,h13 with
  |0,h,h3,hl,h13=>rw [z7G] at h;exact two (t1:=1) (by omega) (.inl rfl) h
  |1,h,h3,hl,h13=>rw [z7I] at h;exact two (t1:=2) (by omega) (.inr rfl) h
  |10,h,h3,hl,h13=>
   rw [z2n] at h
   split at h
   ·exact three (c:=⟨#[124,124]⟩) (t1:=1) (by omega) (.inl rfl) (hl (.inl rfl)) (.inl rfl) h rfl
   ·cases h;exact hl (.inl rfl)
  |11,h,h3,hl,h13=>
   rw [z2w] at h
   split at h
   ·exact three (c:=⟨#[38,38]⟩) (t1:=2) (by omega) (.inr rfl) (hl (.inr rfl)) (.inr rfl) h rfl
   ·cases h;exact hl (.inr rfl)
  |2,h,h3,hl,h13=>
   rw [z6l] at h
   split at h
   ·obtain⟨q,h1,h2⟩:=zgD.1 h
    cases h2
    have hb:q.2.bad=false:=z0n hr
    obtain⟨T,v,i⟩:=ih _ _ _ _ _ _ _ h1 hb (fun e=>by omega) (fun e=>by omega) (fun e=>by omega)
    exact⟨T,v,i⟩
   ·split at h
    ·rename_i hd
     exact ih _ _ _ _ _ _ _ h hr (fun _=>hd) (fun e=>by omega) (fun e=>by omega)
    ·simp only at h
     obtain⟨_,rfl⟩:=zJ h
     have hb:(zw s st.at_ st.bad).2.1=false:=hr
     have hs:=z18 hb
     rw [hs] at hb ⊢
     exact⟨.nm _,z3u hb,zbN⟩
  |3,h,h3,hl,h13=>
   rw [z9z] at h
   obtain⟨q,h1,h2⟩:=zgD.1 h
   have hb:q.2.bad=false:=z0K h2 hr (by omega)
   obtain⟨T,v,i⟩:=ih _ _ _ _ _ _ _ h1 hb (fun e=>by omega) (fun e=>by omega) (fun e=>by omega)
   have hd:=h3 rfl
   have hne:pkS s st≠ -1:=fun e=>by rw [e] at hd;cases hd
   obtain⟨hsb,hlt⟩:=jT (s:=s) (a:=st.at_) (d:=st.bad) hne
   have hpk:pkS s st=(s[st.at_].toNat:Int):=by unfold pkS;rw [hsb];exact z27 hlt
   exact ih _ _ _ _ _ _ _ h2 hr (fun e=>by omega) (fun e=>by omega) (fun _=>⟨s[st.at_],by show zg _=true;rw [←hpk];exact hd,by rw [hpk],[T],by simp,⟨v,i⟩,trivial⟩)
  |13,h,h3,hl,h13=>
   obtain⟨c,hc,hk,Ts,hn,hls⟩:=h13 rfl
   rw [z2U] at h
   split at h
   ·split at h
    ·obtain⟨q,h1,h2⟩:=zgD.1 h
     have hb:q.2.bad=false:=z0K h2 hr (by omega)
     obtain⟨T,v,i⟩:=ih _ _ _ _ _ _ _ h1 hb (fun e=>by omega) (fun e=>by omega) (fun e=>by omega)
     obtain⟨⟨F,hF⟩,_⟩:=z07 s _ _ _ _ _ _ _ _ h1
     have hF:q.2.L=st.L++F:=hF
     exact ih _ _ _ _ _ _ _ h2 hr (fun e=>by omega) (fun e=>by omega) (fun _=>⟨c,hc,hk,Ts++[T],by simp,(by rw [hF];exact hls.more F:LsL q.2.L Ts its).snoc v i⟩)
    ·obtain⟨_,rfl⟩:=zJ h
     obtain⟨k1,k2⟩:=zel hn hls
     exact⟨.of c (mkL Ts),⟨hc,k1⟩,zc3 (L:=st.L) k2 hk⟩
   ·cases h
  |4,h,h3,hl,h13=>simp [ML] at h
  |5,h,h3,hl,h13=>simp [ML] at h
  |6,h,h3,hl,h13=>simp [ML] at h
  |7,h,h3,hl,h13=>simp [ML] at h
  |8,h,h3,hl,h13=>simp [ML] at h
  |9,h,h3,hl,h13=>simp [ML] at h
  |12,h,h3,hl,h13=>simp [ML] at h
  |u+14,h,h3,hl,h13=>simp [ML] at h
theorem zfQ {ls ls' is is':List Int}(h:is.map (zb ls)=is'.map (zb ls'))(k:Int): ∀top:Nat,cdM ls is k top=cdM ls' is' k top:=by
 intro top
 induction top with
 |zero=>rfl
 |succ n ih=>unfold cdM;rw [z97,z97,h,ih]
theorem zei {L L':List Lc}(sg:zgS→Int)(top:Nat): ∀{T:TL} {is is':List Int},IsL L T is→IsL L' T is'→is.map (zb (jP sg top L []))=is'.map (zb (jP sg top L' [])):=by
 intro T
 induction T using TL.ind with
 |nm t=>
  intro is is' ⟨n,x,h1,h2,h3,h4⟩ ⟨n',x',h1',h2',h3',h4'⟩
  rw [h1,h1',List.map_singleton,List.map_singleton,(z2z sg top h2).1,(z2z sg top h2').1]
  unfold llM
  rw [h3,h3',z0Y (h4.trans h4'.symm)]
  rfl
 |pa t a b iha ihb=>
  intro is is' ⟨n,x,h1,h2,h3,h4,h5,h6,h7,h8⟩ ⟨n',x',h1',h2',h3',h4',h5',h6',h7',h8'⟩
  have na: ∀{L:List Lc} {n:Nat} {x:Lc},L[n]?=some x→ ∀{i:Int},i<(n:Int)→zb (jP sg top (L.take n) []) i=zb (jP sg top L []) i:=fun hx i hi=>by
   by_cases h0:i<0
   ·rw [z1g h0,z1g h0]
   ·obtain⟨j,rfl⟩:=Int.eq_ofNat_of_zero_le (show 0≤i by omega)
    exact(z2z sg top hx).2 j (by omega)
  rw [h1,h1',List.map_singleton,List.map_singleton,(z2z sg top h2).1,(z2z sg top h2').1]
  have ea:=iha h7 h7'
  have eb:=ihb h8 h8'
  simp only [List.map_cons,List.map_nil,List.cons.injEq,and_true] at ea eb
  unfold llM
  rw [h3,h3',z0Y (h4.trans h4'.symm),na h2 h5,na h2 h6,na h2' h5',na h2' h6',ea,eb]
  rfl
 |of c l ih=>
  intro is is' ⟨n,x,h1,h2,h3,h4,h5,h6⟩ ⟨n',x',h1',h2',h3',h4',h5',h6'⟩
  have na: ∀{L:List Lc} {n:Nat} {x:Lc},L[n]?=some x→ ∀{is:List Int},(∀i∈is,i<(n:Int))→is.map (zb (jP sg top (L.take n) []))=is.map (zb (jP sg top L [])):=fun hx is hi=>by
   refine List.map_congr_left fun i hm=> ?_
   have hi:=hi i hm
   by_cases h0:i<0
   ·rw [z1g h0,z1g h0]
   ·obtain⟨j,rfl⟩:=Int.eq_ofNat_of_zero_le (show 0≤i by omega)
    exact(z2z sg top hx).2 j (by omega)
  rw [h1,h1',List.map_singleton,List.map_singleton,(z2z sg top h2).1,(z2z sg top h2').1]
  unfold llM
  rw [h3,h3',h4,h4']
  have e:=zfQ ((na h2 h5).trans ((ih h6 h6').trans (na h2' h5').symm)) ((c.toNat:Int)- 48) top
  show [cdM _ _ _ _]=[cdM _ _ _ _]
  rw [e]
 |one x ih=>intro is is' h h';exact ih h h'
 |mo x r ihx ihr=>
  intro is is' ⟨i,js,h1,h2,h3⟩ ⟨i',js',h1',h2',h3'⟩
  have ea:=ihx h2 h2'
  simp only [List.map_cons,List.map_nil,List.cons.injEq,and_true] at ea
  rw [h1,h1',List.map_cons,List.map_cons,ea,ihr h3 h3']
def zd9:TB→List UInt8
 | .inner 0 (_,t) _ _ _=>t
 | .inner 1 (_,t) _ a b=>40::(zd9 a++(32::(t++(32::(zd9 b++[41])))))
 | .inner 2 (_,[c]) _ l _=>c::45::111::102::40::(zd9 l++[41])
 | .inner 3 _ _ x _=>zd9 x
 | .inner 4 _ _ x r=>zd9 x++(44::32::zd9 r)
 |_=>[]
def prL (T:TL):List UInt8:=zd9 (Subtype.val T)
theorem zdG (t:List UInt8)(a b:TL):prL (.pa t a b)=40::(prL a++(32::(t++(32::(prL b++[41]))))):=rfl
def jnL (sep:List UInt8):List (List UInt8)→List UInt8
 |[]=>[]
 |[x]=>x
 |x::y::ys=>x++(sep++jnL sep (y::ys))
theorem zaS (sep:List UInt8): ∀(xs:List (List UInt8)) (y:List UInt8),xs≠[]→jnL sep (xs++[y])=jnL sep xs++(sep++y):=by
 intro xs
 induction xs with
 |nil=>intro y h;exact absurd rfl h
 |cons x xs ih=>
  intro y _
  cases xs with
  |nil=>rfl
  |cons z zs=>
   have:=ih y (by simp)
   show x++(sep++jnL sep ((z::zs)++[y]))=(x++(sep++jnL sep (z::zs)))++(sep++y)
   rw [this]
   simp
theorem z6p (sep:zgS)(ts:List zgS): ∀k,k≤ts.length→(jk sep ts k).data.toList=jnL sep.data.toList ((ts.take k).map fun t=>t.data.toList):=by
 intro k
 induction k with
 |zero=>intro _;rfl
 |succ k ih=>
  intro hk
  have e:=ih (by omega)
  have hx:ts[k]?=some ts[k]:=zgE (by omega)
  have hg:ts.getD k ⟨#[]⟩=ts[k]:=by rw [List.getD_eq_getElem?_getD,hx];rfl
  rw [List.take_add_one,hx]
  show(jk sep ts (k+1)).data.toList=jnL _ ((ts.take k++[ts[k]]).map _)
  rw [List.map_append]
  unfold jk
  by_cases h0:k=0
  ·subst h0
   rw [if_pos rfl,jx,hg]
   rfl
  ·rw [if_neg h0,jx,jx,hg,e]
   show _=jnL _ (_++[ts[k].data.toList])
   rw [zaS _ _ _ (by
    intro h
    have:=congrArg List.length h
    rw [List.length_map,List.length_take] at this
    simp only [List.length_nil] at this
    omega)]
   simp
theorem zeZ {L:List Lc}: ∀{T:TL} {b:Bool},VlL T b→(∀{f:Nat} {i:Int} {t:zgS},b=false→IsL L T [i]→PrL L f i t→t.data.toList=prL T)∧(∀{f:Nat} {is:List Int} {ts:List zgS},b=true→IsL L T is→All2 (fun i t=>PrL L f i t) is ts→jnL [44,32] (ts.map fun t=>t.data.toList)=prL T∧ts≠[]):=by
 intro T
 induction T using TL.ind with
 |nm tx=>
  intro b hv
  cases b with
  |true=>exact absurd hv id
  |false=>
   refine⟨fun{f i t} _ ⟨n,x,h1,h2,h3,h4⟩ hp=> ?_,fun e=>(by cases e)⟩
   cases f with
   |zero=>exact absurd hp id
   |succ f=>
    obtain⟨_,m,y,e1,e2,_,hp⟩:=hp
    have h1:i=(n:Int):=by simpa using h1
    have:n=m:=by omega
    subst this
    rw [h2] at e2
    cases e2
    rw [h3] at hp
    simp at hp
    rw [hp,h4]
    rfl
 |pa tx a b' iha ihb=>
  intro b hv
  cases b with
  |true=>exact absurd hv id
  |false=>
   refine⟨fun{f i t} _ ⟨n,x,h1,h2,h3,h4,h5,h6,h7,h8⟩ hp=> ?_,fun e=>(by cases e)⟩
   cases f with
   |zero=>exact absurd hp id
   |succ f=>
    obtain⟨_,m,y,e1,e2,_,hp⟩:=hp
    have h1:i=(n:Int):=by simpa using h1
    have:n=m:=by omega
    subst this
    rw [h2] at e2
    cases e2
    rw [h3] at hp
    simp at hp
    obtain⟨t1,p1,t2,p2,rfl⟩:=hp
    rw [zdG]
    unfold z6L
    simp only [jx,h4,(iha hv.2.1).1 rfl h7 p1,(ihb hv.2.2).1 rfl h8 p2]
    simp
 |of c l ih=>
  intro b hv
  cases b with
  |true=>exact absurd hv id
  |false=>
   refine⟨fun{f i t} _ ⟨n,x,h1,h2,h3,h4,h5,h6⟩ hp=> ?_,fun e=>(by cases e)⟩
   cases f with
   |zero=>exact absurd hp id
   |succ f=>
    obtain⟨_,m,y,e1,e2,_,hp⟩:=hp
    have h1:i=(n:Int):=by simpa using h1
    have:n=m:=by omega
    subst this
    rw [h2] at e2
    cases e2
    rw [h3] at hp
    simp only [show ¬((2:Int)=0) by decide,show ¬((2:Int)=1) by decide,false_and,false_or,true_and] at hp
    obtain⟨c',ts,g1,_,_,_,g5,_,rfl⟩:=hp
    have hc:c'=c:=UInt8.toNat_inj.1 (by omega)
    subst hc
    obtain⟨k1,_⟩:=(ih hv.2).2 rfl h6 g5
    have e:=z6p ⟨#[44,32]⟩ ts ts.length (zgH _)
    rw [List.take_length] at e
    simp only [jx,e]
    rw [k1]
    show _=c'::45::111::102::40::(prL l++[41])
    simp
 |one x ih=>
  intro b hv
  cases b with
  |false=>exact absurd hv id
  |true=>
   refine⟨fun e=>(by cases e),fun{f is ts} _ h hp=> ?_⟩
   have hl: ∃i,is=[i]:=by
    cases x using TL.cas with
    |nm t=>obtain⟨n,_,e,_⟩:=h;exact⟨_,e⟩
    |pa t a b=>obtain⟨n,_,e,_⟩:=h;exact⟨_,e⟩
    |of c l=>obtain⟨n,_,e,_⟩:=h;exact⟨_,e⟩
    |one y=>exact absurd hv id
    |mo y r=>exact absurd hv id
   obtain⟨i,rfl⟩:=hl
   cases ts with
   |nil=>exact absurd hp id
   |cons t ts=>
    cases ts with
    |nil=>
     have:=(ih (b:=false) hv).1 rfl h hp.1
     exact⟨this,by simp⟩
    |cons u ts=>exact absurd hp.2 id
 |mo x r ihx ihr=>
  intro b hv
  cases b with
  |false=>exact absurd hv id
  |true=>
   refine⟨fun e=>(by cases e),fun{f is ts} _ ⟨i,js,h1,h2,h3⟩ hp=> ?_⟩
   subst h1
   cases ts with
   |nil=>exact absurd hp id
   |cons t ts=>
    have k1:=(ihx (b:=false) hv.1).1 rfl h2 hp.1
    obtain⟨k2,k3⟩:=(ihr (b:=true) hv.2).2 rfl h3 hp.2
    refine⟨?_,by simp⟩
    cases ts with
    |nil=>exact absurd rfl k3
    |cons u ts=>
     show t.data.toList++([44,32]++jnL [44,32] ((u::ts).map fun t=>t.data.toList))=prL x++(44::32::prL r)
     rw [k1,k2]
     rfl
def zaz:TB→Nat
 | .inner 3 _ _ x _=>zaz x
 | .inner 4 _ _ _ r=>zaz r+1
 |_=>1
def zgy (T:TL):Nat:=zaz (Subtype.val T)
def zcW:TB→Prop
 | .inner 1 _ _ a b=>zcW a∧zcW b
 | .inner 2 (_,[c]) _ l _=>(1≤(c.toNat:Int)- 48∧(c.toNat:Int)- 48≤(zaz l:Int))∧zcW l
 | .inner 3 _ _ x _=>zcW x
 | .inner 4 _ _ x r=>zcW x∧zcW r
 |_=>True
def okL (T:TL):Prop:=zcW (Subtype.val T)
theorem zbK {L:List Lc}: ∀{T:TL} {is:List Int},IsL L T is→is.length=zgy T:=by
 intro T
 induction T using TL.ind with
 |nm t=>intro is ⟨n,x,h1,_⟩;rw [h1];rfl
 |pa t a b _ _=>intro is ⟨n,x,h1,_⟩;rw [h1];rfl
 |of c l _=>intro is ⟨n,x,h1,_⟩;rw [h1];rfl
 |one x ih=>intro is h;exact ih h
 |mo x r ihx ihr=>intro is ⟨i,js,h1,h2,h3⟩;rw [h1,List.length_cons,ihr h3];rfl
theorem z9g {x:Lc}(hf:x.form=2):z0P x=false↔1≤x.count∧x.count≤(x.items.length:Int):=by
 unfold z0P
 rw [hf]
 simp
theorem zfU {L:List Lc}(h: ∀x∈L,z0P x=false): ∀{T:TL} {is:List Int},IsL L T is→okL T:=by
 intro T
 induction T using TL.ind with
 |nm t=>intro is _;trivial
 |pa t a b iha ihb=>intro is ⟨n,x,h1,h2,h3,h4,h5,h6,h7,h8⟩;exact⟨iha h7,ihb h8⟩
 |of c l ih=>
  intro is ⟨n,x,h1,h2,h3,h4,h5,h6⟩
  have:=(z9g h3).1 (h x (zgM h2))
  rw [h4,zbK h6] at this
  exact⟨this,ih h6⟩
 |one x ih=>intro is h;exact ih h
 |mo x r ihx ihr=>intro is ⟨i,js,h1,h2,h3⟩;exact⟨ihx h2,ihr h3⟩
def dlL (c:Int):Bool:=c==32||c==41||c==44||c==10
theorem zga {c:Int}(h:dlL c=true):zk c=false:=by
 unfold dlL at h
 simp only [Bool.or_eq_true,beq_iff_eq] at h
 rcases h with((rfl|rfl)|rfl)|rfl<;>decide
structure RdL (T:TL)(st:St)(a:Nat)(r:Int×St):Prop where
 bad:r.2.bad=false
 at_:r.2.at_=a
 ext:ExtL st r.2
 is:IsL r.2.L T [r.1]
 fl:(∀x∈st.L,z0P x=false)→ ∀x∈r.2.L,z0P x=false
def qlL (s:zgS)(tag a:Nat):Prop:=(tag≤1→pk s a false≠38)∧(tag≤0→pk s a false≠124)
section
variable {s:zgS} {T:TL} {st:St} {a:Nat}
theorem zgb (H: ∀n r,ML s n 2 0 0 0 [] st=some r→RdL T st a r)(h:pk s a false≠38): ∀n r,ML s n 1 0 0 0 [] st=some r→RdL T st a r:=by
 intro n r hm
 cases n with
 |zero=>simp [ML] at hm
 |succ n=>
  rw [z7I] at hm
  obtain⟨q,h1,h2⟩:=zgD.1 hm
  have k:=H n q h1
  cases n with
  |zero=>simp [ML] at h2
  |succ n=>
   rw [z2w,if_neg (by unfold pkS;rw [k.at_,k.bad];simpa using h)] at h2
   cases h2
   exact k
theorem zgh (H: ∀n r,ML s n 1 0 0 0 [] st=some r→RdL T st a r)(h:pk s a false≠124): ∀n r,ML s n 0 0 0 0 [] st=some r→RdL T st a r:=by
 intro n r hm
 cases n with
 |zero=>simp [ML] at hm
 |succ n=>
  rw [z7G] at hm
  obtain⟨q,h1,h2⟩:=zgD.1 hm
  have k:=H n q h1
  cases n with
  |zero=>simp [ML] at h2
  |succ n=>
   rw [z2n,if_neg (by unfold pkS;rw [k.at_,k.bad];simpa using h)] at h2
   cases h2
   exact k
theorem z8Y {tag:Nat}(ht:tag≤2)(H: ∀n r,ML s n 2 0 0 0 [] st=some r→RdL T st a r)(q:qlL s tag a): ∀n r,ML s n tag 0 0 0 [] st=some r→RdL T st a r:=by
 match tag,ht,q with
 |0,_,q=>exact zgh (zgb H (q.1 (by omega))) (q.2 (by omega))
 |1,_,q=>exact zgb H (q.1 (by omega))
 |2,_,q=>exact H
 |t+3,ht,_=>omega
end
theorem z7f {L:List Lc}{x:Lc}(h: ∀x∈L,z0P x=false)(hx:z0P x=false): ∀y∈L++[x],z0P y=false:=fun y hy=>by
 rcases List.mem_append.1 hy with hy|hy
 ·exact h y hy
 ·rw [List.mem_singleton.1 hy];exact hx
theorem zc4 {T U:TL}{st st2:St}{p1 p:Nat}{q q2 r:Int×St}{c:zgS}(k:RdL T st p1 q)(k2:RdL U st2 p q2)(e:ExtL q.2 st2)(eL:st2.L=q.2.L)(h:z2H q2.2 ⟨1,c,q.1,q2.1,0,0,[]⟩=some r):RdL (.pa c.data.toList T U) st p r:=by
 obtain⟨_,rfl⟩:=zJ h
 obtain⟨⟨F,hF⟩,_⟩:=k2.ext
 have hi:IsL (q2.2.L++[⟨1,c,q.1,q2.1,0,0,[]⟩]) (.pa c.data.toList T U) [(q2.2.L.length:Int)]:=zbW (by rw [hF,eL];exact k.is.more F) k2.is
 refine⟨k2.bad,k2.at_,(k.ext.trans (e.trans k2.ext)).trans ⟨⟨_,rfl⟩,rfl,rfl,rfl⟩,hi,fun hE=>z7f (k2.fl ?_) rfl⟩
 rw [eL]
 exact k.fl hE
theorem z9x (st:St)(a:Nat):ExtL st {st with at_:=a}:=⟨⟨[],by simp⟩,rfl,rfl,rfl⟩
def RbL (s:zgS)(T:TL):Prop:= ∀(tag:Nat),tag≤2→ ∀(st:St),st.bad=false→At s st.at_ (prL T)→dlL (pk s (st.at_+(prL T).length) false)=true→qlL s tag (skip s (st.at_+(prL T).length) false)→ ∀n r,ML s n tag 0 0 0 [] st=some r→RdL T st (skip s (st.at_+(prL T).length) false) r
theorem za7 {s:zgS}: ∀{T:TL} {a:Nat} {b:Bool},VlL T b→At s a (prL T)→pk s a false≠32:=by
 intro T
 induction T using TL.ind with
 |nm t=>
  intro a b hv h
  cases b with
  |true=>exact absurd hv id
  |false=>
   have hv:z4y t:=hv
   have h:At s a t:=h
   cases t with
   |nil=>have:=hv.1;simp at this
   |cons c cs=>rw [h.1];have:=(z2G (hv.2.2 c List.mem_cons_self)).1;omega
 |pa t x y _ _=>intro a b hv h;rw [h.1];decide
 |of c l _=>
  intro a b hv h
  cases b with
  |true=>exact absurd hv id
  |false=>rw [h.1];have:=z6N hv.1;omega
 |one x ih=>
  intro a b hv h
  cases b with
  |false=>exact absurd hv id
  |true=>exact ih (b:=false) hv h
 |mo x r ihx _=>
  intro a b hv h
  cases b with
  |false=>exact absurd hv id
  |true=>exact ihx (b:=false) hv.1 ((zy _ _ _).1 h).1
theorem zdQ {s:zgS}{t:List UInt8}(hv:z4y t):RbL s (.nm t):=by
 intro tag ht st hb hat hd hq
 refine z8Y ht ?_ hq
 intro n r hm
 have hat:At s st.at_ t:=hat
 have hd:dlL (pk s (st.at_+t.length) false)=true:=hd
 have hp:pkS s st=pk s st.at_ false:=by unfold pkS;rw [hb]
 have hh:65≤pk s st.at_ false:=by
  cases t with
  |nil=>have:=hv.1;simp at this
  |cons c cs=>rw [hat.1];exact(z2G (hv.2.2 c List.mem_cons_self)).1
 cases n with
 |zero=>simp [ML] at hm
 |succ n=>
  rw [z6l,hp,if_neg (by simp;omega),if_neg (by rw [zbQ (by omega)];decide),hb,z2O hat hv (zga hd)] at hm
  obtain⟨_,rfl⟩:=zJ hm
  have hx:=jI hat
  have hi:IsL (st.L++[⟨0,s.extract st.at_ (st.at_+t.length),-1,-1,0,0,[]⟩]) (.nm (s.extract st.at_ (st.at_+t.length)).data.toList) [(st.L.length:Int)]:=zbN
  rw [hx] at hi
  exact⟨rfl,rfl,⟨⟨_,rfl⟩,rfl,rfl,rfl⟩,hi,fun h=>z7f h rfl⟩
structure LayL (s:zgS)(t:List UInt8)(a b:TL)(x0 q0 q1 p:Nat):Prop where
 at1:At s x0 (prL a)
 sk1:skip s (x0+(prL a).length) false=q0
 d1:dlL (pk s (x0+(prL a).length) false)=true
 ats:At s q0 t
 sk2:skip s (q0+t.length) false=q1
 at2:At s q1 (prL b)
 end_:q1+(prL b).length=p
 c41:pk s p false=41
section
variable {s:zgS} {t:List UInt8} {a b:TL} {st:St} {q0 q1 p:Nat}
theorem LayL.ra (L:LayL s t a b st.at_ q0 q1 p)(ih:RbL s a){tag:Nat}(ht:tag≤2)(hb:st.bad=false)(hq:qlL s tag q0){n:Nat}{r:Int×St}(h:ML s n tag 0 0 0 [] st=some r):RdL a st q0 r:=by
 have:=ih tag ht st hb L.at1 L.d1 (by rw [L.sk1];exact hq) n r h
 rw [L.sk1] at this
 exact this
theorem LayL.rb (L:LayL s t a b st.at_ q0 q1 p)(ih:RbL s b){tag:Nat}(ht:tag≤2){st2:St}(hb:st2.bad=false)(ha:st2.at_=q1){n:Nat}{r:Int×St}(h:ML s n tag 0 0 0 [] st2=some r):RdL b st2 p r:=by
 have e:skip s (q1+(prL b).length) false=p:=by rw [L.end_,zI (by rw [L.c41];decide)]
 have:=ih tag ht st2 hb (by rw [ha];exact L.at2) (by rw [ha,L.end_,L.c41];rfl) (by rw [ha,e];exact⟨fun _=>by rw [L.c41];decide,fun _=>by rw [L.c41];decide⟩) n r h
 rw [ha,e] at this
 exact this
theorem LayL.sg (L:LayL s t a b st.at_ q0 q1 p){r:Int×St}(k:RdL a st q0 r):sgn s t r.2={r.2 with at_:=q1}:=by
 rw [z0m k.bad (by rw [k.at_];exact L.ats),k.at_,L.sk2]
theorem zcU (L:LayL s t a b st.at_ q0 q1 p)(iha:RbL s a)(ihb:RbL s b)(hb:st.bad=false)(ht:orS t): ∀n r,ML s n 0 0 0 0 [] st=some r→RdL (.pa t a b) st p r:=by
 intro n r hm
 cases n with
 |zero=>simp [ML] at hm
 |succ n=>
  rw [z7G] at hm
  obtain⟨q,h1,h2⟩:=zgD.1 hm
  cases n with
  |zero=>simp [ML] at h2
  |succ n=>
   obtain rfl:t=[124,124]:=ht
   have k:=L.ra iha (by omega) hb ⟨fun e=>by first|omega|(rw [L.ats.1];decide),fun e=>by omega⟩ h1
   rw [z2n,if_pos (by unfold pkS;rw [k.at_,k.bad,L.ats.1];decide),L.sg k] at h2
   obtain⟨q2,h3,h4⟩:=zgD.1 h2
   obtain⟨q3,h5,h6⟩:=zgD.1 h4
   have k2:=L.rb ihb (by omega) (st2:={q.2 with at_:=q1}) k.bad rfl h3
   have k3:=zc4 (c:=⟨#[124,124]⟩) k k2 (z9x _ _) rfl h5
   cases n with
   |zero=>simp [ML] at h6
   |succ n=>
    rw [z2n,if_neg (by unfold pkS;rw [k3.at_,k3.bad,L.c41];decide)] at h6
    cases h6
    exact k3
theorem zcz (L:LayL s t a b st.at_ q0 q1 p)(iha:RbL s a)(ihb:RbL s b)(hb:st.bad=false)(ht:anS t): ∀n r,ML s n 1 0 0 0 [] st=some r→RdL (.pa t a b) st p r:=by
 intro n r hm
 cases n with
 |zero=>simp [ML] at hm
 |succ n=>
  rw [z7I] at hm
  obtain⟨q,h1,h2⟩:=zgD.1 hm
  cases n with
  |zero=>simp [ML] at h2
  |succ n=>
   obtain rfl:t=[38,38]:=ht
   have k:=L.ra iha (by omega) hb ⟨fun e=>by first|omega|(rw [L.ats.1];decide),fun e=>by omega⟩ h1
   rw [z2w,if_pos (by unfold pkS;rw [k.at_,k.bad,L.ats.1];decide),L.sg k] at h2
   obtain⟨q2,h3,h4⟩:=zgD.1 h2
   obtain⟨q3,h5,h6⟩:=zgD.1 h4
   have k2:=L.rb ihb (by omega) (st2:={q.2 with at_:=q1}) k.bad rfl h3
   have k3:=zc4 (c:=⟨#[38,38]⟩) k k2 (z9x _ _) rfl h5
   cases n with
   |zero=>simp [ML] at h6
   |succ n=>
    rw [z2w,if_neg (by unfold pkS;rw [k3.at_,k3.bad,L.c41];decide)] at h6
    cases h6
    exact k3
end
theorem zey {s:zgS}{t:List UInt8}{a b:TL}(iha:RbL s a)(ihb:RbL s b)(hv:VlL (.pa t a b) false):RbL s (.pa t a b):=by
 intro tag ht st hb hat hd hq
 have hp:pkS s st=pk s st.at_ false:=by unfold pkS;rw [hb]
 have e:prL (.pa t a b)=40::(prL a++(32::(t++(32::(prL b++[41]))))):=rfl
 rw [e] at hat hd hq ⊢
 obtain⟨h0,h1⟩:=hat
 obtain⟨a1,h2⟩:=(zy _ _ _).1 h1
 obtain⟨b1,h3⟩:=h2
 obtain⟨a2,h4⟩:=(zy _ _ _).1 h3
 obtain⟨b2,h5⟩:=h4
 obtain⟨a3,h6⟩:=(zy _ _ _).1 h5
 have c41:=h6.1
 have hnb:pk s (st.at_+1+(prL a).length+1) false≠32:=by
  have:=hv.1
  unfold orS anS at this
  rcases this with rfl|rfl<;>rw [a2.1]<;>decide
 have L:LayL s t a b ({st with at_:=st.at_+1}:St).at_ (st.at_+1+(prL a).length+1) (st.at_+1+(prL a).length+1+t.length+1) (st.at_+1+(prL a).length+1+t.length+1+(prL b).length):=
  ⟨a1,z0J b1 hnb,by show dlL (pk s (st.at_+1+(prL a).length) false)=true;rw [b1];rfl,a2,z0J b2 (za7 hv.2.2 a3),a3,rfl,c41⟩
 have hl:st.at_+(40::(prL a++(32::(t++(32::(prL b++[41])))))).length=st.at_+1+(prL a).length+1+t.length+1+(prL b).length+1:=by simp;omega
 rw [hl] at hq ⊢
 have inner: ∀n r,ML s n 0 0 0 0 [] {st with at_:=st.at_+1}=some r→RdL (.pa t a b) {st with at_:=st.at_+1} (st.at_+1+(prL a).length+1+t.length+1+(prL b).length) r:=by
  rcases hv.1 with h|h
  ·exact zcU L iha ihb hb h
  ·exact zgh (zcz L iha ihb hb h) (by rw [c41];decide)
 refine z8Y ht ?_ hq
 intro n r hm
 cases n with
 |zero=>simp [ML] at hm
 |succ n=>
  rw [z6l,hp,h0,if_pos (by decide)] at hm
  obtain⟨q,h7,h8⟩:=zgD.1 hm
  have hs:sgn s [40] st={st with at_:=st.at_+1}:=by
   rw [z0m (l:=[40]) hb ⟨h0,trivial⟩]
   show({st with at_:=skip s (st.at_+1) false}:St)=_
   rw [zI (za7 hv.2.1 a1)]
  rw [hs] at h7
  have k:=inner n q h7
  have hs2:sgn s [41] q.2={q.2 with at_:=skip s (st.at_+1+(prL a).length+1+t.length+1+(prL b).length+1) false}:=by
   rw [z0m k.bad (by rw [k.at_];exact⟨c41,trivial⟩),k.at_]
   rfl
  rw [hs2] at h8
  cases h8
  exact⟨k.bad,rfl,k.ext,k.is,k.fl⟩
structure RdO (T:TL)(st:St)(a:Nat)(p k:Int)(its:List Int)(r:Int×St):Prop where
 bad:r.2.bad=false
 at_:r.2.at_=a
 ext:ExtL st r.2
 row: ∃(L1:List Lc) (js:List Int),r.2.L=L1++[⟨2,⟨#[]⟩,-1,-1,p,k,its++js⟩]∧r.1=(L1.length:Int)∧IsL L1 T js∧((∀x∈st.L,z0P x=false)→ ∀x∈L1,z0P x=false)∧ ∃F,L1=st.L++F
def RbO (s:zgS)(T:TL):Prop:= ∀(n n':Nat) (st:St) (p k:Int) (its:List Int) (r:Int×St),st.bad=false→At s st.at_ (prL T++[41])→((ML s n 0 0 0 0 [] st).bind fun q=>ML s n' 13 0 p k (its++[q.1]) q.2)=some r→RdO T st (skip s (st.at_+(prL T).length+1) false) p k its r
theorem zcq {s:zgS}{x:TL}(ih:RbL s x)(hx: ∀L is,IsL L x is→ ∃i,is=[i]):RbO s (.one x):=by
 intro n n' st p k its r hb hat h
 have hat:At s st.at_ (prL x++[41]):=hat
 obtain⟨a1,a2⟩:=(zy _ _ _).1 hat
 have c41:=a2.1
 obtain⟨q,h1,h2⟩:=zgD.1 h
 have e:skip s (st.at_+(prL x).length) false=st.at_+(prL x).length:=zI (by rw [c41];decide)
 have kx:=ih 0 (by omega) st hb a1 (by rw [c41];rfl) (by rw [e];exact⟨fun _=>by rw [c41];decide,fun _=>by rw [c41];decide⟩) n q h1
 rw [e] at kx
 cases n' with
 |zero=>simp [ML] at h2
 |succ n'=>
  rw [z2U] at h2
  split at h2
  ·rw [if_neg (by unfold pkS;rw [kx.at_,kx.bad,c41];decide),z0m kx.bad (by rw [kx.at_];exact⟨c41,trivial⟩),kx.at_] at h2
   obtain⟨_,rfl⟩:=zJ h2
   obtain⟨F,hF⟩:=kx.ext.1
   exact⟨kx.bad,rfl,kx.ext.trans ⟨⟨_,rfl⟩,rfl,rfl,rfl⟩,q.2.L,[q.1],rfl,rfl,kx.is,kx.fl,F,hF⟩
  ·cases h2
theorem zeI {s:zgS}{x y:TL}(ih:RbL s x)(ihr:RbO s y)(hv:VlL y true):RbO s (.mo x y):=by
 intro n n' st p k its r hb hat h
 have hat:At s st.at_ ((prL x++(44::32::prL y))++[41]):=hat
 rw [List.append_assoc] at hat
 obtain⟨a1,c44,c32,a2⟩:=(zy _ _ _).1 hat
 obtain⟨q,h1,h2⟩:=zgD.1 h
 have e:skip s (st.at_+(prL x).length) false=st.at_+(prL x).length:=zI (by rw [c44];decide)
 have kx:=ih 0 (by omega) st hb a1 (by rw [c44];rfl) (by rw [e];exact⟨fun _=>by rw [c44];decide,fun _=>by rw [c44];decide⟩) n q h1
 rw [e] at kx
 cases n' with
 |zero=>simp [ML] at h2
 |succ n'=>
  rw [z2U] at h2
  split at h2
  ·have hs:sgn s [44] q.2={q.2 with at_:=st.at_+(prL x).length+1+1}:=by
    rw [z0m (l:=[44]) kx.bad (by rw [kx.at_];exact⟨c44,trivial⟩),kx.at_]
    show({q.2 with at_:=skip s (st.at_+(prL x).length+1) false}:St)=_
    rw [z0J c32 (za7 hv ((zy _ _ _).1 a2).1)]
   rw [if_pos (by unfold pkS;rw [kx.at_,kx.bad,c44];decide),hs] at h2
   have ky:=ihr n' n' {q.2 with at_:=st.at_+(prL x).length+1+1} p k (its++[q.1]) r kx.bad a2 h2
   obtain⟨L1,js,e1,e2,e3,e4,F,hF⟩:=ky.row
   obtain⟨F0,hF0⟩:=kx.ext.1
   have hF:L1=q.2.L++F:=hF
   refine⟨ky.bad,?_,kx.ext.trans ky.ext,L1,q.1::js,?_,e2,⟨q.1,js,rfl,by rw [hF];exact kx.is.more F,e3⟩,fun hh=>e4 (kx.fl hh),F0++F,by rw [hF,hF0,List.append_assoc]⟩
   ·rw [ky.at_]
    show skip s (st.at_+(prL x).length+1+1+(prL y).length+1) false=skip s (st.at_+(prL x++(44::32::prL y)).length+1) false
    congr 1
    simp
    omega
   ·rw [e1,List.append_assoc]
    rfl
  ·cases h2
theorem zec {s:zgS}{c:UInt8}{l:TL}(ih:RbO s l)(hv:VlL (.of c l) false)(hk:okL (.of c l)):RbL s (.of c l):=by
 intro tag ht st hb hat hd hq
 have hp:pkS s st=pk s st.at_ false:=by unfold pkS;rw [hb]
 have e:prL (.of c l)=c::45::111::102::40::(prL l++[41]):=rfl
 rw [e] at hat hq ⊢
 obtain⟨h0,h1⟩:=hat
 have h1':At s (st.at_+1) ([45,111,102,40]++(prL l++[41])):=h1
 obtain⟨w1,a2⟩:=(zy _ _ _).1 h1'
 have a2:At s (st.at_+1+4) (prL l++[41]):=a2
 have hdg:=z6N hv.1
 have hl:st.at_+(c::45::111::102::40::(prL l++[41])).length=st.at_+1+4+(prL l).length+1:=by simp;omega
 rw [hl] at hq ⊢
 refine z8Y ht ?_ hq
 intro n r hm
 cases n with
 |zero=>simp [ML] at hm
 |succ n=>
  rw [z6l,hp,h0,if_neg (by simp;omega),if_pos (show zg (c.toNat:Int)=true from hv.1)] at hm
  cases n with
  |zero=>simp [ML] at hm
  |succ n=>
   have hs:sgn s [45,111,102,40] {st with at_:=st.at_+1}={st with at_:=st.at_+1+4}:=by
    rw [z0m (st:={st with at_:=st.at_+1}) hb w1]
    show({st with at_:=skip s (st.at_+1+4) false}:St)=_
    rw [zI (za7 hv.2 ((zy _ _ _).1 a2).1)]
   rw [z9z,hs] at hm
   have k:=ih n n {st with at_:=st.at_+1+4} st.at_ (pkS s st - 48) [] r hb a2 hm
   obtain⟨L1,js,e1,e2,e3,e4,F,hF⟩:=k.row
   have hkk:pkS s st - 48=(c.toNat:Int)- 48:=by rw [hp,h0]
   refine⟨k.bad,k.at_,k.ext,?_,fun hh=> ?_⟩
   ·rw [e1,e2]
    exact zc3 e3 hkk
   ·rw [e1]
    refine z7f (e4 hh) ((z9g rfl).2 ?_)
    show 1≤pkS s st - 48∧pkS s st - 48≤(([]++js).length:Int)
    rw [hkk,List.nil_append,zbK e3]
    exact hk.1
theorem zaf {x:TL}(hv:VlL x false)(L:List Lc)(is:List Int)(h:IsL L x is): ∃i,is=[i]:=by
 cases x using TL.cas with
 |nm t=>obtain⟨n,_,e,_⟩:=h;exact⟨_,e⟩
 |pa t a b=>obtain⟨n,_,e,_⟩:=h;exact⟨_,e⟩
 |of c l=>obtain⟨n,_,e,_⟩:=h;exact⟨_,e⟩
 |one y=>exact absurd hv id
 |mo y r=>exact absurd hv id
theorem zd6 (s:zgS): ∀(T:TL) (b:Bool),VlL T b→okL T→(b=false→RbL s T)∧(b=true→RbO s T):=by
 intro T
 induction T using TL.ind with
 |nm t=>
  intro b hv _
  cases b with
  |true=>exact absurd hv id
  |false=>exact⟨fun _=>zdQ hv,fun e=>(by cases e)⟩
 |pa t x y ihx ihy=>
  intro b hv hk
  cases b with
  |true=>exact absurd hv id
  |false=>exact⟨fun _=>zey ((ihx false hv.2.1 hk.1).1 rfl) ((ihy false hv.2.2 hk.2).1 rfl) hv,fun e=>(by cases e)⟩
 |of c l ih=>
  intro b hv hk
  cases b with
  |true=>exact absurd hv id
  |false=>exact⟨fun _=>zec ((ih true hv.2 hk.2).2 rfl) hv hk,fun e=>(by cases e)⟩
 |one x ih=>
  intro b hv hk
  cases b with
  |false=>exact absurd hv id
  |true=>exact⟨fun e=>(by cases e),fun _=>zcq ((ih false hv hk).1 rfl) (zaf hv)⟩
 |mo x r ihx ihr=>
  intro b hv hk
  cases b with
  |false=>exact absurd hv id
  |true=>exact⟨fun e=>(by cases e),fun _=>zeI ((ihx false hv.1 hk.1).1 rfl) ((ihr true hv.2 hk.2).2 rfl) hv.2⟩
abbrev TBC:Type:=Std.DTreeMap.Internal.Impl (TE×List UInt8) (fun _=>Unit)
def zex:TBC→Prop
 | .inner 0 k _ l r=>k.2=[]∧l= .leaf∧r= .leaf
 | .inner 1 _ _ l r=>l= .leaf∧r= .leaf
 | .inner 2 k _ l r=>k.2=[]∧zex l∧r= .leaf
 | .inner 3 k _ l r=>k=(.lf 0 [],[])∧zex l∧r= .leaf
 | .inner 4 k _ l r=>k=(.lf 0 [],[])∧zex l∧zex r
 |_=>False
def TC:Type:={T:TBC//zex T}
def TC.no (e:TE):TC:=⟨.inner 0 (e,[]) () .leaf .leaf,rfl,rfl,rfl⟩
def TC.nm (e:TE)(t:List UInt8):TC:=⟨.inner 1 (e,t) () .leaf .leaf,rfl,rfl⟩
def TC.sub (e:TE)(c:TC):TC:=⟨.inner 2 (e,[]) () (Subtype.val c) .leaf,rfl,c.2,rfl⟩
def TC.one (c:TC):TC:=⟨.inner 3 (.lf 0 [],[]) () (Subtype.val c) .leaf,rfl,c.2,rfl⟩
def TC.mo (c r:TC):TC:=⟨.inner 4 (.lf 0 [],[]) () (Subtype.val c) (Subtype.val r),rfl,c.2,r.2⟩
theorem TC.ind {motive:TC→Prop}(no: ∀e,motive (TC.no e))(nm: ∀e t,motive (TC.nm e t))(sub: ∀e c,motive c→motive (TC.sub e c))(one: ∀c,motive c→motive (TC.one c))(mo: ∀c r,motive c→motive r→motive (TC.mo c r))(T:TC):motive T:=by
 obtain⟨T,h⟩:=T
 induction T with
 |leaf=>exact absurd h id
 |inner n k v l r ihl ihr=>
  obtain⟨e,t⟩:=k
  cases v
  match n,h with
  |0,h=>
   obtain⟨hk,rfl,rfl⟩:=h
   have hk:t=[]:=hk
   subst hk
   exact no e
  |1,h=>
   obtain⟨rfl,rfl⟩:=h
   exact nm e t
  |2,h=>
   obtain⟨hk,hl,rfl⟩:=h
   have hk:t=[]:=hk
   subst hk
   exact sub e ⟨l,hl⟩ (ihl hl)
  |3,h=>
   obtain⟨hk,hl,rfl⟩:=h
   obtain⟨rfl,rfl⟩:=Prod.mk.inj hk
   exact one ⟨l,hl⟩ (ihl hl)
  |4,h=>
   obtain⟨hk,hl,hr⟩:=h
   obtain⟨rfl,rfl⟩:=Prod.mk.inj hk
   exact mo ⟨l,hl⟩ ⟨r,hr⟩ (ihl hl) (ihr hr)
  |n+5,h=>exact absurd h id
theorem TC.cas {motive:TC→Prop}(no: ∀e,motive (TC.no e))(nm: ∀e t,motive (TC.nm e t))(sub: ∀e c,motive (TC.sub e c))(one: ∀c,motive (TC.one c))(mo: ∀c r,motive (TC.mo c r))(T:TC):motive T:=TC.ind no nm (fun e c _=>sub e c) (fun c _=>one c) (fun c r _ _=>mo c r) T
def Tst (E:List Ex)(e:TE)(i:Int):Prop:= ∃(n:Nat) (x:Ex),i=(n:Int)∧E[n]?=some x∧x.form=7∧x.left<(n:Int)∧IsE E e x.left
def ze3 (E:List Ex)(C:List (List Cl)):TBC→List Cl→Prop
 | .inner 0 (e,_) _ _ _,cs=> ∃c,cs=[c]∧c.form=0∧Tst E e c.test
 | .inner 1 (e,t) _ _ _,cs=> ∃c,cs=[c]∧c.form=1∧Tst E e c.test∧c.result.data.toList=t
 | .inner 2 (e,_) _ d _,cs=> ∃c,cs=[c]∧c.form=2∧Tst E e c.test∧ ∃(k:Nat) (cls:List Cl),c.inner=(k:Int)∧C[k]?=some cls∧(∀c'∈cls,c'.inner<(k:Int))∧ze3 E C d cls
 | .inner 3 _ _ c _,cs=>ze3 E C c cs
 | .inner 4 _ _ c r,cs=> ∃c0 rs,cs=c0::rs∧ze3 E C c [c0]∧ze3 E C r rs
 |_,_=>False
def IsC (E:List Ex)(C:List (List Cl))(T:TC)(cs:List Cl):Prop:=ze3 E C (Subtype.val T) cs
def IsR (E:List Ex)(C:List (List Cl))(T:TC)(i:Int):Prop:= ∃(k:Nat) (cls:List Cl),i=(k:Int)∧C[k]?=some cls∧(∀c∈cls,c.inner<(k:Int))∧IsC E C T cls
theorem Tst.more {E:List Ex}(F:List Ex){e:TE}{i:Int}(h:Tst E e i):Tst (E++F) e i:=by
 obtain⟨n,x,h1,h2,h3,h4,h5⟩:=h
 exact⟨n,x,h1,z0t F h2,h3,h4,h5.more F⟩
theorem IsC.more {E:List Ex}{C:List (List Cl)}(F:List Ex)(D:List (List Cl)): ∀{T:TC} {cs:List Cl},IsC E C T cs→IsC (E++F) (C++D) T cs:=by
 intro T
 induction T using TC.ind with
 |no e=>intro cs ⟨c,h1,h2,h3⟩;exact⟨c,h1,h2,h3.more F⟩
 |nm e t=>intro cs ⟨c,h1,h2,h3,h4⟩;exact⟨c,h1,h2,h3.more F,h4⟩
 |sub e d ih=>intro cs ⟨c,h1,h2,h3,k,cls,h4,h5,h6,h7⟩;exact⟨c,h1,h2,h3.more F,k,cls,h4,z0t D h5,h6,ih h7⟩
 |one c ih=>intro cs h;exact ih h
 |mo c r ihc ihr=>intro cs ⟨c0,rs,h1,h2,h3⟩;exact⟨c0,rs,h1,ihc h2,ihr h3⟩
theorem IsR.more {E:List Ex}{C:List (List Cl)}(F:List Ex)(D:List (List Cl)){T:TC}{i:Int}(h:IsR E C T i):IsR (E++F) (C++D) T i:=by
 obtain⟨k,cls,h1,h2,h3,h4⟩:=h
 exact⟨k,cls,h1,z0t D h2,h3,h4.more F D⟩
def zdY:TBC→Bool→Prop
 | .inner 0 (e,_) _ _ _,false=>VlE e
 | .inner 1 (e,t) _ _ _,false=>VlE e∧z4y t
 | .inner 2 (e,_) _ c _,false=>VlE e∧zdY c true
 | .inner 3 _ _ c _,true=>zdY c false
 | .inner 4 _ _ c r,true=>zdY c false∧zdY r true
 |_,_=>False
def VlC (T:TC)(b:Bool):Prop:=zdY (Subtype.val T) b
def zeO (vals:List zgS):TBC→Bool
 | .inner 1 (_,t) _ _ _=>plM ⟨t.toArray⟩ vals 0== -1
 | .inner 2 _ _ c _=>zeO vals c
 | .inner 3 _ _ c _=>zeO vals c
 | .inner 4 _ _ c r=>zeO vals c||zeO vals r
 |_=>false
def bdT (vals:List zgS)(T:TC):Bool:=zeO vals (Subtype.val T)
theorem bdT_one (vals:List zgS)(c:TC):bdT vals (TC.one c)=bdT vals c:=rfl
theorem z2N {E:List Ex}{e:TE}{l p r:Int}{t:zgS}(h:IsE E e l):Tst (E++[⟨7,p,t,l,r⟩]) e (E.length:Int):=⟨E.length,_,rfl,z0e E _,rfl,h.lt,h.more _⟩
def LsC (E:List Ex)(C:List (List Cl)):List TC→List Cl→Prop
 |[],[]=>True
 |T::Ts,c::cs=>(VlC T false∧IsC E C T [c]∧c.inner<(C.length:Int))∧LsC E C Ts cs
 |_,_=>False
theorem LsC.more {E:List Ex}{C:List (List Cl)}(F:List Ex)(D:List (List Cl)): ∀{Ts:List TC} {cs:List Cl},LsC E C Ts cs→LsC (E++F) (C++D) Ts cs:=by
 intro Ts
 induction Ts with
 |nil=>intro cs h;cases cs with
  |nil=>trivial
  |cons c cs=>exact absurd h id
 |cons T Ts ih=>intro cs h;cases cs with
  |nil=>exact absurd h id
  |cons c cs=>exact⟨⟨h.1.1,h.1.2.1.more F D,by have:=h.1.2.2;rw [List.length_append];omega⟩,ih h.2⟩
theorem LsC.snoc {E:List Ex}{C:List (List Cl)}: ∀{Ts:List TC} {cs:List Cl} {T:TC} {c:Cl},LsC E C Ts cs→VlC T false→IsC E C T [c]→c.inner<(C.length:Int)→LsC E C (Ts++[T]) (cs++[c]):=by
 intro Ts
 induction Ts with
 |nil=>intro cs T c h hv hi hn;cases cs with
  |nil=>exact⟨⟨hv,hi,hn⟩,trivial⟩
  |cons c cs=>exact absurd h id
 |cons U Ts ih=>intro cs T c h hv hi hn;cases cs with
  |nil=>exact absurd h id
  |cons j cs=>exact⟨h.1,ih h.2 hv hi hn⟩
theorem LsC.inner {E:List Ex}{C:List (List Cl)}: ∀{Ts:List TC} {cs:List Cl},LsC E C Ts cs→ ∀c∈cs,c.inner<(C.length:Int):=by
 intro Ts
 induction Ts with
 |nil=>intro cs h c hc;cases cs with
  |nil=>cases hc
  |cons c cs=>exact absurd h id
 |cons T Ts ih=>intro cs h c hc;cases cs with
  |nil=>cases hc
  |cons d cs=>
   rcases List.mem_cons.1 hc with rfl|hc
   ·exact h.1.2.2
   ·exact ih h.2 c hc
def mkC:List TC→TC
 |[]=> .no (.lf 0 [])
 |[x]=> .one x
 |x::y::ys=> .mo x (mkC (y::ys))
theorem zeg {E:List Ex}{C:List (List Cl)}: ∀{Ts:List TC} {cs:List Cl},Ts≠[]→LsC E C Ts cs→VlC (mkC Ts) true∧IsC E C (mkC Ts) cs:=by
 intro Ts
 induction Ts with
 |nil=>intro cs h;exact absurd rfl h
 |cons T Ts ih=>
  intro cs _ h
  cases cs with
  |nil=>exact absurd h id
  |cons c cs=>
   cases Ts with
   |nil=>
    cases cs with
    |nil=>exact⟨h.1.1,h.1.2.1⟩
    |cons j cs=>exact absurd h.2 id
   |cons U Ts=>
    obtain⟨k1,k2⟩:=ih (by simp) h.2
    exact⟨⟨h.1.1,k1⟩,c,cs,rfl,h.1.2.1,k2⟩
theorem ze8 (vals:List zgS): ∀{Ts:List TC},Ts≠[]→bdT vals (mkC Ts)=Ts.any (bdT vals):=by
 intro Ts
 induction Ts with
 |nil=>intro h;exact absurd rfl h
 |cons T Ts ih=>
  intro _
  cases Ts with
  |nil=>simp [mkC,bdT_one]
  |cons U Ts=>
   show(bdT vals T||bdT vals (mkC (U::Ts)))=_
   rw [ih (by simp)]
   simp
theorem zd8 (vals:List zgS)(C D:List (List Cl)):hoM vals (C++D)=(hoM vals C||hoM vals D):=by unfold hoM;rw [List.any_append]
theorem z8X (vals:List zgS)(C:List (List Cl))(cls:List Cl):hoM vals (C++[cls])=(hoM vals C||cls.any (z0l vals)):=by rw [zd8];simp [hoM]
theorem z9b {a b c d:Bool}(h:a=c)(k:b=d):(a||b)=(c||d):=by rw [h,k]
theorem zdl (s:zgS)(vals:List zgS): ∀n tag cls st r,MC s n tag cls st=some r→r.2.2.bad=false→
  (tag=0→ ∃T,VlC T true∧IsR r.2.2.E r.2.2.C T r.1∧hoM vals r.2.2.C=(hoM vals st.C||bdT vals T))∧
  (tag=1→ ∃T,VlC T false∧IsC r.2.2.E r.2.2.C T [r.2.1]∧r.2.1.inner<(r.2.2.C.length:Int)∧(hoM vals r.2.2.C||z0l vals r.2.1)=(hoM vals st.C||bdT vals T))∧
  (tag=2→ ∀(X:Bool) (Ts:List TC),Ts≠[]→LsC st.E st.C Ts cls→(hoM vals st.C||cls.any (z0l vals))=(X||Ts.any (bdT vals))→ ∃T,VlC T true∧IsR r.2.2.E r.2.2.C T r.1∧hoM vals r.2.2.C=(X||bdT vals T)):=by
 intro n
 induction n with
 |zero=>intro tag cls st r h;simp [MC] at h
 |succ n ih=>
  intro tag cls st r h hr
  match tag,h with
  |0,h=>
   refine⟨fun _=> ?_,fun e=>(by simp at e),fun e=>(by simp at e)⟩
   rw [z8h] at h
   obtain⟨q,h1,h2⟩:=zgD.1 h
   have hb:q.2.2.bad=false:=z3k h2 hr
   obtain⟨T1,v1,i1,n1,o1⟩:=(ih _ _ _ _ h1 hb).2.1 rfl
   exact(ih _ _ _ _ h2 hr).2.2 rfl (hoM vals st.C) [T1] (by simp) ⟨⟨v1,i1,n1⟩,trivial⟩ (by simpa using o1)
  |2,h=>
   refine⟨fun e=>(by simp at e),fun e=>(by simp at e),fun _ X Ts hn hls ho=> ?_⟩
   rw [z7k] at h
   split at h
   ·split at h
    ·obtain⟨q,h1,h2⟩:=zgD.1 h
     have hb:q.2.2.bad=false:=z3k h2 hr
     obtain⟨T1,v1,i1,n1,o1⟩:=(ih _ _ _ _ h1 hb).2.1 rfl
     have o1:(hoM vals q.2.2.C||z0l vals q.2.1)=(hoM vals st.C||bdT vals T1):=o1
     obtain⟨⟨F,hF⟩,⟨D,hD⟩,_⟩:=z1i s _ _ _ _ _ h1
     have hF:q.2.2.E=st.E++F:=hF
     have hD:q.2.2.C=st.C++D:=hD
     refine(ih _ _ _ _ h2 hr).2.2 rfl X (Ts++[T1]) (by simp) ((by rw [hF,hD];exact hls.more F D:LsC q.2.2.E q.2.2.C Ts cls).snoc v1 i1 n1) ?_
     rw [List.any_append,List.any_append]
     simp only [List.any_cons,List.any_nil,Bool.or_false]
     rw [show(hoM vals q.2.2.C||(cls.any (z0l vals)||z0l vals q.2.1))=((hoM vals q.2.2.C||z0l vals q.2.1)||cls.any (z0l vals)) by cases hoM vals q.2.2.C<;>cases cls.any (z0l vals)<;>cases z0l vals q.2.1<;>rfl,o1]
     rw [show((hoM vals st.C||bdT vals T1)||cls.any (z0l vals))=((hoM vals st.C||cls.any (z0l vals))||bdT vals T1) by cases hoM vals st.C<;>cases cls.any (z0l vals)<;>cases bdT vals T1<;>rfl,ho]
     cases X<;>cases Ts.any (bdT vals)<;>cases bdT vals T1<;>rfl
    ·obtain⟨q,h1,h2⟩:=zgD.1 h
     cases h2
     obtain⟨_,rfl⟩:=jy h1
     obtain⟨k1,k2⟩:=zeg hn hls
     refine⟨mkC Ts,k1,⟨st.C.length,cls,rfl,z0e st.C cls,hls.inner,?_⟩,?_⟩
     ·have:=k2.more [] [cls]
      rw [List.append_nil] at this
      exact this
     ·show hoM vals (st.C++[cls])=_
      rw [z8X,ho,ze8 vals hn]
   ·cases h
  |1,h=>
   refine⟨fun e=>(by simp at e),fun _=> ?_,fun e=>(by simp at e)⟩
   rw [zai] at h
   obtain⟨q,h1,h2⟩:=zgD.1 h
   obtain⟨q2,h3,h4⟩:=zgD.1 h2
   obtain⟨_,rfl⟩:=zj h3
   have hC:q.2.C=st.C:=(z1z s _ _ _ _ _ h1).2.2.2
   split at h4
   ·cases h4
    have hb:q.2.bad=false:=hr
    obtain⟨e,v,i⟩:=z9Y s _ _ _ _ _ h1 hb (fun e=>by omega)
    refine⟨.no e,v,⟨_,rfl,rfl,z2N i⟩,by show(-1:Int)<_;omega,?_⟩
    show(hoM vals q.2.C||false)=(hoM vals st.C||false)
    rw [hC]
   ·simp only at h4
    split at h4
    ·obtain⟨v,h7,h8⟩:=zgD.1 h4
     cases h8
     have hb:v.2.2.bad=false:=z0n hr
     have hb2:=z3k h7 hb
     have hb3:q.2.bad=false:=z0n (z0n hb2)
     obtain⟨e,ve,ie⟩:=z9Y s _ _ _ _ _ h1 hb3 (fun e=>by omega)
     obtain⟨T,vT,⟨k,cls',e1,e2,e3,e4⟩,o⟩:=(ih _ _ _ _ h7 hb).1 rfl
     obtain⟨⟨F,hF⟩,⟨D,hD⟩,_⟩:=z1i s _ _ _ _ _ h7
     refine⟨.sub e T,⟨ve,vT⟩,⟨_,rfl,rfl,?_,k,cls',e1,e2,e3,e4⟩,?_,?_⟩
     ·show Tst v.2.2.E e _
      rw [hF]
      exact(z2N ie).more F
     ·show v.1<(v.2.2.C.length:Int)
      have:=(zgF.1 e2).1
      rw [e1];omega
     ·show(hoM vals v.2.2.C||false)=(hoM vals st.C||bdT vals T)
      rw [Bool.or_false,o]
      show(hoM vals q.2.C||bdT vals T)=_
      rw [hC]
    ·cases h4
     have hb:(zw s (sgn s [45,62] {q.2 with E:=q.2.E++[⟨7,st.at_,⟨#[]⟩,q.1,-1⟩]}).at_ (sgn s [45,62] {q.2 with E:=q.2.E++[⟨7,st.at_,⟨#[]⟩,q.1,-1⟩]}).bad).2.1=false:=hr
     have hs:=z18 hb
     have hb3:q.2.bad=false:=z0n hs
     obtain⟨e,ve,ie⟩:=z9Y s _ _ _ _ _ h1 hb3 (fun e=>by omega)
     have hnm:=hb
     rw [hs] at hnm
     have ok:=z3u hnm
     rw [←hs] at ok
     exact⟨.nm e _,⟨ve,ok⟩,⟨_,rfl,rfl,z2N ie,rfl⟩,by show(-1:Int)<_;omega,z9b (congrArg (hoM vals) hC) rfl⟩
  |t+3,h=>simp [MC] at h
theorem zdF (vals:List zgS)(W:List Wt){C:List (List Cl)}{k:Nat}{cls:List Cl}(h:C[k]?=some cls):zb (jZ vals W C []) (k:Int)=jS vals W (jZ vals W (C.take k) []) cls 0∧ ∀i:Int,i<(k:Int)→zb (jZ vals W (C.take k) []) i=zb (jZ vals W C []) i:=by
 have hl:=(zgF.1 h).1
 have hlen:(jZ vals W (C.take k) []).length=k:=by rw [z0v];simp;omega
 have e:jZ vals W C []=jZ vals W (C.drop (k+1)) (jZ vals W (C.take k) []++[jS vals W (jZ vals W (C.take k) []) cls 0]):=by
  conv=>lhs;rw [z5c h,z25,z25]
  rfl
 have hext: ∀(xs:List (List Cl)) (ls:List Int),∃us,jZ vals W xs ls=ls++us:=by
  intro xs
  induction xs with
  |nil=>intro ls;exact⟨[],by simp [jZ]⟩
  |cons x xs ih=>
   intro ls
   obtain⟨us,h⟩:=ih (ls++[jS vals W ls x 0])
   exact⟨_,by unfold jZ;rw [h,List.append_assoc]⟩
 obtain⟨us,hus⟩:=hext (C.drop (k+1)) (jZ vals W (C.take k) []++[jS vals W (jZ vals W (C.take k) []) cls 0])
 rw [e,hus,List.append_assoc]
 refine⟨?_,fun i hi=>(zbJ (by omega)).symm⟩
 rw [z0i,if_neg (by omega),hlen,Nat.sub_self,z1j]
 rfl
theorem z9s (vals:List zgS)(W:List Wt){ls ls':List Int}: ∀(cs:List Cl) (h:Int),(∀c∈cs,zb ls c.inner=zb ls' c.inner)→jS vals W ls cs h=jS vals W ls' cs h:=by
 intro cs
 induction cs with
 |nil=>intro h _;rfl
 |cons c cs ih=>
  intro h hc
  have e:rlM vals ls c=rlM vals ls' c:=by unfold rlM;rw [hc c List.mem_cons_self]
  unfold jS
  rw [e,ih _ fun x hx=>hc x (List.mem_cons_of_mem _ hx)]
theorem z7F (vals:List zgS)(W:List Wt){C:List (List Cl)}{k:Nat}{cls:List Cl}(h:C[k]?=some cls)(hc: ∀c∈cls,c.inner<(k:Int)):zb (jZ vals W C []) (k:Int)=jS vals W (jZ vals W C []) cls 0:=by
 obtain⟨h1,h2⟩:=zdF vals W h
 rw [h1]
 exact z9s vals W cls 0 fun c hm=>h2 _ (hc c hm)
theorem z5p {E E':List Ex}(al:List (zgS×zgS)){e:TE}{i i':Int}(hv:VlE e)(h:Tst E e i)(h':Tst E' e i'):wAt (zf al E []) i=wAt (zf al E' []) i':=by
 have key: ∀{E:List Ex} {i:Int},Tst E e i→ ∃j,IsE E e j∧wAt (zf al E []) i=wAt (zf al E []) j:=fun{E i} ⟨n,x,h1,h2,h3,h4,h5⟩=>by
  subst h1
  refine⟨x.left,h5,?_⟩
  obtain⟨k1,k2⟩:=z3E al h2
  rw [k1,k2 _ h4]
  unfold wOf
  rw [h3]
  rfl
 obtain⟨j,i1,e1⟩:=key h
 obtain⟨j',i1',e1'⟩:=key h'
 rw [e1,e1',zdR al hv i1 i1']
theorem zf8 {E E':List Ex}{C C':List (List Cl)}(al:List (zgS×zgS))(vals:List zgS): ∀{T:TC} {b:Bool} {cs cs':List Cl},VlC T b→IsC E C T cs→IsC E' C' T cs'→ ∀h,jS vals (zf al E []) (jZ vals (zf al E []) C []) cs h=jS vals (zf al E' []) (jZ vals (zf al E' []) C' []) cs' h:=by
 intro T
 induction T using TC.ind with
 |no e=>
  intro b cs cs' hv ⟨c,h1,h2,h3⟩ ⟨c',h1',h2',h3'⟩ h
  cases b with
  |true=>exact absurd hv id
  |false=>
   subst h1 h1'
   simp only [jS,rlM,h2,h2',z5p al hv h3 h3']
   rfl
 |nm e t=>
  intro b cs cs' hv ⟨c,h1,h2,h3,h4⟩ ⟨c',h1',h2',h3',h4'⟩ h
  cases b with
  |true=>exact absurd hv id
  |false=>
   subst h1 h1'
   simp only [jS,rlM,h2,h2',z5p al hv.1 h3 h3',z0Y (h4.trans h4'.symm)]
   rfl
 |sub e d ih=>
  intro b cs cs' hv ⟨c,h1,h2,h3,k,cls,h4,h5,h6,h7⟩ ⟨c',h1',h2',h3',k',cls',h4',h5',h6',h7'⟩ h
  cases b with
  |true=>exact absurd hv id
  |false=>
   subst h1 h1'
   have e1:zb (jZ vals (zf al E []) C []) c.inner=zb (jZ vals (zf al E' []) C' []) c'.inner:=by
    rw [h4,h4',z7F vals _ h5 h6,z7F vals _ h5' h6',ih (b:=true) hv.2 h7 h7']
   simp only [jS,rlM,h2,h2',z5p al hv.1 h3 h3',e1]
   rfl
 |one c ih=>
  intro b cs cs' hv h1 h2
  cases b with
  |false=>exact absurd hv id
  |true=>exact ih (b:=false) hv h1 h2
 |mo c r ihc ihr=>
  intro b cs cs' hv ⟨c0,rs,h1,h2,h3⟩ ⟨c0',rs',h1',h2',h3'⟩ h
  cases b with
  |false=>exact absurd hv id
  |true=>
   subst h1 h1'
   have e1:=ihc (b:=false) hv.1 h2 h2' h
   simp only [jS] at e1 ⊢
   rw [e1,ihr (b:=true) hv.2 h3 h3']
theorem zdE {E E':List Ex}{C C':List (List Cl)}(al:List (zgS×zgS))(vals:List zgS){T:TC}{i i':Int}(hv:VlC T true)(h:IsR E C T i)(h':IsR E' C' T i'):zb (jZ vals (zf al E []) C []) i=zb (jZ vals (zf al E' []) C' []) i':=by
 obtain⟨k,cls,h1,h2,h3,h4⟩:=h
 obtain⟨k',cls',h1',h2',h3',h4'⟩:=h'
 rw [h1,h1',z7F vals _ h2 h3,z7F vals _ h2' h3',zf8 al vals hv h4 h4']
def zfa:TBC→List UInt8
 | .inner 0 (e,_) _ _ _=>prE e
 | .inner 1 (e,t) _ _ _=>prE e++(32::45::62::32::t)
 | .inner 2 (e,_) _ c _=>prE e++(32::45::62::32::123::(zfa c++[125]))
 | .inner 3 _ _ c _=>zfa c
 | .inner 4 _ _ c r=>zfa c++(59::32::zfa r)
 |_=>[]
def prC (T:TC):List UInt8:=zfa (Subtype.val T)
theorem z9C {E:List Ex}{e:TE}{f:Nat}{i:Int}{t:zgS}(hv:VlE e)(h:Tst E e i)(hp:PrE E f i t):t.data.toList=prE e:=by
 obtain⟨n,x,h1,h2,h3,h4,h5⟩:=h
 cases f with
 |zero=>exact absurd hp id
 |succ f=>
  obtain⟨_,m,y,e1,e2,_,hp⟩:=hp
  have:n=m:=by omega
  subst this
  rw [h2] at e2
  cases e2
  rw [h3] at hp
  simp at hp
  exact zeV hv h5 hp
theorem zeE {E:List Ex}{C:List (List Cl)}: ∀{T:TC} {b:Bool},VlC T b→(∀{f:Nat} {c:Cl} {t:zgS},b=false→IsC E C T [c]→zfc E (fun i t=>PrC E C f i t) f c t→t.data.toList=prC T)∧(∀{f:Nat} {cs:List Cl} {ts:List zgS},b=true→IsC E C T cs→All2 (fun c t=>zfc E (fun i t=>PrC E C f i t) f c t) cs ts→jnL [59,32] (ts.map fun t=>t.data.toList)=prC T∧ts≠[]):=by
 intro T
 induction T using TC.ind with
 |no e=>
  intro b hv
  cases b with
  |true=>exact absurd hv id
  |false=>
   refine⟨fun{f c t} _ ⟨c',h1,h2,h3⟩ ⟨_,t1,p1,hp⟩=> ?_,fun e=>(by cases e)⟩
   obtain rfl:c=c':=by simpa using h1
   rw [h2] at hp
   simp at hp
   rw [hp]
   exact z9C hv h3 p1
 |nm e tx=>
  intro b hv
  cases b with
  |true=>exact absurd hv id
  |false=>
   refine⟨fun{f c t} _ ⟨c',h1,h2,h3,h4⟩ ⟨_,t1,p1,hp⟩=> ?_,fun e=>(by cases e)⟩
   obtain rfl:c=c':=by simpa using h1
   rw [h2] at hp
   simp at hp
   rw [hp.2,jx,jx,z9C hv.1 h3 p1,h4]
   show _=prE e++(32::45::62::32::tx)
   simp
 |sub e d ih=>
  intro b hv
  cases b with
  |true=>exact absurd hv id
  |false=>
   refine⟨fun{f c t} _ ⟨c',h1,h2,h3,k,cls,h4,h5,h6,h7⟩ ⟨_,t1,p1,hp⟩=> ?_,fun e=>(by cases e)⟩
   obtain rfl:c=c':=by simpa using h1
   rw [h2] at hp
   simp only [show ¬((2:Int)=0) by decide,show ¬((2:Int)=1) by decide,false_and,false_or,true_and] at hp
   obtain⟨t2,p2,_,rfl⟩:=hp
   cases f with
   |zero=>exact absurd p2 id
   |succ f=>
    obtain⟨_,m,cls',ts,e1,e2,_,e4,rfl⟩:=p2
    have:k=m:=by omega
    subst this
    rw [h5] at e2
    cases e2
    obtain⟨k1,_⟩:=(ih (b:=true) hv.2).2 rfl h7 e4
    have ej:=z6p ⟨#[59,32]⟩ ts ts.length (zgH _)
    rw [List.take_length] at ej
    simp only [jx,ej,z9C hv.1 h3 p1]
    rw [k1]
    show _=prE e++(32::45::62::32::123::(prC d++[125]))
    simp
 |one c ih=>
  intro b hv
  cases b with
  |false=>exact absurd hv id
  |true=>
   refine⟨fun e=>(by cases e),fun{f cs ts} _ h hp=> ?_⟩
   have hl: ∃c0,cs=[c0]:=by
    cases c using TC.cas with
    |no e=>obtain⟨c',e,_⟩:=h;exact⟨_,e⟩
    |nm e t=>obtain⟨c',e,_⟩:=h;exact⟨_,e⟩
    |sub e d=>obtain⟨c',e,_⟩:=h;exact⟨_,e⟩
    |one y=>exact absurd hv id
    |mo y r=>exact absurd hv id
   obtain⟨c0,rfl⟩:=hl
   cases ts with
   |nil=>exact absurd hp id
   |cons t ts=>
    cases ts with
    |nil=>
     have:=(ih (b:=false) hv).1 rfl h hp.1
     exact⟨this,by simp⟩
    |cons u ts=>exact absurd hp.2 id
 |mo c r ihc ihr=>
  intro b hv
  cases b with
  |false=>exact absurd hv id
  |true=>
   refine⟨fun e=>(by cases e),fun{f cs ts} _ ⟨c0,rs,h1,h2,h3⟩ hp=> ?_⟩
   subst h1
   cases ts with
   |nil=>exact absurd hp id
   |cons t ts=>
    have k1:=(ihc (b:=false) hv.1).1 rfl h2 hp.1
    obtain⟨k2,k3⟩:=(ihr (b:=true) hv.2).2 rfl h3 hp.2
    refine⟨?_,by simp⟩
    cases ts with
    |nil=>exact absurd rfl k3
    |cons u ts=>
     show t.data.toList++([59,32]++jnL [59,32] ((u::ts).map fun t=>t.data.toList))=prC c++(59::32::prC r)
     rw [k1,k2]
     rfl
theorem zdH {E:List Ex}{C:List (List Cl)}{T:TC}{f:Nat}{i:Int}{t:zgS}(hv:VlC T true)(h:IsR E C T i)(hp:PrC E C f i t):t.data.toList=prC T:=by
 obtain⟨k,cls,h1,h2,h3,h4⟩:=h
 cases f with
 |zero=>exact absurd hp id
 |succ f=>
  obtain⟨_,m,cls',ts,e1,e2,_,e4,rfl⟩:=hp
  have:k=m:=by omega
  subst this
  rw [h2] at e2
  cases e2
  obtain⟨k1,_⟩:=(zeE (b:=true) hv).2 rfl h4 e4
  have ej:=z6p ⟨#[59,32]⟩ ts ts.length (zgH _)
  rw [List.take_length] at ej
  rw [ej]
  exact k1
def zeP:TBC→Prop
 | .inner 0 (e,_) _ _ _=>WtE e∧tyE e=1
 | .inner 1 (e,_) _ _ _=>WtE e∧tyE e=1
 | .inner 2 (e,_) _ c _=>(WtE e∧tyE e=1)∧zeP c
 | .inner 3 _ _ c _=>zeP c
 | .inner 4 _ _ c r=>zeP c∧zeP r
 |_=>False
def WtC (T:TC):Prop:=zeP (Subtype.val T)
theorem z8Q {E:List Ex}(h:z2o E []){e:TE}{i:Int}(hv:VlE e)(ht:Tst E e i):WtE e∧tyE e=1:=by
 obtain⟨n,x,h1,h2,h3,h4,h5⟩:=ht
 refine⟨zg4 h hv h5,?_⟩
 have hlt:=(zgF.1 h2).1
 have nz:=z8M E [] h n (zgO _) (by simpa using hlt)
 rw [←z1j] at nz
 obtain⟨k1,k2⟩:=z61 h2
 rw [k1,k2 _ h4,zaN hv h5] at nz
 have e: ∀a b:Int,zv x a b=zY (a==1) 1:=fun a b=>by unfold zv;rw [h3];rfl
 rw [e] at nz
 unfold zY at nz
 split at nz
 ·rename_i q;simpa using q
 ·exact absurd rfl nz
theorem zej {E:List Ex}{C:List (List Cl)}(h:z2o E []): ∀{T:TC} {b:Bool} {cs:List Cl},VlC T b→IsC E C T cs→WtC T:=by
 intro T
 induction T using TC.ind with
 |no e=>intro b cs hv ⟨c,h1,h2,h3⟩;cases b with
  |true=>exact absurd hv id
  |false=>exact z8Q h hv h3
 |nm e t=>intro b cs hv ⟨c,h1,h2,h3,h4⟩;cases b with
  |true=>exact absurd hv id
  |false=>exact z8Q h hv.1 h3
 |sub e d ih=>intro b cs hv ⟨c,h1,h2,h3,k,cls,h4,h5,h6,h7⟩;cases b with
  |true=>exact absurd hv id
  |false=>exact⟨z8Q h hv.1 h3,ih (b:=true) hv.2 h7⟩
 |one c ih=>intro b cs hv hi;cases b with
  |false=>exact absurd hv id
  |true=>exact ih (b:=false) hv hi
 |mo c r ihc ihr=>intro b cs hv ⟨c0,rs,h1,h2,h3⟩;cases b with
  |false=>exact absurd hv id
  |true=>exact⟨ihc (b:=false) hv.1 h2,ihr (b:=true) hv.2 h3⟩
theorem z4X {E:List Ex}{e:TE}{l p r:Int}{t:zgS}(hE:z2o E [])(hv:VlE e)(hi:IsE E e l)(h1:tyE e=1):z2o (E++[⟨7,p,t,l,r⟩]) []:=by
 refine(z3X _ _ _).2 ⟨hE,?_,trivial⟩
 show zv ⟨7,p,t,l,r⟩ (zb (z2a E []) l) (zb (z2a E []) r)≠0
 rw [zaN hv hi,h1]
 unfold zv zY
 simp
def dC (c:Int):Bool:=c==59||c==10||c==125
theorem z8S {s:zgS}{a:Nat}(h:dC (pk s a false)=true):dlm (pk s a false)=true∧skip s a false=a∧qt s 0 a∧zz s a false=false∧zk (pk s a false)=false:=by
 unfold dC at h
 simp only [Bool.or_eq_true,beq_iff_eq] at h
 rcases h with(h|h)|h
 all_goals
  refine⟨by rw [h];rfl,zI (by rw [h];decide),zdt h (by decide),?_,by rw [h];rfl⟩
  unfold zz
  rw [h]
  rfl
theorem zaQ {s:zgS}{a:Nat}(h1:pk s a false=45)(h2:pk s (a+1) false=62):qt s 0 a∧zz s a false=true:=by
 have ha:zz s a false=true:=by unfold zz;rw [h1,h2];rfl
 refine⟨⟨fun _=> ?_,fun _=> ?_,fun _=> ?_,fun _=>by rw [h1];decide,fun _=>by rw [h1];decide⟩,ha⟩
 ·unfold zh;rw [h1];rfl
 ·unfold zr;rw [if_pos ha]
 ·unfold ze;rw [h1];rfl
structure RdK (T:TC)(st:St)(a:Nat)(r:Int×Cl×St):Prop where
 bad:r.2.2.bad=false
 at_:r.2.2.at_=a
 ext:ExtC st r.2.2
 is:IsC r.2.2.E r.2.2.C T [r.2.1]
 inn:r.2.1.inner<(r.2.2.C.length:Int)
 ty:z2o st.E []→z2o r.2.2.E []
 ho: ∀vals,(hoM vals r.2.2.C||z0l vals r.2.1)=(hoM vals st.C||bdT vals T)
structure RdC (T:TC)(st:St)(a:Nat)(r:Int×Cl×St):Prop where
 bad:r.2.2.bad=false
 at_:r.2.2.at_=a
 ext:ExtC st r.2.2
 is:IsR r.2.2.E r.2.2.C T r.1
 ty:z2o st.E []→z2o r.2.2.E []
 ho: ∀vals,hoM vals r.2.2.C=(hoM vals st.C||bdT vals T)
structure RdS (T:TC)(st:St)(a:Nat)(acc:List Cl)(r:Int×Cl×St):Prop where
 bad:r.2.2.bad=false
 at_:r.2.2.at_=a
 ext:ExtC st r.2.2
 ty:z2o st.E []→z2o r.2.2.E []
 row: ∃(C1:List (List Cl)) (js:List Cl),r.2.2.C=C1++[acc++js]∧r.1=(C1.length:Int)∧IsC r.2.2.E C1 T js∧(∀c∈js,c.inner<(C1.length:Int))∧(∀vals,(hoM vals C1||js.any (z0l vals))=(hoM vals st.C||bdT vals T))∧ ∃G,C1=st.C++G
def RbK (s:zgS)(T:TC):Prop:= ∀(n:Nat) (st:St) (r:Int×Cl×St),st.bad=false→At s st.at_ (prC T)→dC (pk s (st.at_+(prC T).length) false)=true→MC s n 1 [] st=some r→RdK T st (st.at_+(prC T).length) r
def RbC (s:zgS)(T:TC):Prop:= ∀(n:Nat) (st:St) (r:Int×Cl×St),st.bad=false→At s st.at_ (prC T)→(pk s (st.at_+(prC T).length) false=10∨pk s (st.at_+(prC T).length) false=125)→MC s n 0 [] st=some r→RdC T st (st.at_+(prC T).length) r
def RbS (s:zgS)(T:TC):Prop:= ∀(n n':Nat) (st:St) (acc:List Cl) (r:Int×Cl×St),st.bad=false→At s st.at_ (prC T)→(pk s (st.at_+(prC T).length) false=10∨pk s (st.at_+(prC T).length) false=125)→((MC s n 1 [] st).bind fun q=>MC s n' 2 (acc++[q.2.1]) q.2.2)=some r→RdS T st (st.at_+(prC T).length) acc r
theorem zef {s:zgS}{e:TE}(hv:VlE e)(hw:WtE e∧tyE e=1):RbK s (.no e):=by
 intro n st r hb hat hd h
 have hat:At s st.at_ (prE e):=hat
 have hd:dC (pk s (st.at_+(prE e).length) false)=true:=hd
 obtain⟨d1,d2,d3,d4,_⟩:=z8S hd
 cases n with
 |zero=>simp [MC] at h
 |succ n=>
  rw [zai] at h
  obtain⟨q,h1,h2⟩:=zgD.1 h
  obtain⟨q2,h3,h4⟩:=zgD.1 h2
  have k:=zbC s e hv hw.1 (by rw [hw.2];decide) 0 (zgO _) st hb hat d1 (by rw [d2];exact d3) n q h1
  rw [d2] at k
  obtain⟨_,rfl⟩:=zj h3
  have ha:zz s ({q.2 with E:=q.2.E++[⟨7,st.at_,⟨#[]⟩,q.1,-1⟩]}:St).at_ ({q.2 with E:=q.2.E++[⟨7,st.at_,⟨#[]⟩,q.1,-1⟩]}:St).bad=false:=by
   show zz s q.2.at_ q.2.bad=false
   rw [k.at_,k.bad]
   exact d4
  rw [if_pos (by rw [ha];rfl)] at h4
  cases h4
  refine⟨k.bad,k.at_,k.ext.c.trans ⟨⟨[⟨7,st.at_,⟨#[]⟩,q.1,-1⟩],rfl⟩,⟨[],(List.append_nil _).symm⟩,rfl,rfl⟩,⟨_,rfl,rfl,z2N k.is⟩,by show(-1:Int)<_;omega,fun hE=>z4X (k.ty hE) hv k.is hw.2,fun vals=> ?_⟩
  show(hoM vals q.2.C||false)=(hoM vals st.C||false)
  rw [k.ext.2.2.2]
theorem z4w {s:zgS}{e:TE}(hv:VlE e)(hw:WtE e∧tyE e=1){x:List UInt8}{st:St}(hb:st.bad=false)(hat:At s st.at_ (prE e++(32::45::62::32::x)))(hx:pk s (st.at_+(prE e).length+4) false≠32){n:Nat}{q:Int×St}(h1:M s n 0 0 st=some q):
  RdE e st (st.at_+(prE e).length+1) q∧zz s (st.at_+(prE e).length+1) false=true∧At s (st.at_+(prE e).length+4) x∧ ∀u:St,u.bad=false→u.at_=st.at_+(prE e).length+1→sgn s [45,62] u={u with at_:=st.at_+(prE e).length+4}:=by
 obtain⟨a1,b32,b45,b62,b32',ax⟩:=(zy _ _ _).1 hat
 have sk:skip s (st.at_+(prE e).length) false=st.at_+(prE e).length+1:=z0J b32 (by rw [b45];decide)
 obtain⟨g1,g2⟩:=zaQ (s:=s) (a:=st.at_+(prE e).length+1) b45 b62
 have k:=zbC s e hv hw.1 (by rw [hw.2];decide) 0 (zgO _) st hb a1 (by rw [b32];rfl) (by rw [sk];exact g1) n q h1
 rw [sk] at k
 refine⟨k,g2,ax,fun u hu ha=> ?_⟩
 rw [z0m (l:=[45,62]) hu (by rw [ha];exact⟨b45,b62,trivial⟩),ha]
 show({u with at_:=skip s (st.at_+(prE e).length+1+2) false}:St)=_
 rw [show st.at_+(prE e).length+1+2=st.at_+(prE e).length+1+1+1 by omega,z0J b32' (by rw [show st.at_+(prE e).length+1+1+1+1=st.at_+(prE e).length+4 by omega];exact hx)]
theorem zfb {s:zgS}{e:TE}{t:List UInt8}(hv:VlE e)(hn:z4y t)(hw:WtE e∧tyE e=1):RbK s (.nm e t):=by
 intro n st r hb hat hd h
 have hat:At s st.at_ (prE e++(32::45::62::32::t)):=hat
 have hl:st.at_+(prC (.nm e t)).length=st.at_+(prE e).length+4+t.length:=by show st.at_+(prE e++(32::45::62::32::t)).length=_;simp;omega
 rw [hl] at hd ⊢
 obtain⟨d1,d2,d3,d4,d5⟩:=z8S hd
 have ax:At s (st.at_+(prE e).length+4) t:=((zy _ _ _).1 hat).2.2.2.2.2
 have hh:65≤pk s (st.at_+(prE e).length+4) false∧pk s (st.at_+(prE e).length+4) false≤122:=by
  cases t with
  |nil=>have:=hn.1;simp at this
  |cons c cs=>rw [ax.1];exact z2G (hn.2.2 c List.mem_cons_self)
 cases n with
 |zero=>simp [MC] at h
 |succ n=>
  rw [zai] at h
  obtain⟨q,h1,h2⟩:=zgD.1 h
  obtain⟨q2,h3,h4⟩:=zgD.1 h2
  obtain⟨k,g2,_,sg⟩:=z4w hv hw hb hat (by omega) h1
  obtain⟨_,rfl⟩:=zj h3
  have ha:zz s ({q.2 with E:=q.2.E++[⟨7,st.at_,⟨#[]⟩,q.1,-1⟩]}:St).at_ ({q.2 with E:=q.2.E++[⟨7,st.at_,⟨#[]⟩,q.1,-1⟩]}:St).bad=true:=by
   show zz s q.2.at_ q.2.bad=true
   rw [k.at_,k.bad]
   exact g2
  rw [if_neg (by rw [ha];decide)] at h4
  simp only at h4
  rw [sg {q.2 with E:=q.2.E++[⟨7,st.at_,⟨#[]⟩,q.1,-1⟩]} k.bad k.at_] at h4
  have hp:pkS s {q.2 with E:=q.2.E++[⟨7,st.at_,⟨#[]⟩,q.1,-1⟩],at_:=st.at_+(prE e).length+4}=pk s (st.at_+(prE e).length+4) false:=by unfold pkS;simp only;rw [k.bad]
  rw [if_neg (by rw [hp];simp;omega)] at h4
  simp only [k.bad,z2O ax hn d5,d2] at h4
  cases h4
  refine⟨rfl,rfl,k.ext.c.trans ⟨⟨[⟨7,st.at_,⟨#[]⟩,q.1,-1⟩],rfl⟩,⟨[],(List.append_nil _).symm⟩,rfl,rfl⟩,⟨_,rfl,rfl,z2N k.is,jI ax⟩,by show(-1:Int)<_;omega,fun hE=>z4X (k.ty hE) hv k.is hw.2,fun vals=> ?_⟩
  refine z9b (congrArg (hoM vals) k.ext.2.2.2) ?_
  show(true&&(plM (s.extract _ _) vals 0== -1))=(plM ⟨t.toArray⟩ vals 0== -1)
  rw [Bool.true_and,z0S (jI ax)]
theorem zdg {s:zgS}: ∀{T:TC} {a:Nat} {b:Bool},VlC T b→At s a (prC T)→pk s a false≠32:=by
 intro T
 induction T using TC.ind with
 |no e=>intro a b hv h;cases b with
  |true=>exact absurd hv id
  |false=>exact(z0O hv h).1
 |nm e t=>intro a b hv h;cases b with
  |true=>exact absurd hv id
  |false=>exact(z0O hv.1 ((zy _ _ _).1 h).1).1
 |sub e c _=>intro a b hv h;cases b with
  |true=>exact absurd hv id
  |false=>exact(z0O hv.1 ((zy _ _ _).1 h).1).1
 |one c ih=>intro a b hv h;cases b with
  |false=>exact absurd hv id
  |true=>exact ih (b:=false) hv h
 |mo c r ihc _=>intro a b hv h;cases b with
  |false=>exact absurd hv id
  |true=>exact ihc (b:=false) hv.1 ((zy _ _ _).1 h).1
theorem zdn {s:zgS}{e:TE}{d:TC}(ih:RbC s d)(hv:VlE e)(hvd:VlC d true)(hw:WtE e∧tyE e=1):RbK s (.sub e d):=by
 intro n st r hb hat hd h
 have hat:At s st.at_ (prE e++(32::45::62::32::123::(prC d++[125]))):=hat
 have hl:st.at_+(prC (.sub e d)).length=st.at_+(prE e).length+4+1+(prC d).length+1:=by show st.at_+(prE e++(32::45::62::32::123::(prC d++[125]))).length=_;simp;omega
 rw [hl] at hd ⊢
 obtain⟨d1,d2,d3,d4,d5⟩:=z8S hd
 have ax:At s (st.at_+(prE e).length+4) (123::(prC d++[125])):=((zy _ _ _).1 hat).2.2.2.2.2
 obtain⟨b123,ad⟩:=ax
 obtain⟨ad,b125⟩:=(zy _ _ _).1 ad
 cases n with
 |zero=>simp [MC] at h
 |succ n=>
  rw [zai] at h
  obtain⟨q,h1,h2⟩:=zgD.1 h
  obtain⟨q2,h3,h4⟩:=zgD.1 h2
  obtain⟨k,g2,_,sg⟩:=z4w hv hw hb hat (by rw [b123];decide) h1
  obtain⟨_,rfl⟩:=zj h3
  have ha:zz s ({q.2 with E:=q.2.E++[⟨7,st.at_,⟨#[]⟩,q.1,-1⟩]}:St).at_ ({q.2 with E:=q.2.E++[⟨7,st.at_,⟨#[]⟩,q.1,-1⟩]}:St).bad=true:=by
   show zz s q.2.at_ q.2.bad=true
   rw [k.at_,k.bad]
   exact g2
  rw [if_neg (by rw [ha];decide)] at h4
  simp only at h4
  rw [sg {q.2 with E:=q.2.E++[⟨7,st.at_,⟨#[]⟩,q.1,-1⟩]} k.bad k.at_] at h4
  have hp:pkS s {q.2 with E:=q.2.E++[⟨7,st.at_,⟨#[]⟩,q.1,-1⟩],at_:=st.at_+(prE e).length+4}=123:=by unfold pkS;simp only;rw [k.bad,b123];rfl
  rw [if_pos (by rw [hp];decide)] at h4
  have hs:sgn s [123] {q.2 with E:=q.2.E++[⟨7,st.at_,⟨#[]⟩,q.1,-1⟩],at_:=st.at_+(prE e).length+4}={q.2 with E:=q.2.E++[⟨7,st.at_,⟨#[]⟩,q.1,-1⟩],at_:=st.at_+(prE e).length+4+1}:=by
   rw [z0m (l:=[123]) (st:={q.2 with E:=q.2.E++[⟨7,st.at_,⟨#[]⟩,q.1,-1⟩],at_:=st.at_+(prE e).length+4}) k.bad ⟨b123,trivial⟩]
   show({q.2 with E:=q.2.E++[⟨7,st.at_,⟨#[]⟩,q.1,-1⟩],at_:=skip s (st.at_+(prE e).length+4+1) false}:St)=_
   rw [zI (zdg hvd ad)]
  rw [hs] at h4
  obtain⟨v,h7,h8⟩:=zgD.1 h4
  have kd:=ih n {q.2 with E:=q.2.E++[⟨7,st.at_,⟨#[]⟩,q.1,-1⟩],at_:=st.at_+(prE e).length+4+1} v k.bad ad (.inr b125.1) h7
  have kat:v.2.2.at_=st.at_+(prE e).length+4+1+(prC d).length:=kd.at_
  have hs2:sgn s [125] v.2.2={v.2.2 with at_:=st.at_+(prE e).length+4+1+(prC d).length+1}:=by
   rw [z0m (l:=[125]) kd.bad (by rw [kat];exact⟨b125.1,trivial⟩),kat]
   show({v.2.2 with at_:=skip s (st.at_+(prE e).length+4+1+(prC d).length+1) false}:St)=_
   rw [d2]
  rw [hs2] at h8
  cases h8
  obtain⟨kk,cls,e1,e2,e3,e4⟩:=kd.is
  obtain⟨F,hF⟩:=kd.ext.1
  have x1:ExtC st {q.2 with E:=q.2.E++[⟨7,st.at_,⟨#[]⟩,q.1,-1⟩],at_:=st.at_+(prE e).length+4+1}:=k.ext.c.trans ⟨⟨[⟨7,st.at_,⟨#[]⟩,q.1,-1⟩],rfl⟩,⟨[],(List.append_nil _).symm⟩,rfl,rfl⟩
  refine⟨kd.bad,rfl,x1.trans kd.ext,⟨_,rfl,rfl,?_,kk,cls,e1,e2,e3,e4⟩,?_,fun hE=>kd.ty (z4X (k.ty hE) hv k.is hw.2),fun vals=> ?_⟩
  ·show Tst v.2.2.E e _
   rw [hF]
   exact(z2N k.is).more F
  ·show v.1<(v.2.2.C.length:Int)
   have:=(zgF.1 e2).1
   rw [e1];omega
  ·show(hoM vals v.2.2.C||false)=(hoM vals st.C||bdT vals d)
   rw [Bool.or_false,kd.ho vals]
   show(hoM vals q.2.C||bdT vals d)=_
   rw [k.ext.2.2.2]
theorem zcu {s:zgS}{c:TC}(ih:RbK s c):RbS s (.one c):=by
 intro n n' st acc r hb hat hd h
 have hat:At s st.at_ (prC c):=hat
 have hd:pk s (st.at_+(prC c).length) false=10∨pk s (st.at_+(prC c).length) false=125:=hd
 obtain⟨q,h1,h2⟩:=zgD.1 h
 have k:=ih n st q hb hat (by rcases hd with e|e<;>rw [e]<;>rfl) h1
 cases n' with
 |zero=>simp [MC] at h2
 |succ n'=>
  rw [z7k] at h2
  split at h2
  ·rw [if_neg (by unfold pkS;rw [k.at_,k.bad];rcases hd with e|e<;>rw [e]<;>decide)] at h2
   obtain⟨q3,h3,h4⟩:=zgD.1 h2
   cases h4
   obtain⟨_,rfl⟩:=jy h3
   obtain⟨G,hG⟩:=k.ext.2.1
   refine⟨k.bad,k.at_,k.ext.trans ⟨⟨[],by simp⟩,⟨_,rfl⟩,rfl,rfl⟩,k.ty,q.2.2.C,[q.2.1],rfl,rfl,k.is,fun c hc=> ?_,fun vals=> ?_,G,hG⟩
   ·rw [List.mem_singleton.1 hc];exact k.inn
   ·have:=k.ho vals
    simp only [List.any_cons,List.any_nil,Bool.or_false]
    exact this
  ·cases h2
theorem zem {s:zgS}{c d:TC}(ih:RbK s c)(ihr:RbS s d)(hv:VlC d true):RbS s (.mo c d):=by
 intro n n' st acc r hb hat hd h
 have hat:At s st.at_ (prC c++(59::32::prC d)):=hat
 have hl:st.at_+(prC (.mo c d)).length=st.at_+(prC c).length+1+1+(prC d).length:=by show st.at_+(prC c++(59::32::prC d)).length=_;simp;omega
 rw [hl] at hd ⊢
 obtain⟨a1,c59,c32,a2⟩:=(zy _ _ _).1 hat
 obtain⟨q,h1,h2⟩:=zgD.1 h
 have k:=ih n st q hb a1 (by rw [c59];rfl) h1
 cases n' with
 |zero=>simp [MC] at h2
 |succ n'=>
  rw [z7k] at h2
  split at h2
  ·have hs:sgn s [59] q.2.2={q.2.2 with at_:=st.at_+(prC c).length+1+1}:=by
    rw [z0m (l:=[59]) k.bad (by rw [k.at_];exact⟨c59,trivial⟩),k.at_]
    show({q.2.2 with at_:=skip s (st.at_+(prC c).length+1) false}:St)=_
    rw [z0J c32 (zdg hv a2)]
   rw [if_pos (by unfold pkS;rw [k.at_,k.bad,c59];decide),hs] at h2
   have ky:=ihr n' n' {q.2.2 with at_:=st.at_+(prC c).length+1+1} (acc++[q.2.1]) r k.bad a2 hd h2
   obtain⟨C1,js,e1,e2,e3,e4,e5,G,hG⟩:=ky.row
   have hG:C1=q.2.2.C++G:=hG
   obtain⟨G0,hG0⟩:=k.ext.2.1
   obtain⟨F,hF⟩:=ky.ext.1
   have hF:r.2.2.E=q.2.2.E++F:=hF
   have x1:ExtC q.2.2 {q.2.2 with at_:=st.at_+(prC c).length+1+1}:=⟨⟨[],by simp⟩,⟨[],by simp⟩,rfl,rfl⟩
   refine⟨ky.bad,ky.at_,k.ext.trans (x1.trans ky.ext),fun hE=>ky.ty (k.ty hE),C1,q.2.1::js,?_,e2,⟨q.2.1,js,rfl,?_,e3⟩,fun x hx=> ?_,fun vals=> ?_,G0++G,by rw [hG,hG0,List.append_assoc]⟩
   ·rw [e1,List.append_assoc];rfl
   ·rw [hF,hG];exact k.is.more F G
   ·rcases List.mem_cons.1 hx with rfl|hx
    ·have:=k.inn
     rw [hG,List.length_append];omega
    ·exact e4 x hx
   ·have o1:=k.ho vals
    have o2:(hoM vals C1||js.any (z0l vals))=(hoM vals q.2.2.C||bdT vals d):=e5 vals
    show(hoM vals C1||(z0l vals q.2.1||js.any (z0l vals)))=(hoM vals st.C||(bdT vals c||bdT vals d))
    rw [show(hoM vals C1||(z0l vals q.2.1||js.any (z0l vals)))=((hoM vals C1||js.any (z0l vals))||z0l vals q.2.1) by cases hoM vals C1<;>cases js.any (z0l vals)<;>cases z0l vals q.2.1<;>rfl,o2]
    rw [show((hoM vals q.2.2.C||bdT vals d)||z0l vals q.2.1)=((hoM vals q.2.2.C||z0l vals q.2.1)||bdT vals d) by cases hoM vals q.2.2.C<;>cases bdT vals d<;>cases z0l vals q.2.1<;>rfl,o1,Bool.or_assoc]
  ·cases h2
theorem zbV {s:zgS}{T:TC}(ih:RbS s T):RbC s T:=by
 intro n st r hb hat hd h
 cases n with
 |zero=>simp [MC] at h
 |succ n=>
  rw [z8h] at h
  have k:=ih n n st [] r hb hat hd h
  obtain⟨C1,js,e1,e2,e3,e4,e5,G,hG⟩:=k.row
  rw [List.nil_append] at e1
  refine⟨k.bad,k.at_,k.ext,⟨C1.length,js,e2,?_,e4,?_⟩,k.ty,fun vals=> ?_⟩
  ·rw [e1];exact z0e C1 js
  ·rw [e1]
   have:=e3.more [] [js]
   rw [List.append_nil] at this
   exact this
  ·rw [e1,z8X]
   exact e5 vals
theorem zd5 (s:zgS): ∀(T:TC) (b:Bool),VlC T b→WtC T→(b=false→RbK s T)∧(b=true→RbS s T):=by
 intro T
 induction T using TC.ind with
 |no e=>
  intro b hv hw
  cases b with
  |true=>exact absurd hv id
  |false=>exact⟨fun _=>zef hv hw,fun e=>(by cases e)⟩
 |nm e t=>
  intro b hv hw
  cases b with
  |true=>exact absurd hv id
  |false=>exact⟨fun _=>zfb hv.1 hv.2 hw,fun e=>(by cases e)⟩
 |sub e d ih=>
  intro b hv hw
  cases b with
  |true=>exact absurd hv id
  |false=>exact⟨fun _=>zdn (zbV ((ih true hv.2 hw.2).2 rfl)) hv.1 hv.2 hw.1,fun e=>(by cases e)⟩
 |one c ih=>
  intro b hv hw
  cases b with
  |false=>exact absurd hv id
  |true=>exact⟨fun e=>(by cases e),fun _=>zcu ((ih false hv hw).1 rfl)⟩
 |mo c r ihc ihr=>
  intro b hv hw
  cases b with
  |false=>exact absurd hv id
  |true=>exact⟨fun e=>(by cases e),fun _=>zem ((ihc false hv.1 hw.1).1 rfl) ((ihr true hv.2 hw.2).2 rfl) hv.2⟩
theorem zax {E:List Ex}{C:List (List Cl)}(vals:List zgS): ∀{T U:TC} {b:Bool} {cs:List Cl},VlC T b→VlC U b→IsC E C T cs→IsC E C U cs→bdT vals T=bdT vals U:=by
 intro T
 induction T using TC.ind with
 |no e=>
  intro U b cs hv hu ⟨c,h1,h2,h3⟩ hU
  cases b with
  |true=>exact absurd hv id
  |false=>
   subst h1
   cases U using TC.cas with
   |no e'=>rfl
   |nm e' t'=>
     obtain⟨c',k1,k2,_⟩:=hU;obtain rfl:c=c':=by simpa using k1
     rw [h2] at k2;cases k2
   |sub e' d'=>
     obtain⟨c',k1,k2,_⟩:=hU;obtain rfl:c=c':=by simpa using k1
     rw [h2] at k2;cases k2
   |one y=>exact absurd hu id
   |mo y r=>exact absurd hu id
 |nm e t=>
  intro U b cs hv hu ⟨c,h1,h2,h3,h4⟩ hU
  cases b with
  |true=>exact absurd hv id
  |false=>
   subst h1
   cases U using TC.cas with
   |no e'=>
     obtain⟨c',k1,k2,_⟩:=hU;obtain rfl:c=c':=by simpa using k1
     rw [h2] at k2;cases k2
   |nm e' t'=>
     obtain⟨c',k1,k2,k3,k4⟩:=hU;obtain rfl:c=c':=by simpa using k1
     show(plM ⟨t.toArray⟩ vals 0== -1)=(plM ⟨t'.toArray⟩ vals 0== -1);rw [←h4,←k4]
   |sub e' d'=>
     obtain⟨c',k1,k2,_⟩:=hU;obtain rfl:c=c':=by simpa using k1
     rw [h2] at k2;cases k2
   |one y=>exact absurd hu id
   |mo y r=>exact absurd hu id
 |sub e d ih=>
  intro U b cs hv hu ⟨c,h1,h2,h3,k,cls,h4,h5,h6,h7⟩ hU
  cases b with
  |true=>exact absurd hv id
  |false=>
   subst h1
   cases U using TC.cas with
   |no e'=>
     obtain⟨c',k1,k2,_⟩:=hU;obtain rfl:c=c':=by simpa using k1
     rw [h2] at k2;cases k2
   |nm e' t'=>
     obtain⟨c',k1,k2,_⟩:=hU;obtain rfl:c=c':=by simpa using k1
     rw [h2] at k2;cases k2
   |sub e' d'=>
    obtain⟨c',k1,k2,k3,k',cls',k4,k5,k6,k7⟩:=hU
    obtain rfl:c=c':=by simpa using k1
    have:k=k':=by omega
    subst this
    rw [h5] at k5
    cases k5
    exact ih (b:=true) (U:=d') hv.2 hu.2 h7 k7
   |one y=>exact absurd hu id
   |mo y r=>exact absurd hu id
 |one c ih=>
  intro U b cs hv hu h hU
  cases b with
  |false=>exact absurd hv id
  |true=>
   cases U using TC.cas with
   |no e'=>exact absurd hu id
   |nm e' t'=>exact absurd hu id
   |sub e' d'=>exact absurd hu id
   |one y=>exact ih (b:=false) (U:=y) hv hu h hU
   |mo y r=>
    exfalso
    obtain⟨c0,rs,k1,k2,k3⟩:=hU
    have hl: ∃c1,cs=[c1]:=by
     cases c using TC.cas with
     |no e=>obtain⟨c',e,_⟩:=h;exact⟨_,e⟩
     |nm e t=>obtain⟨c',e,_⟩:=h;exact⟨_,e⟩
     |sub e d=>obtain⟨c',e,_⟩:=h;exact⟨_,e⟩
     |one y=>exact absurd hv id
     |mo y r=>exact absurd hv id
    obtain⟨c1,e1⟩:=hl
    rw [e1] at k1
    have:rs=[]:=by simpa using (List.cons.inj k1).2.symm
    rw [this] at k3
    have ne: ∀{T:TC} {b:Bool},VlC T b→ ¬IsC E C T []:=by
     intro T
     induction T using TC.ind with
     |no e=>intro b _ ⟨c,q,_⟩;cases q
     |nm e t=>intro b _ ⟨c,q,_⟩;cases q
     |sub e d _=>intro b _ ⟨c,q,_⟩;cases q
     |one c ih=>intro b hv h;cases b with
      |false=>exact absurd hv id
      |true=>exact ih (b:=false) hv h
     |mo c r _ _=>intro b _ ⟨c,rs,q,_⟩;cases q
    exact ne (b:=true) hu.2 k3
 |mo c r ihc ihr=>
  intro U b cs hv hu ⟨c0,rs,h1,h2,h3⟩ hU
  cases b with
  |false=>exact absurd hv id
  |true=>
   cases U using TC.cas with
   |no e'=>exact absurd hu id
   |nm e' t'=>exact absurd hu id
   |sub e' d'=>exact absurd hu id
   |one y=>
    exfalso
    subst h1
    have hl: ∃c1,c0::rs=[c1]:=by
     cases y using TC.cas with
     |no e=>obtain⟨c',e,_⟩:=hU;exact⟨_,e⟩
     |nm e t=>obtain⟨c',e,_⟩:=hU;exact⟨_,e⟩
     |sub e d=>obtain⟨c',e,_⟩:=hU;exact⟨_,e⟩
     |one y=>exact absurd hu id
     |mo y r=>exact absurd hu id
    obtain⟨c1,e1⟩:=hl
    have:rs=[]:=by simpa using (List.cons.inj e1).2
    rw [this] at h3
    have ne: ∀{T:TC} {b:Bool},VlC T b→ ¬IsC E C T []:=by
     intro T
     induction T using TC.ind with
     |no e=>intro b _ ⟨c,q,_⟩;cases q
     |nm e t=>intro b _ ⟨c,q,_⟩;cases q
     |sub e d _=>intro b _ ⟨c,q,_⟩;cases q
     |one c ih=>intro b hv h;cases b with
      |false=>exact absurd hv id
      |true=>exact ih (b:=false) hv h
     |mo c r _ _=>intro b _ ⟨c,rs,q,_⟩;cases q
    exact ne (b:=true) hv.2 h3
   |mo y r'=>
    obtain⟨c0',rs',k1,k2,k3⟩:=hU
    rw [h1] at k1
    obtain⟨e1,e2⟩:=List.cons.inj k1
    subst e1
    subst e2
    show(bdT vals c||bdT vals r)=(bdT vals y||bdT vals r')
    rw [ihc (b:=false) hv.1 hu.1 h2 k2,ihr (b:=true) hv.2 hu.2 h3 k3]
structure TA where
 by_:List UInt8
 to_:TL
 cs:TC
structure IsA (st:St)(x:As)(T:TA):Prop where
 nm:z4y T.by_
 vl:VlL T.to_ false
 vc:VlC T.cs true
 b:x.by_.data.toList=T.by_
 l:IsL st.L T.to_ [x.to_]
 c:IsR st.E st.C T.cs x.conds
def ExtR (st st':St):Prop:=(∃F,st'.L=st.L++F)∧(∃F,st'.E=st.E++F)∧(∃F,st'.C=st.C++F)
theorem ExtR.refl (st:St):ExtR st st:=⟨⟨[],by simp⟩,⟨[],by simp⟩,⟨[],by simp⟩⟩
theorem ExtR.trans {a b c:St}(h:ExtR a b)(k:ExtR b c):ExtR a c:=by
 obtain⟨⟨F,h1⟩,⟨F',h1'⟩,F2,h3⟩:=h
 obtain⟨⟨G,k1⟩,⟨G',k1'⟩,G2,k3⟩:=k
 exact⟨⟨F++G,by rw [k1,h1,List.append_assoc]⟩,⟨F'++G',by rw [k1',h1',List.append_assoc]⟩,⟨F2++G2,by rw [k3,h3,List.append_assoc]⟩⟩
theorem IsA.more {st st':St}{x:As}{T:TA}(h:IsA st x T)(e:ExtR st st'):IsA st' x T:=by
 obtain⟨⟨F,h1⟩,⟨F',h2⟩,F2,h3⟩:=e
 exact⟨h.nm,h.vl,h.vc,h.b,by rw [h1];exact h.l.more F,by rw [h2,h3];exact h.c.more F' F2⟩
def LsA (st:St):List TA→List As→Prop
 |[],[]=>True
 |T::Ts,x::xs=>IsA st x T∧LsA st Ts xs
 |_,_=>False
theorem LsA.more {st st':St}(e:ExtR st st'): ∀{Ts:List TA} {xs:List As},LsA st Ts xs→LsA st' Ts xs:=by
 intro Ts
 induction Ts with
 |nil=>intro xs h;cases xs with
  |nil=>trivial
  |cons x xs=>exact absurd h id
 |cons T Ts ih=>intro xs h;cases xs with
  |nil=>exact absurd h id
  |cons x xs=>exact⟨h.1.more e,ih h.2⟩
theorem LsA.snoc {st:St}: ∀{Ts:List TA} {xs:List As} {T:TA} {x:As},LsA st Ts xs→IsA st x T→LsA st (Ts++[T]) (xs++[x]):=by
 intro Ts
 induction Ts with
 |nil=>intro xs T x h hi;cases xs with
  |nil=>exact⟨hi,trivial⟩
  |cons x xs=>exact absurd h id
 |cons U Ts ih=>intro xs T x h hi;cases xs with
  |nil=>exact absurd h id
  |cons j xs=>exact⟨h.1,ih h.2 hi⟩
def bdA (vals:List zgS)(T:TA):Bool:=bdT vals T.cs
theorem z9D {s:zgS}(vals:List zgS){n:Nat}{st u:St}(h:MA s n st=some u)(hu:u.bad=false): ∃(x:As) (T:TA),u.A=st.A++[x]∧IsA u x T∧ExtR st u∧hoM vals u.C=(hoM vals st.C||bdA vals T):=by
 unfold MA at h
 simp only at h
 obtain⟨⟨r1,st1⟩,h1,hM2⟩:=zgD.1 h
 obtain⟨⟨r2,cl2,st2⟩,h2,hM3⟩:=zgD.1 hM2
 obtain⟨_,rfl⟩:=jl hM3
 have b2:st2.bad=false:=z1u hu
 have b1:=z3k h2 b2
 have b1:st1.bad=false:=z1u (z1w b1).2
 have b0:=z0K h1 b1 (by omega)
 have b0:=z1u (z1w b0).2
 have bn:(zw s (zp s [98,121] st).at_ (zp s [98,121] st).bad).2.1=false:=b0
 have bs:=z18 bn
 obtain⟨TL',vL,iL⟩:=zcF s _ _ _ _ _ _ _ _ h1 b1 (fun e=>by omega) (fun e=>by omega) (fun e=>by omega)
 obtain⟨TC',vC,iC,hC⟩:=(zdl s vals _ _ _ _ _ h2 b2).1 rfl
 obtain⟨⟨F,hF⟩,hA1,hE1,hC1⟩:=z07 s _ _ _ _ _ _ _ _ h1
 obtain⟨⟨F2,hF2⟩,⟨F3,hF3⟩,hA2,hL2⟩:=z1i s _ _ _ _ _ h2
 have hF:st1.L=st.L++F:=hF
 have hA1:st1.A=st.A:=hA1
 have hE1:st1.E=st.E:=hE1
 have hC1:st1.C=st.C:=hC1
 have hF2:st2.E=st1.E++F2:=hF2
 have hF3:st2.C=st1.C++F3:=hF3
 have hA2:st2.A=st1.A:=hA2
 have hL2:st2.L=st1.L:=hL2
 have ok:z4y (zw s (zp s [98,121] st).at_ (zp s [98,121] st).bad).2.2.data.toList:=by
  rw [bs] at bn ⊢
  exact z3u bn
 refine⟨⟨(zw s (zp s [98,121] st).at_ (zp s [98,121] st).bad).2.2,r1,r2⟩,⟨_,TL',TC'⟩,?_,⟨ok,vL,vC,rfl,?_,iC⟩,⟨⟨F,?_⟩,⟨F2,?_⟩,F3,?_⟩,?_⟩
 ·show st2.A++[_]=st.A++[_]
  rw [hA2,hA1]
 ·show IsL st2.L TL' [r1]
  rw [hL2]
  exact iL
 ·show st2.L=_
  rw [hL2,hF]
 ·show st2.E=_
  rw [hF2,hE1]
 ·show st2.C=_
  rw [hF3,hC1]
 ·show hoM vals st2.C=_
  have hC:hoM vals st2.C=(hoM vals st1.C||bdT vals TC'):=hC
  rw [hC,hC1]
  rfl
theorem zcR {s:zgS}(vals:List zgS): ∀n st u,MR s n st=some u→u.bad=false→ ∀Ts,LsA st Ts st.A→hoM vals st.C=Ts.any (bdA vals)→ ∃Us,LsA u Us u.A∧hoM vals u.C=Us.any (bdA vals):=by
 intro n
 induction n with
 |zero=>intro st u h;simp [MR] at h
 |succ n ih=>
  intro st u h hu Ts hl ho
  unfold MR at h
  split at h
  ·obtain⟨w,h1,h2⟩:=zgD.1 h
   have hw:w.bad=false:=by
    cases hq:w.bad with
    |false=>rfl
    |true=>rw [z7H h2 hq,hq] at hu;cases hu
   obtain⟨x,T,e1,e2,e3,e4⟩:=z9D vals h1 hw
   refine ih w u h2 hu (Ts++[T]) ?_ ?_
   ·rw [e1]
    exact(hl.more e3).snoc e2
   ·rw [e4,ho,List.any_append]
    simp
  ·cases h;exact⟨Ts,hl,ho⟩
def prA (T:TA):List UInt8:=[98,121,32]++(T.by_++([10,116,111,32]++(prL T.to_++([10,105,102,32]++(prC T.cs++[10])))))
theorem zdB {st:St}{f:Nat}{x:As}{T:TA}{t:zgS}(h:IsA st x T)(hp:PrA st f x t):t.data.toList=prA T:=by
 obtain⟨_,t1,t2,p1,p2,rfl⟩:=hp
 unfold z7q prA
 simp only [jx,h.b,(zeZ (b:=false) h.vl).1 rfl h.l p1,zdH h.vc h.c p2]
 simp
theorem zb1 (ts:List zgS): ∀k,k≤ts.length→(cat ts k).data.toList=((ts.take k).map fun t=>t.data.toList).flatten:=by
 intro k
 induction k with
 |zero=>intro _;rfl
 |succ k ih=>
  intro hk
  have hx:ts[k]?=some ts[k]:=zgE (by omega)
  have hg:ts.getD k ⟨#[]⟩=ts[k]:=by rw [List.getD_eq_getElem?_getD,hx];rfl
  unfold cat
  rw [jx,ih (by omega),hg,List.take_add_one,hx]
  show _=((ts.take k++[ts[k]]).map fun t=>t.data.toList).flatten
  rw [List.map_append,List.flatten_append]
  simp only [List.map_cons,List.map_nil,List.flatten_cons,List.flatten_nil,List.append_nil]
theorem zcA {st:St}{f:Nat}: ∀{Ts:List TA} {xs:List As} {ts:List zgS},LsA st Ts xs→All2 (fun x t=>PrA st f x t) xs ts→ts.map (fun t=>t.data.toList)=Ts.map prA:=by
 intro Ts
 induction Ts with
 |nil=>intro xs ts h hp;cases xs with
  |nil=>cases ts with
   |nil=>rfl
   |cons t ts=>exact absurd hp id
  |cons x xs=>exact absurd h id
 |cons T Ts ih=>intro xs ts h hp;cases xs with
  |nil=>exact absurd h id
  |cons x xs=>cases ts with
   |nil=>exact absurd hp id
   |cons t ts=>rw [List.map_cons,List.map_cons,zdB h.1 hp.1,ih h.2 hp.2]
theorem zbO {st:St}{Ts:List TA}{t:zgS}(h:LsA st Ts st.A)(hp:PrS st t):t.data.toList=(Ts.map prA).flatten:=by
 obtain⟨f,ts,h1,rfl⟩:=hp
 rw [zb1 ts ts.length (zgH _),List.take_length,zcA h h1]
theorem z41 {s:zgS}{l:List UInt8}{st:St}(hb:st.bad=false)(h:At s st.at_ (l++[32]))(hn:pk s (st.at_+l.length+1) false≠32):zp s l st={st with at_:=st.at_+l.length+1}:=by
 obtain⟨h1,h2⟩:=(zy _ _ _).1 h
 unfold zp
 rw [z5x hb h1,z0m (l:=[32]) (st:={st with at_:=st.at_+l.length}) hb h2]
 show({st with at_:=skip s (st.at_+l.length+1) false}:St)=_
 rw [zI hn]
theorem zcK {s:zgS}{t:List UInt8}{a:Nat}(hn:z4y t)(h:At s a t):pk s a false≠32:=by
 cases t with
 |nil=>have:=hn.1;simp at this
 |cons c cs=>rw [h.1];have:=(z2G (hn.2.2 c List.mem_cons_self)).1;omega
theorem rbA {s:zgS}{T:TA}(hn:z4y T.by_)(hl:VlL T.to_ false)(ho:okL T.to_)(hc:VlC T.cs true)(hw:WtC T.cs){n:Nat}{st u:St}(hb:st.bad=false)(hat:At s st.at_ (prA T))(h:MA s n st=some u):
  u.bad=false∧u.at_=st.at_+(prA T).length∧(∃x,u.A=st.A++[x]∧IsA u x T)∧ExtR st u∧(z2o st.E []→z2o u.E [])∧((∀x∈st.L,z0P x=false)→ ∀x∈u.L,z0P x=false)∧ ∀vals,hoM vals u.C=(hoM vals st.C||bdA vals T):=by
 unfold prA at hat
 obtain⟨p1,hat⟩:=(zy _ _ _).1 hat
 obtain⟨p2,hat⟩:=(zy _ _ _).1 hat
 obtain⟨p3,hat⟩:=(zy _ _ _).1 hat
 obtain⟨p4,hat⟩:=(zy _ _ _).1 hat
 obtain⟨p5,hat⟩:=(zy _ _ _).1 hat
 obtain⟨p6,p7⟩:=(zy _ _ _).1 hat
 have x1:st.at_+([98,121,32]:List UInt8).length=st.at_+3:=rfl
 rw [x1] at p2 p3 p4 p5 p6 p7
 have x2: ∀a:Nat,a+([10,116,111,32]:List UInt8).length=a+4:=fun _=>rfl
 have x3: ∀a:Nat,a+([10,105,102,32]:List UInt8).length=a+4:=fun _=>rfl
 rw [x2] at p4 p5 p6 p7
 rw [x3] at p6 p7
 obtain⟨t10,p3'⟩:=p3
 obtain⟨f10,p5'⟩:=p5
 have e10:=p7.1
 have sk1:skip s (st.at_+3+T.by_.length) false=st.at_+3+T.by_.length:=zI (by rw [t10];decide)
 have sk2:skip s (st.at_+3+T.by_.length+4+(prL T.to_).length) false=st.at_+3+T.by_.length+4+(prL T.to_).length:=zI (by rw [f10];decide)
 have e1:zp s [98,121] st={st with at_:=st.at_+3}:=z41 hb p1 (zcK hn p2)
 have e2:zw s (st.at_+3) false=(st.at_+3+T.by_.length,false,s.extract (st.at_+3) (st.at_+3+T.by_.length)):=by
  rw [z2O p2 hn (by rw [t10];rfl),sk1]
 have e3:zp s [116,111] (wrd s [10] ({st with at_:=st.at_+3+T.by_.length,bad:=false}:St))={st with at_:=st.at_+3+T.by_.length+4,bad:=false}:=by
  rw [z5x (l:=[10]) (st:={st with at_:=st.at_+3+T.by_.length,bad:=false}) rfl ⟨t10,trivial⟩]
  exact z41 (l:=[116,111]) (st:={st with at_:=st.at_+3+T.by_.length+1,bad:=false}) rfl p3' (za7 hl p4)
 unfold MA at h
 simp only at h
 rw [e1] at h
 simp only [hb] at h
 rw [e2] at h
 have h:((ML s n 0 0 0 0 [] (zp s [116,111] (wrd s [10] ({st with at_:=st.at_+3+T.by_.length,bad:=false}:St)))).bind fun r=>(MC s n 0 [] (zp s [105,102] (wrd s [10] r.2))).bind fun q=>zbp (wrd s [10] q.2.2) ⟨s.extract (st.at_+3) (st.at_+3+T.by_.length),r.1,q.1⟩)=some u:=h
 rw [e3] at h
 obtain⟨q,h1,h2⟩:=zgD.1 h
 obtain⟨v,h3,h4⟩:=zgD.1 h2
 have kl:=(zd6 s T.to_ false hl ho).1 rfl 0 (by omega) {st with at_:=st.at_+3+T.by_.length+4,bad:=false} rfl p4 (by rw [f10];rfl) (by
  show qlL s 0 (skip s (st.at_+3+T.by_.length+4+(prL T.to_).length) false)
  rw [sk2]
  exact⟨fun _=>by rw [f10];decide,fun _=>by rw [f10];decide⟩) n q h1
 have kla:q.2.at_=st.at_+3+T.by_.length+4+(prL T.to_).length:=kl.at_.trans sk2
 have e4:zp s [105,102] (wrd s [10] q.2)={q.2 with at_:=st.at_+3+T.by_.length+4+(prL T.to_).length+4}:=by
  rw [z5x (l:=[10]) kl.bad (by rw [kla];exact⟨f10,trivial⟩),kla]
  exact z41 (l:=[105,102]) (st:={q.2 with at_:=st.at_+3+T.by_.length+4+(prL T.to_).length+1}) kl.bad p5' (zdg hc p6)
 rw [e4] at h3
 have kc:=zbV ((zd5 s T.cs true hc hw).2 rfl) n {q.2 with at_:=st.at_+3+T.by_.length+4+(prL T.to_).length+4} v kl.bad p6 (.inl e10) h3
 have kca:v.2.2.at_=st.at_+3+T.by_.length+4+(prL T.to_).length+4+(prC T.cs).length:=kc.at_
 rw [z5x (l:=[10]) kc.bad (by rw [kca];exact⟨e10,trivial⟩),kca] at h4
 obtain⟨_,rfl⟩:=jl h4
 obtain⟨F,hF⟩:=kl.ext.1
 have hF:q.2.L=st.L++F:=hF
 have lE:q.2.E=st.E:=kl.ext.2.2.1
 have lC:q.2.C=st.C:=kl.ext.2.2.2
 have lA:q.2.A=st.A:=kl.ext.2.1
 obtain⟨F2,hF2⟩:=kc.ext.1
 obtain⟨F3,hF3⟩:=kc.ext.2.1
 have hF2:v.2.2.E=q.2.E++F2:=hF2
 have hF3:v.2.2.C=q.2.C++F3:=hF3
 have cA:v.2.2.A=q.2.A:=kc.ext.2.2.1
 have cL:v.2.2.L=q.2.L:=kc.ext.2.2.2
 refine⟨kc.bad,?_,⟨⟨s.extract (st.at_+3) (st.at_+3+T.by_.length),q.1,v.1⟩,?_,⟨hn,hl,hc,jI p2,?_,kc.is⟩⟩,⟨⟨F,?_⟩,⟨F2,?_⟩,F3,?_⟩,fun hE=> ?_,fun hL=> ?_,fun vals=> ?_⟩
 ·show st.at_+3+T.by_.length+4+(prL T.to_).length+4+(prC T.cs).length+([10]:List UInt8).length=st.at_+(prA T).length
  unfold prA
  simp
  omega
 ·show v.2.2.A++[_]=st.A++[_]
  rw [cA,lA]
 ·show IsL v.2.2.L T.to_ [q.1]
  rw [cL]
  exact kl.is
 ·show v.2.2.L=_
  rw [cL,hF]
 ·show v.2.2.E=_
  rw [hF2,lE]
 ·show v.2.2.C=_
  rw [hF3,lC]
 ·exact kc.ty (by show z2o q.2.E [];rw [lE];exact hE)
 ·show ∀x∈v.2.2.L,z0P x=false
  rw [cL]
  exact kl.fl hL
 ·show hoM vals v.2.2.C=_
  rw [kc.ho vals]
  show(hoM vals q.2.C||_)=_
  rw [lC]
  rfl
theorem rbR {s:zgS}: ∀(Ts:List TA) (n:Nat) (st u:St),(∀T∈Ts,z4y T.by_∧VlL T.to_ false∧okL T.to_∧VlC T.cs true∧WtC T.cs)→st.bad=false→At s st.at_ (Ts.map prA).flatten→st.at_+(Ts.map prA).flatten.length=s.size→MR s n st=some u→
  u.bad=false∧(∃xs,u.A=st.A++xs∧LsA u Ts xs)∧ExtR st u∧(z2o st.E []→z2o u.E [])∧((∀x∈st.L,z0P x=false)→ ∀x∈u.L,z0P x=false)∧ ∀vals,hoM vals u.C=(hoM vals st.C||Ts.any (bdA vals)):=by
 intro Ts
 induction Ts with
 |nil=>
  intro n st u _ hb _ hs h
  cases n with
  |zero=>simp [MR] at h
  |succ n=>
   have hs:st.at_=s.size:=by simpa using hs
   unfold MR at h
   rw [if_neg (by simp [hs])] at h
   cases h
   exact⟨hb,⟨[],by simp,trivial⟩,ExtR.refl _,id,id,fun vals=>by simp⟩
 |cons T Ts ih=>
  intro n st u hv hb hat hs h
  obtain⟨v1,v2,v3,v4,v5⟩:=hv T List.mem_cons_self
  cases n with
  |zero=>simp [MR] at h
  |succ n=>
   rw [List.map_cons,List.flatten_cons] at hat hs
   obtain⟨a1,a2⟩:=(zy _ _ _).1 hat
   rw [List.length_append] at hs
   have hpos:0<(prA T).length:=by unfold prA;simp
   unfold MR at h
   rw [if_pos (by simp [hb];omega)] at h
   obtain⟨w,h1,h2⟩:=zgD.1 h
   obtain⟨k1,k2,⟨x,k3,k4⟩,k5,k6,k7,k8⟩:=rbA v1 v2 v3 v4 v5 hb a1 h1
   obtain⟨j1,⟨xs,j2,j3⟩,j4,j5,j6,j7⟩:=ih n w u (fun U hU=>hv U (List.mem_cons_of_mem _ hU)) k1 (by rw [k2];exact a2) (by rw [k2];omega) h2
   refine⟨j1,⟨x::xs,by rw [j2,k3,List.append_assoc];rfl,k4.more j4,j3⟩,k5.trans j4,fun hE=>j5 (k6 hE),fun hL=>j6 (k7 hL),fun vals=> ?_⟩
   rw [j7,k8,List.any_cons,Bool.or_assoc]
theorem LsA.mem {st:St}: ∀{Ts:List TA} {xs:List As},LsA st Ts xs→ ∀T∈Ts,∃x,IsA st x T:=by
 intro Ts
 induction Ts with
 |nil=>intro xs _ T h;cases h
 |cons U Ts ih=>intro xs h T hT;cases xs with
  |nil=>exact absurd h id
  |cons x xs=>
   rcases List.mem_cons.1 hT with rfl|hT
   ·exact⟨x,h.1⟩
   ·exact ih h.2 T hT
theorem zcV {st:St}(vals:List zgS){x:As}{T U:TA}(h:IsA st x T)(k:IsA st x U):bdA vals T=bdA vals U:=by
 obtain⟨i,cls,h1,h2,h3,h4⟩:=h.c
 obtain⟨i',cls',h1',h2',h3',h4'⟩:=k.c
 have:i=i':=by omega
 subst this
 rw [h2] at h2'
 cases h2'
 exact zax vals h.vc k.vc h4 h4'
theorem z85 {s t:zgS}{n m:Nat}{st u:St}(hM:MR s n st0=some st)(hck:(ckM s st).1=0)(hp:PrS st t)(hM2:MR t m st0=some u): ∃Ts,LsA st Ts st.A∧LsA u Ts u.A∧u.bad=false∧tfM u.E []= -1∧cfM u.L (-1)= -1∧(∀vals,hoM vals u.C=hoM vals st.C)∧t.data.toList=(Ts.map prA).flatten:=by
 obtain⟨_,hb,_,_,htf⟩:=z4F.1 hck
 have hty:z2o st.E []:=zg9 _ _ (fun x hx=>((z1V s n st0 st hM z6O).e x hx).1) htf
 have hfl:=z8c hM hck
 have hall: ∀vals,∃Us,LsA st Us st.A∧hoM vals st.C=Us.any (bdA vals):=fun vals=>zcR vals n st0 st hM hb [] trivial rfl
 obtain⟨Ts,h1,_⟩:=hall []
 have ht:=zbO h1 hp
 have hv: ∀T∈Ts,z4y T.by_∧VlL T.to_ false∧okL T.to_∧VlC T.cs true∧WtC T.cs:=fun T hT=>by
  obtain⟨x,hx⟩:=h1.mem T hT
  obtain⟨k,cls,_,_,_,hc⟩:=hx.c
  exact⟨hx.nm,hx.vl,zfU hfl hx.l,hx.vc,zej hty hx.vc hc⟩
 have hat:At t st0.at_ (Ts.map prA).flatten:=by rw [←ht];exact zcI t
 have hsz:st0.at_+(Ts.map prA).flatten.length=t.size:=by
  rw [←ht,Array.length_toList]
  show 0+t.size=t.size
  omega
 obtain⟨j1,⟨xs,j2,j3⟩,j4,j5,j6,j7⟩:=rbR Ts m st0 u hv rfl hat hsz hM2
 have eA:u.A=xs:=by rw [j2];rfl
 refine⟨Ts,h1,by rw [eA];exact j3,j1,zfX _ _ (j5 trivial),zfW _ _ (j6 fun x hx=>(by cases hx)),fun vals=> ?_,ht⟩
 rw [j7 vals]
 show(hoM vals []||Ts.any (bdA vals))=_
 obtain⟨Us,g1,g2⟩:=hall vals
 rw [g2]
 have same: ∀{Ts Us:List TA} {xs:List As},LsA st Ts xs→LsA st Us xs→Ts.any (bdA vals)=Us.any (bdA vals):=by
  intro Ts
  induction Ts with
  |nil=>intro Us xs h k;cases xs with
   |nil=>cases Us with
    |nil=>rfl
    |cons U Us=>exact absurd k id
   |cons x xs=>exact absurd h id
  |cons T Ts ih=>intro Us xs h k;cases xs with
   |nil=>exact absurd h id
   |cons x xs=>cases Us with
    |nil=>exact absurd k id
    |cons U Us=>
     rw [List.any_cons,List.any_cons,ih h.2 k.2,zcV vals h.1 k.1]
 exact same h1 g1
theorem LsA.len {st:St}: ∀{Ts:List TA} {xs:List As},LsA st Ts xs→xs.length=Ts.length:=by
 intro Ts
 induction Ts with
 |nil=>intro xs h;cases xs with
  |nil=>rfl
  |cons x xs=>exact absurd h id
 |cons T Ts ih=>intro xs h;cases xs with
  |nil=>exact absurd h id
  |cons x xs=>rw [List.length_cons,List.length_cons,ih h.2]
theorem LsA.get {st:St}: ∀{Ts:List TA} {xs:List As} {i:Nat} {x:As},LsA st Ts xs→xs[i]?=some x→ ∃T,Ts[i]?=some T∧IsA st x T:=by
 intro Ts
 induction Ts with
 |nil=>intro xs i x h hx;cases xs with
  |nil=>simp at hx
  |cons x xs=>exact absurd h id
 |cons T Ts ih=>intro xs i x h hx;cases xs with
  |nil=>exact absurd h id
  |cons y ys=>
   cases i with
   |zero=>
     obtain rfl:y=x:=by simpa using hx
     exact⟨T,rfl,h.1⟩
   |succ i=>exact ih h.2 (by simpa using hx)
theorem z9W {st u:St}{Ts:List TA}(h:LsA st Ts st.A)(k:LsA u Ts u.A){i:Nat}{x:As}(hx:st.A[i]?=some x): ∃y T,u.A[i]?=some y∧IsA st x T∧IsA u y T:=by
 obtain⟨T,h1,h2⟩:=h.get hx
 have hl:i<u.A.length:=by
  rw [k.len,←h.len]
  exact(zgF.1 hx).1
 obtain⟨T',k1,k2⟩:=k.get (zgE hl)
 rw [h1] at k1
 cases k1
 exact⟨_,T,zgE hl,h2,k2⟩
theorem zbB {st u:St}{x y:As}{T:TA}(h:IsA st x T)(k:IsA u y T)(a v:zgS):zb (lvM a v u) y.conds=zb (lvM a v st) x.conds:=zdE _ _ h.vc k.c h.c
theorem zeT {st u:St}{x y:As}{T:TA}(h:IsA st x T)(k:IsA u y T)(sg:zgS→Int)(top:Nat):zb (jP sg top u.L []) y.to_=zb (jP sg top st.L []) x.to_:=by
 have:=zei sg top k.l h.l
 simpa using this
theorem zbL {st u:St}{Ts:List TA}(h:LsA st Ts st.A)(k:LsA u Ts u.A)(a v:zgS)(top:Nat):Sub top st.A st.L (lvM a v st) u.A u.L (lvM a v u):=fun x hx=>by
 obtain⟨i,hi⟩:=List.mem_iff_getElem?.1 hx
 obtain⟨y,T,h1,h2,h3⟩:=z9W h k hi
 exact⟨y,zgM h1,z0Y (h3.b.trans h2.b.symm),fun sg=>zeT h2 h3 sg top,zbB h2 h3 a v⟩
structure Ag (s t:zgS)(st u:St):Prop where
 ck:(ckM t u).1=0
 pr: ∀t',PrS u t'→t'=t
 co: ∀(a v:zgS) (k:Int),coM t a v k u=coM s a v k st
 lq: ∀a v q:zgS,lqM t a v q u=lqM s a v q st
 e:(t.size=0↔s.size=0)
theorem zcD {s:zgS}: ∀n st u,MR s n st=some u→ ∃G,u.A=st.A++G:=by
 intro n
 induction n with
 |zero=>intro st u h;simp [MR] at h
 |succ n ih=>
  intro st u h
  unfold MR at h
  split at h
  ·obtain⟨w,h1,h2⟩:=zgD.1 h
   obtain⟨G,hG⟩:=ih w u h2
   unfold MA at h1
   simp only at h1
   obtain⟨q,g1,g2⟩:=zgD.1 h1
   obtain⟨v,g3,g4⟩:=zgD.1 g2
   obtain⟨_,rfl⟩:=jl g4
   obtain⟨_,k1,_⟩:=z07 s _ _ _ _ _ _ _ _ g1
   obtain⟨_,_,k2,_⟩:=z1i s _ _ _ _ _ g3
   have k1:q.2.A=st.A:=k1
   have k2:v.2.2.A=q.2.A:=k2
   refine⟨⟨(zw s (zp s [98,121] st).at_ (zp s [98,121] st).bad).2.2,q.1,v.1⟩::G,?_⟩
   rw [hG]
   show(v.2.2.A++[_])++G=_
   rw [k2,k1,List.append_assoc]
   rfl
  ·cases h;exact⟨[],by simp⟩
theorem z8V {s:zgS}{n:Nat}{st:St}(h:MR s n st0=some st)(hb:st.bad=false):s.size=0↔st.A=[]:=by
 cases n with
 |zero=>simp [MR] at h
 |succ n=>
  unfold MR at h
  by_cases h0:s.size=0
  ·rw [if_neg (by show ¬((!false&&decide (0<s.size))=true);simp [h0])] at h
   cases h
   exact⟨fun _=>rfl,fun _=>h0⟩
  ·rw [if_pos (by show(!false&&decide (0<s.size))=true;simp;omega)] at h
   obtain⟨w,h1,h2⟩:=zgD.1 h
   have hw:w.bad=false:=by
    cases hq:w.bad with
    |false=>rfl
    |true=>rw [z7H h2 hq,hq] at hb;cases hb
   obtain⟨x,T,e1,_⟩:=z9D [] h1 hw
   obtain⟨G,hG⟩:=zcD n w st h2
   refine⟨fun e=>absurd e h0,fun e=> ?_⟩
   rw [hG,e1] at e
   simp at e
theorem z8k {s t:zgS}{n m:Nat}{st u:St}(hM:MR s n st0=some st)(hck:(ckM s st).1=0)(hp:PrS st t)(ht:t.size≤600)(hM2:MR t m st0=some u):Ag s t st u:=by
 obtain⟨Ts,h1,h2,h3,h4,h5,h6,h7⟩:=z85 hM hck hp hM2
 obtain⟨z1,z2,z3,z4,z5⟩:=z4F.1 hck
 have hck2:(ckM t u).1=0:=z4F.2 ⟨ht,h3,by rw [h2.len,←h1.len];exact z3,h5,h4⟩
 have hgr: ∀a v q:zgS,grM t a v q u=0↔grM s a v q st=0:=fun a v q=>by
  rw [zcg,zcg,h6]
  exact⟨fun⟨a,_,c⟩=>⟨a,hck,c⟩,fun⟨a,_,c⟩=>⟨a,hck2,c⟩⟩
 have hgr2: ∀a v q:zgS,grM t a v q u=grM s a v q st:=fun a v q=>by
  unfold grM
  rw [h6,hck,hck2,show decide (600<s.size)=decide (600<t.size) by rw [decide_eq_false (by omega),decide_eq_false (by omega)]]
 refine⟨hck2,fun t' hp'=>z0Y ((zbO h2 hp').trans h7.symm),fun a v k=> ?_,fun a v q=> ?_,?_⟩
 ·unfold coM
  rw [hgr2,show u.A.length=st.A.length by rw [h2.len,h1.len]]
  split
  ·rfl
  ·split
   ·rfl
   ·rename_i q
    simp only [Bool.or_eq_true,not_or,decide_eq_true_eq] at q
    have hl:k.toNat<st.A.length:=by omega
    obtain⟨y,T,e1,e2,e3⟩:=z9W h1 h2 (zgE hl)
    have hx:=zbB e2 e3 a v
    unfold lvM at hx
    rw [List.getD_eq_getElem?_getD,List.getD_eq_getElem?_getD,e1,zgE hl]
    show(vaM _ (zb _ y.conds),(0:Int))=(vaM _ (zb _ (st.A[k.toNat]).conds),0)
    rw [hx]
 ·unfold lqM
  by_cases h0:grM s a v q st=0
  ·have h0':=(hgr a v q).2 h0
   rw [if_pos h0,if_pos h0']
   have l1:=zc6 h0
   have l2:=zc6 h0'
   exact Int.le_antisymm (zc9 l2 l1 (zbL h2 h1 a v _) (fun _ h=>h) pol) (zc9 l1 l2 (zbL h1 h2 a v _) (fun _ h=>h) pol)
  ·rw [if_neg h0,if_neg fun e=>h0 ((hgr a v q).1 e)]
 ·rw [z8V hM z2,z8V hM2 h3]
  have e1:=h1.len
  have e2:=h2.len
  constructor
  ·intro e;rw [e] at e2;exact List.eq_nil_of_length_eq_zero (by rw [e1,←e2];rfl)
  ·intro e;rw [e] at e1;exact List.eq_nil_of_length_eq_zero (by rw [e2,←e1];rfl)
theorem z4u (l s r:zgS):(z6L l s r).size=l.size+s.size+r.size+4:=by
 unfold z6L
 simp only [ByteArray.size_append]
 have e1:ByteArray.size ⟨#[40]⟩=1:=rfl
 have e2:ByteArray.size ⟨#[32]⟩=1:=rfl
 have e3:ByteArray.size ⟨#[41]⟩=1:=rfl
 omega
theorem exE {X:Nat→Prop}{w:World}{E:List Ex}(hs: ∀x∈E,x.text.size≤600)(hl:E.length≤100000): ∀(f:Nat) (v:Value) (a i:Nat),RefEX X w E f v a i→a≤i∧ ∃t,PrE E f (i:Int) t∧t.size+10≤700*(i+1 - a):=by
 intro f
 induction f with
 |zero=>intro v a i h;exact absurd h id
 |succ f ih=>
  intro v a i ⟨x,hx,h⟩
  have hxs:=hs x (zgM hx)
  have hil:i<E.length:=(zgF.1 hx).1
  have e1:ByteArray.size ⟨#[34]⟩=1:=rfl
  have e2:ByteArray.size ⟨#[64]⟩=1:=rfl
  rcases h with⟨h1,h2,p,h3⟩|⟨h1,h2,p,h3⟩|⟨h1,h2,h4,p,h3⟩|⟨h1,h2,p,h3⟩|⟨h1,h2,p,h3⟩|⟨h1,v1,j,h2,h3,h4,h5⟩|⟨h1,v1,v2,j,k,h2,h3,h4,h5,h6,h7⟩
  ·exact⟨by omega,x.text,⟨by omega,i,x,rfl,hx,hxs,.inl ⟨.inl h1,rfl⟩⟩,by omega⟩
  ·have hz:(((⟨#[34]⟩:zgS)++x.text)++⟨#[34]⟩).size=x.text.size+2:=by simp only [ByteArray.size_append];omega
   exact⟨by omega,_,⟨by omega,i,x,rfl,hx,hxs,.inr (.inl ⟨h1,rfl⟩)⟩,by omega⟩
  ·exact⟨by omega,x.text,⟨by omega,i,x,rfl,hx,hxs,.inl ⟨.inr (.inl h1),rfl⟩⟩,by omega⟩
  ·exact⟨by omega,x.text,⟨by omega,i,x,rfl,hx,hxs,.inl ⟨.inr (.inr h1),rfl⟩⟩,by omega⟩
  ·have hz:((⟨#[64]⟩:zgS)++x.text).size=x.text.size+1:=by simp only [ByteArray.size_append];omega
   exact⟨by omega,_,⟨by omega,i,x,rfl,hx,hxs,.inr (.inr (.inl ⟨h1,rfl⟩))⟩,by omega⟩
  ·obtain⟨hle,t1,q1,q2⟩:=ih v1 a j h5
   have hz:(x.text++t1).size=x.text.size+t1.size:=by simp only [ByteArray.size_append]
   exact⟨by omega,_,⟨by omega,i,x,rfl,hx,hxs,.inr (.inr (.inr (.inl ⟨h1,t1,by rw [h3];exact q1,rfl⟩)))⟩,by omega⟩
  ·obtain⟨hle,t1,q1,q2⟩:=ih v1 a j h6
   obtain⟨hle2,t2,q3,q4⟩:=ih v2 (j+1) k h7
   have hz:=z4u t1 x.text t2
   exact⟨by omega,_,⟨by omega,i,x,rfl,hx,hxs,.inr (.inr (.inr (.inr (.inl ⟨h1,t1,t2,by rw [h3];exact q1,by rw [h4];exact q3,rfl⟩))))⟩,by omega⟩
def sm (ts:List zgS):Nat→Nat
 |0=>0
 |k+1=>sm ts k+(ts.getD k ⟨#[]⟩).size+2
theorem zdJ (sep:zgS)(ts:List zgS)(h:sep.size≤2): ∀k,(jk sep ts k).size≤sm ts k:=by
 intro k
 induction k with
 |zero=>exact zgH _
 |succ k ih=>
  simp only [jk,sm]
  split<;>simp only [ByteArray.size_append]<;>omega
theorem z9d (t:zgS)(ts:List zgS): ∀k,sm (t::ts) (k+1)=t.size+2+sm ts k:=by
 intro k
 induction k with
 |zero=>simp [sm]
 |succ k ih=>
  have e:sm (t::ts) (k+2)=sm (t::ts) (k+1)+((t::ts).getD (k+1) ⟨#[]⟩).size+2:=rfl
  have e2:(t::ts).getD (k+1) ⟨#[]⟩=ts.getD k ⟨#[]⟩:=by simp [List.getD_eq_getElem?_getD]
  rw [e,ih,e2]
  show _=t.size+2+(sm ts k+(ts.getD k ⟨#[]⟩).size+2)
  omega
theorem zfI {P:Value→Nat→Nat→Prop}{Q:Int→zgS→Prop}(h: ∀v a i,P v a i→a≤i∧ ∃t,Q (i:Int) t∧t.size+10≤700*(i+1 - a)): ∀(vs:List Value) (is:List Int) (a e:Nat),SegV P vs is a e→a≤e∧ ∃ts,All2 Q is ts∧sm ts ts.length≤700*(e - a):=by
 intro vs
 induction vs with
 |nil=>intro is a e hq;cases is with
  |nil=>
    have hq:a=e:=hq
    exact⟨by omega,[],trivial,zgO _⟩
  |cons i is=>exact absurd hq id
 |cons v vs ih=>
  intro is a e hq
  cases is with
  |nil=>exact absurd hq id
  |cons i is=>
   obtain⟨j,h1,h2,h3⟩:=hq
   obtain⟨k1,t,k2,k3⟩:=h _ _ _ h2
   obtain⟨k4,ts,k5,k6⟩:=ih is _ _ h3
   refine⟨by omega,t::ts,⟨by rw [h1];exact k2,k5⟩,?_⟩
   rw [List.length_cons,z9d]
   omega
theorem exL {X:Nat→Prop}{w:World}{L:List Lc}(hs: ∀x∈L,x.text.size≤600)(hg:z2j L)(hl:L.length≤100000): ∀(f:Nat) (v:Value) (a i:Nat),RefLX X w L f v a i→a≤i∧ ∃t,PrL L f (i:Int) t∧t.size+10≤700*(i+1 - a):=by
 intro f
 induction f with
 |zero=>intro v a i h;exact absurd h id
 |succ f ih=>
  intro v a i ⟨x,hx,h⟩
  have hxs:=hs x (zgM hx)
  have hil:i<L.length:=(zgF.1 hx).1
  rcases h with⟨h1,h2,p,h3⟩|⟨h1,v1,v2,j,k,p,h2,h3,h4,h8,h5,h6,h7⟩|⟨h1,vs,c,h2,h3,h4,h5,h6⟩
  ·exact⟨by omega,x.text,⟨by omega,i,x,rfl,hx,hxs,.inl ⟨h1,rfl⟩⟩,by omega⟩
  ·obtain⟨hle,t1,q1,q2⟩:=ih v1 a j h6
   obtain⟨hle2,t2,q3,q4⟩:=ih v2 (j+1) k h7
   have hz:=z4u t1 x.text t2
   exact⟨by omega,_,⟨by omega,i,x,rfl,hx,hxs,.inr (.inl ⟨h1,t1,t2,by rw [h3];exact q1,by rw [h4];exact q3,rfl⟩)⟩,by omega⟩
  ·obtain⟨hle,ts,q1,q2⟩:=zfI (Q:=fun i t=>PrL L f i t) (fun v a i q=>ih v a i q) _ _ _ _ h6
   have hj:=zdJ ⟨#[44,32]⟩ ts (by decide) ts.length
   have hz:((((⟨#[c]⟩:zgS)++⟨#[45,111,102,40]⟩)++jk ⟨#[44,32]⟩ ts ts.length)++⟨#[41]⟩).size=(jk ⟨#[44,32]⟩ ts ts.length).size+6:=by
    simp only [ByteArray.size_append]
    have e1:ByteArray.size ⟨#[c]⟩=1:=rfl
    have e2:ByteArray.size ⟨#[45,111,102,40]⟩=4:=rfl
    have e3:ByteArray.size ⟨#[41]⟩=1:=rfl
    omega
   exact⟨hle,_,⟨by omega,i,x,rfl,hx,hxs,.inr (.inr ⟨h1,c,ts,h2,h3,h4,(hg x (zgM hx)).1,q1,by omega,rfl⟩)⟩,by omega⟩
theorem All2.imp {α:Type}{P Q:α→zgS→Prop}(h: ∀x t,P x t→Q x t): ∀{xs:List α} {ts:List zgS},All2 P xs ts→All2 Q xs ts:=by
 intro xs
 induction xs with
 |nil=>intro ts q;cases ts with
  |nil=>trivial
  |cons t ts=>exact absurd q id
 |cons x xs ih=>intro ts q;cases ts with
  |nil=>exact absurd q id
  |cons t ts=>exact⟨h _ _ q.1,ih q.2⟩
theorem zez {L:List Lc}: ∀{f:Nat} {i:Int} {t:zgS},PrL L f i t→PrL L (f+1) i t:=by
 intro f
 induction f with
 |zero=>intro i t h;exact absurd h id
 |succ f ih=>
  intro i t ⟨h0,n,x,h1,h2,h3,h⟩
  refine⟨h0,n,x,h1,h2,h3,?_⟩
  rcases h with q|⟨q,t1,t2,q1,q2,q3⟩|⟨q,c,ts,q1,q2,q3,q4,q5,q6,q7⟩
  ·exact .inl q
  ·exact .inr (.inl ⟨q,t1,t2,ih q1,ih q2,q3⟩)
  ·exact .inr (.inr ⟨q,c,ts,q1,q2,q3,q4,q5.imp fun _ _=>ih,q6,q7⟩)
theorem zeh {P:Value→Cl→Nat→Nat→Prop}{Q:Cl→zgS→Prop}{N:Nat}: ∀(vs:List Value) (cs:List Cl) (a e:Nat),(∀v c a e,c∈cs→a≤N→P v c a e→a≤e∧e≤N∧ ∃t,Q c t∧t.size+10≤700*(e - a))→a≤N→SegC P vs cs a e→a≤e∧e≤N∧ ∃ts,All2 Q cs ts∧sm ts ts.length≤700*(e - a):=by
 intro vs
 induction vs with
 |nil=>intro cs a e h ha hq;cases cs with
  |nil=>
    have hq:a=e:=hq
    exact⟨by omega,by omega,[],trivial,zgO _⟩
  |cons i is=>exact absurd hq id
 |cons v vs ih=>
  intro cs a e h ha hq
  cases cs with
  |nil=>exact absurd hq id
  |cons c cs=>
   obtain⟨m,h2,h3⟩:=hq
   obtain⟨k1,k0,t,k2,k3⟩:=h _ _ _ _ (by simp) ha h2
   obtain⟨k4,k7,ts,k5,k6⟩:=ih cs _ _ (fun v c a e hc=>h v c a e (by simp [hc])) k0 h3
   refine⟨by omega,k7,t::ts,⟨k2,k5⟩,?_⟩
   rw [List.length_cons,z9d]
   omega
theorem exC {X:Nat→Prop}{w:World}{E:List Ex}{C:List (List Cl)}(hs: ∀x∈E,x.text.size≤600)(hl:E.length≤100000)(hr: ∀cls∈C,∀c∈cls,c.result.size≤600)(hg:z5O C): ∀(f:Nat) (v:Value) (ci a e:Nat),a≤E.length→RefCX X w E C f v ci a e→a≤e∧e≤E.length∧ ∃t,PrC E C (f+1) (ci:Int) t∧t.size≤700*(e - a):=by
 intro f
 induction f with
 |zero=>intro v ci a e _ h;exact absurd h id
 |succ f ih=>
  intro v ci a e he ⟨cls,vs,p,h1,h2,h3⟩
  have hmem:=zgM h1
  have each: ∀v c a e,c∈cls→a≤E.length→ClX X w E f (fun v ci a e=>RefCX X w E C f v ci a e) v c a e→a≤e∧e≤E.length∧ ∃t,zfc E (fun i t=>PrC E C (f+1) i t) (f+1) c t∧t.size+10≤700*(e - a):=by
   intro v c a e hc ha ⟨v1,i,x,q1,q2,q3,q4,q5,q6⟩
   obtain⟨k1,t1,k2,k3⟩:=exE hs hl f v1 a i q1
   have hi:i+1<E.length:=(zgF.1 q2).1
   have hp:PrE E (f+1) c.test t1:=⟨by omega,i+1,x,q5,q2,hs x (zgM q2),.inr (.inr (.inr (.inr (.inr ⟨q3,by rw [q4];exact k2⟩))))⟩
   have hres:=hr cls hmem c hc
   rcases q6 with⟨r1,r2,r3⟩|⟨r1,v2,p,r2,r3,r4⟩|⟨r1,v2,ci,r2,r3,r4⟩
   ·exact⟨by omega,by omega,t1,⟨by omega,t1,hp,.inl ⟨r1,rfl⟩⟩,by omega⟩
   ·have hz:((t1++(⟨#[32,45,62,32]⟩:zgS))++c.result).size=t1.size+4+c.result.size:=by
     simp only [ByteArray.size_append]
     have e1:ByteArray.size ⟨#[32,45,62,32]⟩=4:=rfl
     omega
    exact⟨by omega,by omega,_,⟨by omega,t1,hp,.inr (.inl ⟨r1,hres,rfl⟩)⟩,by omega⟩
   ·obtain⟨g1,g2,t2,g3,g4⟩:=ih v2 ci (i+2) e (by omega) r4
    have hz:(((t1++(⟨#[32,45,62,32,123]⟩:zgS))++t2)++⟨#[125]⟩).size=t1.size+6+t2.size:=by
     simp only [ByteArray.size_append]
     have e1:ByteArray.size ⟨#[32,45,62,32,123]⟩=5:=rfl
     have e2:ByteArray.size ⟨#[125]⟩=1:=rfl
     omega
    exact⟨by omega,by omega,_,⟨by omega,t1,hp,.inr (.inr ⟨r1,t2,by rw [r2];exact g3,by omega,rfl⟩)⟩,by omega⟩
  obtain⟨k1,k0,ts,k2,k3⟩:=zeh vs cls a e each he h3
  have hj:=zdJ ⟨#[59,32]⟩ ts (by decide) ts.length
  have hlt:=hg cls hmem
  exact⟨k1,k0,_,⟨by omega,ci,cls,ts,rfl,h1,by omega,k2,rfl⟩,by omega⟩
theorem exA {X:Nat→Prop}{w:World}{st:St}(hz:Sz st)(hg:z5U st)(hE:st.E.length≤100000)(hL:st.L.length≤100000)(f:Nat): ∀(ps:List PP) (xs:List As) (a b e g:Nat),(∀x∈xs,x.by_.size≤600)→b≤st.E.length→SegA (fun p x a b e g=>AsX X w st.L st.E st.C f p x a b e g) ps xs a b e g→ ∃ts,All2 (fun x t=>PrA st (f+1) x t) xs ts:=by
 intro ps
 induction ps with
 |nil=>intro xs a b e g hx hb hq;cases xs with
  |nil=>exact⟨[],trivial⟩
  |cons i is=>exact absurd hq id
 |cons p ps ih=>
  intro xs a b e g hx hb hq
  cases xs with
  |nil=>exact absurd hq id
  |cons x xs=>
   obtain⟨m,n,⟨i,ci,q1,q2,q3,q4,q5⟩,h3⟩:=hq
   obtain⟨_,t1,k1,_⟩:=exL hz.2.1 hg.l hL f _ _ _ q4
   obtain⟨_,k0,t2,k2,_⟩:=exC hz.1 hE hz.2.2.1 hg.c f _ _ _ _ hb q5
   obtain⟨ts,k3⟩:=ih xs _ _ _ _ (fun y hy=>hx y (by simp [hy])) k0 h3
   exact⟨_::ts,⟨hx x (by simp),t1,t2,by rw [q1];exact zez k1,by rw [q2];exact k2,rfl⟩,k3⟩
theorem zbv {s:zgS}{n:Nat}{st:St}(hM:MR s n st0=some st)(hs:s.size≤600)(hE:st.E.length≤100000)(hL:st.L.length≤100000)(h0:(ckM s st).1=0)(w:World): ∃t,PrS st t:=by
 obtain⟨e,w',fr,⟨lv,_,_,_,h⟩,_⟩:=z0d s n st w hM hs []
 obtain⟨f,ps,_,h⟩:=h h0
 have hz:Sz st:=z8O s hs n st0 st hM ⟨fun x h=>(by cases h),fun x h=>(by cases h),fun x h=>(by cases h),fun x h=>(by cases h)⟩
 have hg:z5U st:=z1V s n st0 st hM z6O
 obtain⟨ts,hts⟩:=exA hz hg hE hL f ps st.A 0 0 _ _ hz.2.2.2 (zgO _) h
 exact⟨_,f+1,ts,hts,rfl⟩
end Go.Proofs.YtkoohcilbpdgeaaGreatDoor
