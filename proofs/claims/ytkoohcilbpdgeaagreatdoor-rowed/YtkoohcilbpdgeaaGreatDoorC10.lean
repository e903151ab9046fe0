import Derived.Test.YtkoohcilbpdgeaaGreatDoorCards
import Derived.Test.YtkoohcilbpdgeaaGreatDoorTie
import Derived.Stop.LaidErr
import Derived.Test.YtkoohcilbpdgeaaGreatDoorC09
set_option linter.all false
set_option linter.unusedVariables false
set_option linter.unusedSimpArgs false
set_option linter.unnecessarySimpa false
set_option linter.constructorNameAsVariable false
set_option linter.deprecated false
set_option maxRecDepth 100000
set_option maxHeartbeats 6400000
namespace Go.Proofs.YtkoohcilbpdgeaaGreatDoor
open Go Go.RowKit
attribute [local go_sem] wrap64_byte
def plc (V v:zcC):Nat→Nat→Int→Nat→Int
 |0,_,_,_=> -1
 |n+1,i,k,fr=>if i==V.size||pk V i false==44 then(if((V.extract fr i).toList==v.toList)&& !v.toList.isEmpty then k else plc V v n (i+1) (k+1) (i+1)) else plc V v n (i+1) k fr
def z7W (V v:zcC):Int:=plc V v (V.size+1) 0 0 0
theorem z3s (V v:zcC)(w:World)(hV:V.size≤100000):Calls Tryz.prog 27 #[.string V,.string v] w fun e w'=>e= .returned (.int .i64 (z7W V v))∧ ∃n,w'=w.drewN n:=by
 have hM:Hid (z7W V v=plc V v (V.size+1) 0 0 0):=z8 rfl
 generalize z7W V v=R at*
 go_enter Tryz.func27,Tryz.ntmps27
 go_wp2_with fail
 go_loopg [5,6,7] (V.size+2) (fun n kv fv iv wr=> ∃(i fr m:Nat) (k:Int),n+i=V.size+2∧i≤V.size+1∧fr≤i∧kv= .int .i64 k∧fv= .int .i64 fr∧iv= .int .i64 i∧wr=w.drewN m∧0≤k∧k≤i∧Hid (plc V v (V.size+1 - i) i k fr=R))
 case atStart=>exact⟨0,0,0,0,rfl,by omega,zcr _,rfl,rfl,rfl,rfl,by omega,by omega,z8 hM.out.symm⟩
 case round=>
  obtain⟨i,fr,m,k,hk,hi1,hfr,rfl,rfl,rfl,rfl,hk0,hki,hfin⟩:=hrel
  have hHK:=z8 hk
  clear hk
  by_cases hle:i≤V.size
  ·have hle':(i:Int)≤V.size:=by omega
   have hst:Hid (R=if i==V.size||pk V i false==44 then(if((V.extract fr i).toList==v.toList)&& !v.toList.isEmpty then k else plc V v (V.size+1 -(i+1)) (i+1) (k+1) (i+1)) else plc V v (V.size+1 -(i+1)) (i+1) k fr):=z8 (by
    rw [←hfin.out]
    obtain⟨q,hq⟩: ∃q,V.size+1 - i=q+1:=⟨V.size - i,by omega⟩
    rw [hq,show V.size+1 -(i+1)=q by omega]
    rfl)
   have hext:Hid (fr≤i∧i≤V.size):=z8 ⟨hfr,hle⟩
   have hfr':(fr:Int)≤i:=by omega
   by_cases hie:i=V.size
   ·have hcond:Hid ((i==V.size||pk V i false==44)=true):=z8 (by simp [hie])
    have hie':(i:Int)=V.size:=by omega
    clear hle hle'
    subst hie
    have hle':(V.size:Int)≤V.size:=Int.le_refl _
    clear hie'
    cases hq:((V.extract fr V.size).toList==v.toList)
    case false=>
     have HS:Hid (plc V v (V.size+1 -(V.size+1)) (V.size+1) (k+1) (V.size+1)=R):=z8 (by rw [hst.out,hcond.out,hq];rfl)
     go_wp2_with fail
     have hk:=hHK.out
     go_roundg (V.size+2 -(V.size+1))
     case measure=>omega
     case rel=>exact⟨V.size+1,V.size+1,_,k+1,by omega,by omega,by omega,by go_num,by go_num,by go_num,rfl,by omega,by omega,HS⟩
    case true=>
    cases hn:v.toList.isEmpty
    case true=>
     have HS:Hid (plc V v (V.size+1 -(V.size+1)) (V.size+1) (k+1) (V.size+1)=R):=z8 (by rw [hst.out,hcond.out,hq,hn];rfl)
     go_wp2_with fail
     have hk:=hHK.out
     go_roundg (V.size+2 -(V.size+1))
     case measure=>omega
     case rel=>exact⟨V.size+1,V.size+1,_,k+1,by omega,by omega,by omega,by go_num,by go_num,by go_num,rfl,by omega,by omega,HS⟩
    case false=>
     have hres:Hid (R=k):=z8 (by rw [hst.out,hcond.out,hq,hn];rfl)
     go_wp2_with fail
     go_ret
     exact⟨by rw [hres.out];rfl,_,rfl⟩
   ·have hlt':(i:Int)<V.size:=by omega
    have hne': ¬(i:Int)=V.size:=by omega
    have hbe:((i:Int)==(V.size:Int))=false:=by simpa using hne'
    have hlt:i<V.size:=by omega
    have hpk:pk V i false=((V[i]'hlt).toNat:Int):=by unfold pk;rw [dif_pos hlt];rfl
    by_cases h44:((V[i]'hlt).toNat:Int)=44
    ·have hcond:Hid ((i==V.size||pk V i false==44)=true):=z8 (by rw [hpk,h44];simp)
     clear hpk hie
     cases hq:((V.extract fr i).toList==v.toList)
     case false=>
      have HS:Hid (plc V v (V.size+1 -(i+1)) (i+1) (k+1) (i+1)=R):=z8 (by rw [hst.out,hcond.out,hq];rfl)
      go_wp2_with fail
      have hk:=hHK.out
      go_roundg (V.size+2 -(i+1))
      case measure=>omega
      case rel=>exact⟨i+1,i+1,_,k+1,by omega,by omega,by omega,by go_num,by go_num,by go_num,rfl,by omega,by omega,HS⟩
     case true=>
     cases hn:v.toList.isEmpty
     case true=>
      have HS:Hid (plc V v (V.size+1 -(i+1)) (i+1) (k+1) (i+1)=R):=z8 (by rw [hst.out,hcond.out,hq,hn];rfl)
      go_wp2_with fail
      have hk:=hHK.out
      go_roundg (V.size+2 -(i+1))
      case measure=>omega
      case rel=>exact⟨i+1,i+1,_,k+1,by omega,by omega,by omega,by go_num,by go_num,by go_num,rfl,by omega,by omega,HS⟩
     case false=>
      have hres:Hid (R=k):=z8 (by rw [hst.out,hcond.out,hq,hn];rfl)
      go_wp2_with fail
      go_ret
      exact⟨by rw [hres.out];rfl,_,rfl⟩
    ·have hb4:(((V[i]'hlt).toNat:Int)==44)=false:=by simpa using h44
     have HS:Hid (plc V v (V.size+1 -(i+1)) (i+1) k fr=R):=z8 (by
      have e:(i==V.size||pk V i false==44)=false:=by rw [hpk];simp [hie,h44]
      rw [hst.out,e]
      rfl)
     clear hpk hie
     go_wp2_with fail
     have hk:=hHK.out
     go_roundg (V.size+2 -(i+1))
     case measure=>omega
     case rel=>exact⟨i+1,fr,_,k,by omega,by omega,by omega,rfl,rfl,by go_num,rfl,by omega,by omega,HS⟩
  ·have hle': ¬(i:Int)≤V.size:=by omega
   have hres:Hid (R= -1):=z8 (by rw [←hfin.out,show V.size+1 - i=0 by omega];rfl)
   go_wp2_with fail
   go_ret
   exact⟨by rw [hres.out];rfl,m,rfl⟩
theorem z2D {p:Int→Bool}{s:zcC}: ∀(k a:Nat),∀i,a≤i→i<run p s false k a→p (pk s i false)=true:=by
 intro k
 induction k with
 |zero=>intro a i h1 h2;unfold run at h2;omega
 |succ k ih=>
  intro a i h1 h2
  unfold run at h2
  split at h2
  ·rename_i hp
   by_cases e:i=a
   ·subst e;exact hp
   ·exact ih (a+1) i (by omega) h2
  ·omega
theorem z2Y {s:zcC}{a:Nat}(h:(zg s a false).2.1=false):a<(zg s a false).1∧(zg s a false).2.2=s.extract a (zg s a false).1∧ ∀i,a≤i→i<(zg s a false).1→(pk s i false==44)=false:=by
 unfold zg jK at h ⊢
 simp only at h ⊢
 split at h
 ·cases h
 ·rename_i hq
  rw [if_neg hq]
  simp only [Bool.or_eq_true,not_or,beq_iff_eq] at hq
  have hl:=z2D (p:=zl) (s:=s) 8 a
  refine⟨?_,rfl,fun i h1 h2=> ?_⟩
  ·show a<run zl s false 8 a
   have: ∀k b,b≤run zl s false k b:=by
    intro k
    induction k with
    |zero=>intro b;exact zcr _
    |succ k ih=>intro b;unfold run;split;exact zcz (Nat.le_succ b) (ih (b+1));exact zcr _
   have h1:=this 8 a
   have h2:=hq.1
   omega
  ·have:=hl i h1 h2
   cases hc:(pk s i false==44) with
   |false=>rfl
   |true=>
     have e:pk s i false=44:=by simpa using hc
     rw [e] at this
     exact absurd this (by decide)
theorem z7S (s:zcC): ∀(n a:Nat) (l:List zcC),(nmM s n a true l).2.1=true:=by
 intro n
 cases n with
 |zero=>intro a l;rfl
 |succ n=>intro a l;unfold nmM;rw [if_neg (by simp [pk])]
def zbs (V:zcC):List zcC→Nat→Prop
 |[],a=>a=V.size
 |x::l,a=>(pk V a false==44)=true∧a<V.size∧ ∃b,a+1<b∧b≤V.size∧x=V.extract (a+1) b∧(∀i,a+1≤i→i<b→(pk V i false==44)=false)∧zbs V l b
theorem zbh {s:zcC}{a:Nat}{c:Int}(h:pk s a false=c)(hc:c≠ -1):a<s.size:=by
 unfold pk at h
 split at h
 ·exact absurd h.symm hc
 ·split at h
  ·assumption
  ·exact absurd h.symm hc
theorem z75 {s:zcC}{a:Nat}(h:(zg s a false).2.1=false):(zg s a false).1≤s.size:=by
 obtain⟨h1,_,_⟩:=z2Y h
 unfold zg jK at h h1 ⊢
 simp only at h h1 ⊢
 split at h
 ·cases h
 ·rename_i hq
  rw [if_neg hq] at h1 ⊢
  simp only at h1 ⊢
  have hl:=z2D (p:=zl) (s:=s) 8 a (run zl s false 8 a - 1) (by omega) (by omega)
  have:=zbh (s:=s) (a:=run zl s false 8 a - 1) rfl (fun e=>by rw [e] at hl;exact absurd hl (by decide))
  omega
theorem z9E (s:zcC): ∀(n a:Nat) (d:Bool) (l:List zcC),z1v s (nmM s n a d l).1 (nmM s n a d l).2.1=false→a≤s.size→d=false∧ ∃t,(nmM s n a d l).2.2=l++t∧zbs s t a:=by
 intro n
 induction n with
 |zero=>
  intro a d l h ha
  have h:(d||decide (a<s.size))=false:=h
  rw [Bool.or_eq_false_iff,decide_eq_false_iff_not] at h
  exact⟨h.1,[],by simp [nmM],by have h3: ¬a<s.size:=h.2;show a=s.size;omega⟩
 |succ n ih=>
  intro a d l h ha
  cases d with
  |true=>
   have:=z7S s (n+1) a l
   unfold z1v at h
   rw [this] at h
   cases h
  |false=>
  refine⟨rfl,?_⟩
  unfold nmM at h ⊢
  split at h
  ·rename_i hc
   rw [if_pos hc]
   cases hb:(zg s (a+1) false).2.1 with
   |true=>
    exfalso
    simp only [hb] at h
    have:=z7S s n (zg s (a+1) false).1 (l++[(zg s (a+1) false).2.2])
    unfold z1v at h
    rw [this] at h
    cases h
   |false=>
   obtain⟨g1,g2,g3⟩:=z2Y hb
   have g4:=z75 hb
   simp only [hb] at h ⊢
   obtain⟨_,t,h1,h2⟩:=ih _ _ _ h g4
   refine⟨(zg s (a+1) false).2.2::t,?_,hc,zbh (c:=44) (by simpa using hc) (by decide),_,g1,g4,g2,g3,h2⟩
   rw [h1]
   simp
  ·rename_i hc
   rw [if_neg hc]
   have h:(false||decide (a<s.size))=false:=h
   rw [Bool.or_eq_false_iff,decide_eq_false_iff_not] at h
   exact⟨[],by simp,by have h3: ¬a<s.size:=h.2;show a=s.size;omega⟩
theorem z5X (V v:zcC)(k:Int)(fr b:Nat)(hb:b≤V.size): ∀(m i:Nat),i+m=b→(∀j,i≤j→j<b→(pk V j false==44)=false)→plc V v (V.size+1 - i) i k fr=plc V v (V.size+1 - b) b k fr:=by
 intro m
 induction m with
 |zero=>intro i h _;rw [show i=b by omega]
 |succ m ih=>
  intro i h hn
  rw [show V.size+1 - i=(V.size+1 -(i+1))+1 by omega]
  rw [←ih (i+1) (by omega) fun j h1 h2=>hn j (by omega) h2]
  have e:(i==V.size||pk V i false==44)=false:=by
   rw [hn i (zcr _) (by omega)]
   have: ¬i=V.size:=by omega
   simp [this]
  show(if(i==V.size||pk V i false==44)=true then _ else _)=_
  rw [e]
  rfl
def zby (nm:zcC):List zcC→Int→Int
 |[],_=> -1
 |x::xs,i=>if x.toList==nm.toList then i else zby nm xs (i+1)
theorem z9D (nm:zcC): ∀(l:List zcC) (i:Nat),zby nm l i=plM nm l i:=by
 intro l
 induction l with
 |nil=>intro i;rfl
 |cons x xs ih=>intro i;unfold zby plM;rw [←ih (i+1)];rfl
theorem zaj (V v:zcC)(hv:v.toList.isEmpty=false): ∀(t:List zcC) (a b:Nat) (k:Int) (x:zcC),x=V.extract a b→b≤V.size→zbs V t b→plc V v (V.size+1 - b) b k a=zby v (x::t) k:=by
 intro t
 induction t with
 |nil=>
  intro a b k x hx hb hs
  have hs:b=V.size:=hs
  rw [show V.size+1 - b=0+1 by omega]
  show(if(b==V.size||pk V b false==44)=true then(if((V.extract a b).toList==v.toList&& !v.toList.isEmpty)=true then k else plc V v 0 (b+1) (k+1) (b+1)) else _)=_
  rw [if_pos (by simp [hs]),hv,←hx]
  show(if(x.toList==v.toList&&true)=true then k else -1)=(if(x.toList==v.toList)=true then k else -1)
  rw [Bool.and_true]
 |cons y t ih=>
  intro a b k x hx hb hs
  obtain⟨h44,hlt,c,h1,h2,h3,h4,h5⟩:=hs
  rw [show V.size+1 - b=(V.size+1 -(b+1))+1 by omega]
  show(if(b==V.size||pk V b false==44)=true then(if((V.extract a b).toList==v.toList&& !v.toList.isEmpty)=true then k else plc V v (V.size+1 -(b+1)) (b+1) (k+1) (b+1)) else _)=_
  rw [if_pos (by simp [h44]),hv,←hx,z5X V v (k+1) (b+1) c h2 (c -(b+1)) (b+1) (by omega) h4,ih (b+1) c (k+1) y h3 h2 h5]
  show(if(x.toList==v.toList&&true)=true then k else _)=(if(x.toList==v.toList)=true then k else _)
  rw [Bool.and_true]
theorem z9l {V:zcC}{a b:Nat}(h:a<b)(hb:b≤V.size):(V.extract a b).toList.isEmpty=false:=by
 have h1:(V.extract a b).size=b - a:=by rw [ByteArray.size_extract];omega
 rw [zcq]
 have h2:(V.extract a b).data.toList.length=b - a:=by rw [Array.length_toList];exact h1
 cases hq:(V.extract a b).data.toList with
 |nil=>rw [hq] at h2;simp at h2;omega
 |cons x l=>rfl
theorem zab (V:zcC): ∀(t:List zcC) (a:Nat),zbs V t a→ ∀x∈t,x.toList.isEmpty=false:=by
 intro t
 induction t with
 |nil=>intro a _ x hx;cases hx
 |cons y t ih=>
  intro a hs x hx
  obtain⟨h44,hlt,c,h1,h2,h3,h4,h5⟩:=hs
  rcases List.mem_cons.mp hx with rfl|hx
  ·rw [h3];exact z9l h1 h2
  ·exact ih c h5 x hx
theorem z6U {V:zcC}(h:(rnM V).2=false):(∀v:zcC,v.toList.isEmpty=false→z7W V v=plM v (rnM V).1 0)∧ ∀x∈(rnM V).1,x.toList.isEmpty=false:=by
 unfold rnM at h ⊢
 simp only at h ⊢
 cases hb:(zg V 0 false).2.1 with
 |true=>
  exfalso
  rw [hb] at h
  have:=z7S V (V.size+1) (zg V 0 false).1 [(zg V 0 false).2.2]
  unfold z1v at h
  rw [this] at h
  cases h
 |false=>
 obtain⟨g1,g2,g3⟩:=z2Y hb
 have g4:=z75 hb
 obtain⟨_,t,h1,h2⟩:=z9E V _ _ _ _ h g4
 rw [hb] at h1
 rw [h1]
 refine⟨fun v hv=> ?_,fun x hx=> ?_⟩
 ·unfold z7W
  have:=z5X V v 0 0 (zg V 0 false).1 g4 (zg V 0 false).1 0 (by omega) g3
  rw [show V.size+1=V.size+1 - 0 by omega,this,zaj V v hv t 0 _ 0 _ g2 g4 h2,←z9D]
  rfl
 ·rcases List.mem_cons.mp hx with rfl|hx
  ·rw [g2];exact z9l g1 g4
  ·exact zab V t _ h2 x hx
theorem zaw (l:List zcC): ∀(n i:Nat),z4d l n i=false→ ∀m,i≤m→m<i+n→plM (l.getD m ⟨#[]⟩) l 0=m:=by
 intro n
 induction n with
 |zero=>intro i _ m h1 h2;omega
 |succ n ih=>
  intro i h m h1 h2
  unfold z4d at h
  rw [Bool.or_eq_false_iff] at h
  by_cases e:m=i
  ·subst e;simpa using h.1
  ·exact ih (i+1) h.2 m (by omega) (by omega)
theorem z7y {V:zcC}(h:(vlM V).2=false){m:Nat}(hm:m<(vlM V).1.length):z7W V ((vlM V).1.getD m ⟨#[]⟩)=m:=by
 unfold vlM at h hm ⊢
 split at h
 ·cases h
 ·rename_i hc
  rw [if_neg hc] at hm ⊢
  simp only [Bool.or_eq_true,not_or,Bool.not_eq_true] at hc
  obtain⟨⟨⟨c1,_⟩,_⟩,c4⟩:=hc
  obtain⟨p1,p2⟩:=z6U c1
  simp only at hm ⊢
  have hx:(rnM V).1.getD m ⟨#[]⟩∈(rnM V).1:=by
   rw [List.getD_eq_getElem?_getD,zco hm]
   exact List.getElem_mem hm
  rw [p1 _ (p2 _ hx)]
  exact zaw _ _ 0 c4 m (zcy _) (by omega)
theorem zaQ: ∀(n m:Nat) (K:Nat→Nat),(∀t,t<m→K t<n)→(∀t t',t'<t→t<m→K t'≠K t)→m≤n:=by
 intro n
 induction n with
 |zero=>
  intro m K h _
  cases m with
  |zero=>exact zcr _
  |succ m=>exact absurd (h 0 (by omega)) (by omega)
 |succ n ih=>
  intro m K h hd
  cases m with
  |zero=>omega
  |succ m=>
   have hl:=h m (by omega)
   have:=ih m (fun t=>if K t=n then K m else K t) (fun t ht=>by
    have h1:=h t (by omega)
    have h2:=hd m t ht (by omega)
    show(if K t=n then K m else K t)<n
    split<;>omega) (fun t t' h1 h2=>by
    have a1:=hd t t' h1 (by omega)
    have a2:=hd m t h2 (by omega)
    have a3:=hd m t' (by omega) (by omega)
    show(if K t'=n then K m else K t')≠(if K t=n then K m else K t)
    split<;>split<;>omega)
   omega
structure zch (S A V Q x c:zcC)(e:Int):Prop where
 q: ∀w,Calls Tryz.prog 19 #[.string S,.string A,.string V,.string Q] w fun r w'=>jx x e w r w'
 ch: ∀w,Calls Tryz.prog 20 #[.string S,.string A,.string V,.string Q] w fun r w'=>jx c e w r w'
 nz:e≠0→x=⟨#[]⟩∧c=⟨#[]⟩
 zz:e=0→V.size≤60∧c.size≤8∧ ∃k:Nat,z7W V x=k∧(c.size=0↔k=0)∧ ∀t (h:t<c.size),∃(y:zcC) (p:Nat),z7W V y=p∧1≤p∧ ∀w,Calls Tryz.prog 26 #[.string S,.int .i64 (((c[t]'h).toNat:Int)- 48),.string A,.string V] w fun r w'=>jx y 0 w r w'
theorem zbc {s a v q:zcC}{st:St}(h:grM s a v q st=0):grM s a v ⟨#[]⟩ st=0∧v.size≤60:=by
 unfold grM at h ⊢
 split at h
 ·cases h
 ·rename_i h0
  split at h
  ·rename_i h1;rw [h] at h1;simp at h1
  ·rename_i h1
   split at h
   ·cases h
   ·rename_i h2
    split at h
    ·cases h
    ·rename_i h3
     simp only [Bool.or_eq_true,not_or,decide_eq_true_eq] at h0 h2
     have e0:(⟨#[]⟩:zcC).size=0:=rfl
     have e1:(rqM ⟨#[]⟩).2=false:=rfl
     refine⟨?_,by omega⟩
     rw [if_neg (by simp only [Bool.or_eq_true,not_or,decide_eq_true_eq,e0];omega),if_neg h1,if_neg (by simp only [Bool.or_eq_true,not_or,e1];exact⟨⟨h2.1.1,h2.1.2⟩,by simp⟩),if_neg h3]
theorem z68 {V:zcC}(h:(vlM V).2=false){i:Int}(h0:0≤i)(h1:i<(vlM V).1.length):z7W V (vaM (vlM V).1 i)=i.toNat:=by
 unfold vaM
 rw [if_neg (by omega)]
 exact z7y h (by omega)
theorem Ask.cond {s a v q:zcC}{st:St}(h:Ask s a v q st)(hg: ∀w,Calls Tryz.prog 34 #[.string s,.string a,.string v,.string ⟨#[]⟩] w fun e w'=>z0R s a v ⟨#[]⟩ st w e w')(h0:grM s a v q st=0){k:Nat}{x:As}(hx:st.A[k]?=some x)(w:World):
  Calls Tryz.prog 26 #[.string s,.int .i64 (k:Int),.string a,.string v] w fun r w'=>jx (vaM (vlM v).1 (zc (z0o (vlM v).1 (ze (raM a).1 st.E []) st.C []) x.conds)) 0 w r w':=by
 have hc:=za3 s a v (k:Int) st w (hg w) (by have:=h.ee;omega) (by have:=h.ea;omega) (by have:=h.ec;omega) h.cl (z2P v) h.ra.2 h.ra.1 h.es (fun _ x hx=>(h.w h0 x hx).1)
 have e:coM s a v (k:Int) st=(vaM (vlM v).1 (zc (z0o (vlM v).1 (ze (raM a).1 st.E []) st.C []) x.conds),0):=by
  have hk:=(zcp.1 hx).1
  unfold coM
  rw [(zbc h0).1,if_neg (by decide),if_neg (by simp only [Bool.or_eq_true,decide_eq_true_eq];omega),Int.toNat_natCast,List.getD_eq_getElem?_getD,hx]
  rfl
 rw [e] at hc
 exact hc
theorem zaJ {top:Nat}{W:List Int}(h:Lvr top W)(i:Int):0≤zc W i∧zc W i≤top:=h i
theorem z8O (s a v q:zcC)(hs:s.size≤maxLen)(ha:a.size≤maxLen)(hv:v.size≤maxLen)(hq:q.size≤maxLen): ∃x c e,zch s a v q x c e:=by
 by_cases h:s.size≤600∧a.size≤100∧v.size≤60∧q.size≤60
 ·obtain⟨n,st,hM,hA,hL,hE,hC⟩:=zb4 s h.1
  have hz:Sz st:=z9K s h.1 n st0 st hM ⟨fun x h=>(by cases h),fun x h=>(by cases h),fun x h=>(by cases h),fun x h=>(by cases h)⟩
  have hcl:=z9i s n st0 st hM (fun c h=>by cases h)
  have hcv:=z98 s n st0 st hM zc1
  have hgd:=z3U s n st0 st hM z8w
  have hvl:=z2P v
  have hg: ∀(q:zcC),q.size≤60→ ∀w,Calls Tryz.prog 34 #[.string s,.string a,.string v,.string q] w fun e w'=>z0R s a v q st w e w':=fun q hq w=>z2a s a v q st w h.1 h.2.1 h.2.2.1 hq (fun W=>z0n s n st W hM h.1 (by omega) (by omega) (by omega)) (by omega) hcl hvl
  have K:Ask s a v q st:=⟨hg q h.2.2.2,
   fun w=>z1Z s a v q st w h.1 h.2.1 h.2.2.1 h.2.2.2 (z0t s n st w hM h.1) hgd.e hcv (by omega) hcl hvl,⟨n,hM⟩,hA,hL,hE,hC,hcl,hcv,hgd,hz.1,z2V a (by omega),fun h0=>z4z (a:=a) (v:=v) (q:=q) hM (by omega) h0⟩
  have hge:=hg ⟨#[]⟩ (zcy _)
  clear hg hM hA hL hE hC hz hcl hcv hgd
  by_cases h0:grM s a v q st=0
  ·have hv2:=Ask.two h0
   have hvb:=(z0l h0).1
   have hW:=Ask.lvr (q:=q) h0
   have h8:=(z2s (z0l h0).2.2.1).2.2.1
   have hgr:=z5I (A:=st.A) (qs:=(rqM q).1) (z9d (A:=st.A) (L:=st.L) (qs:=(rqM q).1) hW st.A.length) pol
   have eq:quM s a v q st=(vaM (vlM v).1 (stM st.A (rqM q).1 ((vlM v).1.length - 1) (gvM st.A st.L (rqM q).1 ((vlM v).1.length - 1) (z0o (vlM v).1 (ze (raM a).1 st.E []) st.C []) st.A.length) pol),0):=by unfold quM;rw [h0];rfl
   have ec:chM s a v q st=(z2m (z50 st.A (lnM st.A st.L) (rwM st.A (lnM st.A st.L) (rqM q).1 (gvM st.A st.L (rqM q).1 ((vlM v).1.length - 1) (z0o (vlM v).1 (ze (raM a).1 st.E []) st.C []) st.A.length) st.A.length)),0):=by unfold chM;rw [h0];rfl
   have hQ:=K.query
   have hCh:=K.chain
   rw [eq] at hQ
   rw [ec] at hCh
   refine⟨_,_,0,hQ,hCh,fun h=>absurd rfl h,fun _=>⟨(zbc h0).2,?_⟩⟩
   have hpl:=z68 hvb hgr.1 (by omega)
   rcases z2J (qs:=(rqM q).1) hW (K.pos h0 ((vlM v).1.length - 1)).1 (z99 q) h8 with⟨h1,h2⟩|⟨h1,_,F,h3⟩
   ·rw [h2]
    refine⟨by decide,0,?_,⟨fun _=>rfl,fun _=>rfl⟩,fun t h=>absurd h (Nat.not_lt_zero t)⟩
    rw [hpl,h1]
    rfl
   ·have hpos:=h3.pos
    refine⟨?_,_,hpl,⟨fun h=>absurd (h▸hpos) (Nat.lt_irrefl 0),fun h=>by exfalso;have h1:=h1;omega⟩,fun t ht=> ?_⟩
    ·refine zcz (zaQ st.A.length _ F (fun t ht=> ?_) fun t t' h1 h2=>h3.two t t' h1 h2) h8
     obtain⟨x,hx,_⟩:=h3.ok t ht
     exact(zcp.1 hx).1
    ·obtain⟨x,hx,hx0,_⟩:=h3.ok t ht
     have hr:=zaJ hW x.conds
     have hn:zc (z0o (vlM v).1 (ze (raM a).1 st.E []) st.C []) x.conds≠0:=by simpa using hx0
     refine⟨_,_,z68 hvb hr.1 (by omega),by omega,fun w=> ?_⟩
     rw [(h3.dg t ht).1]
     exact K.cond hge h0 hx w
  ·have hn:(grM s a v q st !=0)=true:=by simpa using h0
   exact⟨⟨#[]⟩,⟨#[]⟩,grM s a v q st,fun w=>z5S s a v q st w (K.gr w) _ rfl hn,fun w=>z5N s a v q st w (K.gr w) _ rfl hn,fun _=>⟨rfl,rfl⟩,fun h=>absurd h h0⟩
 ·have h1:=z93 h st0
  exact⟨⟨#[]⟩,⟨#[]⟩,1,fun w=>z5S s a v q st0 w (z2x s a v q st0 w hs ha hv hq (by omega)) 1 h1 rfl,fun w=>z5N s a v q st0 w (z2x s a v q st0 w hs ha hv hq (by omega)) 1 h1 rfl,fun _=>⟨rfl,rfl⟩,fun h=>by cases h⟩
theorem z4e {B:Nat}{a w:World}(h:Below B a w)(n:Nat):Below B a (w.drewN n):=h.trans ⟨rfl,rfl,rfl,zcr _,fun _ _=>rfl⟩
theorem za4 (S A V Q:zcC)(e:Int)(hn:e≠0)(w:World)(h: ∀w,Calls Tryz.prog 19 #[.string S,.string A,.string V,.string Q] w fun r w'=>jx ⟨#[]⟩ e w r w'):
  Calls Tryz.prog 24 #[.string S,.string A,.string V,.string Q] w fun r w'=>r= .returned (.int .i64 (-1))∧Below w.heap.size w w':=by
 have H:=z8 h
 clear h
 go_enter Tryz.func24,Tryz.ntmps24
 go_wp2_with fail
 refine(H.out _).mono ?_
 rintro e w1 ⟨rfl,hB⟩
 have HB:=z8 hB
 clear hB
 go_wp2_with fail
 refine(z0a _ _).mono ?_
 rintro e w3 ⟨rfl,rfl⟩
 go_wp2_with fail
 go_ret
 exact⟨rfl,HB.out⟩
theorem zbb (S A V Q x:zcC)(k:Nat)(hV:V.size≤60)(hk:z7W V x=k)(w:World)(h: ∀w,Calls Tryz.prog 19 #[.string S,.string A,.string V,.string Q] w fun r w'=>jx x 0 w r w'):
  Calls Tryz.prog 24 #[.string S,.string A,.string V,.string Q] w fun r w'=>r= .returned (.int .i64 (k:Int))∧Below w.heap.size w w':=by
 have H:=z8 h
 have HK:=z8 hk
 have HV:=z8 hV
 clear h hk hV
 go_enter Tryz.func24,Tryz.ntmps24
 go_wp2_with fail
 refine(H.out _).mono ?_
 rintro e w1 ⟨rfl,hB⟩
 have HB:=z8 hB
 clear hB
 go_wp2_with fail
 refine(z0a _ _).mono ?_
 rintro e w3 ⟨rfl,rfl⟩
 go_wp2_with fail
 refine(z3s V x _ (by have:=HV.out;omega)).mono ?_
 rintro e w4 ⟨rfl,n,rfl⟩
 rw [HK.out]
 have hk0: ¬((k:Int)<0):=by omega
 go_wp2_with fail
 go_ret
 exact⟨rfl,z4e HB.out n⟩
theorem z8m (kk n:Int)(S A V Q:zcC)(e:Int)(hn:e≠0)(w:World)
  (h1: ∀w,Calls Tryz.prog 24 #[.string S,.string A,.string V,.string Q] w fun r w'=>r= .returned (.int .i64 (-1))∧Below w.heap.size w w')
  (h2: ∀w,Calls Tryz.prog 20 #[.string S,.string A,.string V,.string Q] w fun r w'=>jx ⟨#[]⟩ e w r w')
  (h3: ∀w,Calls Tryz.prog 19 #[.string S,.string A,.string V,.string Q] w fun r w'=>jx ⟨#[]⟩ e w r w'):
  Calls Tryz.prog 17 #[.agg #[.int .i64 kk,.int .i64 n,.string S,.string A,.string V,.string Q]] w fun e w'=>e= .returned (.bool true)∧Below w.heap.size w w':=by
 have H1:=z8 h1
 have H2:=z8 h2
 have H3:=z8 h3
 clear h1 h2 h3
 have hB0:Below w.heap.size w (w.alloc (.cells #[.int .i64 kk,.int .i64 n,.string S,.string A,.string V,.string Q] 27)):=(zcB _ _).alloc (zcr _) _
 have hg0:=heap_alloc_new w (.cells #[.int .i64 kk,.int .i64 n,.string S,.string A,.string V,.string Q] 27)
 have hz0:w.heap.size<(w.alloc (.cells #[.int .i64 kk,.int .i64 n,.string S,.string A,.string V,.string Q] 27)).heap.size:=by simp
 have H0:=z8 (zcs hB0 (zcs hg0 hz0))
 clear hB0 hg0 hz0
 go_enter Tryz.func17,Tryz.ntmps17
 go_wp2_with fail
 obtain⟨hB0,hg0,hz0⟩:=H0.out
 clear H0
 generalize (w.alloc (.cells #[.int .i64 kk,.int .i64 n,.string S,.string A,.string V,.string Q] 27))=W0 at*
 refine(H1.out _).mono ?_
 rintro e w1 ⟨rfl,hB1⟩
 have hg1:=(hB1.block _ hz0).trans hg0
 have hB01:=hB0.trans (hB1.mono (Nat.le_of_lt hz0))
 obtain⟨y0,y1,y2,y3,y4,y5⟩:=z5b hg1
 have hzl:w.heap.size<w1.heap.size:=zcx hz0 hB1.size
 have HB1:=z8 (zcs hB01 (zcs hg1 hzl))
 clear hB1 hB01 hg1 hg0 hB0 hz0 hzl
 go_wp2_with fail
 refine(H2.out _).mono ?_
 rintro e w2 ⟨rfl,hB2⟩
 obtain⟨hB01,hg1,hzl⟩:=HB1.out
 clear HB1 y0 y1 y2 y3 y4 y5
 have hg2:=(hB2.block _ hzl).trans hg1
 have hB02:=hB01.trans (hB2.mono (Nat.le_of_lt hzl))
 obtain⟨y0,y1,y2,y3,y4,y5⟩:=z5b hg2
 have hzl2:w.heap.size<w2.heap.size:=zcx hzl hB2.size
 have HB2:=z8 (zcs hB02 (zcs hg2 hzl2))
 clear hB2 hB02 hg2 hzl2 hB01 hg1 hzl
 go_wp2_with fail
 refine(H3.out _).mono ?_
 rintro e w3 ⟨rfl,hB3⟩
 obtain⟨hB02,hg2,hzl2⟩:=HB2.out
 have HB3:=z8 (hB02.trans (hB3.mono (Nat.le_of_lt hzl2)))
 clear HB2 y0 y1 y2 y3 y4 y5 hB3 hB02 hg2 hzl2
 go_wp2_with fail
 refine(z0a _ _).mono ?_
 rintro e w4 ⟨rfl,rfl⟩
 go_wp2_with fail
 refine(z0a _ _).mono ?_
 rintro e w5 ⟨rfl,rfl⟩
 go_wp2_with fail
 go_ret
 exact⟨rfl,HB3.out⟩
theorem zag (kk n:Int)(S A V Q:zcC)(w:World)
  (h1: ∀w,Calls Tryz.prog 24 #[.string S,.string A,.string V,.string Q] w fun r w'=>r= .returned (.int .i64 0)∧Below w.heap.size w w')
  (h2: ∀w,Calls Tryz.prog 20 #[.string S,.string A,.string V,.string Q] w fun r w'=>jx ⟨#[]⟩ 0 w r w'):
  Calls Tryz.prog 17 #[.agg #[.int .i64 kk,.int .i64 n,.string S,.string A,.string V,.string Q]] w fun e w'=>e= .returned (.bool true)∧Below w.heap.size w w':=by
 have H1:=z8 h1
 have H2:=z8 h2
 clear h1 h2
 have hB0:Below w.heap.size w (w.alloc (.cells #[.int .i64 kk,.int .i64 n,.string S,.string A,.string V,.string Q] 27)):=(zcB _ _).alloc (zcr _) _
 have hg0:=heap_alloc_new w (.cells #[.int .i64 kk,.int .i64 n,.string S,.string A,.string V,.string Q] 27)
 have hz0:w.heap.size<(w.alloc (.cells #[.int .i64 kk,.int .i64 n,.string S,.string A,.string V,.string Q] 27)).heap.size:=by simp
 have H0:=z8 (zcs hB0 (zcs hg0 hz0))
 clear hB0 hg0 hz0
 go_enter Tryz.func17,Tryz.ntmps17
 go_wp2_with fail
 obtain⟨hB0,hg0,hz0⟩:=H0.out
 clear H0
 generalize (w.alloc (.cells #[.int .i64 kk,.int .i64 n,.string S,.string A,.string V,.string Q] 27))=W0 at*
 refine(H1.out _).mono ?_
 rintro e w1 ⟨rfl,hB1⟩
 have hg1:=(hB1.block _ hz0).trans hg0
 have hB01:=hB0.trans (hB1.mono (Nat.le_of_lt hz0))
 obtain⟨y0,y1,y2,y3,y4,y5⟩:=z5b hg1
 have hzl:w.heap.size<w1.heap.size:=zcx hz0 hB1.size
 have HB1:=z8 (zcs hB01 (zcs hg1 hzl))
 clear hB1 hB01 hg1 hg0 hB0 hz0 hzl
 go_wp2_with fail
 refine(H2.out _).mono ?_
 rintro e w2 ⟨rfl,hB2⟩
 obtain⟨hB01,hg1,hzl⟩:=HB1.out
 clear HB1 y0 y1 y2 y3 y4 y5
 have hg2:=(hB2.block _ hzl).trans hg1
 have hB02:=hB01.trans (hB2.mono (Nat.le_of_lt hzl))
 obtain⟨y0,y1,y2,y3,y4,y5⟩:=z5b hg2
 have hzl2:w.heap.size<w2.heap.size:=zcx hzl hB2.size
 have HB2:=z8 (zcs hB02 (zcs hg2 hzl2))
 clear hB2 hB02 hg2 hzl2 hB01 hg1 hzl
 clear y0 y1 y2 y3 y4 y5
 go_wp2_with fail
 refine(z0a _ _).mono ?_
 rintro e w4 ⟨rfl,rfl⟩
 go_wp2_with fail
 go_loopg [8,9,10,11] 1 (fun g iv _ _ _ wr=>g=1∧iv= .int .i64 0∧Below w.heap.size w wr)
 case atStart=>exact⟨rfl,rfl,HB2.out.1⟩
 case round=>
  obtain⟨hgk,rfl,hB⟩:=hrel
  have HB:=z8 hB
  clear hB hgk
  go_wp2_with fail
  go_ret
  exact⟨rfl,HB.out⟩
theorem z7o (kk n:Int)(S A V Q c:zcC)(k:Nat)(hk:1≤k)(hc:0<c.size)(hc8:c.size≤8)(hV:V.size≤60)(w:World)
  (h1: ∀w,Calls Tryz.prog 24 #[.string S,.string A,.string V,.string Q] w fun r w'=>r= .returned (.int .i64 (k:Int))∧Below w.heap.size w w')
  (h2: ∀w,Calls Tryz.prog 20 #[.string S,.string A,.string V,.string Q] w fun r w'=>jx c 0 w r w')
  (h3: ∀t (h:t<c.size),∃(y:zcC) (p:Nat),z7W V y=p∧1≤p∧ ∀w,Calls Tryz.prog 26 #[.string S,.int .i64 (((c[t]'h).toNat:Int)- 48),.string A,.string V] w fun r w'=>jx y 0 w r w'):
  Calls Tryz.prog 17 #[.agg #[.int .i64 kk,.int .i64 n,.string S,.string A,.string V,.string Q]] w fun e w'=>e= .returned (.bool true)∧Below w.heap.size w w':=by
 have H1:=z8 h1
 have H2:=z8 h2
 have H3:=z8 h3
 have HV:=z8 hV
 clear h1 h2 h3 hV
 have hk2: ¬(k:Int)= -2:=by omega
 have hk1: ¬(k:Int)= -1:=by omega
 have hk0: ¬(k:Int)=0:=by omega
 have hkb2:((k:Int)== -2)=false:=by simpa using hk2
 have hkb1:((k:Int)== -1)=false:=by simpa using hk1
 have hkb0:((k:Int)==0)=false:=by simpa using hk0
 have hcn:c.toList.isEmpty=false:=by
  rw [zcq]
  have e:c.data.toList.length=c.size:=by rw [Array.length_toList];rfl
  cases hq:c.data.toList with
  |nil=>rw [hq] at e;simp at e;omega
  |cons x l=>rfl
 have hc8': ¬8<(c.size:Int):=by omega
 have HC:=z8 (zcs hc hc8)
 clear hk hc hc8
 have hB0:Below w.heap.size w (w.alloc (.cells #[.int .i64 kk,.int .i64 n,.string S,.string A,.string V,.string Q] 27)):=(zcB _ _).alloc (zcr _) _
 have hg0:=heap_alloc_new w (.cells #[.int .i64 kk,.int .i64 n,.string S,.string A,.string V,.string Q] 27)
 have hz0:w.heap.size<(w.alloc (.cells #[.int .i64 kk,.int .i64 n,.string S,.string A,.string V,.string Q] 27)).heap.size:=by simp
 have H0:=z8 (zcs hB0 (zcs hg0 hz0))
 clear hB0 hg0 hz0
 go_enter Tryz.func17,Tryz.ntmps17
 go_wp2_with fail
 obtain⟨hB0,hg0,hz0⟩:=H0.out
 clear H0
 generalize (w.alloc (.cells #[.int .i64 kk,.int .i64 n,.string S,.string A,.string V,.string Q] 27))=W0 at*
 refine(H1.out _).mono ?_
 rintro e w1 ⟨rfl,hB1⟩
 have hg1:=(hB1.block _ hz0).trans hg0
 have hB01:=hB0.trans (hB1.mono (Nat.le_of_lt hz0))
 obtain⟨y0,y1,y2,y3,y4,y5⟩:=z5b hg1
 have hzl:w.heap.size<w1.heap.size:=zcx hz0 hB1.size
 have HB1:=z8 (zcs hB01 (zcs hg1 hzl))
 clear hB1 hB01 hg1 hg0 hB0 hz0 hzl
 go_wp2_with fail
 refine(H2.out _).mono ?_
 rintro e w2 ⟨rfl,hB2⟩
 obtain⟨hB01,hg1,hzl⟩:=HB1.out
 clear HB1 y0 y1 y2 y3 y4 y5
 have hg2:=(hB2.block _ hzl).trans hg1
 have hB02:=hB01.trans (hB2.mono (Nat.le_of_lt hzl))
 obtain⟨y0,y1,y2,y3,y4,y5⟩:=z5b hg2
 have hzl2:w.heap.size<w2.heap.size:=zcx hzl hB2.size
 have HB2:=z8 (zcs hB02 (zcs hg2 hzl2))
 clear hB2 hB02 hg2 hzl2 hB01 hg1 hzl
 clear y0 y1 y2 y3 y4 y5
 go_wp2_with fail
 refine(z0a _ _).mono ?_
 rintro e w4 ⟨rfl,rfl⟩
 go_wp2_with fail
 go_loopg [8,9,10,11] (c.size+1) (fun g iv _ _ _ wr=> ∃i:Nat,g+i=c.size+1∧i≤c.size∧iv= .int .i64 i∧Below w.heap.size w wr∧w.heap.size<wr.heap.size∧wr.heap[w.heap.size]?=some (.cells #[.int .i64 kk,.int .i64 n,.string S,.string A,.string V,.string Q] 27))
 case atStart=>exact⟨0,rfl,zcy _,rfl,HB2.out.1,HB2.out.2.2,HB2.out.2.1⟩
 case round=>
  obtain⟨i,hgk,hil,rfl,hB,hzl,hg⟩:=hrel
  have HGK:=z8 hgk
  clear hgk
  by_cases hlt:i<c.size
  ·have hli:(i:Int)<c.size:=by omega
   obtain⟨y,p,hp1,hp2,hp3⟩:=H3.out i hlt
   have hwr:IntKind.i64.wrap (IntKind.i64.wrap ((c[i]'hlt).toNat:Int)- 48)=((c[i]'hlt).toNat:Int)- 48:=by
    have:=(c[i]'hlt).toNat_lt
    rw [IntKind.wrap_i64,IntKind.wrap_i64]
    omega
   rw [←hwr] at hp3
   clear hwr
   obtain⟨y0,y1,y2,y3,y4,y5⟩:=z5b hg
   have HW:=z8 (zcs hB (zcs hzl hg))
   have HP:=z8 (zcs hp1 (zcs hp2 hp3))
   have hzz:w.heap.size<wr.heap.size:=hzl
   clear hB hg hp1 hp3 hzl
   go_wp2_with fail
   go_region_held3 (fun w'=>w'.cell? ⟨w.heap.size,2,none⟩=some (.string S)∧w'.cell? ⟨w.heap.size,3,none⟩=some (.string A)∧w'.cell? ⟨w.heap.size,4,none⟩=some (.string V)) (go_keep) (first|(go_at_call 26;refine(HP.out.2.2 _).mono ?_;rintro e w5 ⟨rfl,hB5⟩;(have c2:=(hB5.cell (p:=⟨w.heap.size,2,none⟩) hzz).trans y2);(have c3:=(hB5.cell (p:=⟨w.heap.size,3,none⟩) hzz).trans y3);(have c4:=(hB5.cell (p:=⟨w.heap.size,4,none⟩) hzz).trans y4)))
   obtain⟨hB,hzl,hg⟩:=HW.out
   have hg5:w5.heap[w.heap.size]?=some (.cells #[.int .i64 kk,.int .i64 n,.string S,.string A,.string V,.string Q] 27):=(hB5.block _ hzl).trans hg
   have hB05:Below w.heap.size w w5:=hB.trans ⟨hB5.os,hB5.tape,hB5.output,hB5.size,fun k hk=>hB5.block k (Nat.lt_trans hk hzl)⟩
   have hz5:w.heap.size<w5.heap.size:=zcx hzl hB5.size
   have HN:=z8 (zcs hB05 (zcs hz5 hg5))
   clear hB hzl hg hg5 hB05 hB5 hz5 y0 y1 y2 y3 y4 y5 HW hzz
   go_wp2_with fail
   refine(z3s V y _ (by have:=HV.out;omega)).mono ?_
   rintro e w6 ⟨rfl,m,rfl⟩
   rw [HP.out.1]
   clear c2 c3 c4
   go_wp2_with fail
   refine(z0a _ _).mono ?_
   rintro e w7 ⟨rfl,rfl⟩
   have hpn: ¬(p:Int)<1:=by omega
   go_wp2_with fail
   go_roundg (c.size - i)
   case measure=>have:=HGK.out;omega
   case rel=>exact⟨i+1,by have:=HGK.out;omega,by omega,by go_num,z4e HN.out.1 m,HN.out.2.1,HN.out.2.2⟩
  ·have hli: ¬(i:Int)<c.size:=by omega
   have HB:=z8 hB
   clear hB hzl hg
   go_wp2_with fail
   go_ret
   exact⟨rfl,HB.out⟩
def sL:zcC:=⟨#[98,121,32,80,79,76,73,67,89,10,116,111,32,65,10,105,102,32,116,114,117,101,10]⟩
def vL:zcC:=⟨#[110,111,44,121,101,115]⟩
def qL:zcC:=⟨#[65]⟩
def eL:zcC:=⟨#[49,32,43,32,50,32,42,32,51]⟩
def pL:zcC:=⟨#[98,121,32,80,79,76,73,67,89,32,10,116,111,32,40,65,41,10,105,102,32,49,61,61,49,38,38,116,114,117,101,10]⟩
def oL:zcC:=⟨#[98,121,32,80,79,76,73,67,89,10,116,111,32,65,10,105,102,32,40,40,49,32,61,61,32,49,41,32,38,38,32,116,114,117,101,41,10]⟩
def za5:St:=(MR sL 20 st0).getD st0
def z06:St:=(MR pL 20 st0).getD st0
def z8y:Int×St:=(M eL 20 0 0 (st1 eL)).getD (0,st0)
theorem z2G {α:Type}{o:Option α}{d:α}(h:o.isSome=true):o=some (o.getD d):=by cases o with|none=>cases h|some x=>rfl
theorem zaD {s a v q:zcC}{n:Nat}{st:St}(hM:MR s n st0=some st)(hs:s.size≤600)(ha:a.size≤100)(hv:v.size≤60)(hq:q.size≤60)(hA:st.A.length≤10010)(hL:st.L.length≤10010)(hE:st.E.length≤10010)(hC:st.C.length≤10010):Ask s a v q st:=by
 have hz:Sz st:=z9K s hs n st0 st hM ⟨fun x h=>(by cases h),fun x h=>(by cases h),fun x h=>(by cases h),fun x h=>(by cases h)⟩
 have hcl:=z9i s n st0 st hM (fun c h=>by cases h)
 have hcv:=z98 s n st0 st hM zc1
 have hgd:=z3U s n st0 st hM z8w
 have hvl:=z2P v
 exact⟨fun w=>z2a s a v q st w hs ha hv hq (fun W=>z0n s n st W hM hs (by omega) (by omega) (by omega)) (by omega) hcl hvl,
  fun w=>z1Z s a v q st w hs ha hv hq (z0t s n st w hM hs) hgd.e hcv (by omega) hcl hvl,⟨n,hM⟩,hA,hL,hE,hC,hcl,hcv,hgd,hz.1,z2V a (by omega),fun h0=>z4z (a:=a) (v:=v) (q:=q) hM (by omega) h0⟩
theorem z62:Ask sL ⟨#[]⟩ vL qL za5:=
 zaD (n:=20) (z2G (by decide+kernel)) (by decide) (by decide) (by decide) (by decide) (by decide+kernel) (by decide+kernel) (by decide+kernel) (by decide+kernel)
theorem z6c (w:World):Calls Tryz.prog 19 #[.string sL,.string ⟨#[]⟩,.string vL,.string qL] w fun e w'=>jx ⟨#[121,101,115]⟩ 0 w e w':=by
 have h:=z62.query w
 rw [show quM sL ⟨#[]⟩ vL qL za5=(⟨#[121,101,115]⟩,0) by decide+kernel] at h
 exact h
theorem z6v (w:World):Calls Tryz.prog 20 #[.string sL,.string ⟨#[]⟩,.string vL,.string qL] w fun e w'=>jx ⟨#[48]⟩ 0 w e w':=by
 have h:=z62.chain w
 rw [show chM sL ⟨#[]⟩ vL qL za5=(⟨#[48]⟩,0) by decide+kernel] at h
 exact h
theorem z6y (w:World)(ht:Tab w):Calls Tryz.prog 21 #[.string eL,.string ⟨#[]⟩] w fun e w'=>jx ⟨#[55]⟩ 0 w e w':=by
 have h:=z5H eL ⟨#[]⟩ 20 z8y.1 z8y.2 w (z2G (d:=(0,st0)) (by decide+kernel)) (by decide) (by decide) (by decide+kernel) (by decide+kernel) (by decide+kernel) (by decide+kernel) (by decide+kernel) ht
 rw [show woM eL ⟨#[]⟩ z8y.1 z8y.2=(⟨#[55]⟩,0) by decide+kernel] at h
 exact h
theorem z8U:PrS z06 oL:=by
 have hA:z06.A=[⟨⟨#[80,79,76,73,67,89]⟩,0,0⟩]:=by kernel_rfl
 have hL:z06.L[0]?=some ⟨0,⟨#[65]⟩,-1,-1,0,0,[]⟩:=by kernel_rfl
 have hC:z06.C[0]?=some [⟨5,0,⟨#[]⟩,-1⟩]:=by kernel_rfl
 have e0:z06.E[0]?=some ⟨0,21,⟨#[49]⟩,-1,-1⟩:=by kernel_rfl
 have e1:z06.E[1]?=some ⟨0,24,⟨#[49]⟩,-1,-1⟩:=by kernel_rfl
 have e2:z06.E[2]?=some ⟨6,22,⟨#[61,61]⟩,0,1⟩:=by kernel_rfl
 have e3:z06.E[3]?=some ⟨2,27,⟨#[116,114,117,101]⟩,-1,-1⟩:=by kernel_rfl
 have e4:z06.E[4]?=some ⟨6,25,⟨#[38,38]⟩,2,3⟩:=by kernel_rfl
 have e5:z06.E[5]?=some ⟨7,21,⟨#[]⟩,4,-1⟩:=by kernel_rfl
 have p0:PrE z06.E 1 0 ⟨#[49]⟩:=⟨by decide,0,_,rfl,e0,by decide,.inl ⟨.inl rfl,rfl⟩⟩
 have p1:PrE z06.E 1 1 ⟨#[49]⟩:=⟨by decide,1,_,rfl,e1,by decide,.inl ⟨.inl rfl,rfl⟩⟩
 have p2:PrE z06.E 2 2 ⟨#[40,49,32,61,61,32,49,41]⟩:=⟨by decide,2,_,rfl,e2,by decide,.inr (.inr (.inr (.inr (.inl ⟨rfl,_,_,p0,p1,by decide+kernel⟩))))⟩
 have p3:PrE z06.E 2 3 ⟨#[116,114,117,101]⟩:=⟨by decide,3,_,rfl,e3,by decide,.inl ⟨.inr (.inl rfl),rfl⟩⟩
 have p4:PrE z06.E 3 4 ⟨#[40,40,49,32,61,61,32,49,41,32,38,38,32,116,114,117,101,41]⟩:=⟨by decide,4,_,rfl,e4,by decide,.inr (.inr (.inr (.inr (.inl ⟨rfl,_,_,p2,p3,by decide+kernel⟩))))⟩
 have p5:PrE z06.E 4 5 ⟨#[40,40,49,32,61,61,32,49,41,32,38,38,32,116,114,117,101,41]⟩:=⟨by decide,5,_,rfl,e5,by decide,.inr (.inr (.inr (.inr (.inr ⟨rfl,p4⟩))))⟩
 refine⟨5,[oL],?_,by decide+kernel⟩
 rw [hA]
 refine⟨⟨by decide,⟨#[65]⟩,⟨#[40,40,49,32,61,61,32,49,41,32,38,38,32,116,114,117,101,41]⟩,⟨by decide,0,_,rfl,hL,by decide,.inl ⟨rfl,rfl⟩⟩,⟨by decide,0,_,[⟨#[40,40,49,32,61,61,32,49,41,32,38,38,32,116,114,117,101,41]⟩],rfl,hC,by decide,⟨⟨by decide,_,p5,.inl ⟨rfl,rfl⟩⟩,trivial⟩,by decide+kernel⟩,by decide+kernel⟩,trivial⟩
theorem z6e (w:World):Calls Tryz.prog 22 #[.string pL] w fun e w'=>z9s oL 0 w e w':=by
 have hM:MR pL 20 st0=some z06:=z2G (by decide+kernel)
 have h1:z06.A.length≤100000∧z06.L.length≤100000∧z06.E.length≤100000∧z06.C.length≤100000:=by decide+kernel
 exact z7N pL z06 oL w (z0n pL 20 z06 w hM (by decide) (by omega) (by omega) (by omega)) (by decide+kernel) z8U (by omega) (by omega) (by omega) (by omega)
theorem z4q (w:World)(ht:Tab w):Calls Tryz.prog 14 #[] w fun e w'=>e= .returned (.bool true)∧Below w.heap.size w w':=by
 have HT:=z8 ht
 clear ht
 go_enter Tryz.func14,Tryz.ntmps14
 go_wp2_with fail
 refine(z6c _).mono ?_
 rintro e w1 ⟨rfl,hB1⟩
 have HB1:=z8 hB1
 clear hB1
 go_wp2_with fail
 refine(z6v _).mono ?_
 rintro e w2 ⟨rfl,hB2⟩
 have HB2:=z8 (HB1.out.trans (hB2.mono HB1.out.size))
 clear hB2 HB1
 go_wp2_with fail
 refine(z6y _ (HT.out.below HB2.out)).mono ?_
 rintro e w3 ⟨rfl,hB3⟩
 have HB3:=z8 (HB2.out.trans (hB3.mono HB2.out.size))
 clear hB3 HB2
 go_wp2_with fail
 refine(z6e _).mono ?_
 rintro e w4 ⟨rfl,hB4⟩
 have HB4:=z8 (HB3.out.trans (hB4.mono HB3.out.size))
 clear hB4 HB3
 go_wp2_with fail
 refine(z0a _ _).mono ?_
 rintro e w5 ⟨rfl,rfl⟩
 go_wp2_with fail
 refine(z0a _ _).mono ?_
 rintro e w5 ⟨rfl,rfl⟩
 go_wp2_with fail
 refine(z0a _ _).mono ?_
 rintro e w5 ⟨rfl,rfl⟩
 go_wp2_with fail
 refine(z0a _ _).mono ?_
 rintro e w5 ⟨rfl,rfl⟩
 go_wp2_with fail
 go_ret
 have hoL:(oL.toList==[98,121,32,80,79,76,73,67,89,10,116,111,32,65,10,105,102,32,40,40,49,32,61,61,32,49,41,32,38,38,32,116,114,117,101,41,10])=true:=by decide+kernel
 exact⟨congrArg (fun b=>Ending.returned (.bool b)) hoL,HB4.out⟩
theorem z7w (kk n:Int)(S A V Q:zcC)(hS:S.size≤maxLen)(hA:A.size≤maxLen)(hV:V.size≤maxLen)(hQ:Q.size≤maxLen)(w:World):
  Calls Tryz.prog 17 #[.agg #[.int .i64 kk,.int .i64 n,.string S,.string A,.string V,.string Q]] w fun e w'=>e= .returned (.bool true)∧Below w.heap.size w w':=by
 obtain⟨x,c,e,h⟩:=z8O S A V Q hS hA hV hQ
 by_cases h0:e=0
 ·subst h0
  obtain⟨h1,h2,k,h3,h4,h5⟩:=h.zz rfl
  have hq:=fun w=>zbb S A V Q x k h1 h3 w h.q
  by_cases hk:k=0
  ·subst hk
   have hc:c=⟨#[]⟩:=by
    have:=h4.2 rfl
    cases c with|mk d=>exact congrArg ByteArray.mk (Array.eq_empty_of_size_eq_zero this)
   subst hc
   exact zag kk n S A V Q w hq h.ch
  ·have hc:0<c.size:=Nat.pos_of_ne_zero fun e=>hk (h4.1 e)
   exact z7o kk n S A V Q c k (by omega) hc h2 h1 w hq h.ch h5
 ·obtain⟨rfl,rfl⟩:=h.nz h0
  exact z8m kk n S A V Q e h0 w (fun w=>za4 S A V Q e h0 w h.q) h.ch h.q
theorem z6C (b off len cap:Nat)(K N:Nat→Int)(S A V Q:Nat→zcC)(w:World)(h:Ops w b off len K N S A V Q)(hlen:len≤maxLen)(ht:Tab w)
  (hp: ∀i wr,i<len→Below w.heap.size w wr→Calls Tryz.prog 17 #[.agg #[.int .i64 (K i),.int .i64 (N i),.string (S i),.string (A i),.string (V i),.string (Q i)]] wr fun e w'=>e= .returned (.bool true)∧Below wr.heap.size wr w'):
  Calls Tryz.prog 11 #[.slice (some ⟨b,off,none⟩) len cap] w fun e w'=>e= .returned (.bool true)∧Below w.heap.size w w':=by
 have HO:=z8 h
 have HP:=z8 hp
 have HT:=z8 ht
 clear h hp ht
 have hl63:len≤9223372036854775807:=by unfold maxLen at hlen;omega
 clear hlen
 go_enter Tryz.func11,Tryz.ntmps11
 go_wp2_with fail
 refine(z4q _ HT.out).mono ?_
 rintro e w1 ⟨rfl,hB1⟩
 have HB1:=z8 hB1
 clear hB1
 go_wp2_with fail
 go_loopg [4,5] (1152921504606846976+1) (fun g iv _ wr=> ∃i:Nat,g+i=1152921504606846976+1∧i≤1152921504606846976∧i≤len∧iv= .int .i64 i∧Below w.heap.size w wr)
 case atStart=>exact⟨0,rfl,zcy _,zcy _,rfl,HB1.out⟩
 case round=>
  obtain⟨i,hgk,hi60,hil,rfl,hB⟩:=hrel
  have HGK:=z8 hgk
  have HB:=z8 hB
  clear hgk
  by_cases hlt:i<len
  ·by_cases h60:i<1152921504606846976
   ·have hb:=HO.out.lt (by omega)
    have c0:=(hB.cell (p:=⟨b,off+i*6,none⟩) hb).trans (HO.out.c0 i hlt)
    have c1:=(hB.cell (p:=⟨b,off+i*6+1,none⟩) hb).trans (HO.out.c1 i hlt)
    have c2:=(hB.cell (p:=⟨b,off+i*6+2,none⟩) hb).trans (HO.out.c2 i hlt)
    have c3:=(hB.cell (p:=⟨b,off+i*6+3,none⟩) hb).trans (HO.out.c3 i hlt)
    have c4:=(hB.cell (p:=⟨b,off+i*6+4,none⟩) hb).trans (HO.out.c4 i hlt)
    have c5:=(hB.cell (p:=⟨b,off+i*6+5,none⟩) hb).trans (HO.out.c5 i hlt)
    have hli:(i:Int)<len:=by omega
    have h60i:(i:Int)<1152921504606846976:=by omega
    have hPi:=z8 (HP.out i)
    have hz1:w.heap.size≤wr.heap.size:=hB.size
    clear hB
    generalize K i=ki at*
    generalize N i=ni at*
    generalize S i=si at*
    generalize A i=ai at*
    generalize V i=vi at*
    generalize Q i=qi at*
    go_wp2_with fail
    refine(hPi.out _ hlt HB.out).mono ?_
    rintro e w1 ⟨rfl,hb1⟩
    have HB2:=z8 (HB.out.trans (hb1.mono HB.out.size))
    clear hb1
    go_wp2_with fail
    go_roundg (1152921504606846976 - i)
    case measure=>have:=HGK.out;omega
    case rel=>exact⟨i+1,by have:=HGK.out;omega,by omega,by omega,by go_num,HB2.out⟩
   ·have hli:(i:Int)<len:=by omega
    have h60i: ¬(i:Int)<1152921504606846976:=by omega
    go_wp2_with fail
    go_ret
    exact⟨rfl,HB.out⟩
  ·have hli: ¬(i:Int)<len:=by omega
   go_wp2_with fail
   go_ret
   exact⟨rfl,HB.out⟩
end Go.Proofs.YtkoohcilbpdgeaaGreatDoor
namespace Go.Proofs.YtkoohcilbpdgeaaGreatDoor
open Go Go.ChangeShapes Go.WideShapes Go.ChangeAt Go.RowKit Go.Deep
theorem zbd {W:World}(h:laidMetH Tryz.prog Rows.rowedRow.laid W):Tab W:=by
 have h1:laidMet Tryz.prog Rows.rowedRow.laid W:=h
 have h2:=h1.tail.tail
 exact Lib.tabIs_of_head (g:=0) (t:=195) (e:=186) (n:=20) (by kernel_rfl) (by kernel_rfl) (by kernel_rfl) (by kernel_rfl) (by kernel_rfl) (by kernel_rfl) h2
theorem z3o (a:Option Addr)(cap:Nat)(w:World)(ht:Tab w):Calls Tryz.prog 11 #[.slice a 0 cap] w fun e w'=>e= .returned (.bool true)∧Below w.heap.size w w':=by
 have HT:=z8 ht
 clear ht
 go_enter Tryz.func11,Tryz.ntmps11
 go_wp2_with fail
 refine(z4q _ HT.out).mono ?_
 rintro e w1 ⟨rfl,hB1⟩
 have HB1:=z8 hB1
 clear hB1
 go_wp2_with fail
 go_loopg [4,5] 1 (fun g iv _ wr=>iv= .int .i64 0∧Below w.heap.size w wr)
 case atStart=>exact⟨rfl,HB1.out⟩
 case round=>
  obtain⟨rfl,hB⟩:=hrel
  have HB:=z8 hB
  clear hB
  go_wp2_with fail
  go_ret
  exact⟨rfl,HB.out⟩
theorem z4h {H:Type}{enc:TypeId×Value→H}{W:World}{base:Nat}{v:Value}{d:DataW H}{p:List MemPlace}(hval:Value.okWide Tryz.prog W .any base 22 v)(h:DataW.Trod enc Tryz.prog W 0 (fun _=>true) true 22 v d p)(hlt: ∀x∈p,x.block<W.heap.size)(ht:Tab W):
  Calls Tryz.prog 11 #[v] W fun e w'=>e= .returned (.bool true)∧Below W.heap.size W w':=by
 rcases z5k hval h hlt with rfl|⟨b,off,len,cap,K,N,S,A,V,Q,rfl,hl,ho,hs⟩|⟨a,cap,rfl⟩
 ·exact z3o none 0 W ht
 ·refine z6C b off len cap K N S A V Q W ho hl ht fun i wr hi hb=> ?_
  obtain⟨q1,q2,q3,q4⟩:=hs i hi
  exact z7w _ _ _ _ _ _ q1 q2 q3 q4 wr
 ·exact z3o _ cap W ht
theorem z34 (H:Type)(enc:TypeId×Value→H)(W:World)(base:Nat)(args:Array Value)(ds gs:List (DataW H))(before:List MemPlace)
  (hval: ∀(j:Nat) t v,Tryz.f11.params[j]?=some t→args[j]?=some v→Value.okWide Tryz.prog W .any base t v)
  (hW:DataW.Whole enc Tryz.prog Tryz.f11.params.toList Rows.rowedSpec.vars false W args.toList ds gs before) (hT:Tab W):
  Calls Tryz.prog 11 args W fun e W'=> ∃v,e= .returned v∧Rows.rowedSpec.post enc Tryz.prog Tryz.f11 false true false false W args v W':=by
 have hW':=hW
 obtain⟨p,q,hA0,hV,rfl,_,_⟩:=hW
 have hA:DataW.TrodAll enc Tryz.prog W 0 (fun _=>true) true Tryz.f11.params.toList args.toList ds p:=hA0
 rw [Tryz.params11] at hA hval
 obtain⟨v0,d0,rfl,rfl,h0⟩:=trodAll_one hA
 obtain⟨rfl,rfl⟩:=trodVars_none hV
 clear hA0
 simp only [List.append_nil] at hW'
 have hlt: ∀x∈p,x.block<W.heap.size:=fun x hx=>by simpa using hW'.lt x hx
 have hcall:=z4h (hval 0 22 v0 rfl rfl) h0 hlt hT
 refine hcall.mono fun e W' ⟨he,hb⟩=> ?_
 subst he
 exact⟨_,rfl,⟨_,_,_,[],_,[],hW',trodAll_mk1 (shut_bool Tryz.underlying4 true),trodAll_mk1 (Below.trod z9B (by kernel_rfl) (of_decide_eq_true (by kernel_rfl)) h0 hb hlt),rfl,hb.frame _,fun h=>by cases h⟩⟩
theorem z33 (os:Os):laidMet Tryz.prog Rows.rowedRow.laid (({World.holding Tryz.prog os ⟨#[],#[],[]⟩ with heap:=(((World.holding Tryz.prog os ⟨#[],#[],[]⟩).heap.modify 0 (z1t #[.int .u64 1,.int .u64 10,.int .u64 100,.int .u64 1000,.int .u64 10000,.int .u64 100000,.int .u64 1000000,.int .u64 10000000,.int .u64 100000000,.int .u64 1000000000,.int .u64 10000000000,.int .u64 100000000000,.int .u64 1000000000000,.int .u64 10000000000000,.int .u64 100000000000000,.int .u64 1000000000000000,.int .u64 10000000000000000,.int .u64 100000000000000000,.int .u64 1000000000000000000,.int .u64 10000000000000000000])).modify 1 (z1t #[.int .u8 0,.int .u8 1,.int .u8 28,.int .u8 2,.int .u8 29,.int .u8 14,.int .u8 24,.int .u8 3,.int .u8 30,.int .u8 22,.int .u8 20,.int .u8 15,.int .u8 25,.int .u8 17,.int .u8 4,.int .u8 8,.int .u8 31,.int .u8 27,.int .u8 13,.int .u8 23,.int .u8 21,.int .u8 19,.int .u8 16,.int .u8 7,.int .u8 26,.int .u8 12,.int .u8 18,.int .u8 6,.int .u8 11,.int .u8 5,.int .u8 10,.int .u8 9])).modify 2 (z1t #[.int .u8 0,.int .u8 1,.int .u8 56,.int .u8 2,.int .u8 57,.int .u8 49,.int .u8 28,.int .u8 3,.int .u8 61,.int .u8 58,.int .u8 42,.int .u8 50,.int .u8 38,.int .u8 29,.int .u8 17,.int .u8 4,.int .u8 62,.int .u8 47,.int .u8 59,.int .u8 36,.int .u8 45,.int .u8 43,.int .u8 51,.int .u8 22,.int .u8 53,.int .u8 39,.int .u8 33,.int .u8 30,.int .u8 24,.int .u8 18,.int .u8 12,.int .u8 5,.int .u8 63,.int .u8 55,.int .u8 48,.int .u8 27,.int .u8 60,.int .u8 41,.int .u8 37,.int .u8 16,.int .u8 46,.int .u8 35,.int .u8 44,.int .u8 21,.int .u8 52,.int .u8 32,.int .u8 23,.int .u8 11,.int .u8 54,.int .u8 26,.int .u8 40,.int .u8 15,.int .u8 34,.int .u8 20,.int .u8 31,.int .u8 10,.int .u8 25,.int .u8 14,.int .u8 19,.int .u8 9,.int .u8 13,.int .u8 8,.int .u8 7,.int .u8 6])}:World).forCall (fun _ _=>0) ⟨#[],#[.slice none 0 0],[]⟩).memory:=
 laidMet_of_run' 8 (by kernel_rfl) (by kernel_rfl)
theorem z5h (os:Os){H:Type}(enc:TypeId×Value→H): ∃places,DataW.whole enc Tryz.prog (({World.holding Tryz.prog os ⟨#[],#[],[]⟩ with heap:=(((World.holding Tryz.prog os ⟨#[],#[],[]⟩).heap.modify 0 (z1t #[.int .u64 1,.int .u64 10,.int .u64 100,.int .u64 1000,.int .u64 10000,.int .u64 100000,.int .u64 1000000,.int .u64 10000000,.int .u64 100000000,.int .u64 1000000000,.int .u64 10000000000,.int .u64 100000000000,.int .u64 1000000000000,.int .u64 10000000000000,.int .u64 100000000000000,.int .u64 1000000000000000,.int .u64 10000000000000000,.int .u64 100000000000000000,.int .u64 1000000000000000000,.int .u64 10000000000000000000])).modify 1 (z1t #[.int .u8 0,.int .u8 1,.int .u8 28,.int .u8 2,.int .u8 29,.int .u8 14,.int .u8 24,.int .u8 3,.int .u8 30,.int .u8 22,.int .u8 20,.int .u8 15,.int .u8 25,.int .u8 17,.int .u8 4,.int .u8 8,.int .u8 31,.int .u8 27,.int .u8 13,.int .u8 23,.int .u8 21,.int .u8 19,.int .u8 16,.int .u8 7,.int .u8 26,.int .u8 12,.int .u8 18,.int .u8 6,.int .u8 11,.int .u8 5,.int .u8 10,.int .u8 9])).modify 2 (z1t #[.int .u8 0,.int .u8 1,.int .u8 56,.int .u8 2,.int .u8 57,.int .u8 49,.int .u8 28,.int .u8 3,.int .u8 61,.int .u8 58,.int .u8 42,.int .u8 50,.int .u8 38,.int .u8 29,.int .u8 17,.int .u8 4,.int .u8 62,.int .u8 47,.int .u8 59,.int .u8 36,.int .u8 45,.int .u8 43,.int .u8 51,.int .u8 22,.int .u8 53,.int .u8 39,.int .u8 33,.int .u8 30,.int .u8 24,.int .u8 18,.int .u8 12,.int .u8 5,.int .u8 63,.int .u8 55,.int .u8 48,.int .u8 27,.int .u8 60,.int .u8 41,.int .u8 37,.int .u8 16,.int .u8 46,.int .u8 35,.int .u8 44,.int .u8 21,.int .u8 52,.int .u8 32,.int .u8 23,.int .u8 11,.int .u8 54,.int .u8 26,.int .u8 40,.int .u8 15,.int .u8 34,.int .u8 20,.int .u8 31,.int .u8 10,.int .u8 25,.int .u8 14,.int .u8 19,.int .u8 9,.int .u8 13,.int .u8 8,.int .u8 7,.int .u8 6])}:World).forCall (fun _ _=>0) ⟨#[],#[.slice none 0 0],[]⟩).memory Tryz.f11.params.toList Rows.rowedSpec.vars false #[Value.slice none 0 0].toList 8=some ([.nil],[],places):=
 ⟨[],by kernel_rfl⟩
theorem z4D (os:Os)(started:os.Started)(H:Type)(enc:TypeId×Value→H)(F:Stop.Interp):
  ReturnsInHanded {} Tryz.checked os 11 .any ((OpenSpec.ofChange Rows.rowedSpec).preRow enc Tryz.prog Tryz.f11 Rows.rowedRow.domain false Rows.rowedRow.laid) (((OpenSpec.ofChange Rows.rowedSpec).at F).post enc Tryz.prog Tryz.f11 false true false false):=by
 obtain⟨places,hx⟩:=z5h os enc
 refine returnsInHanded_of_row (C:=Tryz.checked) (s:=OpenSpec.ofChange Rows.rowedSpec) own started (by kernel_rfl) Tryz.func11
  (witness_row_at (enc:=enc) (C:=Tryz.checked) false ({World.holding Tryz.prog os ⟨#[],#[],[]⟩ with heap:=(((World.holding Tryz.prog os ⟨#[],#[],[]⟩).heap.modify 0 (z1t #[.int .u64 1,.int .u64 10,.int .u64 100,.int .u64 1000,.int .u64 10000,.int .u64 100000,.int .u64 1000000,.int .u64 10000000,.int .u64 100000000,.int .u64 1000000000,.int .u64 10000000000,.int .u64 100000000000,.int .u64 1000000000000,.int .u64 10000000000000,.int .u64 100000000000000,.int .u64 1000000000000000,.int .u64 10000000000000000,.int .u64 100000000000000000,.int .u64 1000000000000000000,.int .u64 10000000000000000000])).modify 1 (z1t #[.int .u8 0,.int .u8 1,.int .u8 28,.int .u8 2,.int .u8 29,.int .u8 14,.int .u8 24,.int .u8 3,.int .u8 30,.int .u8 22,.int .u8 20,.int .u8 15,.int .u8 25,.int .u8 17,.int .u8 4,.int .u8 8,.int .u8 31,.int .u8 27,.int .u8 13,.int .u8 23,.int .u8 21,.int .u8 19,.int .u8 16,.int .u8 7,.int .u8 26,.int .u8 12,.int .u8 18,.int .u8 6,.int .u8 11,.int .u8 5,.int .u8 10,.int .u8 9])).modify 2 (z1t #[.int .u8 0,.int .u8 1,.int .u8 56,.int .u8 2,.int .u8 57,.int .u8 49,.int .u8 28,.int .u8 3,.int .u8 61,.int .u8 58,.int .u8 42,.int .u8 50,.int .u8 38,.int .u8 29,.int .u8 17,.int .u8 4,.int .u8 62,.int .u8 47,.int .u8 59,.int .u8 36,.int .u8 45,.int .u8 43,.int .u8 51,.int .u8 22,.int .u8 53,.int .u8 39,.int .u8 33,.int .u8 30,.int .u8 24,.int .u8 18,.int .u8 12,.int .u8 5,.int .u8 63,.int .u8 55,.int .u8 48,.int .u8 27,.int .u8 60,.int .u8 41,.int .u8 37,.int .u8 16,.int .u8 46,.int .u8 35,.int .u8 44,.int .u8 21,.int .u8 52,.int .u8 32,.int .u8 23,.int .u8 11,.int .u8 54,.int .u8 26,.int .u8 40,.int .u8 15,.int .u8 34,.int .u8 20,.int .u8 31,.int .u8 10,.int .u8 25,.int .u8 14,.int .u8 19,.int .u8 9,.int .u8 13,.int .u8 8,.int .u8 7,.int .u8 6])}:World) #[.slice none 0 0] rfl (by kernel_rfl) (by kernel_rfl) (by kernel_rfl)
   (OpenSpec.preRow_of_cond 8 hx (by kernel_rfl) (fun k hk=>by cases hk) (by kernel_rfl) (z33 os))) ?_
 intro W base args ds gs before hval hW _ _ _ hL _ _
 exact z34 H enc W base args ds gs before hval hW (zbd hL)
theorem z6H:Rows.RowedSaid:=
 OpenClaim.holds_of_cond 11 Tryz.f11 rfl rfl rfl rfl rfl rfl rfl ⟨rfl,rfl,rfl,rfl,rfl⟩ rfl rfl rfl rfl rfl (by kernel_rfl) Tryz.func11 (by kernel_rfl)
  (of_decide_eq_true (by kernel_rfl)) (by unfold Func.isWrapper;first|(rw [if_pos (by decide+kernel)];kernel_rfl)|(rw [if_neg (by decide+kernel)];exact⟨rfl,rfl⟩))
  (fun os started H enc _ F=>by rw [OpenClaim.pre_eq_preRow];exact z4D os started H enc F)
theorem z5D (f:FuncId)(fn:Func)(hf:Tryz.pinned.checked.prog.funcNamed "trustquery/trustquerylaw.Rowed" =some f)(hfn:Tryz.pinned.checked.prog.funcs[f]?=some fn):
  false=Tryz.pinned.checked.prog.looks []∧ ∀(j:Nat) t,fn.params[j]?=some t→Tryz.pinned.checked.prog.wantsStandIn t=false:=by
 obtain rfl:f=11:=Option.some.inj ((show Tryz.prog.funcNamed "trustquery/trustquerylaw.Rowed" =some 11 by kernel_rfl).symm.trans hf)|>.symm
 obtain rfl:fn=Tryz.f11:=(Option.some.inj (Tryz.func11.symm.trans hfn)).symm
 refine⟨by kernel_rfl,fun j t ht=> ?_⟩
 rw [Tryz.params11] at ht
 obtain rfl:t=22:=by simpa using Array.mem_of_getElem? ht
 exact(show Tryz.prog.wantsStandIn 22=false by kernel_rfl)
theorem rowed_card:Rows.RowedCardSaid:=
 Claim7.holds_tied_plain_at .later [] _ _ _ _ z6H (fun _ h=>by cases h) (by kernel_rfl) (fun _ h=>by cases h) rowed_row_tie rfl ⟨rfl,rfl⟩ (by kernel_rfl) rfl z5D (by kernel_rfl)
end Go.Proofs.YtkoohcilbpdgeaaGreatDoor
