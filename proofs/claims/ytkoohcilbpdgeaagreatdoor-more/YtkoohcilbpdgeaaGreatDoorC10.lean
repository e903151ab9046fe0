import Derived.Test.YtkoohcilbpdgeaaGreatDoorC09
set_option linter.all false
set_option linter.unusedVariables false
set_option linter.unusedSimpArgs false
set_option linter.unnecessarySimpa false
set_option linter.constructorNameAsVariable false
set_option linter.deprecated false
set_option maxRecDepth 100000
set_option maxHeartbeats 6400000
namespace Go.Proofs.YtkoohcilbpdgeaaGreatDoor
open Go Go.RowKit
attribute [local go_sem] wrap64_byte
def plc (V v:zej):Nat→Nat→Int→Nat→Int
 |0,_,_,_=> -1
 |n+1,i,k,fr=>if i==V.size||pk V i false==44 then(if((V.extract fr i).toList==v.toList)&& !v.toList.isEmpty then k else plc V v n (i+1) (k+1) (i+1)) else plc V v n (i+1) k fr
def zaG (V v:zej):Int:=plc V v (V.size+1) 0 0 0
theorem z7d (V v:zej)(w:World)(hV:V.size≤100000):Calls Tryz.prog 27 #[.string V,.string v] w fun e w'=>e= .returned (.int .i64 (zaG V v))∧ ∃n,w'=w.drewN n:=by
 have hM:Hid (zaG V v=plc V v (V.size+1) 0 0 0):=z8 rfl
 generalize zaG V v=R at*
 go_enter Tryz.func27,Tryz.ntmps27
 go_wp2_with fail
 go_loopg [5,6,7] (V.size+2) (fun n kv fv iv wr=> ∃(i fr m:Nat) (k:Int),n+i=V.size+2∧i≤V.size+1∧fr≤i∧kv= .int .i64 k∧fv= .int .i64 fr∧iv= .int .i64 i∧wr=w.drewN m∧0≤k∧k≤i∧Hid (plc V v (V.size+1 - i) i k fr=R))
 case atStart=>exact⟨0,0,0,0,rfl,by omega,ze8 _,rfl,rfl,rfl,rfl,by omega,by omega,z8 hM.out.symm⟩
 case round=>
  obtain⟨i,fr,m,k,hk,hi1,hfr,rfl,rfl,rfl,rfl,hk0,hki,hfin⟩:=hrel
  have hHK:=z8 hk
  clear hk
  by_cases hle:i≤V.size
  ·have hle':(i:Int)≤V.size:=by omega
   have hst:Hid (R=if i==V.size||pk V i false==44 then(if((V.extract fr i).toList==v.toList)&& !v.toList.isEmpty then k else plc V v (V.size+1 -(i+1)) (i+1) (k+1) (i+1)) else plc V v (V.size+1 -(i+1)) (i+1) k fr):=z8 (by
    rw [←hfin.out]
    obtain⟨q,hq⟩: ∃q,V.size+1 - i=q+1:=⟨V.size - i,by omega⟩
    rw [hq,show V.size+1 -(i+1)=q by omega]
    rfl)
   have hext:Hid (fr≤i∧i≤V.size):=z8 ⟨hfr,hle⟩
   have hfr':(fr:Int)≤i:=by omega
   by_cases hie:i=V.size
   ·have hcond:Hid ((i==V.size||pk V i false==44)=true):=z8 (by simp [hie])
    have hie':(i:Int)=V.size:=by omega
    clear hle hle'
    subst hie
    have hle':(V.size:Int)≤V.size:=Int.le_refl _
    clear hie'
    cases hq:((V.extract fr V.size).toList==v.toList)
    case false=>
     have HS:Hid (plc V v (V.size+1 -(V.size+1)) (V.size+1) (k+1) (V.size+1)=R):=z8 (by rw [hst.out,hcond.out,hq];rfl)
     go_wp2_with fail
     have hk:=hHK.out
     go_roundg (V.size+2 -(V.size+1))
     case measure=>omega
     case rel=>exact⟨V.size+1,V.size+1,_,k+1,by omega,by omega,by omega,by go_num,by go_num,by go_num,rfl,by omega,by omega,HS⟩
    case true=>
    cases hn:v.toList.isEmpty
    case true=>
     have HS:Hid (plc V v (V.size+1 -(V.size+1)) (V.size+1) (k+1) (V.size+1)=R):=z8 (by rw [hst.out,hcond.out,hq,hn];rfl)
     go_wp2_with fail
     have hk:=hHK.out
     go_roundg (V.size+2 -(V.size+1))
     case measure=>omega
     case rel=>exact⟨V.size+1,V.size+1,_,k+1,by omega,by omega,by omega,by go_num,by go_num,by go_num,rfl,by omega,by omega,HS⟩
    case false=>
     have hres:Hid (R=k):=z8 (by rw [hst.out,hcond.out,hq,hn];rfl)
     go_wp2_with fail
     go_ret
     exact⟨by rw [hres.out];rfl,_,rfl⟩
   ·have hlt':(i:Int)<V.size:=by omega
    have hne': ¬(i:Int)=V.size:=by omega
    have hbe:((i:Int)==(V.size:Int))=false:=by simpa using hne'
    have hlt:i<V.size:=by omega
    have hpk:pk V i false=((V[i]'hlt).toNat:Int):=by unfold pk;rw [dif_pos hlt];rfl
    by_cases h44:((V[i]'hlt).toNat:Int)=44
    ·have hcond:Hid ((i==V.size||pk V i false==44)=true):=z8 (by rw [hpk,h44];simp)
     clear hpk hie
     cases hq:((V.extract fr i).toList==v.toList)
     case false=>
      have HS:Hid (plc V v (V.size+1 -(i+1)) (i+1) (k+1) (i+1)=R):=z8 (by rw [hst.out,hcond.out,hq];rfl)
      go_wp2_with fail
      have hk:=hHK.out
      go_roundg (V.size+2 -(i+1))
      case measure=>omega
      case rel=>exact⟨i+1,i+1,_,k+1,by omega,by omega,by omega,by go_num,by go_num,by go_num,rfl,by omega,by omega,HS⟩
     case true=>
     cases hn:v.toList.isEmpty
     case true=>
      have HS:Hid (plc V v (V.size+1 -(i+1)) (i+1) (k+1) (i+1)=R):=z8 (by rw [hst.out,hcond.out,hq,hn];rfl)
      go_wp2_with fail
      have hk:=hHK.out
      go_roundg (V.size+2 -(i+1))
      case measure=>omega
      case rel=>exact⟨i+1,i+1,_,k+1,by omega,by omega,by omega,by go_num,by go_num,by go_num,rfl,by omega,by omega,HS⟩
     case false=>
      have hres:Hid (R=k):=z8 (by rw [hst.out,hcond.out,hq,hn];rfl)
      go_wp2_with fail
      go_ret
      exact⟨by rw [hres.out];rfl,_,rfl⟩
    ·have hb4:(((V[i]'hlt).toNat:Int)==44)=false:=by simpa using h44
     have HS:Hid (plc V v (V.size+1 -(i+1)) (i+1) k fr=R):=z8 (by
      have e:(i==V.size||pk V i false==44)=false:=by rw [hpk];simp [hie,h44]
      rw [hst.out,e]
      rfl)
     clear hpk hie
     go_wp2_with fail
     have hk:=hHK.out
     go_roundg (V.size+2 -(i+1))
     case measure=>omega
     case rel=>exact⟨i+1,fr,_,k,by omega,by omega,by omega,rfl,rfl,by go_num,rfl,by omega,by omega,HS⟩
  ·have hle': ¬(i:Int)≤V.size:=by omega
   have hres:Hid (R= -1):=z8 (by rw [←hfin.out,show V.size+1 - i=0 by omega];rfl)
   go_wp2_with fail
   go_ret
   exact⟨by rw [hres.out];rfl,m,rfl⟩
theorem z36 {p:Int→Bool}{s:zej}: ∀(k a:Nat),∀i,a≤i→i<run p s false k a→p (pk s i false)=true:=by
 intro k
 induction k with
 |zero=>intro a i h1 h2;unfold run at h2;omega
 |succ k ih=>
  intro a i h1 h2
  unfold run at h2
  split at h2
  ·rename_i hp
   by_cases e:i=a
   ·subst e;exact hp
   ·exact ih (a+1) i (by omega) h2
  ·omega
theorem z3g {s:zej}{a:Nat}(h:(zi s a false).2.1=false):a<(zi s a false).1∧(zi s a false).2.2=s.extract a (zi s a false).1∧ ∀i,a≤i→i<(zi s a false).1→(pk s i false==44)=false:=by
 unfold zi jQ at h ⊢
 simp only at h ⊢
 split at h
 ·cases h
 ·rename_i hq
  rw [if_neg hq]
  simp only [Bool.or_eq_true,not_or,beq_iff_eq] at hq
  have hl:=z36 (p:=zm) (s:=s) 8 a
  refine⟨?_,rfl,fun i h1 h2=> ?_⟩
  ·show a<run zm s false 8 a
   have: ∀k b,b≤run zm s false k b:=by
    intro k
    induction k with
    |zero=>intro b;exact ze8 _
    |succ k ih=>intro b;unfold run;split;exact zeg (Nat.le_succ b) (ih (b+1));exact ze8 _
   have h1:=this 8 a
   have h2:=hq.1
   omega
  ·have:=hl i h1 h2
   cases hc:(pk s i false==44) with
   |false=>rfl
   |true=>
     have e:pk s i false=44:=by simpa using hc
     rw [e] at this
     exact absurd this (by decide)
theorem z8e (s:zej): ∀(n a:Nat) (l:List zej),(nmM s n a true l).2.1=true:=by
 intro n
 cases n with
 |zero=>intro a l;rfl
 |succ n=>intro a l;unfold nmM;rw [if_neg (by simp [pk])]
def zdc (V:zej):List zej→Nat→Prop
 |[],a=>a=V.size
 |x::l,a=>(pk V a false==44)=true∧a<V.size∧ ∃b,a+1<b∧b≤V.size∧x=V.extract (a+1) b∧(∀i,a+1≤i→i<b→(pk V i false==44)=false)∧zdc V l b
theorem zc4 {s:zej}{a:Nat}{c:Int}(h:pk s a false=c)(hc:c≠ -1):a<s.size:=by
 unfold pk at h
 split at h
 ·exact absurd h.symm hc
 ·split at h
  ·assumption
  ·exact absurd h.symm hc
theorem z99 {s:zej}{a:Nat}(h:(zi s a false).2.1=false):(zi s a false).1≤s.size:=by
 obtain⟨h1,_,_⟩:=z3g h
 unfold zi jQ at h h1 ⊢
 simp only at h h1 ⊢
 split at h
 ·cases h
 ·rename_i hq
  rw [if_neg hq] at h1 ⊢
  simp only at h1 ⊢
  have hl:=z36 (p:=zm) (s:=s) 8 a (run zm s false 8 a - 1) (by omega) (by omega)
  have:=zc4 (s:=s) (a:=run zm s false 8 a - 1) rfl (fun e=>by rw [e] at hl;exact absurd hl (by decide))
  omega
theorem zbD (s:zej): ∀(n a:Nat) (d:Bool) (l:List zej),z1N s (nmM s n a d l).1 (nmM s n a d l).2.1=false→a≤s.size→d=false∧ ∃t,(nmM s n a d l).2.2=l++t∧zdc s t a:=by
 intro n
 induction n with
 |zero=>
  intro a d l h ha
  have h:(d||decide (a<s.size))=false:=h
  rw [Bool.or_eq_false_iff,decide_eq_false_iff_not] at h
  exact⟨h.1,[],by simp [nmM],by have h3: ¬a<s.size:=h.2;show a=s.size;omega⟩
 |succ n ih=>
  intro a d l h ha
  cases d with
  |true=>
   have:=z8e s (n+1) a l
   unfold z1N at h
   rw [this] at h
   cases h
  |false=>
  refine⟨rfl,?_⟩
  unfold nmM at h ⊢
  split at h
  ·rename_i hc
   rw [if_pos hc]
   cases hb:(zi s (a+1) false).2.1 with
   |true=>
    exfalso
    simp only [hb] at h
    have:=z8e s n (zi s (a+1) false).1 (l++[(zi s (a+1) false).2.2])
    unfold z1N at h
    rw [this] at h
    cases h
   |false=>
   obtain⟨g1,g2,g3⟩:=z3g hb
   have g4:=z99 hb
   simp only [hb] at h ⊢
   obtain⟨_,t,h1,h2⟩:=ih _ _ _ h g4
   refine⟨(zi s (a+1) false).2.2::t,?_,hc,zc4 (c:=44) (by simpa using hc) (by decide),_,g1,g4,g2,g3,h2⟩
   rw [h1]
   simp
  ·rename_i hc
   rw [if_neg hc]
   have h:(false||decide (a<s.size))=false:=h
   rw [Bool.or_eq_false_iff,decide_eq_false_iff_not] at h
   exact⟨[],by simp,by have h3: ¬a<s.size:=h.2;show a=s.size;omega⟩
theorem z6K (V v:zej)(k:Int)(fr b:Nat)(hb:b≤V.size): ∀(m i:Nat),i+m=b→(∀j,i≤j→j<b→(pk V j false==44)=false)→plc V v (V.size+1 - i) i k fr=plc V v (V.size+1 - b) b k fr:=by
 intro m
 induction m with
 |zero=>intro i h _;rw [show i=b by omega]
 |succ m ih=>
  intro i h hn
  rw [show V.size+1 - i=(V.size+1 -(i+1))+1 by omega]
  rw [←ih (i+1) (by omega) fun j h1 h2=>hn j (by omega) h2]
  have e:(i==V.size||pk V i false==44)=false:=by
   rw [hn i (ze8 _) (by omega)]
   have: ¬i=V.size:=by omega
   simp [this]
  show(if(i==V.size||pk V i false==44)=true then _ else _)=_
  rw [e]
  rfl
def zda (nm:zej):List zej→Int→Int
 |[],_=> -1
 |x::xs,i=>if x.toList==nm.toList then i else zda nm xs (i+1)
theorem zaW (nm:zej): ∀(l:List zej) (i:Nat),zda nm l i=plM nm l i:=by
 intro l
 induction l with
 |nil=>intro i;rfl
 |cons x xs ih=>intro i;unfold zda plM;rw [←ih (i+1)];rfl
theorem zbz (V v:zej)(hv:v.toList.isEmpty=false): ∀(t:List zej) (a b:Nat) (k:Int) (x:zej),x=V.extract a b→b≤V.size→zdc V t b→plc V v (V.size+1 - b) b k a=zda v (x::t) k:=by
 intro t
 induction t with
 |nil=>
  intro a b k x hx hb hs
  have hs:b=V.size:=hs
  rw [show V.size+1 - b=0+1 by omega]
  show(if(b==V.size||pk V b false==44)=true then(if((V.extract a b).toList==v.toList&& !v.toList.isEmpty)=true then k else plc V v 0 (b+1) (k+1) (b+1)) else _)=_
  rw [if_pos (by simp [hs]),hv,←hx]
  show(if(x.toList==v.toList&&true)=true then k else -1)=(if(x.toList==v.toList)=true then k else -1)
  rw [Bool.and_true]
 |cons y t ih=>
  intro a b k x hx hb hs
  obtain⟨h44,hlt,c,h1,h2,h3,h4,h5⟩:=hs
  rw [show V.size+1 - b=(V.size+1 -(b+1))+1 by omega]
  show(if(b==V.size||pk V b false==44)=true then(if((V.extract a b).toList==v.toList&& !v.toList.isEmpty)=true then k else plc V v (V.size+1 -(b+1)) (b+1) (k+1) (b+1)) else _)=_
  rw [if_pos (by simp [h44]),hv,←hx,z6K V v (k+1) (b+1) c h2 (c -(b+1)) (b+1) (by omega) h4,ih (b+1) c (k+1) y h3 h2 h5]
  show(if(x.toList==v.toList&&true)=true then k else _)=(if(x.toList==v.toList)=true then k else _)
  rw [Bool.and_true]
theorem zaJ {V:zej}{a b:Nat}(h:a<b)(hb:b≤V.size):(V.extract a b).toList.isEmpty=false:=by
 have h1:(V.extract a b).size=b - a:=by rw [ByteArray.size_extract];omega
 rw [ze7]
 have h2:(V.extract a b).data.toList.length=b - a:=by rw [Array.length_toList];exact h1
 cases hq:(V.extract a b).data.toList with
 |nil=>rw [hq] at h2;simp at h2;omega
 |cons x l=>rfl
theorem zbc (V:zej): ∀(t:List zej) (a:Nat),zdc V t a→ ∀x∈t,x.toList.isEmpty=false:=by
 intro t
 induction t with
 |nil=>intro a _ x hx;cases hx
 |cons y t ih=>
  intro a hs x hx
  obtain⟨h44,hlt,c,h1,h2,h3,h4,h5⟩:=hs
  rcases List.mem_cons.mp hx with rfl|hx
  ·rw [h3];exact zaJ h1 h2
  ·exact ih c h5 x hx
theorem z88 {V:zej}(h:(rnM V).2=false):(∀v:zej,v.toList.isEmpty=false→zaG V v=plM v (rnM V).1 0)∧ ∀x∈(rnM V).1,x.toList.isEmpty=false:=by
 unfold rnM at h ⊢
 simp only at h ⊢
 cases hb:(zi V 0 false).2.1 with
 |true=>
  exfalso
  rw [hb] at h
  have:=z8e V (V.size+1) (zi V 0 false).1 [(zi V 0 false).2.2]
  unfold z1N at h
  rw [this] at h
  cases h
 |false=>
 obtain⟨g1,g2,g3⟩:=z3g hb
 have g4:=z99 hb
 obtain⟨_,t,h1,h2⟩:=zbD V _ _ _ _ h g4
 rw [hb] at h1
 rw [h1]
 refine⟨fun v hv=> ?_,fun x hx=> ?_⟩
 ·unfold zaG
  have:=z6K V v 0 0 (zi V 0 false).1 g4 (zi V 0 false).1 0 (by omega) g3
  rw [show V.size+1=V.size+1 - 0 by omega,this,zbz V v hv t 0 _ 0 _ g2 g4 h2,←zaW]
  rfl
 ·rcases List.mem_cons.mp hx with rfl|hx
  ·rw [g2];exact zaJ g1 g4
  ·exact zbc V t _ h2 x hx
theorem zcY (l:List zej): ∀(n i:Nat),z4V l n i=false→ ∀m,i≤m→m<i+n→plM (l.getD m ⟨#[]⟩) l 0=m:=by
 intro n
 induction n with
 |zero=>intro i _ m h1 h2;omega
 |succ n ih=>
  intro i h m h1 h2
  unfold z4V at h
  rw [Bool.or_eq_false_iff] at h
  by_cases e:m=i
  ·subst e;simpa using h.1
  ·exact ih (i+1) h.2 m (by omega) (by omega)
theorem z83 {V:zej}(h:(vlM V).2=false){m:Nat}(hm:m<(vlM V).1.length):zaG V ((vlM V).1.getD m ⟨#[]⟩)=m:=by
 unfold vlM at h hm ⊢
 split at h
 ·cases h
 ·rename_i hc
  rw [if_neg hc] at hm ⊢
  simp only [Bool.or_eq_true,not_or,Bool.not_eq_true] at hc
  obtain⟨⟨⟨c1,_⟩,_⟩,c4⟩:=hc
  obtain⟨p1,p2⟩:=z88 c1
  simp only at hm ⊢
  have hx:(rnM V).1.getD m ⟨#[]⟩∈(rnM V).1:=by
   rw [List.getD_eq_getElem?_getD,ze5 hm]
   exact List.getElem_mem hm
  rw [p1 _ (p2 _ hx)]
  exact zcY _ _ 0 c4 m (zef _) (by omega)
theorem z9J {V:zej}(h:(vlM V).2=false){i:Int}(h0:0≤i)(h1:i<(vlM V).1.length):zaG V (vaM (vlM V).1 i)=i.toNat:=by
 unfold vaM
 rw [if_neg (by omega)]
 exact z83 h (by omega)
theorem z84 {B:Nat}{a w:World}(h:Below B a w)(n:Nat):Below B a (w.drewN n):=h.trans ⟨rfl,rfl,rfl,ze8 _,fun _ _=>rfl⟩
theorem z8l (S A V Q:zej)(e:Int)(hn:e≠0)(w:World)(h: ∀w,Calls Tryz.prog 19 #[.string S,.string A,.string V,.string Q] w fun r w'=>z16 ⟨#[]⟩ e w r w'):
  Calls Tryz.prog 24 #[.string S,.string A,.string V,.string Q] w fun r w'=>r= .returned (.int .i64 (-1))∧Below w.heap.size w w':=by
 have H:=z8 h
 clear h
 go_enter Tryz.func24,Tryz.ntmps24
 go_wp2_with fail
 refine(H.out _).mono ?_
 rintro e w1 ⟨rfl,hB⟩
 have HB:=z8 hB
 clear hB
 go_wp2_with fail
 refine(z01 _ _).mono ?_
 rintro e w3 ⟨rfl,rfl⟩
 go_wp2_with fail
 go_ret
 exact⟨rfl,HB.out⟩
theorem zcP (S A V Q x:zej)(k:Nat)(hV:V.size≤60)(hk:zaG V x=k)(w:World)(h: ∀w,Calls Tryz.prog 19 #[.string S,.string A,.string V,.string Q] w fun r w'=>z16 x 0 w r w'):
  Calls Tryz.prog 24 #[.string S,.string A,.string V,.string Q] w fun r w'=>r= .returned (.int .i64 (k:Int))∧Below w.heap.size w w':=by
 have H:=z8 h
 have HK:=z8 hk
 have HV:=z8 hV
 clear h hk hV
 go_enter Tryz.func24,Tryz.ntmps24
 go_wp2_with fail
 refine(H.out _).mono ?_
 rintro e w1 ⟨rfl,hB⟩
 have HB:=z8 hB
 clear hB
 go_wp2_with fail
 refine(z01 _ _).mono ?_
 rintro e w3 ⟨rfl,rfl⟩
 go_wp2_with fail
 refine(z7d V x _ (by have:=HV.out;omega)).mono ?_
 rintro e w4 ⟨rfl,n,rfl⟩
 rw [HK.out]
 have hk0: ¬((k:Int)<0):=by omega
 go_wp2_with fail
 go_ret
 exact⟨rfl,z84 HB.out n⟩
def sL:zej:=⟨#[98,121,32,80,79,76,73,67,89,10,116,111,32,65,10,105,102,32,116,114,117,101,10]⟩
def vL:zej:=⟨#[110,111,44,121,101,115]⟩
def qL:zej:=⟨#[65]⟩
def eL:zej:=⟨#[49,32,43,32,50,32,42,32,51]⟩
def pL:zej:=⟨#[98,121,32,80,79,76,73,67,89,32,10,116,111,32,40,65,41,10,105,102,32,49,61,61,49,38,38,116,114,117,101,10]⟩
def oL:zej:=⟨#[98,121,32,80,79,76,73,67,89,10,116,111,32,65,10,105,102,32,40,40,49,32,61,61,32,49,41,32,38,38,32,116,114,117,101,41,10]⟩
def zbk:St:=(MR sL 20 st0).getD st0
def z0m:St:=(MR pL 20 st0).getD st0
def z9v:Int×St:=(M eL 20 0 0 (st1 eL)).getD (0,st0)
theorem z3d {α:Type}{o:Option α}{d:α}(h:o.isSome=true):o=some (o.getD d):=by cases o with|none=>cases h|some x=>rfl
theorem zbV {s a v q:zej}{n:Nat}{st:St}(hM:MR s n st0=some st)(hs:s.size≤600)(ha:a.size≤100)(hv:v.size≤60)(hq:q.size≤60)(hA:st.A.length≤10010)(hL:st.L.length≤10010)(hE:st.E.length≤10010)(hC:st.C.length≤10010):Ask s a v q st:=by
 have hz:Sz st:=zbp s hs n st0 st hM ⟨fun x h=>(by cases h),fun x h=>(by cases h),fun x h=>(by cases h),fun x h=>(by cases h)⟩
 have hcl:=zaI s n st0 st hM (fun c h=>by cases h)
 have hcv:=z5c s n st0 st hM zcA
 have hgd:=z0A s n st0 st hM z3E
 have hvl:=z4a v
 exact⟨fun w=>z2w s a v q st w hs ha hv hq (fun W=>z03 s n st W hM hs (by omega) (by omega) (by omega)) (by omega) hcl hvl,
  fun w=>z2n s a v q st w hs ha hv hq (z0e s n st w hM hs) hgd.e hcv (by omega) hcl hvl,⟨n,hM⟩,hA,hL,hE,hC,hcl,hcv,hgd,hz.1,z2U a (by omega),fun h0=>z5A (a:=a) (v:=v) (q:=q) hM (by omega) h0⟩
theorem z70:Ask sL ⟨#[]⟩ vL qL zbk:=
 zbV (n:=20) (z3d (by decide+kernel)) (by decide) (by decide) (by decide) (by decide) (by decide+kernel) (by decide+kernel) (by decide+kernel) (by decide+kernel)
theorem z7M (w:World):Calls Tryz.prog 19 #[.string sL,.string ⟨#[]⟩,.string vL,.string qL] w fun e w'=>z16 ⟨#[121,101,115]⟩ 0 w e w':=by
 have h:=z70.query w
 rw [show quM sL ⟨#[]⟩ vL qL zbk=(⟨#[121,101,115]⟩,0) by decide+kernel] at h
 exact h
theorem z7i (w:World):Calls Tryz.prog 20 #[.string sL,.string ⟨#[]⟩,.string vL,.string qL] w fun e w'=>z16 ⟨#[48]⟩ 0 w e w':=by
 have h:=z70.chain w
 rw [show chM sL ⟨#[]⟩ vL qL zbk=(⟨#[48]⟩,0) by decide+kernel] at h
 exact h
theorem z7y (w:World)(ht:Tab w):Calls Tryz.prog 21 #[.string eL,.string ⟨#[]⟩] w fun e w'=>z16 ⟨#[55]⟩ 0 w e w':=by
 have h:=z6a eL ⟨#[]⟩ 20 z9v.1 z9v.2 w (z3d (d:=(0,st0)) (by decide+kernel)) (by decide) (by decide) (by decide+kernel) (by decide+kernel) (by decide+kernel) (by decide+kernel) (by decide+kernel) ht
 rw [show woM eL ⟨#[]⟩ z9v.1 z9v.2=(⟨#[55]⟩,0) by decide+kernel] at h
 exact h
theorem z9L:PrS z0m oL:=by
 have hA:z0m.A=[⟨⟨#[80,79,76,73,67,89]⟩,0,0⟩]:=by kernel_rfl
 have hL:z0m.L[0]?=some ⟨0,⟨#[65]⟩,-1,-1,0,0,[]⟩:=by kernel_rfl
 have hC:z0m.C[0]?=some [⟨5,0,⟨#[]⟩,-1⟩]:=by kernel_rfl
 have e0:z0m.E[0]?=some ⟨0,21,⟨#[49]⟩,-1,-1⟩:=by kernel_rfl
 have e1:z0m.E[1]?=some ⟨0,24,⟨#[49]⟩,-1,-1⟩:=by kernel_rfl
 have e2:z0m.E[2]?=some ⟨6,22,⟨#[61,61]⟩,0,1⟩:=by kernel_rfl
 have e3:z0m.E[3]?=some ⟨2,27,⟨#[116,114,117,101]⟩,-1,-1⟩:=by kernel_rfl
 have e4:z0m.E[4]?=some ⟨6,25,⟨#[38,38]⟩,2,3⟩:=by kernel_rfl
 have e5:z0m.E[5]?=some ⟨7,21,⟨#[]⟩,4,-1⟩:=by kernel_rfl
 have p0:PrE z0m.E 1 0 ⟨#[49]⟩:=⟨by decide,0,_,rfl,e0,by decide,.inl ⟨.inl rfl,rfl⟩⟩
 have p1:PrE z0m.E 1 1 ⟨#[49]⟩:=⟨by decide,1,_,rfl,e1,by decide,.inl ⟨.inl rfl,rfl⟩⟩
 have p2:PrE z0m.E 2 2 ⟨#[40,49,32,61,61,32,49,41]⟩:=⟨by decide,2,_,rfl,e2,by decide,.inr (.inr (.inr (.inr (.inl ⟨rfl,_,_,p0,p1,by decide+kernel⟩))))⟩
 have p3:PrE z0m.E 2 3 ⟨#[116,114,117,101]⟩:=⟨by decide,3,_,rfl,e3,by decide,.inl ⟨.inr (.inl rfl),rfl⟩⟩
 have p4:PrE z0m.E 3 4 ⟨#[40,40,49,32,61,61,32,49,41,32,38,38,32,116,114,117,101,41]⟩:=⟨by decide,4,_,rfl,e4,by decide,.inr (.inr (.inr (.inr (.inl ⟨rfl,_,_,p2,p3,by decide+kernel⟩))))⟩
 have p5:PrE z0m.E 4 5 ⟨#[40,40,49,32,61,61,32,49,41,32,38,38,32,116,114,117,101,41]⟩:=⟨by decide,5,_,rfl,e5,by decide,.inr (.inr (.inr (.inr (.inr ⟨rfl,p4⟩))))⟩
 refine⟨5,[oL],?_,by decide+kernel⟩
 rw [hA]
 refine⟨⟨by decide,⟨#[65]⟩,⟨#[40,40,49,32,61,61,32,49,41,32,38,38,32,116,114,117,101,41]⟩,⟨by decide,0,_,rfl,hL,by decide,.inl ⟨rfl,rfl⟩⟩,⟨by decide,0,_,[⟨#[40,40,49,32,61,61,32,49,41,32,38,38,32,116,114,117,101,41]⟩],rfl,hC,by decide,⟨⟨by decide,_,p5,.inl ⟨rfl,rfl⟩⟩,trivial⟩,by decide+kernel⟩,by decide+kernel⟩,trivial⟩
theorem z7z (w:World):Calls Tryz.prog 22 #[.string pL] w fun e w'=>zaK oL 0 w e w':=by
 have hM:MR pL 20 st0=some z0m:=z3d (by decide+kernel)
 have h1:z0m.A.length≤100000∧z0m.L.length≤100000∧z0m.E.length≤100000∧z0m.C.length≤100000:=by decide+kernel
 exact z8A pL z0m oL w (z03 pL 20 z0m w hM (by decide) (by omega) (by omega) (by omega)) (by decide+kernel) z9L (by omega) (by omega) (by omega) (by omega)
theorem z5u (w:World)(ht:Tab w):Calls Tryz.prog 14 #[] w fun e w'=>e= .returned (.bool true)∧Below w.heap.size w w':=by
 have HT:=z8 ht
 clear ht
 go_enter Tryz.func14,Tryz.ntmps14
 go_wp2_with fail
 refine(z7M _).mono ?_
 rintro e w1 ⟨rfl,hB1⟩
 have HB1:=z8 hB1
 clear hB1
 go_wp2_with fail
 refine(z7i _).mono ?_
 rintro e w2 ⟨rfl,hB2⟩
 have HB2:=z8 (HB1.out.trans (hB2.mono HB1.out.size))
 clear hB2 HB1
 go_wp2_with fail
 refine(z7y _ (HT.out.below HB2.out)).mono ?_
 rintro e w3 ⟨rfl,hB3⟩
 have HB3:=z8 (HB2.out.trans (hB3.mono HB2.out.size))
 clear hB3 HB2
 go_wp2_with fail
 refine(z7z _).mono ?_
 rintro e w4 ⟨rfl,hB4⟩
 have HB4:=z8 (HB3.out.trans (hB4.mono HB3.out.size))
 clear hB4 HB3
 go_wp2_with fail
 refine(z01 _ _).mono ?_
 rintro e w5 ⟨rfl,rfl⟩
 go_wp2_with fail
 refine(z01 _ _).mono ?_
 rintro e w5 ⟨rfl,rfl⟩
 go_wp2_with fail
 refine(z01 _ _).mono ?_
 rintro e w5 ⟨rfl,rfl⟩
 go_wp2_with fail
 refine(z01 _ _).mono ?_
 rintro e w5 ⟨rfl,rfl⟩
 go_wp2_with fail
 go_ret
 have hoL:(oL.toList==[98,121,32,80,79,76,73,67,89,10,116,111,32,65,10,105,102,32,40,40,49,32,61,61,32,49,41,32,38,38,32,116,114,117,101,41,10])=true:=by decide+kernel
 exact⟨congrArg (fun b=>Ending.returned (.bool b)) hoL,HB4.out⟩
def stp (c:Int):Bool:=c== -1||c==10||c==41
structure Win (s t:zej)(o k:Nat):Prop where
 eq: ∀a,a<k→pk t (o+a) false=pk s a false
 sp:stp (pk s k false)=true
 tp:stp (pk t (o+k) false)=true
 ks:k≤s.size
def Dull (p:Int→Bool):Prop:=p (-1)=false∧p 10=false∧p 41=false
theorem Dull.st_ {p:Int→Bool}(h:Dull p){c:Int}(hc:stp c=true):p c=false:=by
 unfold stp at hc
 simp only [Bool.or_eq_true,beq_iff_eq] at hc
 rcases hc with(rfl|rfl)|rfl
 ·exact h.1
 ·exact h.2.1
 ·exact h.2.2
section
variable {s t:zej} {o k:Nat}
theorem Win.test (h:Win s t o k){p:Int→Bool}(hp:Dull p){a:Nat}(ha:a≤k):p (pk t (o+a) false)=p (pk s a false):=by
 by_cases e:a=k
 ·subst e;rw [hp.st_ h.sp,hp.st_ h.tp]
 ·rw [h.eq a (by omega)]
theorem Win.rn (h:Win s t o k){p:Int→Bool}(hp:Dull p): ∀(m a:Nat),a≤k→run p s false m a≤k∧run p t false m (o+a)=o+run p s false m a:=by
 intro m
 induction m with
 |zero=>intro a ha;exact⟨ha,rfl⟩
 |succ m ih=>
  intro a ha
  have ht:=h.test hp ha
  unfold run
  rw [ht]
  cases hc:p (pk s a false) with
  |false=>exact⟨ha,rfl⟩
  |true=>
   have hk:a≠k:=fun e=>by subst e;rw [hp.st_ h.sp] at hc;cases hc
   exact ih (a+1) (by omega)
theorem Win.rn' (h:Win s t o k){p:Int→Bool}: ∀(m a:Nat),run p s false m a<k→run p t false m (o+a)=o+run p s false m a:=by
 intro m
 induction m with
 |zero=>intro a _;rfl
 |succ m ih=>
  intro a ha
  have hge:=z5M p s false (m+1) a
  have e:=h.eq a (by omega)
  unfold run at ha ⊢
  rw [e]
  cases hc:p (pk s a false) with
  |false=>rfl
  |true=>
   rw [hc] at ha
   exact ih (a+1) ha
theorem z6B:Dull zm:=⟨rfl,rfl,rfl⟩
theorem z2d:Dull zh:=⟨rfl,rfl,rfl⟩
theorem z8B {c:Int}(h:stp c=false):Dull (·==c):=by
 unfold stp at h
 simp only [Bool.or_eq_false_iff,beq_eq_false_iff_ne] at h
 refine⟨?_,?_,?_⟩<;>simp<;>omega
theorem Win.sk (h:Win s t o k): ∀(m a:Nat),a+m=k→skip s a false≤k∧skip t (o+a) false=o+skip s a false:=by
 intro m
 induction m with
 |zero=>
  intro a ha
  have e:a=k:=by omega
  subst e
  have h1:pk s a false≠32:=fun e=>by have:=h.sp;rw [e] at this;cases this
  have h2:pk t (o+a) false≠32:=fun e=>by have:=h.tp;rw [e] at this;cases this
  rw [jS h1,jS h2]
  exact⟨ze8 _,rfl⟩
 |succ m ih=>
  intro a ha
  have e:=h.eq a (by omega)
  by_cases hb:pk s a false=32
  ·rw [←z13 hb,←z13 (s:=t) (a:=o+a) (by rw [e];exact hb)]
   exact ih (a+1) (by omega)
  ·rw [jS hb,jS (by rw [e];exact hb)]
   exact⟨by omega,rfl⟩
theorem Win.skp (h:Win s t o k){a:Nat}(ha:a≤k):skip s a false≤k∧skip t (o+a) false=o+skip s a false:=h.sk (k - a) a (by omega)
theorem Win.word (h:Win s t o k): ∀(l:List UInt8) (a:Nat),(zs s false l a).2=false→(zs s false l a).1≤k→zs t false l (o+a)=(o+(zs s false l a).1,false):=by
 intro l
 induction l with
 |nil=>intro a _ _;rfl
 |cons c cs ih=>
  intro a h1 h2
  unfold zs at h1 h2 ⊢
  by_cases hc:pk s a false=(c.toNat:Int)
  ·rw [if_pos hc] at h1 h2 ⊢
   have hge:=z1h s false cs (a+1)
   rw [if_pos (by rw [h.eq a (by omega)];exact hc)]
   exact ih (a+1) h1 h2
  ·rw [if_neg hc] at h1;cases h1
theorem z5h {s:zej}{l:List UInt8}{a:Nat}(h:(jm s false l a).2=false):(zs s false l a).2=false∧(zs s false l a).1≤(jm s false l a).1:=⟨h,by unfold jm;exact z0L _ _ _⟩
theorem Win.sign (h:Win s t o k){l:List UInt8}{a:Nat}(h1:(jm s false l a).2=false)(h2:(jm s false l a).1≤k):jm t false l (o+a)=(o+(jm s false l a).1,false):=by
 obtain⟨g1,g2⟩:=z5h h1
 have hw:=h.word l a g1 (by omega)
 have hk:=(h.skp (a:=(zs s false l a).1) (by omega)).2
 unfold jm
 rw [hw,g1]
 simp only
 rw [hk]
theorem z2g {s:zej}{a:Nat}(h:a<s.size):pk s a false=(s[a].toNat:Int):=by
 unfold pk;rw [if_neg (by decide),dif_pos h]
theorem Win.byte (h:Win s t o k){a:Nat}(ha:a<k): ∃(h1:a<s.size) (h2:o+a<t.size),t[o+a]=s[a]:=by
 have hs:a<s.size:=zee ha h.ks
 have e:=h.eq a ha
 rw [z2g hs] at e
 have ht:o+a<t.size:=(jT (s:=t) (a:=o+a) (d:=false) (by rw [e];omega)).2
 rw [z2g ht] at e
 exact⟨hs,ht,UInt8.toNat_inj.1 (by omega)⟩
theorem Win.ext (h:Win s t o k){a b:Nat}(hb:b≤k):t.extract (o+a) (o+b)=s.extract a b:=by
 by_cases hab:a<b
 ·have hs:b≤s.size:=zeg hb h.ks
  have ht:o+b≤t.size:=by
   obtain⟨_,h2,_⟩:=h.byte (a:=b - 1) (by omega)
   omega
  apply ByteArray.ext
  apply Array.ext
  ·show(t.extract (o+a) (o+b)).size=(s.extract a b).size
   rw [ByteArray.size_extract,ByteArray.size_extract]
   omega
  ·intro i h1 h2
   have h2':i<(s.extract a b).size:=h2
   rw [ByteArray.size_extract] at h2'
   obtain⟨q1,q2,q3⟩:=h.byte (a:=a+i) (by omega)
   have e1:(t.extract (o+a) (o+b)).data[i]=t[o+a+i]'(by omega):=by
    have:=ByteArray.getElem_extract (b:=t) (start:=o+a) (stop:=o+b) (i:=i) h1
    exact this
   have e2:(s.extract a b).data[i]=s[a+i]'q1:=by
    have:=ByteArray.getElem_extract (b:=s) (start:=a) (stop:=b) (i:=i) h2
    exact this
   rw [e1,e2,←q3]
   congr 1
   omega
 ·have e: ∀(u:zej) (x y:Nat),y≤x→u.extract x y=⟨#[]⟩:=fun u x y hxy=>by
   apply ByteArray.ext
   apply Array.ext
   ·show(u.extract x y).size=0
    rw [ByteArray.size_extract];omega
   ·intro i h1 h2;exact absurd h2 (Nat.not_lt_zero i)
  rw [e _ _ _ (by omega),e _ _ _ (by omega)]
end
section
variable {s t:zej} {o k:Nat}
theorem Win.tok (h:Win s t o k){p:Int→Bool}(hp:Dull p){m a:Nat}(ha:a≤k)(hg:(z3H p m s a false).2.1=false):(z3H p m s a false).1≤k∧z3H p m t (o+a) false=(o+(z3H p m s a false).1,false,(z3H p m s a false).2.2):=by
 obtain⟨r1,r2⟩:=h.rn hp m a ha
 unfold z3H at hg ⊢
 simp only at hg ⊢
 rw [r2,h.test hp r1,show(o+run p s false m a==o+a)=(run p s false m a==a) by rw [Bool.eq_iff_iff];simp]
 split at hg
 ·cases hg
 ·rename_i hc
  rw [if_neg hc]
  obtain⟨k1,k2⟩:=h.skp r1
  exact⟨k1,by rw [k2,h.ext r1,if_neg hc]⟩
theorem Win.name (h:Win s t o k){a:Nat}(ha:a≤k)(hg:(zw s a false).2.1=false):(zw s a false).1≤k∧zw t (o+a) false=(o+(zw s a false).1,false,(zw s a false).2.2):=h.tok z6B ha hg
theorem Win.eqs (h:Win s t o k){a:Nat}(ha:a≤k){c:Int}(hc:stp c=false):(pk t (o+a) false==c)=(pk s a false==c):=h.test (z8B hc) ha
theorem Win.number (h:Win s t o k){a:Nat}(ha:a≤k)(hg:(zY s a false).2.1=false):(zY s a false).1≤k∧zY t (o+a) false=(o+(zY s a false).1,false,(zY s a false).2.2):=by
 unfold zY at hg ⊢
 rw [h.eqs ha (c:=48) (by decide)]
 exact h.tok z2d ha hg
theorem z73 {s:zej}{a:Nat}{c:UInt8}(h:(zs s false [c] a).2=false):(zs s false [c] a).1=a+1:=by
 unfold zs at h ⊢
 split at h
 ·rename_i hc;rw [if_pos hc];rfl
 ·cases h
theorem Win.quoted (h:Win s t o k){a:Nat}(hg:(j9 s a false).2.1=false)(hk:(j9 s a false).1≤k):j9 t (o+a) false=(o+(j9 s a false).1,false,(j9 s a false).2.2):=by
 unfold j9 at hg hk ⊢
 simp only at hg hk ⊢
 cases hv:(zs s false [34] a).2 with
 |true=>rw [hv,z50] at hg;cases hg
 |false=>
  rw [hv] at hg hk
  obtain⟨g1,g2⟩:=z5h hg
  have g3:=z73 g1
  have g4:=z5M zu s false 12 (zs s false [34] a).1
  have hw:=h.word [34] a hv (by omega)
  rw [hw]
  simp only
  have hr:=h.rn' (p:=zu) 12 (zs s false [34] a).1 (by omega)
  rw [hr,h.sign hg hk,h.ext (by omega)]
theorem Win.arrow (h:Win s t o k){a:Nat}(ha:a≤k):zM t (o+a) false=zM s a false:=by
 unfold zM
 rw [h.eqs ha (c:=45) (by decide)]
 cases hc:(pk s a false==45) with
 |false=>rfl
 |true=>
  have hk:a≠k:=fun e=>by
   subst e
   have:=(z8B (c:=45) (by decide)).st_ h.sp
   rw [hc] at this
   cases this
  rw [show o+a+1=o+(a+1) by omega,h.eqs (a:=a+1) (by omega) (c:=62) (by decide)]
theorem Win.sum (h:Win s t o k){a:Nat}(ha:a≤k):zv t (o+a) false=zv s a false:=by
 unfold zv
 rw [h.arrow ha,h.eqs ha (c:=43) (by decide),h.eqs ha (c:=45) (by decide),h.eqs ha (c:=46) (by decide)]
theorem Win.product (h:Win s t o k){a:Nat}(ha:a≤k):zj t (o+a) false=zj s a false:=by
 unfold zj
 rw [h.eqs ha (c:=42) (by decide),h.eqs ha (c:=47) (by decide),h.eqs ha (c:=37) (by decide)]
theorem Win.ordering (h:Win s t o k){short long:zej}{a:Nat}(hg:(zC s short long a false).2.1=false)(hk:(zC s short long a false).1≤k):zC t short long (o+a) false=(o+(zC s short long a false).1,false,(zC s short long a false).2.2):=by
 unfold zC at hg hk ⊢
 simp only at hg hk ⊢
 cases hv:(zs s false short.data.toList a).2 with
 |true=>
  exfalso
  rw [hv] at hg
  rw [if_pos (by simp [pk])] at hg
  cases hg
 |false=>
  rw [hv] at hg hk
  have hle:(zs s false short.data.toList a).1≤k:=by
   split at hk
   ·exact zeg (z0L _ _ _) hk
   ·exact zeg (z0M _ _ _ _) hk
  rw [h.word _ a hv hle]
  simp only
  rw [show(pk t (o+(zs s false short.data.toList a).1) false !=61)=(pk s (zs s false short.data.toList a).1 false !=61) by unfold bne;rw [h.eqs hle (c:=61) (by decide)]]
  split at hg
  ·rename_i hc
   rw [if_pos hc] at hk ⊢
   rw [if_pos hc,(h.skp hle).2]
  ·rename_i hc
   rw [if_neg hc] at hk ⊢
   rw [if_neg hc,h.sign hg hk]
theorem Win.comparing (h:Win s t o k){a:Nat}(ha:a≤k)(hg:(zf s a false).2.1=false)(hk:(zf s a false).1≤k):zf t (o+a) false=(o+(zf s a false).1,false,(zf s a false).2.2):=by
 unfold zf at hg hk ⊢
 rw [h.eqs ha (c:=61) (by decide),h.eqs ha (c:=33) (by decide),h.eqs ha (c:=60) (by decide),h.eqs ha (c:=62) (by decide)]
 split at hg
 ·rename_i hc;rw [if_pos hc] at hk ⊢;rw [if_pos hc,h.sign hg hk]
 ·rename_i hc
  rw [if_neg hc] at hk ⊢
  rw [if_neg hc]
  split at hg
  ·rename_i hc;rw [if_pos hc] at hk ⊢;rw [if_pos hc,h.sign hg hk]
  ·rename_i hc
   rw [if_neg hc] at hk ⊢
   rw [if_neg hc]
   split at hg
   ·rename_i hc;rw [if_pos hc] at hk ⊢;rw [if_pos hc,h.ordering hg hk]
   ·rename_i hc
    rw [if_neg hc] at hk ⊢
    rw [if_neg hc]
    split at hg
    ·rename_i hc;rw [if_pos hc] at hk ⊢;rw [if_pos hc,h.ordering hg hk]
    ·rename_i hc
     rw [if_neg hc,if_neg hc]
end
def shi (n:Nat)(i:Int):Int:=if i<0 then i else i+n
def shE (o n:Nat)(x:Ex):Ex:=⟨x.form,x.place+o,x.text,shi n x.left,shi n x.right⟩
def shL (o n:Nat)(x:Lc):Lc:=⟨x.form,x.text,shi n x.left,shi n x.right,if x.form=2 then x.place+o else x.place,x.count,x.items.map (shi n)⟩
def z3h (n m:Nat)(x:Cl):Cl:=⟨shi n x.test,x.form,x.result,shi m x.inner⟩
def shA (l c:Nat)(x:As):As:=⟨x.by_,shi l x.to_,shi c x.conds⟩
def shS (o:Nat)(P st:St):St:=⟨o+st.at_,st.bad,P.A++st.A.map (shA P.L.length P.C.length),P.L++st.L.map (shL o P.L.length),P.E++st.E.map (shE o P.E.length),P.C++st.C.map fun c=>c.map (z3h P.E.length P.C.length)⟩
theorem z6e (n i:Nat):shi n (i:Int)=((n+i:Nat):Int):=by unfold shi;rw [if_neg (by omega)];omega
theorem z0d {o:Nat}{P st:St}{x y:Ex}{r r':Int×St}(h:jO st x=some r)(h':jO (shS o P st) y=some r')(hy:y=shE o P.E.length x):r'=(shi P.E.length r.1,shS o P r.2):=by
 obtain⟨_,rfl⟩:=zo h
 obtain⟨_,rfl⟩:=zo h'
 subst hy
 refine Prod.ext ?_ ?_
 ·show(((P.E++st.E.map (shE o P.E.length)).length:Nat):Int)=shi P.E.length (st.E.length:Int)
  rw [z6e,List.length_append,List.length_map]
 ·show({shS o P st with E:=(P.E++st.E.map (shE o P.E.length))++[shE o P.E.length x]}:St)=shS o P {st with E:=st.E++[x]}
  unfold shS
  simp only [List.map_append,List.map_cons,List.map_nil,List.append_assoc]
section
variable {s t:zej} {o k:Nat} {P:St}
theorem Win.pks (h:Win s t o k){st:St}(hb:st.bad=false)(ha:st.at_≤k){c:Int}(hc:stp c=false):(pkS t (shS o P st)==c)=(pkS s st==c):=by
 unfold pkS
 show(pk t (o+st.at_) st.bad==c)=_
 rw [hb]
 exact h.eqs ha hc
theorem Win.pkd (h:Win s t o k){st:St}(hb:st.bad=false)(ha:st.at_≤k):zh (pkS t (shS o P st))=zh (pkS s st):=by
 unfold pkS
 show zh (pk t (o+st.at_) st.bad)=_
 rw [hb]
 exact h.test z2d ha
theorem Win.sgn (h:Win s t o k){l:List UInt8}{st:St}(hb:st.bad=false)(h1:(sgn s l st).bad=false)(h2:(sgn s l st).at_≤k):sgn t l (shS o P st)=shS o P (sgn s l st):=by
 unfold Go.Proofs.YtkoohcilbpdgeaaGreatDoor.sgn St.put at h1 h2 ⊢
 rw [hb] at h1 h2 ⊢
 simp only at h1 h2
 unfold shS
 simp only
 rw [hb,h.sign h1 h2,h1]
theorem Win.wrd (h:Win s t o k){l:List UInt8}{st:St}(hb:st.bad=false)(h1:(wrd s l st).bad=false)(h2:(wrd s l st).at_≤k):wrd t l (shS o P st)=shS o P (wrd s l st):=by
 unfold Go.Proofs.YtkoohcilbpdgeaaGreatDoor.wrd St.put at h1 h2 ⊢
 rw [hb] at h1 h2 ⊢
 simp only at h1 h2
 unfold shS
 simp only
 rw [hb,h.word _ _ h1 h2,h1]
theorem Win.put3 {st:St}{x y:Nat×Bool×zej}(hy:y=(o+x.1,x.2.1,x.2.2)):(shS o P st).put3 y=shS o P (st.put3 x):=by
 subst hy;rfl
theorem z7u {s:zej}{n tag:Nat}{l:Int}{st:St}{r:Int×St}(h:M s n tag l st=some r)(hr:r.2.bad=false):st.bad=false:=by
 cases hb:st.bad with
 |false=>rfl
 |true=>have:=(zca s n tag l st r h hb).1;rw [hr] at this;cases this
end
theorem z41 (n:Nat):shi n (-1)= -1:=by unfold shi;rw [if_pos (by decide)]
section
variable {s t:zej} {o k:Nat} {P:St}
theorem z5e {s:zej}{a:Nat}{d:Bool}(h:(zf s a d).2.1=false):d=false:=by
 cases d with
 |false=>rfl
 |true=>simp [zf,pk] at h
theorem z4M {s:zej}{a:Nat}{d:Bool}(h:(zw s a d).2.1=false):d=false:=by
 cases d with
 |false=>rfl
 |true=>rw [z0Q] at h;cases h
theorem zbo {o e:Nat}(a:Nat)(f:Int)(c:zej)(i j:Int):(⟨f,((o+a:Nat):Int),c,shi e i,shi e j⟩:Ex)=shE o e ⟨f,(a:Int),c,i,j⟩:=by
 unfold shE
 simp only
 rw [show((o+a:Nat):Int)=(a:Int)+o by omega]
theorem zbe {o e:Nat}(a:Nat)(f:Int)(c:zej)(i:Int):(⟨f,((o+a:Nat):Int),c,shi e i,-1⟩:Ex)=shE o e ⟨f,(a:Int),c,i,-1⟩:=by
 rw [←zbo,z41]
theorem z7V {o e:Nat}(a:Nat)(f:Int)(c:zej):(⟨f,((o+a:Nat):Int),c,-1,-1⟩:Ex)=shE o e ⟨f,(a:Int),c,-1,-1⟩:=by
 rw [←zbo,z41]
theorem z1p {s:zej}{c:UInt8}{cs:List UInt8}{st:St}(h:(sgn s (c::cs) st).bad=false):st.bad=false:=by
 cases hb:st.bad with
 |false=>rfl
 |true=>rw [(jY hb).1] at h;cases h
theorem zdh (W:Win s t o k): ∀n tag l st r,M s n tag l st=some r→r.2.bad=false→r.2.at_≤k→ ∀m l' r',(10≤tag→l'=shi P.E.length l)→M t m tag l' (shS o P st)=some r'→r'=(shi P.E.length r.1,shS o P r.2):=by
 intro n
 induction n with
 |zero=>intro tag l st r h;simp [M] at h
 |succ n ih=>
  intro tag l st r h hg hk m l' r' hl h'
  cases m with
  |zero=>simp [M] at h'
  |succ m=>
  have two: ∀{t1 t2:Nat} {st0:St},¬10≤t1→((M s n t1 0 st0).bind fun r=>M s n t2 r.1 r.2)=some r→((M t m t1 0 (shS o P st0)).bind fun r=>M t m t2 r.1 r.2)=some r'→r'=(shi P.E.length r.1,shS o P r.2):=fun ht h h'=>by
   obtain⟨q,h1,h2⟩:=ze4.1 h
   obtain⟨q',h1',h2'⟩:=ze4.1 h'
   obtain rfl:=ih _ _ _ _ h1 (z7u h2 hg) (zeg (z6X _ _ _ _ _ _ h2) hk) _ _ _ (fun h=>absurd h ht) h1'
   exact ih _ _ _ _ h2 hg hk _ _ _ (fun _=>rfl) h2'
  have three: ∀{t1 t2:Nat} {ls:List UInt8} {st0:St} {x x':Int×St→Ex},¬10≤t1→st0.bad=false→(∀q q',q'=(shi P.E.length q.1,shS o P q.2)→x' q'=shE o P.E.length (x q))→((M s n t1 0 (sgn s ls st0)).bind fun r=>(jO r.2 (x r)).bind fun q=>M s n t2 q.1 q.2)=some r→((M t m t1 0 (sgn t ls (shS o P st0))).bind fun r=>(jO r.2 (x' r)).bind fun q=>M t m t2 q.1 q.2)=some r'→r'=(shi P.E.length r.1,shS o P r.2):=fun ht hb hx h h'=>by
   obtain⟨q,h1,h2⟩:=ze4.1 h
   obtain⟨q2,h3,h4⟩:=ze4.1 h2
   obtain⟨q',h1',h2'⟩:=ze4.1 h'
   obtain⟨q2',h3',h4'⟩:=ze4.1 h2'
   have g2:=z7u h4 hg
   have a2:=z6X _ _ _ _ _ _ h4
   obtain⟨e1,e2⟩:=zV h3
   have g1:q.2.bad=false:=by rw [←e1];exact g2
   have a1:q.2.at_≤k:=by omega
   have g0:=z7u h1 g1
   have a0:=z6X _ _ _ _ _ _ h1
   rw [W.sgn hb g0 (by omega)] at h1'
   obtain rfl:=ih _ _ _ _ h1 g1 a1 _ _ _ (fun h=>absurd h ht) h1'
   obtain rfl:=z0d h3 h3' (hx _ _ rfl)
   exact ih _ _ _ _ h4 hg hk _ _ _ (fun _=>rfl) h4'
  have one: ∀{t1:Nat} {ls:List UInt8} {st0:St} {x x':Int×St→Ex},¬10≤t1→st0.bad=false→(∀q q',q'=(shi P.E.length q.1,shS o P q.2)→x' q'=shE o P.E.length (x q))→((M s n t1 0 (sgn s ls st0)).bind fun r=>jO r.2 (x r))=some r→((M t m t1 0 (sgn t ls (shS o P st0))).bind fun r=>jO r.2 (x' r))=some r'→r'=(shi P.E.length r.1,shS o P r.2):=fun ht hb hx h h'=>by
   obtain⟨q,h1,h3⟩:=ze4.1 h
   obtain⟨q',h1',h3'⟩:=ze4.1 h'
   obtain⟨e1,e2⟩:=zV h3
   have g1:q.2.bad=false:=by rw [←e1];exact hg
   have a1:q.2.at_≤k:=by omega
   have g0:=z7u h1 g1
   have a0:=z6X _ _ _ _ _ _ h1
   rw [W.sgn hb g0 (by omega)] at h1'
   obtain rfl:=ih _ _ _ _ h1 g1 a1 _ _ _ (fun h=>absurd h ht) h1'
   exact z0d h3 h3' (hx _ _ rfl)
  match tag,h,h' with
  |0,h,h'=>rw [M_0] at h h';exact two (by omega) h h'
  |1,h,h'=>rw [M_1] at h h';exact two (by omega) h h'
  |4,h,h'=>rw [M_4] at h h';exact two (by omega) h h'
  |5,h,h'=>rw [M_5] at h h';exact two (by omega) h h'
  |10,h,h'=>
   rw [z82] at h h'
   have hb:st.bad=false:=z7u (s:=s) (n:=n+1) (tag:=10) (l:=l) (r:=r) (by rw [z82];exact h) hg
   have ha:st.at_≤k:=zeg (z6X s (n+1) 10 l st r (by rw [z82];exact h)) hk
   rw [W.pks hb ha (c:=124) (by decide)] at h'
   obtain rfl:=hl (by omega)
   split at h
   ·rename_i hc
    rw [if_pos hc] at h'
    exact three (t1:=1) (by omega) hb (fun q q' e=>by subst e;exact zbo st.at_ _ _ _ _) h h'
   ·rename_i hc
    rw [if_neg hc] at h'
    cases h;cases h';rfl
  |11,h,h'=>
   rw [z8R] at h h'
   have hb:st.bad=false:=z7u (s:=s) (n:=n+1) (tag:=11) (l:=l) (r:=r) (by rw [z8R];exact h) hg
   have ha:st.at_≤k:=zeg (z6X s (n+1) 11 l st r (by rw [z8R];exact h)) hk
   rw [W.pks hb ha (c:=38) (by decide)] at h'
   obtain rfl:=hl (by omega)
   split at h
   ·rename_i hc
    rw [if_pos hc] at h'
    exact three (t1:=2) (by omega) hb (fun q q' e=>by subst e;exact zbo st.at_ _ _ _ _) h h'
   ·rename_i hc
    rw [if_neg hc] at h'
    cases h;cases h';rfl
  |14,h,h'=>
   rw [z8a] at h h'
   simp only at h h'
   have hb:st.bad=false:=z7u (s:=s) (n:=n+1) (tag:=14) (l:=l) (r:=r) (by rw [z8a];exact h) hg
   have ha:st.at_≤k:=zeg (z6X s (n+1) 14 l st r (by rw [z8a];exact h)) hk
   have es:zv t (shS o P st).at_ (shS o P st).bad=zv s st.at_ st.bad:=by
    show zv t (o+st.at_) st.bad=_
    rw [hb]
    exact W.sum ha
   rw [es] at h'
   obtain rfl:=hl (by omega)
   split at h
   ·rename_i hc
    rw [if_pos hc] at h'
    cases h;cases h';rfl
   ·rename_i hc
    rw [if_neg hc] at h'
    exact three (t1:=5) (by omega) hb (fun q q' e=>by subst e;exact zbo st.at_ _ _ _ _) h h'
  |15,h,h'=>
   rw [z9d] at h h'
   simp only at h h'
   have hb:st.bad=false:=z7u (s:=s) (n:=n+1) (tag:=15) (l:=l) (r:=r) (by rw [z9d];exact h) hg
   have ha:st.at_≤k:=zeg (z6X s (n+1) 15 l st r (by rw [z9d];exact h)) hk
   have es:zj t (shS o P st).at_ (shS o P st).bad=zj s st.at_ st.bad:=by
    show zj t (o+st.at_) st.bad=_
    rw [hb]
    exact W.product ha
   rw [es] at h'
   obtain rfl:=hl (by omega)
   split at h
   ·rename_i hc
    rw [if_pos hc] at h'
    cases h;cases h';rfl
   ·rename_i hc
    rw [if_neg hc] at h'
    exact three (t1:=6) (by omega) hb (fun q q' e=>by subst e;exact zbo st.at_ _ _ _ _) h h'
  |2,h,h'=>
   rw [M_2] at h h'
   have hb:st.bad=false:=z7u (s:=s) (n:=n+1) (tag:=2) (l:=l) (r:=r) (by rw [M_2];exact h) hg
   have ha:st.at_≤k:=zeg (z6X s (n+1) 2 l st r (by rw [M_2];exact h)) hk
   rw [show(pkS t (shS o P st) !=33)=(pkS s st !=33) by unfold bne;rw [W.pks hb ha (c:=33) (by decide)]] at h'
   split at h
   ·rename_i hc
    rw [if_pos hc] at h'
    exact ih _ _ _ _ h hg hk _ _ _ (by omega) h'
   ·rename_i hc
    rw [if_neg hc] at h'
    exact one (t1:=2) (by omega) hb (fun q q' e=>by subst e;exact zbe st.at_ _ _ _) h h'
  |6,h,h'=>
   rw [M_6] at h h'
   have hb:st.bad=false:=z7u (s:=s) (n:=n+1) (tag:=6) (l:=l) (r:=r) (by rw [M_6];exact h) hg
   have ha:st.at_≤k:=zeg (z6X s (n+1) 6 l st r (by rw [M_6];exact h)) hk
   rw [show(pkS t (shS o P st) !=45)=(pkS s st !=45) by unfold bne;rw [W.pks hb ha (c:=45) (by decide)]] at h'
   split at h
   ·rename_i hc
    rw [if_pos hc] at h'
    exact ih _ _ _ _ h hg hk _ _ _ (by omega) h'
   ·rename_i hc
    rw [if_neg hc] at h'
    exact one (t1:=6) (by omega) hb (fun q q' e=>by subst e;exact zbe st.at_ _ _ _) h h'
  |3,h,h'=>
   rw [M_3] at h h'
   obtain⟨q,h1,h2⟩:=ze4.1 h
   obtain⟨q',h1',h2'⟩:=ze4.1 h'
   simp only at h2 h2'
   have hc:(zf s q.2.at_ q.2.bad).2.1=false∧(zf s q.2.at_ q.2.bad).1≤k:=by
    split at h2
    ·cases h2;exact⟨hg,hk⟩
    ·obtain⟨q2,h3,h4⟩:=ze4.1 h2
     obtain⟨e1,e2⟩:=zV h4
     have g2:q2.2.bad=false:=by rw [←e1];exact hg
     have a2:=z6X _ _ _ _ _ _ h3
     exact⟨z7u h3 g2,zeg a2 (by omega)⟩
   obtain⟨hc1,hc2⟩:=hc
   have hq:=z5e hc1
   have ha:q.2.at_≤k:=zeg (z0R s q.2.at_ q.2.bad) hc2
   obtain rfl:=ih _ _ _ _ h1 hq ha _ _ _ (fun h=>absurd h (by omega)) h1'
   have ec:zf t (shS o P q.2).at_ (shS o P q.2).bad=(o+(zf s q.2.at_ q.2.bad).1,(zf s q.2.at_ q.2.bad).2.1,(zf s q.2.at_ q.2.bad).2.2):=by
    show zf t (o+q.2.at_) q.2.bad=_
    rw [hq] at hc1 hc2 ⊢
    rw [W.comparing ha hc1 hc2,hc1]
   rw [ec] at h2'
   simp only at h2'
   split at h2
   ·rename_i hz
    rw [if_pos hz] at h2'
    cases h2;cases h2';rfl
   ·rename_i hz
    rw [if_neg hz] at h2'
    obtain⟨q2,h3,h4⟩:=ze4.1 h2
    obtain⟨q2',h3',h4'⟩:=ze4.1 h2'
    obtain⟨e1,e2⟩:=zV h4
    rw [Win.put3 (x:=zf s q.2.at_ q.2.bad) rfl] at h3'
    obtain rfl:=ih _ _ _ _ h3 (by rw [←e1];exact hg) (by omega) _ _ _ (fun h=>absurd h (by omega)) h3'
    exact z0d h4 h4' (zbo q.2.at_ _ _ _ _)
  |7,h,h'=>
   rw [M_7] at h h'
   simp only at h h'
   have hb:st.bad=false:=z7u (s:=s) (n:=n+1) (tag:=7) (l:=l) (r:=r) (by rw [M_7];exact h) hg
   have ha:st.at_≤k:=zeg (z6X s (n+1) 7 l st r (by rw [M_7];exact h)) hk
   rw [W.pkd hb ha,W.pks hb ha (c:=34) (by decide),W.pks hb ha (c:=64) (by decide),W.pks hb ha (c:=40) (by decide)] at h'
   have bad':(shS o P st).bad=false:=hb
   split at h
   ·rename_i hz
    rw [if_pos hz] at h'
    obtain⟨e1,e2⟩:=zV h
    rw [hb] at h
    rw [bad'] at h'
    have c1:(zY s st.at_ st.bad).2.1=false:=e1.symm.trans hg
    rw [hb] at c1
    obtain⟨_,w2⟩:=W.number ha c1
    rw [show(shS o P st).at_=o+st.at_ from rfl,w2,Win.put3 (x:=zY s st.at_ false) (by rw [c1])] at h'
    exact z0d h h' (z7V st.at_ _ _)
   ·rename_i hz
    rw [if_neg hz] at h'
    split at h
    ·rename_i hz
     rw [if_pos hz] at h'
     obtain⟨e1,e2⟩:=zV h
     rw [hb] at h
     rw [bad'] at h'
     have c1:(j9 s st.at_ st.bad).2.1=false:=e1.symm.trans hg
     have c2:(j9 s st.at_ st.bad).1≤k:=zeg (Nat.le_of_eq e2.symm) hk
     rw [hb] at c1 c2
     have w2:=W.quoted c1 c2
     rw [show(shS o P st).at_=o+st.at_ from rfl,w2,Win.put3 (x:=j9 s st.at_ false) (by rw [c1])] at h'
     exact z0d h h' (z7V st.at_ _ _)
    ·rename_i hz
     rw [if_neg hz] at h'
     split at h
     ·rename_i hz
      rw [if_pos hz] at h'
      obtain⟨e1,e2⟩:=zV h
      have u1:(zw s (wrd s [64] st).at_ (wrd s [64] st).bad).2.1=false:=e1.symm.trans hg
      have u2:=z4M u1
      have u3:(wrd s [64] st).at_≤k:=zeg (ji _ _ _) (zeg (Nat.le_of_eq e2.symm) hk)
      rw [W.wrd hb u2 u3] at h'
      have w2:zw t (shS o P (wrd s [64] st)).at_ (shS o P (wrd s [64] st)).bad=(o+(zw s (wrd s [64] st).at_ (wrd s [64] st).bad).1,(zw s (wrd s [64] st).at_ (wrd s [64] st).bad).2.1,(zw s (wrd s [64] st).at_ (wrd s [64] st).bad).2.2):=by
       show zw t (o+(wrd s [64] st).at_) (wrd s [64] st).bad=_
       rw [u2] at u1 ⊢
       rw [(W.name u3 u1).2,u1]
      rw [w2,Win.put3 (x:=zw s (wrd s [64] st).at_ (wrd s [64] st).bad) rfl] at h'
      exact z0d h h' (z7V st.at_ _ _)
     ·rename_i hz
      rw [if_neg hz] at h'
      split at h
      ·rename_i hz
       rw [if_pos hz] at h'
       obtain⟨q,h1,h2⟩:=ze4.1 h
       obtain⟨q',h1',h2'⟩:=ze4.1 h'
       cases h2
       cases h2'
       have g1:=z1p hg
       have a1:q.2.at_≤k:=zeg (zJ s [41] q.2) hk
       have g0:=z7u h1 g1
       have a0:=z6X _ _ _ _ _ _ h1
       rw [W.sgn hb g0 (by omega)] at h1'
       obtain rfl:=ih _ _ _ _ h1 g1 a1 _ _ _ (fun h=>absurd h (by omega)) h1'
       simp only
       rw [W.sgn g1 hg hk]
      ·rename_i hz
       rw [if_neg hz] at h'
       have u1:(zw s st.at_ st.bad).2.1=false:=by
        split at h
        ·exact(zV h).1.symm.trans hg
        ·exact(zV h).1.symm.trans hg
       have w2:zw t (shS o P st).at_ (shS o P st).bad=(o+(zw s st.at_ st.bad).1,(zw s st.at_ st.bad).2.1,(zw s st.at_ st.bad).2.2):=by
        show zw t (o+st.at_) st.bad=_
        rw [hb] at u1 ⊢
        rw [(W.name ha u1).2,u1]
       rw [w2,Win.put3 (x:=zw s st.at_ st.bad) rfl] at h'
       simp only at h'
       split at h
       ·rename_i hz
        rw [if_pos hz] at h'
        exact z0d h h' (z7V st.at_ _ _)
       ·rename_i hz
        rw [if_neg hz] at h'
        exact z0d h h' (z7V st.at_ _ _)
  |8,h,h'=>simp [M] at h
  |9,h,h'=>simp [M] at h
  |12,h,h'=>simp [M] at h
  |13,h,h'=>simp [M] at h
  |u+16,h,h'=>simp [M] at h
end
theorem z14 (s:zej): ∀n tag l p c its st r,ML s n tag l p c its st=some r→st.at_≤r.2.at_:=by
 intro n
 induction n with
 |zero=>intro tag l p c its st r h;simp [ML] at h
 |succ n ih=>
  intro tag l p c its st r h
  match tag,h with
  |0,h=>
   rw [z8M] at h
   obtain⟨q,h1,h2⟩:=ze4.1 h
   exact zeg (ih _ _ _ _ _ _ _ h1) (ih _ _ _ _ _ _ _ h2)
  |1,h=>
   rw [z8s] at h
   obtain⟨q,h1,h2⟩:=ze4.1 h
   exact zeg (ih _ _ _ _ _ _ _ h1) (ih _ _ _ _ _ _ _ h2)
  |10,h=>
   rw [z3z] at h
   split at h
   ·obtain⟨q,h1,h2⟩:=ze4.1 h
    obtain⟨q2,h3,h4⟩:=ze4.1 h2
    have k0:=zJ s [124,124] st
    have k1:=ih _ _ _ _ _ _ _ h1
    have k2:=(z0B h3).2
    have k3:=ih _ _ _ _ _ _ _ h4
    omega
   ·cases h;exact ze8 _
  |11,h=>
   rw [z3y] at h
   split at h
   ·obtain⟨q,h1,h2⟩:=ze4.1 h
    obtain⟨q2,h3,h4⟩:=ze4.1 h2
    have k0:=zJ s [38,38] st
    have k1:=ih _ _ _ _ _ _ _ h1
    have k2:=(z0B h3).2
    have k3:=ih _ _ _ _ _ _ _ h4
    omega
   ·cases h;exact ze8 _
  |2,h=>
   rw [z7O] at h
   split at h
   ·obtain⟨q,h1,h2⟩:=ze4.1 h
    cases h2
    exact zeg (zeg (zJ s [40] st) (ih _ _ _ _ _ _ _ h1)) (zJ s [41] q.2)
   ·split at h
    ·exact ih _ _ _ _ _ _ _ h
    ·have k:=(z0B h).2
     rw [k];exact ji _ _ _
  |3,h=>
   rw [z9S] at h
   obtain⟨q,h1,h2⟩:=ze4.1 h
   have k0:=zJ s [45,111,102,40] {st with at_:=st.at_+1}
   have k1:=ih _ _ _ _ _ _ _ h1
   have k2:=ih _ _ _ _ _ _ _ h2
   have k3:st.at_+1≤(sgn s [45,111,102,40] {st with at_:=st.at_+1}).at_:=k0
   omega
  |13,h=>
   rw [z3u] at h
   split at h
   ·split at h
    ·obtain⟨q,h1,h2⟩:=ze4.1 h
     exact zeg (zeg (zJ s [44] st) (ih _ _ _ _ _ _ _ h1)) (ih _ _ _ _ _ _ _ h2)
    ·rw [(z0B h).2];exact zJ s [41] st
   ·cases h
  |4,h=>simp [ML] at h
  |5,h=>simp [ML] at h
  |6,h=>simp [ML] at h
  |7,h=>simp [ML] at h
  |8,h=>simp [ML] at h
  |9,h=>simp [ML] at h
  |12,h=>simp [ML] at h
  |u+14,h=>simp [ML] at h
theorem z1l {s:zej}{n tag:Nat}{l p c:Int}{its:List Int}{st:St}{r:Int×St}(h:ML s n tag l p c its st=some r)(hr:r.2.bad=false)(ht:tag≠3):st.bad=false:=by
 cases hb:st.bad with
 |false=>rfl
 |true=>have:=(z3Y s n tag l p c its st r h ht hb).1;rw [hr] at this;cases this
theorem z2Q {o:Nat}{P st:St}{x y:Lc}{r r':Int×St}(h:z2F st x=some r)(h':z2F (shS o P st) y=some r')(hy:y=shL o P.L.length x):r'=(shi P.L.length r.1,shS o P r.2):=by
 obtain⟨_,rfl⟩:=j5 h
 obtain⟨_,rfl⟩:=j5 h'
 subst hy
 refine Prod.ext ?_ ?_
 ·show(((P.L++st.L.map (shL o P.L.length)).length:Nat):Int)=shi P.L.length (st.L.length:Int)
  rw [z6e,List.length_append,List.length_map]
 ·show({shS o P st with L:=(P.L++st.L.map (shL o P.L.length))++[shL o P.L.length x]}:St)=shS o P {st with L:=st.L++[x]}
  unfold shS
  simp only [List.map_append,List.map_cons,List.map_nil,List.append_assoc]
section
variable {s t:zej} {o k:Nat} {P:St}
theorem zcF (W:Win s t o k): ∀n tag l p c its st r,ML s n tag l p c its st=some r→r.2.bad=false→r.2.at_≤k→(tag=3→zh (pkS s st)=true)→ ∀m l' p' c' its' r',(tag=10∨tag=11→l'=shi P.L.length l)→(tag=13→p'=p+o∧c'=c∧its'=its.map (shi P.L.length))→ML t m tag l' p' c' its' (shS o P st)=some r'→r'=(shi P.L.length r.1,shS o P r.2):=by
 intro n
 induction n with
 |zero=>intro tag l p c its st r h;simp [ML] at h
 |succ n ih=>
  intro tag l p c its st r h hg hk hd m l' p' c' its' r' hl hi h'
  cases m with
  |zero=>simp [ML] at h'
  |succ m=>
  match tag,h,h' with
  |0,h,h'=>
   rw [z8M] at h h'
   obtain⟨q,h1,h2⟩:=ze4.1 h
   obtain⟨q',h1',h2'⟩:=ze4.1 h'
   obtain rfl:=ih _ _ _ _ _ _ _ h1 (z1l h2 hg (by omega)) (zeg (z14 _ _ _ _ _ _ _ _ _ h2) hk) (by omega) _ _ _ _ _ _ (by omega) (by omega) h1'
   exact ih _ _ _ _ _ _ _ h2 hg hk (by omega) _ _ _ _ _ _ (fun _=>rfl) (by omega) h2'
  |1,h,h'=>
   rw [z8s] at h h'
   obtain⟨q,h1,h2⟩:=ze4.1 h
   obtain⟨q',h1',h2'⟩:=ze4.1 h'
   obtain rfl:=ih _ _ _ _ _ _ _ h1 (z1l h2 hg (by omega)) (zeg (z14 _ _ _ _ _ _ _ _ _ h2) hk) (by omega) _ _ _ _ _ _ (by omega) (by omega) h1'
   exact ih _ _ _ _ _ _ _ h2 hg hk (by omega) _ _ _ _ _ _ (fun _=>rfl) (by omega) h2'
  |10,h,h'=>
   have hb:=z1l (tag:=10) h hg (by omega)
   have ha:=zeg (z14 s (n+1) 10 l p c its st r h) hk
   rw [z3z] at h h'
   rw [W.pks hb ha (c:=124) (by decide)] at h'
   obtain rfl:=hl (by omega)
   split at h
   ·rename_i hc
    rw [if_pos hc] at h'
    obtain⟨q,h1,h2⟩:=ze4.1 h
    obtain⟨q2,h3,h4⟩:=ze4.1 h2
    obtain⟨q',h1',h2'⟩:=ze4.1 h'
    obtain⟨q2',h3',h4'⟩:=ze4.1 h2'
    have g2:=z1l h4 hg (by omega)
    have a2:=z14 _ _ _ _ _ _ _ _ _ h4
    obtain⟨e1,e2⟩:=z0B h3
    have g1:q.2.bad=false:=by rw [←e1];exact g2
    have a1:q.2.at_≤k:=by omega
    have g0:=z1l h1 g1 (by omega)
    have a0:=z14 _ _ _ _ _ _ _ _ _ h1
    rw [W.sgn hb g0 (by omega)] at h1'
    obtain rfl:=ih _ _ _ _ _ _ _ h1 g1 a1 (by omega) _ _ _ _ _ _ (by omega) (by omega) h1'
    obtain rfl:=z2Q h3 h3' (by simp [shL])
    exact ih _ _ _ _ _ _ _ h4 hg hk (by omega) _ _ _ _ _ _ (fun _=>rfl) (by omega) h4'
   ·rename_i hc
    rw [if_neg hc] at h'
    cases h;cases h';rfl
  |11,h,h'=>
   have hb:=z1l (tag:=11) h hg (by omega)
   have ha:=zeg (z14 s (n+1) 11 l p c its st r h) hk
   rw [z3y] at h h'
   rw [W.pks hb ha (c:=38) (by decide)] at h'
   obtain rfl:=hl (by omega)
   split at h
   ·rename_i hc
    rw [if_pos hc] at h'
    obtain⟨q,h1,h2⟩:=ze4.1 h
    obtain⟨q2,h3,h4⟩:=ze4.1 h2
    obtain⟨q',h1',h2'⟩:=ze4.1 h'
    obtain⟨q2',h3',h4'⟩:=ze4.1 h2'
    have g2:=z1l h4 hg (by omega)
    have a2:=z14 _ _ _ _ _ _ _ _ _ h4
    obtain⟨e1,e2⟩:=z0B h3
    have g1:q.2.bad=false:=by rw [←e1];exact g2
    have a1:q.2.at_≤k:=by omega
    have g0:=z1l h1 g1 (by omega)
    have a0:=z14 _ _ _ _ _ _ _ _ _ h1
    rw [W.sgn hb g0 (by omega)] at h1'
    obtain rfl:=ih _ _ _ _ _ _ _ h1 g1 a1 (by omega) _ _ _ _ _ _ (by omega) (by omega) h1'
    obtain rfl:=z2Q h3 h3' (by simp [shL])
    exact ih _ _ _ _ _ _ _ h4 hg hk (by omega) _ _ _ _ _ _ (fun _=>rfl) (by omega) h4'
   ·rename_i hc
    rw [if_neg hc] at h'
    cases h;cases h';rfl
  |2,h,h'=>
   have hb:=z1l (tag:=2) h hg (by omega)
   have ha:=zeg (z14 s (n+1) 2 l p c its st r h) hk
   rw [z7O] at h h'
   rw [W.pks hb ha (c:=40) (by decide),W.pkd hb ha] at h'
   split at h
   ·rename_i hz
    rw [if_pos hz] at h'
    obtain⟨q,h1,h2⟩:=ze4.1 h
    obtain⟨q',h1',h2'⟩:=ze4.1 h'
    cases h2
    cases h2'
    have g1:=z1p hg
    have a1:q.2.at_≤k:=zeg (zJ s [41] q.2) hk
    have g0:=z1l h1 g1 (by omega)
    have a0:=z14 _ _ _ _ _ _ _ _ _ h1
    rw [W.sgn hb g0 (by omega)] at h1'
    obtain rfl:=ih _ _ _ _ _ _ _ h1 g1 a1 (by omega) _ _ _ _ _ _ (by omega) (by omega) h1'
    simp only
    rw [W.sgn g1 hg hk]
   ·rename_i hz
    rw [if_neg hz] at h'
    split at h
    ·rename_i hz
     rw [if_pos hz] at h'
     exact ih _ _ _ _ _ _ _ h hg hk (fun _=>hz) _ _ _ _ _ _ (by omega) (by omega) h'
    ·rename_i hz
     rw [if_neg hz] at h'
     simp only at h h'
     have u1:(zw s st.at_ st.bad).2.1=false:=(z0B h).1.symm.trans hg
     have w2:zw t (shS o P st).at_ (shS o P st).bad=(o+(zw s st.at_ st.bad).1,(zw s st.at_ st.bad).2.1,(zw s st.at_ st.bad).2.2):=by
      show zw t (o+st.at_) st.bad=_
      rw [hb] at u1 ⊢
      rw [(W.name ha u1).2,u1]
     rw [w2,Win.put3 (x:=zw s st.at_ st.bad) rfl] at h'
     exact z2Q h h' (by simp [shL,z41])
  |3,h,h'=>
   have hd':=hd rfl
   have hb:st.bad=false:=by
    cases hq:st.bad with
    |false=>rfl
    |true=>rw [z2j hq] at hd';cases hd'
   have ha:=zeg (z14 s (n+1) 3 l p c its st r h) hk
   have hlt:st.at_<k:=by
    rcases Nat.lt_or_ge st.at_ k with h|h
    ·exact h
    ·have e:st.at_=k:=by omega
     unfold pkS at hd'
     rw [hb,e,z2d.st_ W.sp] at hd'
     cases hd'
   rw [z9S] at h h'
   have ep:pkS t (shS o P st)=pkS s st:=by
    unfold pkS
    show pk t (o+st.at_) st.bad=_
    rw [hb];exact W.eq _ hlt
   rw [ep] at h'
   obtain⟨q,h1,h2⟩:=ze4.1 h
   obtain⟨q',h1',h2'⟩:=ze4.1 h'
   have g1:=z1l h2 hg (by omega)
   have a1:=z14 _ _ _ _ _ _ _ _ _ h2
   have g0:=z1l h1 g1 (by omega)
   have a0:=z14 _ _ _ _ _ _ _ _ _ h1
   rw [show({shS o P st with at_:=(shS o P st).at_+1}:St)=shS o P {st with at_:=st.at_+1} by unfold shS;simp only [Nat.add_assoc],W.sgn (st:={st with at_:=st.at_+1}) hb g0 (by omega)] at h1'
   obtain rfl:=ih _ _ _ _ _ _ _ h1 g1 (by omega) (by omega) _ _ _ _ _ _ (by omega) (by omega) h1'
   exact ih _ _ _ _ _ _ _ h2 hg hk (by omega) _ _ _ _ _ _ (by omega) (fun _=>⟨by show((o+st.at_:Nat):Int)=_;omega,rfl,rfl⟩) h2'
  |13,h,h'=>
   have hb:=z1l (tag:=13) h hg (by omega)
   have ha:=zeg (z14 s (n+1) 13 l p c its st r h) hk
   obtain⟨rfl,rfl,rfl⟩:=hi rfl
   rw [z3u] at h h'
   rw [W.pks hb ha (c:=44) (by decide),List.length_map] at h'
   split at h
   ·rename_i hz
    rw [if_pos hz] at h'
    split at h
    ·rename_i hz
     rw [if_pos hz] at h'
     obtain⟨q,h1,h2⟩:=ze4.1 h
     obtain⟨q',h1',h2'⟩:=ze4.1 h'
     have g1:=z1l h2 hg (by omega)
     have a1:=z14 _ _ _ _ _ _ _ _ _ h2
     have g0:=z1l h1 g1 (by omega)
     have a0:=z14 _ _ _ _ _ _ _ _ _ h1
     rw [W.sgn hb g0 (by omega)] at h1'
     obtain rfl:=ih _ _ _ _ _ _ _ h1 g1 (by omega) (by omega) _ _ _ _ _ _ (by omega) (by omega) h1'
     exact ih _ _ _ _ _ _ _ h2 hg hk (by omega) _ _ _ _ _ _ (by omega) (fun _=>⟨rfl,rfl,by simp⟩) h2'
    ·rename_i hz
     rw [if_neg hz] at h'
     obtain⟨e1,e2⟩:=z0B h
     rw [W.sgn hb (e1.symm.trans hg) (by omega)] at h'
     exact z2Q h h' (by simp [shL,z41])
   ·cases h
  |4,h,h'=>simp [ML] at h
  |5,h,h'=>simp [ML] at h
  |6,h,h'=>simp [ML] at h
  |7,h,h'=>simp [ML] at h
  |8,h,h'=>simp [ML] at h
  |9,h,h'=>simp [ML] at h
  |12,h,h'=>simp [ML] at h
  |u+14,h,h'=>simp [ML] at h
end
theorem z58 {s:zej}{n tag:Nat}{cls:List Cl}{st:St}{r:Int×Cl×St}(h:MC s n tag cls st=some r)(hr:r.2.2.bad=false):st.bad=false:=by
 cases hb:st.bad with
 |false=>rfl
 |true=>have:=(z5C s n tag cls st r h hb).1;rw [hr] at this;cases this
theorem z9x {o:Nat}{P st:St}{x y:List Cl}{r r':Int×St}(h:z7R st x=some r)(h':z7R (shS o P st) y=some r')(hy:y=x.map (z3h P.E.length P.C.length)):r'=(shi P.C.length r.1,shS o P r.2):=by
 obtain⟨_,rfl⟩:=jB h
 obtain⟨_,rfl⟩:=jB h'
 subst hy
 refine Prod.ext ?_ ?_
 ·show(((P.C++st.C.map fun c=>c.map (z3h P.E.length P.C.length)).length:Nat):Int)=shi P.C.length (st.C.length:Int)
  rw [z6e,List.length_append,List.length_map]
 ·show({shS o P st with C:=(P.C++st.C.map fun c=>c.map (z3h P.E.length P.C.length))++[x.map (z3h P.E.length P.C.length)]}:St)=shS o P {st with C:=st.C++[x]}
  unfold shS
  simp only [List.map_append,List.map_cons,List.map_nil,List.append_assoc]
section
variable {s t:zej} {o k:Nat} {P:St}
theorem zcT (W:Win s t o k): ∀n tag cls st r,MC s n tag cls st=some r→r.2.2.bad=false→r.2.2.at_≤k→ ∀m cls' r',(tag=2→cls'=cls.map (z3h P.E.length P.C.length))→MC t m tag cls' (shS o P st)=some r'→r'.2.2=shS o P r.2.2∧(tag≠1→r'.1=shi P.C.length r.1)∧(tag=1→r'.2.1=z3h P.E.length P.C.length r.2.1):=by
 intro n
 induction n with
 |zero=>intro tag cls st r h;simp [MC] at h
 |succ n ih=>
  intro tag cls st r h hg hk m cls' r' hc h'
  cases m with
  |zero=>simp [MC] at h'
  |succ m=>
  match tag,h,h' with
  |0,h,h'=>
   rw [z7N] at h h'
   obtain⟨q,h1,h2⟩:=ze4.1 h
   obtain⟨q',h1',h2'⟩:=ze4.1 h'
   obtain⟨k1,_,k3⟩:=ih _ _ _ _ h1 (z58 h2 hg) (zeg (z4z _ _ _ _ _ _ h2) hk) _ _ _ (by omega) h1'
   rw [k1,k3 rfl] at h2'
   obtain⟨j1,j2,_⟩:=ih _ _ _ _ h2 hg hk _ _ _ (fun _=>rfl) h2'
   exact⟨j1,fun _=>j2 (by omega),fun h=>by omega⟩
  |2,h,h'=>
   have hb:=z58 h hg
   have ha:=zeg (z4z _ _ _ _ _ _ h) hk
   obtain rfl:=hc rfl
   rw [z7S] at h h'
   rw [W.pks hb ha (c:=59) (by decide),List.length_map] at h'
   split at h
   ·rename_i hz
    rw [if_pos hz] at h'
    split at h
    ·rename_i hz
     rw [if_pos hz] at h'
     obtain⟨q,h1,h2⟩:=ze4.1 h
     obtain⟨q',h1',h2'⟩:=ze4.1 h'
     have g1:=z58 h2 hg
     have a1:=z4z _ _ _ _ _ _ h2
     have g0:=z58 h1 g1
     have a0:=z4z _ _ _ _ _ _ h1
     rw [W.sgn hb g0 (by omega)] at h1'
     obtain⟨k1,_,k3⟩:=ih _ _ _ _ h1 g1 (by omega) _ _ _ (by omega) h1'
     rw [k1,k3 rfl] at h2'
     obtain⟨j1,j2,_⟩:=ih _ _ _ _ h2 hg hk _ _ _ (fun _=>by simp) h2'
     exact⟨j1,fun _=>j2 (by omega),fun h=>by omega⟩
    ·rename_i hz
     rw [if_neg hz] at h'
     obtain⟨q,h1,h2⟩:=ze4.1 h
     obtain⟨q',h1',h2'⟩:=ze4.1 h'
     cases h2
     cases h2'
     obtain rfl:=z9x h1 h1' rfl
     exact⟨rfl,fun _=>rfl,fun h=>by omega⟩
   ·cases h
  |1,h,h'=>
   rw [zbs] at h h'
   obtain⟨q,h1,h2⟩:=ze4.1 h
   obtain⟨q',h1',h2'⟩:=ze4.1 h'
   obtain⟨u,h3,h4⟩:=ze4.1 h2
   obtain⟨u',h3',h4'⟩:=ze4.1 h2'
   obtain⟨e1,e2⟩:=zV h3
   have hu:u.2.bad=false∧u.2.at_≤k:=by
    split at h4
    ·cases h4;exact⟨hg,hk⟩
    ·simp only at h4
     have k0:=zJ s [45,62] u.2
     split at h4
     ·obtain⟨v,h5,h6⟩:=ze4.1 h4
      cases h6
      have g1:=z1p hg
      have g2:=z58 h5 g1
      have a1:=zJ s [125] v.2.2
      have a2:=z4z _ _ _ _ _ _ h5
      have a3:=zJ s [123] (sgn s [45,62] u.2)
      have hk':(sgn s [125] v.2.2).at_≤k:=hk
      exact⟨z1p (z1p g2),by omega⟩
     ·cases h4
      have a1:=ji s (sgn s [45,62] u.2).at_ (sgn s [45,62] u.2).bad
      have hk':(zw s (sgn s [45,62] u.2).at_ (sgn s [45,62] u.2).bad).1≤k:=hk
      exact⟨z1p (z4M hg),by omega⟩
   obtain⟨hub,hua⟩:=hu
   have g1:q.2.bad=false:=by rw [←e1];exact hub
   obtain rfl:=zdh (P:=P) W _ _ _ _ _ h1 g1 (by omega) _ _ _ (by omega) h1'
   obtain rfl:=z0d h3 h3' (zbe st.at_ _ _ _)
   simp only at h4'
   have ear:zM t (shS o P u.2).at_ (shS o P u.2).bad=zM s u.2.at_ u.2.bad:=by
    show zM t (o+u.2.at_) u.2.bad=_
    rw [hub];exact W.arrow hua
   rw [ear] at h4'
   split at h4
   ·rename_i hz
    rw [if_pos hz] at h4'
    cases h4;cases h4'
    exact⟨rfl,fun h=>absurd rfl h,fun _=>by simp [z3h,z41]⟩
   ·rename_i hz
    rw [if_neg hz] at h4'
    simp only at h4 h4'
    have hs:(sgn s [45,62] u.2).bad=false∧(sgn s [45,62] u.2).at_≤k:=by
     split at h4
     ·obtain⟨v,h5,h6⟩:=ze4.1 h4
      cases h6
      have g1:=z1p hg
      have g2:=z58 h5 g1
      have a1:=zJ s [125] v.2.2
      have a2:=z4z _ _ _ _ _ _ h5
      have a3:=zJ s [123] (sgn s [45,62] u.2)
      have hk':(sgn s [125] v.2.2).at_≤k:=hk
      exact⟨z1p g2,by omega⟩
     ·cases h4
      have a1:=ji s (sgn s [45,62] u.2).at_ (sgn s [45,62] u.2).bad
      have hk':(zw s (sgn s [45,62] u.2).at_ (sgn s [45,62] u.2).bad).1≤k:=hk
      exact⟨z4M hg,by omega⟩
    obtain⟨hs1,hs2⟩:=hs
    rw [W.sgn hub hs1 hs2,W.pks hs1 hs2 (c:=123) (by decide)] at h4'
    split at h4
    ·rename_i hz
     rw [if_pos hz] at h4'
     obtain⟨v,h5,h6⟩:=ze4.1 h4
     obtain⟨v',h5',h6'⟩:=ze4.1 h4'
     cases h6
     cases h6'
     have g1:=z1p hg
     have a1:=zJ s [125] v.2.2
     have hk':(sgn s [125] v.2.2).at_≤k:=hk
     have g2:=z58 h5 g1
     have a2:=z4z _ _ _ _ _ _ h5
     rw [W.sgn hs1 g2 (by omega)] at h5'
     obtain⟨k1,k2,_⟩:=ih _ _ _ _ h5 g1 (by omega) _ _ _ (by omega) h5'
     refine⟨?_,fun h=>absurd rfl h,fun _=> ?_⟩
     ·show sgn t [125] v'.2.2=_
      rw [k1,W.sgn g1 hg hk]
     ·show(⟨shi P.E.length u.1,2,⟨#[]⟩,v'.1⟩:Cl)=_
      rw [k2 (by omega)]
      simp [z3h]
    ·rename_i hz
     rw [if_neg hz] at h4'
     cases h4
     have u1:(zw s (sgn s [45,62] u.2).at_ (sgn s [45,62] u.2).bad).2.1=false:=hg
     have w2:zw t (shS o P (sgn s [45,62] u.2)).at_ (shS o P (sgn s [45,62] u.2)).bad=(o+(zw s (sgn s [45,62] u.2).at_ (sgn s [45,62] u.2).bad).1,(zw s (sgn s [45,62] u.2).at_ (sgn s [45,62] u.2).bad).2.1,(zw s (sgn s [45,62] u.2).at_ (sgn s [45,62] u.2).bad).2.2):=by
      show zw t (o+(sgn s [45,62] u.2).at_) (sgn s [45,62] u.2).bad=_
      rw [hs1] at u1 ⊢
      rw [(W.name hs2 u1).2,u1]
     rw [w2,Win.put3 (x:=zw s (sgn s [45,62] u.2).at_ (sgn s [45,62] u.2).bad) rfl] at h4'
     cases h4'
     exact⟨rfl,fun h=>absurd rfl h,fun _=>by simp [z3h,z41]⟩
  |u+3,h,h'=>simp [MC] at h
end
theorem z2q {s:zej}{c:UInt8}{cs:List UInt8}{st:St}(h:(wrd s (c::cs) st).bad=false):st.bad=false:=by
 cases hb:st.bad with
 |false=>rfl
 |true=>rw [(z0C hb).1] at h;cases h
theorem z5T {s:zej}{c:UInt8}{st:St}(h:(wrd s [c] st).bad=false):(wrd s [c] st).at_=st.at_+1∧pk s st.at_ false=(c.toNat:Int):=by
 have hb:=z2q h
 unfold wrd St.put at h ⊢
 rw [hb] at h ⊢
 simp only at h ⊢
 refine⟨z73 h,?_⟩
 unfold zs at h
 split at h
 ·assumption
 ·cases h
theorem z2Z {s:zej}{c:UInt8}{cs:List UInt8}{st:St}(h:(zr s (c::cs) st).bad=false):(wrd s (c::cs) st).bad=false∧st.bad=false:=by
 have:=z1p (c:=32) (cs:=[]) h
 exact⟨this,z2q this⟩
theorem z33 (s:zej)(l:List UInt8)(st:St):(wrd s l st).at_≤(zr s l st).at_:=zJ s [32] (wrd s l st)
theorem zam {o:Nat}{P st:St}{x y:As}{r r':St}(h:zaB st x=some r)(h':zaB (shS o P st) y=some r')(hy:y=shA P.L.length P.C.length x):r'=shS o P r:=by
 obtain⟨_,rfl⟩:=jo h
 obtain⟨_,rfl⟩:=jo h'
 subst hy
 show({shS o P st with A:=(P.A++st.A.map (shA P.L.length P.C.length))++[shA P.L.length P.C.length x]}:St)=shS o P {st with A:=st.A++[x]}
 unfold shS
 simp only [List.map_append,List.map_cons,List.map_nil,List.append_assoc]
section
variable {s t:zej} {o k:Nat} {P:St}
theorem Win.lst (W:Win s t o k){c:UInt8}{cs:List UInt8}{st:St}(h1:(zr s (c::cs) st).bad=false)(h2:(zr s (c::cs) st).at_≤k):zr t (c::cs) (shS o P st)=shS o P (zr s (c::cs) st):=by
 obtain⟨g1,g0⟩:=z2Z h1
 have a1:=z33 s (c::cs) st
 unfold zr
 rw [W.wrd g0 g1 (by omega)]
 exact W.sgn g1 h1 h2
theorem zcH (W:Win s t o k)(he:pk t (o+k) false=pk s k false){st:St}(h1:(wrd s [10] st).bad=false)(h2:(wrd s [10] st).at_≤k+1):wrd t [10] (shS o P st)=shS o P (wrd s [10] st):=by
 have hb:=z2q h1
 obtain⟨e1,e2⟩:=z5T h1
 have e3:pk t (o+st.at_) false=((10:UInt8).toNat:Int):=by
  by_cases e:st.at_=k
  ·rw [e,he,←e];exact e2
  ·rw [W.eq _ (by omega)];exact e2
 unfold wrd St.put
 rw [show(shS o P st).bad=false from hb,hb]
 have w1:zs s false [10] st.at_=(st.at_+1,false):=by unfold zs;rw [if_pos e2];rfl
 have w2:zs t false [10] (shS o P st).at_=(o+st.at_+1,false):=by
  show zs t false [10] (o+st.at_)=_
  unfold zs;rw [if_pos e3];rfl
 rw [w1,w2]
 unfold shS
 simp only [Nat.add_assoc]
theorem zaQ (W:Win s t o k)(he:pk t (o+k) false=pk s k false){n m:Nat}{st u u':St}(h:MA s n st=some u)(hg:u.bad=false)(hk:u.at_≤k+1)(h':MA t m (shS o P st)=some u'):u'=shS o P u:=by
 unfold MA at h h'
 simp only at h h'
 obtain⟨q,h1,h2⟩:=ze4.1 h
 obtain⟨v,h3,h4⟩:=ze4.1 h2
 obtain⟨q',h1',h2'⟩:=ze4.1 h'
 obtain⟨v',h3',h4'⟩:=ze4.1 h2'
 have eu:=(jo h4).2
 have g5:(wrd s [10] v.2.2).bad=false:=by rw [eu] at hg;exact hg
 have a5:(wrd s [10] v.2.2).at_≤k+1:=by rw [eu] at hk;exact hk
 have g4:=z2q g5
 have a4:=(z5T g5).1
 have g3:=z58 h3 g4
 have a3:=z4z _ _ _ _ _ _ h3
 obtain⟨g2,_⟩:=z2Z g3
 have a2:=z33 s [105,102] (wrd s [10] q.2)
 have a2':=jW s [105,102] (wrd s [10] q.2)
 have g1:=z2q g2
 have g0:=z2q g1
 have a1:=jW s [10] q.2
 have gd:=z1l h1 g0 (by omega)
 have ad:=z14 _ _ _ _ _ _ _ _ _ h1
 obtain⟨gw,_⟩:=z2Z gd
 have gw2:=z2q gw
 have aw:=z33 s [116,111] (wrd s [10] ((zr s [98,121] st).put3 (zw s (zr s [98,121] st).at_ (zr s [98,121] st).bad)))
 have aw':=jW s [116,111] (wrd s [10] ((zr s [98,121] st).put3 (zw s (zr s [98,121] st).at_ (zr s [98,121] st).bad)))
 have gp:=z2q gw2
 have ap:=jW s [10] ((zr s [98,121] st).put3 (zw s (zr s [98,121] st).at_ (zr s [98,121] st).bad))
 have gn:(zw s (zr s [98,121] st).at_ (zr s [98,121] st).bad).2.1=false:=gp
 have an:(zw s (zr s [98,121] st).at_ (zr s [98,121] st).bad).1≤(wrd s [10] ((zr s [98,121] st).put3 (zw s (zr s [98,121] st).at_ (zr s [98,121] st).bad))).at_:=ap
 have ga:=z4M gn
 have aa:=ji s (zr s [98,121] st).at_ (zr s [98,121] st).bad
 rw [W.lst ga (by omega)] at h1' h4'
 have w2:zw t (shS o P (zr s [98,121] st)).at_ (shS o P (zr s [98,121] st)).bad=(o+(zw s (zr s [98,121] st).at_ (zr s [98,121] st).bad).1,(zw s (zr s [98,121] st).at_ (zr s [98,121] st).bad).2.1,(zw s (zr s [98,121] st).at_ (zr s [98,121] st).bad).2.2):=by
  show zw t (o+(zr s [98,121] st).at_) (zr s [98,121] st).bad=_
  rw [ga] at gn ⊢
  rw [(W.name (by omega) gn).2,gn]
 rw [w2,Win.put3 (x:=zw s (zr s [98,121] st).at_ (zr s [98,121] st).bad) rfl,W.wrd gp gw2 (by omega),W.lst gd (by omega)] at h1'
 obtain rfl:=zcF (P:=P) W _ _ _ _ _ _ _ _ h1 g0 (by omega) (by omega) _ _ _ _ _ _ (by omega) (by omega) h1'
 rw [W.wrd g0 g1 (by omega),W.lst g3 (by omega)] at h3'
 obtain⟨k1,k2,_⟩:=zcT (P:=P) W _ _ _ _ _ h3 g4 (by omega) _ _ _ (by omega) h3'
 rw [k1,k2 (by omega),zcH W he g5 a5,w2] at h4'
 exact zam h4 h4' rfl
end
theorem z4j (i:Int):shi 0 i=i:=by unfold shi;split<;>omega
theorem zdl (x:Ex):shE 0 0 x=x:=by unfold shE;rw [z4j,z4j];simp
theorem z27 {α:Type}{f:α→α}(h: ∀x,f x=x)(l:List α):l.map f=l:=by
 induction l with
 |nil=>rfl
 |cons x l ih=>rw [List.map_cons,h,ih]
theorem zdn (x:Lc):shL 0 0 x=x:=by
 unfold shL
 rw [z4j,z4j,z27 z4j]
 simp
theorem zc3 (x:Cl):z3h 0 0 x=x:=by unfold z3h;rw [z4j,z4j]
theorem zdv (x:As):shA 0 0 x=x:=by unfold shA;rw [z4j,z4j]
theorem zd0 (st:St):shS 0 st0 st=st:=by
 unfold shS
 show(⟨0+st.at_,st.bad,[]++st.A.map (shA 0 0),[]++st.L.map (shL 0 0),[]++st.E.map (shE 0 0),[]++st.C.map fun c=>c.map (z3h 0 0)⟩:St)=st
 rw [z27 zdv,z27 zdn,z27 zdl,z27 (fun c=>z27 zc3 c)]
 simp
theorem zaS (o:Nat)(u:St)(h:u.bad=false)(ha:u.at_=o):shS o u st0=u:=by
 unfold shS
 show(⟨o+0,false,u.A++[],u.L++[],u.E++[],u.C++[]⟩:St)=u
 simp only [List.append_nil,Nat.add_zero]
 rw [←ha,←h]
theorem zcN {s:zej}{a:Nat}{c:UInt8}(h:pk s a false=(c.toNat:Int)):a<s.size:=(jT (s:=s) (a:=a) (d:=false) (by rw [h];omega)).2
theorem zas {s:zej}{n:Nat}{st u:St}(h:MA s n st=some u)(hg:u.bad=false):1≤u.at_∧u.at_≤s.size∧pk s (u.at_ - 1) false=10:=by
 unfold MA at h
 simp only at h
 obtain⟨q,h1,h2⟩:=ze4.1 h
 obtain⟨v,h3,h4⟩:=ze4.1 h2
 have eu:=(jo h4).2
 have g5:(wrd s [10] v.2.2).bad=false:=by rw [eu] at hg;exact hg
 obtain⟨e1,e2⟩:=z5T g5
 have ea:u.at_=v.2.2.at_+1:=by rw [eu];exact e1
 have hlt:=zcN e2
 refine⟨by omega,by omega,?_⟩
 rw [ea]
 exact e2
theorem z6V {s:zej}{n:Nat}{st u:St}(h:MR s n st=some u)(hb:st.bad=true):u=st:=by
 cases n with
 |zero=>simp [MR] at h
 |succ n=>
  unfold MR at h
  rw [hb] at h
  simpa using h.symm
theorem zaE {s t:zej}(hs:s.size≤t.size)(he: ∀a,a<s.size→pk t a false=pk s a false): ∀n st u,MR s n st=some u→u.bad=false→st.at_≤s.size→u.at_=s.size∧ ∀m r,MR t m st=some r→ ∃m',MR t m' u=some r:=by
 intro n
 induction n with
 |zero=>intro st u h;simp [MR] at h
 |succ n ih=>
  intro st u h hg ha
  have hb:st.bad=false:=by
   cases hb:st.bad with
   |false=>rfl
   |true=>rw [z6V h hb,hb] at hg;cases hg
  unfold MR at h
  rw [hb] at h
  by_cases hlt:st.at_<s.size
  ·rw [if_pos (by simp [hlt])] at h
   obtain⟨w,h1,h2⟩:=ze4.1 h
   have hw:w.bad=false:=by
    cases hq:w.bad with
    |false=>rfl
    |true=>rw [z6V h2 hq,hq] at hg;cases hg
   obtain⟨w1,w2,w3⟩:=zas h1 hw
   obtain⟨k1,k2⟩:=ih w u h2 hg w2
   refine⟨k1,fun m r hr=> ?_⟩
   cases m with
   |zero=>simp [MR] at hr
   |succ m=>
    unfold MR at hr
    rw [hb,if_pos (by simp;omega)] at hr
    obtain⟨w',j1,j2⟩:=ze4.1 hr
    have W:Win s t 0 (w.at_ - 1):=⟨fun a h=>by rw [Nat.zero_add];exact he a (by omega),by rw [w3];rfl,by rw [Nat.zero_add,he _ (by omega),w3];rfl,by omega⟩
    have:=zaQ (P:=st0) W (by rw [Nat.zero_add];exact he _ (by omega)) h1 hw (by omega) (by rw [zd0];exact j1)
    rw [zd0] at this
    subst this
    exact k2 m r j2
  ·rw [if_neg (by simp [hlt])] at h
   cases h
   exact⟨by omega,fun m r hr=>⟨m,hr⟩⟩
theorem zcL {p t:zej}{o:Nat}{P:St}(hs:t.size=o+p.size)(he: ∀a,pk t (o+a) false=pk p a false): ∀n st u,MR p n st=some u→u.bad=false→ ∀m r,MR t m (shS o P st)=some r→r=shS o P u:=by
 intro n
 induction n with
 |zero=>intro st u h;simp [MR] at h
 |succ n ih=>
  intro st u h hg m r hr
  have hb:st.bad=false:=by
   cases hb:st.bad with
   |false=>rfl
   |true=>rw [z6V h hb,hb] at hg;cases hg
  cases m with
  |zero=>simp [MR] at hr
  |succ m=>
  unfold MR at h hr
  rw [hb] at h
  rw [show(shS o P st).bad=false from hb,show(shS o P st).at_=o+st.at_ from rfl] at hr
  by_cases hlt:st.at_<p.size
  ·rw [if_pos (by simp [hlt])] at h
   rw [if_pos (by simp;omega)] at hr
   obtain⟨w,h1,h2⟩:=ze4.1 h
   obtain⟨w',j1,j2⟩:=ze4.1 hr
   have hw:w.bad=false:=by
    cases hq:w.bad with
    |false=>rfl
    |true=>rw [z6V h2 hq,hq] at hg;cases hg
   obtain⟨w1,w2,w3⟩:=zas h1 hw
   have hend:pk p p.size false= -1:=by unfold pk;rw [if_neg (by decide),dif_neg (Nat.lt_irrefl _)]
   have W:Win p t o p.size:=⟨fun a _=>he a,by rw [hend];rfl,by rw [he,hend];rfl,ze8 _⟩
   obtain rfl:=zaQ (P:=P) W (he _) h1 hw (by omega) j1
   exact ih w u h2 hg m r j2
  ·rw [if_neg (by simp [hlt])] at h
   rw [if_neg (by simp;omega)] at hr
   cases h;cases hr;rfl
theorem zb7 (s p:zej)(a:Nat)(h:a<s.size):pk (s++p) a false=pk s a false:=by
 have h1:a<(s++p).size:=by rw [ByteArray.size_append];omega
 rw [z2g h,z2g h1,ByteArray.getElem_append_left h]
theorem zbG (s p:zej)(a:Nat):pk (s++p) (s.size+a) false=pk p a false:=by
 by_cases h:a<p.size
 ·have h1:s.size+a<(s++p).size:=by rw [ByteArray.size_append];omega
  rw [z2g h,z2g h1,ByteArray.getElem_append_right (by omega)]
  congr 3
  omega
 ·unfold pk
  rw [if_neg (by decide),if_neg (by decide),dif_neg h,dif_neg (by rw [ByteArray.size_append];omega)]
theorem zaU {s p:zej}{n m l:Nat}{u v r:St}(h1:MR s n st0=some u)(hu:u.bad=false)(h2:MR p m st0=some v)(hv:v.bad=false)(h3:MR (s++p) l st0=some r):r=shS s.size u v:=by
 obtain⟨e,k⟩:=zaE (t:=s++p) (by rw [ByteArray.size_append];omega) (zb7 s p) n st0 u h1 hu (zef _)
 obtain⟨m',h4⟩:=k l r h3
 exact zcL (o:=s.size) (P:=u) (by rw [ByteArray.size_append]) (zbG s p) m st0 v h2 hv m' r (by rw [zaS _ _ hu e];exact h4)
theorem z2D (pre ls:List Int)(i:Int):zd (pre++ls) (shi pre.length i)=zd ls i:=by
 unfold shi
 by_cases h:i<0
 ·rw [if_pos h,z1o h,z1o h]
 ·rw [if_neg h]
  obtain⟨j,rfl⟩:=Int.eq_ofNat_of_zero_le (show 0≤i by omega)
  rw [show(j:Int)+(pre.length:Int)=((pre.length+j:Nat):Int) by omega,z0l,if_neg (by omega),Nat.add_sub_cancel_left]
theorem z6R {pre ls:List Int}{i:Int}(h:i<pre.length):zd (pre++ls) i=zd pre i:=by
 by_cases h0:i<0
 ·rw [z1o h0,z1o h0]
 ·obtain⟨j,rfl⟩:=Int.eq_ofNat_of_zero_le (show 0≤i by omega)
  rw [z0l,if_pos (by omega)]
theorem z8I (pre ws:List Wt)(i:Int):wAt (pre++ws) (shi pre.length i)=wAt ws i:=by
 unfold wAt shi
 by_cases h:i<0
 ·rw [if_pos h,if_pos h,if_pos h]
 ·rw [if_neg h,if_neg h,if_neg (by omega),List.getD_eq_getElem?_getD,List.getD_eq_getElem?_getD,List.getElem?_append_right (by omega),show(i+(pre.length:Int)).toNat - pre.length=i.toNat by omega]
theorem zaX {pre ws:List Wt}{i:Int}(h:i<pre.length):wAt (pre++ws) i=wAt pre i:=by
 unfold wAt
 by_cases h0:i<0
 ·rw [if_pos h0,if_pos h0]
 ·rw [if_neg h0,if_neg h0,List.getD_eq_getElem?_getD,List.getD_eq_getElem?_getD,List.getElem?_append_left (by omega)]
theorem z9j (pre ls:List Int)(lev:Int): ∀(is:List Int) (c:Int),z2o (pre++ls) lev (is.map (shi pre.length)) c=z2o ls lev is c:=by
 intro is
 induction is with
 |nil=>intro c;rfl
 |cons i is ih=>intro c;rw [List.map_cons];unfold z2o;rw [z2D,ih]
theorem zaT (pre ls is:List Int)(k:Int): ∀n:Nat,cdM (pre++ls) (is.map (shi pre.length)) k n=cdM ls is k n:=by
 intro n
 induction n with
 |zero=>rfl
 |succ n ih=>unfold cdM;rw [z9j,ih]
theorem zbI (sg:zej→Int)(top o:Nat)(pre ls:List Int)(x:Lc):llM sg top (pre++ls) (shL o pre.length x)=llM sg top ls x:=by
 unfold llM shL
 simp only [z2D,zaT]
theorem z9G (sg:zej→Int)(top o:Nat)(pre:List Int): ∀(xs:List Lc) (ls:List Int),jr sg top (xs.map (shL o pre.length)) (pre++ls)=pre++jr sg top xs ls:=by
 intro xs
 induction xs with
 |nil=>intro ls;rfl
 |cons x xs ih=>intro ls;rw [List.map_cons];unfold jr;rw [zbI,List.append_assoc,ih]
theorem z2O (sg:zej→Int)(top o:Nat)(L1 L2:List Lc):jr sg top (L1++L2.map (shL o L1.length)) []=jr sg top L1 []++jr sg top L2 []:=by
 have e:(jr sg top L1 []).length=L1.length:=by rw [jq];simp
 rw [z1C,←e]
 have:=z9G sg top o (jr sg top L1 []) L2 []
 rw [List.append_nil] at this
 exact this
theorem z5Y (l:List (zej×zej))(o:Nat)(pre:List Wt): ∀(xs:List Ex) (ws:List Wt),zg l (xs.map (shE o pre.length)) (pre++ws)=pre++zg l xs ws:=by
 intro xs
 induction xs with
 |nil=>intro ws;rfl
 |cons x xs ih=>
  intro ws
  rw [List.map_cons]
  unfold zg
  have e:wOf l (shE o pre.length x) (wAt (pre++ws) (shE o pre.length x).left) (wAt (pre++ws) (shE o pre.length x).right)=wOf l x (wAt ws x.left) (wAt ws x.right):=by
   unfold shE wOf
   simp only [z8I]
  rw [e,List.append_assoc,ih]
theorem z6t (l:List (zej×zej))(o:Nat)(E1 E2:List Ex):zg l (E1++E2.map (shE o E1.length)) []=zg l E1 []++zg l E2 []:=by
 have e:(zg l E1 []).length=E1.length:=by rw [j4];simp
 rw [z02,←e]
 have:=z5Y l o (zg l E1 []) E2 []
 rw [List.append_nil] at this
 exact this
theorem zbu (vals:List zej)(n:Nat)(pre ls:List Int)(c:Cl):rlM vals (pre++ls) (z3h n pre.length c)=rlM vals ls c:=by
 unfold rlM z3h
 simp only [z2D]
theorem z7W (vals:List zej)(W1 W2:List Wt)(pre ls:List Int): ∀(cs:List Cl) (h:Int),z0a vals (W1++W2) (pre++ls) (cs.map (z3h W1.length pre.length)) h=z0a vals W2 ls cs h:=by
 intro cs
 induction cs with
 |nil=>intro h;rfl
 |cons c cs ih=>
  intro h
  rw [List.map_cons]
  unfold z0a
  rw [zbu,show(z3h W1.length pre.length c).test=shi W1.length c.test from rfl,z8I,ih]
theorem z9Y (vals:List zej)(W1 W2:List Wt)(pre:List Int): ∀(xs:List (List Cl)) (ls:List Int),z0s vals (W1++W2) (xs.map fun c=>c.map (z3h W1.length pre.length)) (pre++ls)=pre++z0s vals W2 xs ls:=by
 intro xs
 induction xs with
 |nil=>intro ls;rfl
 |cons x xs ih=>intro ls;rw [List.map_cons];unfold z0s;rw [z7W,List.append_assoc,ih]
theorem z8o (vals:List zej)(W1 W2:List Wt)(ls:List Int): ∀(cs:List Cl) (h:Int),(∀c∈cs,c.test<W1.length)→z0a vals (W1++W2) ls cs h=z0a vals W1 ls cs h:=by
 intro cs
 induction cs with
 |nil=>intro h _;rfl
 |cons c cs ih=>
  intro h hc
  unfold z0a
  rw [zaX (hc c List.mem_cons_self),ih _ fun x hx=>hc x (List.mem_cons_of_mem _ hx)]
theorem z9B (vals:List zej)(W1 W2:List Wt): ∀(xs:List (List Cl)) (ls:List Int),(∀cls∈xs,∀c∈cls,c.test<W1.length)→z0s vals (W1++W2) xs ls=z0s vals W1 xs ls:=by
 intro xs
 induction xs with
 |nil=>intro ls _;rfl
 |cons x xs ih=>
  intro ls hc
  unfold z0s
  rw [z8o vals W1 W2 ls x 0 (hc x List.mem_cons_self),ih _ fun y hy=>hc y (List.mem_cons_of_mem _ hy)]
theorem za7 (vals:List zej)(W1 W2:List Wt)(C1 C2:List (List Cl))(h: ∀cls∈C1,∀c∈cls,c.test<W1.length):z0s vals (W1++W2) (C1++C2.map fun c=>c.map (z3h W1.length C1.length)) []=z0s vals W1 C1 []++z0s vals W2 C2 []:=by
 have e:(z0s vals W1 C1 []).length=C1.length:=by rw [z0h];simp
 rw [z2T,z9B vals W1 W2 C1 [] h,←e]
 have:=z9Y vals W1 W2 (z0s vals W1 C1 []) C2 []
 rw [List.append_nil] at this
 exact this
theorem z9u (vals:List zej)(n m:Nat)(C1 C2:List (List Cl)):hoM vals (C1++C2.map fun c=>c.map (z3h n m))=(hoM vals C1||hoM vals C2):=by
 unfold hoM
 rw [List.any_append,List.any_map]
 congr 1
 congr 1
 funext c
 show(c.map (z3h n m)).any (z2k vals)=c.any (z2k vals)
 rw [List.any_map]
 rfl
def zbS:List Ex→List Int→List Int
 |[],ts=>ts
 |x::xs,ts=>zbS xs (ts++[zH x (zd ts x.left) (zd ts x.right)])
def z9H:List Ex→List Int→Prop
 |[],_=>True
 |x::xs,ts=>zH x (zd ts x.left) (zd ts x.right)≠0∧z9H xs (ts++[zH x (zd ts x.left) (zd ts x.right)])
theorem zdk: ∀(xs:List Ex) (ts:List Int),z9H xs ts→tfM xs ts= -1:=by
 intro xs
 induction xs with
 |nil=>intro ts _;rfl
 |cons x xs ih=>intro ts ⟨h1,h2⟩;unfold tfM;rw [if_neg (by simpa using h1)];exact ih _ h2
theorem zcb: ∀(xs:List Ex) (ts:List Int),(∀x∈xs,0≤x.place)→tfM xs ts= -1→z9H xs ts:=by
 intro xs
 induction xs with
 |nil=>intro ts _ _;trivial
 |cons x xs ih=>
  intro ts hp h
  unfold tfM at h
  split at h
  ·have:=hp x List.mem_cons_self;omega
  ·rename_i q
   exact⟨by simpa using q,ih _ (fun y hy=>hp y (List.mem_cons_of_mem _ hy)) h⟩
theorem z5P: ∀(xs:List Ex) (ts:List Int),(zbS xs ts).length=ts.length+xs.length:=by
 intro xs
 induction xs with
 |nil=>intro ts;rfl
 |cons x xs ih=>intro ts;unfold zbS;rw [ih];simp;omega
theorem z67: ∀(xs ys:List Ex) (ts:List Int),z9H (xs++ys) ts↔z9H xs ts∧z9H ys (zbS xs ts):=by
 intro xs
 induction xs with
 |nil=>intro ys ts;exact⟨fun h=>⟨trivial,h⟩,fun h=>h.2⟩
 |cons x xs ih=>
  intro ys ts
  have e:=ih ys (ts++[zH x (zd ts x.left) (zd ts x.right)])
  exact⟨fun⟨a,b⟩=>⟨⟨a,(e.1 b).1⟩,(e.1 b).2⟩,fun⟨⟨a,b⟩,c⟩=>⟨a,e.2 ⟨b,c⟩⟩⟩
theorem z9f (o:Nat)(pre:List Int): ∀(xs:List Ex) (ts:List Int),z9H xs ts→z9H (xs.map (shE o pre.length)) (pre++ts):=by
 intro xs
 induction xs with
 |nil=>intro ts _;trivial
 |cons x xs ih=>
  intro ts ⟨h1,h2⟩
  have e:zH (shE o pre.length x) (zd (pre++ts) (shE o pre.length x).left) (zd (pre++ts) (shE o pre.length x).right)=zH x (zd ts x.left) (zd ts x.right):=by
   unfold shE zH
   simp only [z2D]
  rw [List.map_cons]
  unfold z9H
  rw [e,List.append_assoc]
  exact⟨h1,ih _ h2⟩
theorem zbf (o:Nat){E1 E2:List Ex}(g1: ∀x∈E1,0≤x.place)(g2: ∀x∈E2,0≤x.place)(h1:tfM E1 []= -1)(h2:tfM E2 []= -1):tfM (E1++E2.map (shE o E1.length)) []= -1:=by
 refine zdk _ _ ((z67 _ _ _).2 ⟨zcb _ _ g1 h1,?_⟩)
 have e:(zbS E1 []).length=E1.length:=by rw [z5P];simp
 have:=z9f o (zbS E1 []) E2 [] (zcb _ _ g2 h2)
 rw [List.append_nil,e] at this
 exact this
theorem zdC: ∀(xs:List Lc) (f:Int),(∀x∈xs,z1y x=false)→cfM xs f=f:=by
 intro xs
 induction xs with
 |nil=>intro f _;rfl
 |cons x xs ih=>
  intro f h
  have hx:=h x List.mem_cons_self
  unfold cfM
  rw [if_pos (by
   unfold z1y at hx
   unfold bne
   cases h1:(x.form==2) with
   |false=>rfl
   |true=>rw [h1] at hx;simpa using hx)]
  exact ih f fun y hy=>h y (List.mem_cons_of_mem _ hy)
theorem zbP (o n:Nat)(x:Lc):z1y (shL o n x)=z1y x:=by unfold z1y shL;simp
theorem z40 {s:zej}{n:Nat}{st:St}(hM:MR s n st0=some st)(hck:(ckM s st).1=0): ∀x∈st.L,z1y x=false:=by
 obtain⟨hs,_,_,hcf⟩:=z2N hck
 obtain⟨e,w',fr,⟨lv,_,_,_,h⟩,_⟩:=z0e s n st (World.holding Tryz.prog default ⟨#[],#[],[]⟩) hM hs []
 obtain⟨f,ps,_,h⟩:=h hck
 have hg:=z0A s n st0 st hM z3E
 have hmf:=zds (fun x hx=>(hg.l x hx).2) ps st.A 0 0 st.L.length st.E.length 0 st.at_ h hg.o
 have hr:=hmf.cf
 rw [hcf] at hr
 intro x hx
 obtain⟨j,hj⟩:=List.mem_iff_getElem?.1 hx
 have hjl:=(ze6.1 hj).1
 rcases hmf.min with⟨_,q⟩|⟨j',y,_,q1,q2,q3,q4,_⟩
 ·exact q j x (zef _) hjl hj
 ·have:=(hmf.span j' y (zef _) q1 q2 q3).1
  omega
def z3b (st:St):Prop:= ∀cls∈st.C,∀c∈cls,c.test<st.E.length
theorem zcU (s:zej): ∀n tag cls st r,MC s n tag cls st=some r→z3b st→(tag=2→ ∀c∈cls,c.test<st.E.length)→z3b r.2.2∧(tag=1→r.2.1.test<r.2.2.E.length):=by
 intro n
 induction n with
 |zero=>intro tag cls st r h;simp [MC] at h
 |succ n ih=>
  intro tag cls st r h hg hc
  match tag,h with
  |0,h=>
   refine⟨?_,fun e=>(by simp at e)⟩
   rw [z7N] at h
   obtain⟨q,h1,h2⟩:=ze4.1 h
   obtain⟨k1,k2⟩:=ih _ _ _ _ h1 hg (fun e=>(by simp at e))
   exact(ih _ _ _ _ h2 k1 (fun _ c hc=>by rw [List.mem_singleton.1 hc];exact k2 rfl)).1
  |2,h=>
   refine⟨?_,fun e=>(by simp at e)⟩
   rw [z7S] at h
   split at h
   ·split at h
    ·obtain⟨q,h1,h2⟩:=ze4.1 h
     obtain⟨k1,k2⟩:=ih _ _ _ _ h1 hg (fun e=>(by simp at e))
     obtain⟨⟨F,hF⟩,_⟩:=z1u s _ _ _ _ _ h1
     have hF:q.2.2.E=st.E++F:=hF
     refine(ih _ _ _ _ h2 k1 (fun _ c hm=> ?_)).1
     rcases List.mem_append.1 hm with hm|hm
     ·have:=hc rfl c hm
      rw [hF,List.length_append];omega
     ·rw [List.mem_singleton.1 hm];exact k2 rfl
    ·obtain⟨q,h1,h2⟩:=ze4.1 h
     cases h2
     obtain⟨_,rfl⟩:=jB h1
     intro x hx c hm
     rcases List.mem_append.1 hx with hx|hx
     ·exact hg x hx c hm
     ·rw [List.mem_singleton.1 hx] at hm
      exact hc rfl c hm
   ·cases h
  |1,h=>
   rw [zbs] at h
   obtain⟨q,h1,h2⟩:=ze4.1 h
   obtain⟨q2,h3,h4⟩:=ze4.1 h2
   obtain⟨⟨F,hF⟩,_,_,hC⟩:=z1J s _ _ _ _ _ h1
   have hF:q.2.E=st.E++F:=hF
   have hC:q.2.C=st.C:=hC
   obtain⟨_,rfl⟩:=zo h3
   have g2: ∀cls∈q.2.C,∀c∈cls,c.test<((q.2.E++[(⟨7,st.at_,⟨#[]⟩,q.1,-1⟩:Ex)]).length:Int):=fun x hx c hm=>by
    rw [hC] at hx
    have:=hg x hx c hm
    rw [hF];simp;omega
   have g3:(q.2.E.length:Int)<((q.2.E++[(⟨7,st.at_,⟨#[]⟩,q.1,-1⟩:Ex)]).length:Int):=by simp;omega
   split at h4
   ·cases h4;exact⟨g2,fun _=>g3⟩
   ·simp only at h4
    split at h4
    ·obtain⟨v,h7,h8⟩:=ze4.1 h4
     cases h8
     obtain⟨k1,_⟩:=ih _ _ _ _ h7 g2 (fun e=>(by simp at e))
     obtain⟨⟨F',hF'⟩,_⟩:=z1u s _ _ _ _ _ h7
     refine⟨k1,fun _=> ?_⟩
     show(q.2.E.length:Int)<(v.2.2.E.length:Int)
     have hF':v.2.2.E=(q.2.E++[(⟨7,st.at_,⟨#[]⟩,q.1,-1⟩:Ex)])++F':=hF'
     rw [hF'];simp;omega
    ·cases h4
     exact⟨g2,fun _=>g3⟩
  |t+3,h=>simp [MC] at h
theorem zcJ {s:zej}{n:Nat}{st st':St}(h:MA s n st=some st')(hg:z3b st):z3b st':=by
 unfold MA at h
 simp only at h
 obtain⟨⟨r1,st1⟩,h1,hM2⟩:=ze4.1 h
 obtain⟨⟨r2,cl2,st2⟩,h2,hM3⟩:=ze4.1 hM2
 obtain⟨_,_,k3,k2⟩:=z0r s _ _ _ _ _ _ _ _ h1
 have k3:st1.E=st.E:=k3
 have k2:st1.C=st.C:=k2
 obtain⟨_,rfl⟩:=jo hM3
 refine(zcU s _ _ _ _ _ h2 ?_ (fun e=>(by simp at e))).1
 intro x hx c hm
 have hx:x∈st1.C:=hx
 rw [k2] at hx
 have:=hg x hx c hm
 show c.test<(st1.E.length:Int)
 rw [k3];exact this
theorem z8V (s:zej): ∀n st st',MR s n st=some st'→z3b st→z3b st':=by
 intro n
 induction n with
 |zero=>intro st st' h;simp [MR] at h
 |succ n ih=>
  intro st st' h hg
  unfold MR at h
  split at h
  ·obtain⟨u,h1,h2⟩:=ze4.1 h
   exact ih _ _ h2 (zcJ h1 hg)
  ·cases h;exact hg
theorem zdB:z3b st0:=fun x h=>(by cases h)
def Sub (top:Nat)(A1:List As)(L1:List Lc)(W1:List Int)(A2:List As)(L2:List Lc)(W2:List Int):Prop:=
 ∀x∈A1,∃y∈A2,y.by_=x.by_∧(∀sg:zej→Int,zd (jr sg top L2 []) y.to_=zd (jr sg top L1 []) x.to_)∧zd W2 y.conds=zd W1 x.conds
section
variable {top:Nat} {A1 A2:List As} {L1 L2:List Lc} {W1 W2:List Int} {q1 q2:List zej}
theorem zaR {k:Nat}(hk:1≤k)(hW:Lvr top W1)(h:Sub top A1 L1 W1 A2 L2 W2)(hq: ∀nm,plM nm q1 0≠ -1→plM nm q2 0≠ -1):
  ∀(r:Nat) (nm:zej),(k:Int)≤stM A1 q1 top (gvM A1 L1 q1 top W1 r) nm→(k:Int)≤stM A2 q2 top (gvM A2 L2 q2 top W2 r) nm:=by
 intro r
 induction r with
 |zero=>
  intro nm h1
  rw [z17 (by omega)] at h1 ⊢
  rcases h1 with⟨p1,p2⟩|⟨p1,j,x,_,_,p4⟩
  ·exact .inl ⟨hq _ p1,p2⟩
  ·unfold gvM at p4;rw [z1K] at p4;omega
 |succ r ih=>
  intro nm h1
  have hle:=(z1z (A:=A1) (qs:=q1) (z3W (A:=A1) (L:=L1) (qs:=q1) hW (r+1)) nm).2
  rw [z17 (by omega)]
  by_cases hp:plM nm q2 0= -1
  ·rw [z17 (by omega)] at h1
   rcases h1 with⟨p1,_⟩|⟨p1,j,x,p2,p3,p4⟩
   ·exact absurd hp (hq _ p1)
   ·refine .inr ⟨hp,?_⟩
    obtain⟨y,hy,e1,e2,e3⟩:=h x (zed p2)
    obtain⟨j2,hj2⟩:=List.mem_iff_getElem?.1 hy
    refine⟨j2,y,hj2,by rw [e1];exact p3,?_⟩
    have p4:(k:Int)≤zd (ltM A1 W1 (jr (stM A1 q1 top (gvM A1 L1 q1 top W1 r)) top L1 [])) (j:Int):=p4
    show(k:Int)≤zd (ltM A2 W2 (jr (stM A2 q2 top (gvM A2 L2 q2 top W2 r)) top L2 [])) (j2:Int)
    unfold ltM at p4 ⊢
    rw [z5d,p2] at p4
    rw [z5d,hj2]
    simp only at p4 ⊢
    rw [z1A] at p4 ⊢
    rw [e2,e3]
    exact⟨p4.1,z6Q hk ih L1 [] [] rfl (fun i hi=>hi) _ p4.2⟩
  ·exact .inl ⟨hp,by omega⟩
theorem zbU {A:List As}{L:List Lc}{qs:List zej}{W:List Int}{k:Nat}(hk:1≤k)(r:Nat):Thr k (gvM A L qs top W r) (gvM A L qs top W A.length):=by
 by_cases h:r≤A.length
 ·exact zaO hk h
 ·have key: ∀d,Thr k (gvM A L qs top W (A.length+d)) (gvM A L qs top W A.length):=by
   intro d
   induction d with
   |zero=>exact fun i hi=>hi
   |succ d ih=>exact fun i hi=>zcE hk i (z49 (A:=A) (L:=L) (qs:=qs) (top:=top) (W:=W) hk ih i hi)
  have:=key (r - A.length)
  rw [show A.length+(r - A.length)=r by omega] at this
  exact this
theorem z35 (h1:Lvr top W1)(h2:Lvr top W2)(h:Sub top A1 L1 W1 A2 L2 W2)(hq: ∀nm,plM nm q1 0≠ -1→plM nm q2 0≠ -1)(nm:zej):stM A1 q1 top (gvM A1 L1 q1 top W1 A1.length) nm≤stM A2 q2 top (gvM A2 L2 q2 top W2 A2.length) nm:=by
 have r1:=z1z (A:=A1) (qs:=q1) (z3W (A:=A1) (L:=L1) (qs:=q1) h1 A1.length) nm
 have r2:=z1z (A:=A2) (qs:=q2) (z3W (A:=A2) (L:=L2) (qs:=q2) h2 A2.length) nm
 by_cases h0:stM A1 q1 top (gvM A1 L1 q1 top W1 A1.length) nm=0
 ·omega
 ·obtain⟨k,hk⟩:=Int.eq_ofNat_of_zero_le r1.1
  have hk1:1≤k:=by omega
  rw [hk]
  exact z8L hk1 (zbU hk1 A1.length) nm (zaR hk1 h1 h hq A1.length nm (by omega))
end
theorem z4m (top:Nat)(A:List As)(L:List Lc)(W:List Int):Sub top A L W A L W:=fun x hx=>⟨x,hx,rfl,fun _=>rfl,rfl⟩
theorem zbt {C:List (List Cl)}{f:Nat}: ∀(xs:List As) (a e:Nat),SegB (AsK C f) xs a e→a≤e∧ ∀x∈xs,x.conds<(e:Int):=by
 intro xs
 induction xs with
 |nil=>intro a e h;exact⟨Nat.le_of_eq h,fun x hx=>(by cases hx)⟩
 |cons y ys ih=>
  intro a e ⟨m,⟨k,h1,h2,h3⟩,h4⟩
  obtain⟨i1,i2⟩:=ih m e h4
  have:=h2.a_le
  refine⟨by omega,fun x hx=> ?_⟩
  rcases List.mem_cons.1 hx with rfl|hx
  ·rw [h1];omega
  ·exact i2 x hx
theorem zaM {st:St}(h:z9c st): ∀x∈st.A,x.conds<(st.C.length:Int):=by
 obtain⟨f,h⟩:=h
 exact(zbt _ _ _ h).2
theorem z8k {L:List Lc}: ∀(xs:List As) (a e lo hi:Nat),OrdAs L xs a e lo hi→ ∀x∈xs,x.to_<(L.length:Int):=by
 intro xs
 induction xs with
 |nil=>intro a e lo hi _ x hx;cases hx
 |cons y ys ih=>
  intro a e lo hi ⟨f,i,m,h1,h2,h3⟩ x hx
  rcases List.mem_cons.1 hx with rfl|hx
  ·cases f with
   |zero=>exact absurd h2 id
   |succ f=>
    obtain⟨z,hz,_⟩:=h2
    have:=(ze6.1 hz).1
    rw [h1];omega
  ·exact ih _ _ _ _ h3 x hx
def lvM (a v:zej)(st:St):List Int:=z0s (vlM v).1 (zg (raM a).1 st.E []) st.C []
theorem z4K (a v:zej)(o:Nat)(u st:St)(h:z3b u):lvM a v (shS o u st)=lvM a v u++lvM a v st:=by
 unfold lvM
 show z0s _ (zg _ (u.E++st.E.map (shE o u.E.length)) []) (u.C++st.C.map fun c=>c.map (z3h u.E.length u.C.length)) []=_
 have e:(zg (raM a).1 u.E []).length=u.E.length:=by rw [j4];simp
 rw [z6t]
 have:=za7 (vlM v).1 (zg (raM a).1 u.E []) (zg (raM a).1 st.E []) u.C st.C (fun c hc x hx=>by rw [e];exact h c hc x hx)
 rw [e] at this
 exact this
theorem z6O (a v:zej)(st:St):(lvM a v st).length=st.C.length:=by unfold lvM;rw [z0h];simp
section
variable {top o:Nat} {a v:zej} {u w:St}
theorem z2K (hw:z3b u)(hc:z9c u)(hg:z5o u):Sub top u.A u.L (lvM a v u) (shS o u w).A (shS o u w).L (lvM a v (shS o u w)):=fun x hx=>by
 refine⟨x,List.mem_append.2 (.inl hx),rfl,fun sg=> ?_,?_⟩
 ·show zd (jr sg top (u.L++w.L.map (shL o u.L.length)) []) x.to_=_
  rw [z2O,z6R]
  rw [jq]
  simpa using z8k _ _ _ _ _ hg.o x hx
 ·rw [z4K _ _ _ _ _ hw,z6R]
  rw [z6O]
  exact zaM hc x hx
theorem z30 (hw:z3b u):Sub top w.A w.L (lvM a v w) (shS o u w).A (shS o u w).L (lvM a v (shS o u w)):=fun x hx=>by
 refine⟨shA u.L.length u.C.length x,List.mem_append.2 (.inr (List.mem_map.2 ⟨x,hx,rfl⟩)),rfl,fun sg=> ?_,?_⟩
 ·show zd (jr sg top (u.L++w.L.map (shL o u.L.length)) []) (shi u.L.length x.to_)=_
  rw [z2O]
  have:=z2D (jr sg top u.L []) (jr sg top w.L []) x.to_
  rw [show(jr sg top u.L []).length=u.L.length by rw [jq];simp] at this
  exact this
 ·rw [z4K _ _ _ _ _ hw]
  have:=z2D (lvM a v u) (lvM a v w) x.conds
  rw [z6O] at this
  exact this
theorem z4t {A:List As}{L:List Lc}{W:List Int}(hw:z3b u)(hc:z9c u)(hg:z5o u)(h1:Sub top u.A u.L (lvM a v u) A L W)(h2:Sub top w.A w.L (lvM a v w) A L W):Sub top (shS o u w).A (shS o u w).L (lvM a v (shS o u w)) A L W:=fun x hx=>by
 rcases List.mem_append.1 hx with hx|hx
 ·obtain⟨y,hy,e1,e2,e3⟩:=h1 x hx
  refine⟨y,hy,e1,fun sg=> ?_,?_⟩
  ·rw [e2]
   show _=zd (jr sg top (u.L++w.L.map (shL o u.L.length)) []) x.to_
   rw [z2O,z6R]
   rw [jq]
   simpa using z8k _ _ _ _ _ hg.o x hx
  ·rw [e3,z4K _ _ _ _ _ hw,z6R]
   rw [z6O]
   exact zaM hc x hx
 ·obtain⟨z,hz,rfl⟩:=List.mem_map.1 hx
  obtain⟨y,hy,e1,e2,e3⟩:=h2 z hz
  refine⟨y,hy,e1,fun sg=> ?_,?_⟩
  ·rw [e2]
   show _=zd (jr sg top (u.L++w.L.map (shL o u.L.length)) []) (shi u.L.length z.to_)
   rw [z2O]
   have:=z2D (jr sg top u.L []) (jr sg top w.L []) z.to_
   rw [show(jr sg top u.L []).length=u.L.length by rw [jq];simp] at this
   exact this.symm
  ·rw [e3,z4K _ _ _ _ _ hw]
   have:=z2D (lvM a v u) (lvM a v w) z.conds
   rw [z6O] at this
   exact this.symm
end
theorem z3m {s:zej}{st:St}:(ckM s st).1=0↔s.size≤600∧st.bad=false∧st.A.length≤8∧cfM st.L (-1)= -1∧tfM st.E []= -1:=by
 unfold ckM
 constructor
 ·intro h
  split at h
  ·cases h
  ·split at h
   ·cases h
   ·split at h
    ·cases h
    ·split at h
     ·cases h
     ·split at h
      ·cases h
      ·rename_i h1 h2 h3 h4 h5
       exact⟨by omega,by simpa using h2,by omega,by simpa using h4,by simpa using h5⟩
 ·intro ⟨h1,h2,h3,h4,h5⟩
  rw [if_neg (by omega),if_neg (by rw [h2];decide),if_neg (by omega),if_neg (by rw [h4];decide),if_neg (by rw [h5];decide)]
theorem z5L {s a v q:zej}{st:St}:grM s a v q st=0↔(a.size≤100∧v.size≤60∧q.size≤60∧(raM a).2=false∧(vlM v).2=false∧(rqM q).2=false)∧(ckM s st).1=0∧hoM (vlM v).1 st.C=false:=by
 unfold grM
 constructor
 ·intro h
  split at h
  ·cases h
  ·rename_i h0
   split at h
   ·rename_i h1;rw [h] at h1;simp at h1
   ·rename_i h1
    split at h
    ·cases h
    ·rename_i h2
     split at h
     ·cases h
     ·rename_i h3
      simp only [Bool.or_eq_true,not_or,decide_eq_true_eq] at h0 h2
      exact⟨⟨by omega,by omega,by omega,by simpa using h2.1.1,by simpa using h2.1.2,by simpa using h2.2⟩,by simpa using h1,by simpa using h3⟩
 ·intro ⟨⟨h1,h2,h3,h4,h5,h6⟩,h7,h8⟩
  have h9:=(z3m.1 h7).1
  rw [if_neg (by simp only [Bool.or_eq_true,not_or,decide_eq_true_eq];omega),if_neg (by rw [h7];decide),if_neg (by rw [h4,h5,h6];decide),if_neg (by rw [h8];decide)]
theorem z6c {s p a vv q:zej}{n m l:Nat}{u v r:St}(h1:MR s n st0=some u)(h2:MR p m st0=some v)(h3:MR (s++p) l st0=some r)(g1:grM s a vv q u=0)(g2:grM p a vv q v=0):
  r=shS s.size u v∧(s.size+p.size≤600→u.A.length+v.A.length≤8→grM (s++p) a vv q r=0):=by
 obtain⟨k1,c1,o1⟩:=z5L.1 g1
 obtain⟨_,c2,o2⟩:=z5L.1 g2
 obtain⟨_,b1,_,f1,t1⟩:=z3m.1 c1
 obtain⟨_,b2,_,f2,t2⟩:=z3m.1 c2
 have e:=zaU h1 b1 h2 b2 h3
 refine⟨e,fun hz hA=> ?_⟩
 subst e
 have d1:=z0A s n st0 u h1 z3E
 have d2:=z0A p m st0 v h2 z3E
 refine z5L.2 ⟨k1,z3m.2 ⟨by rw [ByteArray.size_append];omega,b2,?_,?_,?_⟩,?_⟩
 ·show(u.A++v.A.map (shA u.L.length u.C.length)).length≤8
  simpa using hA
 ·refine zdC _ _ fun x hx=> ?_
  rcases List.mem_append.1 hx with hx|hx
  ·exact z40 h1 c1 x hx
  ·obtain⟨y,hy,rfl⟩:=List.mem_map.1 hx
   rw [zbP]
   exact z40 h2 c2 y hy
 ·exact zbf _ (fun x hx=>(d1.e x hx).1) (fun x hx=>(d2.e x hx).1) t1 t2
 ·show hoM _ (u.C++v.C.map fun c=>c.map (z3h u.E.length u.C.length))=false
  rw [z9u,o1,o2]
  rfl
def lqM (s a v q:zej)(st:St):Int:=if grM s a v q st=0 then stM st.A (rqM q).1 ((vlM v).1.length - 1) (gvM st.A st.L (rqM q).1 ((vlM v).1.length - 1) (lvM a v st) st.A.length) pol else -1
def LQ (s a v q:zej)(z:Int):Prop:=(∃n st,MR s n st0=some st∧z=lqM s a v q st)∨(600<s.size∧z= -1)
theorem LQ.nn {s a v q:zej}{z:Int}(h:LQ s a v q z)(hz:0≤z): ∃n st,MR s n st0=some st∧grM s a v q st=0∧z=stM st.A (rqM q).1 ((vlM v).1.length - 1) (gvM st.A st.L (rqM q).1 ((vlM v).1.length - 1) (lvM a v st) st.A.length) pol:=by
 rcases h with⟨n,st,h1,h2⟩|⟨_,h2⟩
 ·unfold lqM at h2
  split at h2
  ·exact⟨n,st,h1,‹_›,h2⟩
  ·omega
 ·omega
theorem LQ.ge {s a v q:zej}{z:Int}(h:LQ s a v q z): -1≤z:=by
 rcases h with⟨n,st,h1,h2⟩|⟨_,h2⟩
 ·unfold lqM at h2
  split at h2
  ·rename_i h0
   have:=(z1z (A:=st.A) (qs:=(rqM q).1) (z3W (A:=st.A) (L:=st.L) (qs:=(rqM q).1) (Ask.lvr (q:=q) h0) st.A.length) pol).1
   unfold lvM at h2
   omega
  ·omega
 ·omega
theorem z2m {s a v q:zej}{st:St}(h:grM s a v q st=0):Lvr ((vlM v).1.length - 1) (lvM a v st):=Ask.lvr (s:=s) (q:=q) h
theorem LQ.join {s p a v q:zej}{x y c d:Int}(hx:LQ s a v q x)(hy:LQ p a v q y)(hc:LQ (s++p) a v q c)(hd:LQ (p++s) a v q d)(zx:0≤x)(zy:0≤y)(zc:0≤c):x≤c∧y≤c∧d=c:=by
 obtain⟨n1,u,m1,g1,rfl⟩:=hx.nn zx
 obtain⟨n2,w,m2,g2,rfl⟩:=hy.nn zy
 obtain⟨n3,r,m3,g3,rfl⟩:=hc.nn zc
 obtain⟨e3,_⟩:=z6c m1 m2 m3 g1 g2
 have z3:=(z0u g3).2.2.2.1
 have a3:=(z3m.1 (z5L.1 g3).2.1).2.2.1
 rw [ByteArray.size_append] at z3
 have a3':u.A.length+w.A.length≤8:=by rw [e3] at a3;simpa [shS] using a3
 have tu:=z8V s _ _ _ m1 zdB
 have tw:=z8V p _ _ _ m2 zdB
 have cu:=z5c s _ _ _ m1 zcA
 have cw:=z5c p _ _ _ m2 zcA
 have gu:=z0A s _ _ _ m1 z3E
 have gw:=z0A p _ _ _ m2 z3E
 have l1:=z2m g1
 have l2:=z2m g2
 have l3:=z2m g3
 have hq: ∀nm,plM nm (rqM q).1 0≠ -1→plM nm (rqM q).1 0≠ -1:=fun _ h=>h
 rcases hd with⟨n4,r4,m4,e4⟩|⟨h6,_⟩
 ·obtain⟨e5,k5⟩:=z6c m2 m1 m4 g2 g1
  have g4:=k5 (by omega) (by omega)
  unfold lqM at e4
  rw [if_pos g4] at e4
  subst e4
  have l4:=z2m g4
  subst e3
  subst e5
  refine⟨z35 l1 l3 (z2K tu cu gu) hq pol,z35 l2 l3 (z30 tu) hq pol,Int.le_antisymm ?_ ?_⟩
  ·exact z35 l4 l3 (z4t tw cw gw (z30 tu) (z2K tu cu gu)) hq pol
  ·exact z35 l3 l4 (z4t tu cu gu (z30 tw) (z2K tw cw gw)) hq pol
 ·rw [ByteArray.size_append] at h6;omega
theorem LQ.twice {s a v q:zej}{x t:Int}(hx:LQ s a v q x)(ht:LQ (s++s) a v q t)(zx:0≤x)(zt:0≤t):x=t:=by
 obtain⟨n1,u,m1,g1,rfl⟩:=hx.nn zx
 obtain⟨n3,r,m3,g3,rfl⟩:=ht.nn zt
 obtain⟨e3,_⟩:=z6c m1 m1 m3 g1 g1
 have tu:=z8V s _ _ _ m1 zdB
 have cu:=z5c s _ _ _ m1 zcA
 have gu:=z0A s _ _ _ m1 z3E
 have l1:=z2m g1
 have l3:=z2m g3
 have hq: ∀nm,plM nm (rqM q).1 0≠ -1→plM nm (rqM q).1 0≠ -1:=fun _ h=>h
 subst e3
 exact Int.le_antisymm (z35 l1 l3 (z2K tu cu gu) hq pol) (z35 l3 l1 (z4t tu cu gu (z4m _ _ _ _) (z4m _ _ _ _)) hq pol)
theorem zcS {s:zej}{n m:Nat}{u r:St}(h1:MR s n st0=some u)(hu:u.bad=false)(h2:MR s m st0=some r):r=u:=by
 obtain⟨e,k⟩:=zaE (s:=s) (t:=s) (ze8 _) (fun _ _=>rfl) n st0 u h1 hu (zef _)
 obtain⟨m',h3⟩:=k m r h2
 cases m' with
 |zero=>simp [MR] at h3
 |succ m'=>
  unfold MR at h3
  rw [if_neg (by simp [hu,e])] at h3
  exact(Option.some.inj h3).symm
theorem LQ.none {s a v q:zej}{x z:Int}(hx:LQ s a v q x)(hz:LQ s a v ⟨#[]⟩ z)(zx:0≤x):z≤x:=by
 obtain⟨n1,u,m1,g1,rfl⟩:=hx.nn zx
 by_cases h0:0≤z
 ·obtain⟨n2,w,m2,g2,rfl⟩:=hz.nn h0
  have e:=zcS m1 (z3m.1 (z5L.1 g1).2.1).2.1 m2
  subst e
  exact z35 (z2m g1) (z2m g1) (z4m _ _ _ _) (fun nm h=>absurd rfl h) pol
 ·omega
theorem z44 (s a v q:zej)(hs:s.size≤maxLen)(ha:a.size≤maxLen)(hv:v.size≤maxLen)(hq:q.size≤maxLen): ∃z,LQ s a v q z∧ ∀w,Calls Tryz.prog 24 #[.string s,.string a,.string v,.string q] w fun r w'=>r= .returned (.int .i64 z)∧Below w.heap.size w w':=by
 by_cases h:s.size≤600∧a.size≤100∧v.size≤60∧q.size≤60
 ·obtain⟨st,K⟩:=z8H s a v q h.1 h.2.1 h.2.2.1 h.2.2.2
  obtain⟨n,hM⟩:=K.mr
  refine⟨lqM s a v q st,.inl ⟨n,st,hM,rfl⟩,?_⟩
  by_cases h0:grM s a v q st=0
  ·have hv2:=Ask.two h0
   have hvb:=(z0u h0).1
   have hW:=Ask.lvr (q:=q) h0
   have hgr:=z1z (A:=st.A) (qs:=(rqM q).1) (z3W (A:=st.A) (L:=st.L) (qs:=(rqM q).1) hW st.A.length) pol
   have eq:quM s a v q st=(vaM (vlM v).1 (stM st.A (rqM q).1 ((vlM v).1.length - 1) (gvM st.A st.L (rqM q).1 ((vlM v).1.length - 1) (z0s (vlM v).1 (zg (raM a).1 st.E []) st.C []) st.A.length) pol),0):=by unfold quM;rw [h0];rfl
   have hQ:=K.query
   rw [eq] at hQ
   have hpl:=z9J hvb hgr.1 (by omega)
   have hc:=fun w=>zcP s a v q _ _ h.2.2.1 hpl w hQ
   have e:lqM s a v q st=(((stM st.A (rqM q).1 ((vlM v).1.length - 1) (gvM st.A st.L (rqM q).1 ((vlM v).1.length - 1) (z0s (vlM v).1 (zg (raM a).1 st.E []) st.C []) st.A.length) pol).toNat:Nat):Int):=by
    unfold lqM lvM
    rw [if_pos h0]
    omega
   rw [e]
   exact hc
  ·have e:lqM s a v q st= -1:=by unfold lqM;rw [if_neg h0]
   rw [e]
   exact fun w=>z8l s a v q _ h0 w (fun w=>z6T s a v q st w (K.gr w) _ rfl (by simpa using h0))
 ·have h1:=z6M h st0
  have hc:=fun w=>z8l s a v q 1 (by decide) w (fun w=>z6T s a v q st0 w (z68 s a v q st0 w hs ha hv hq (by omega)) 1 h1 rfl)
  refine⟨-1,?_,hc⟩
  by_cases h6:600<s.size
  ·exact .inr ⟨h6,rfl⟩
  ·obtain⟨n,st,hM,_⟩:=z8Q s (by omega)
   refine .inl ⟨n,st,hM,?_⟩
   unfold lqM
   rw [if_neg (by rw [z6M h st];decide)]
theorem zbg (s:zej)(hmax:s.size≤maxLen): ∃r:Int×Int,(r.1=0→r.2=0)∧ ∀w,Calls Tryz.prog 25 #[.string s] w fun e w'=>e= .returned (.tuple #[.int .i64 r.1,.int .i64 r.2])∧Below w.heap.size w w':=by
 have hz: ∀st,(ckM s st).1=0→(ckM s st).2=0:=fun st h=>by
  obtain⟨h1,h2,h3,h4,h5⟩:=z3m.1 h
  unfold ckM
  rw [if_neg (by omega),if_neg (by rw [h2];decide),if_neg (by omega),if_neg (by rw [h4];decide),if_neg (by rw [h5];decide)]
 by_cases hs:s.size≤600
 ·obtain⟨n,st,hM,hA,hL,hE,hC⟩:=z8Q s hs
  exact⟨ckM s st,hz st,fun w=>z71 s st w (z03 s n st w hM hs (by omega) (by omega) (by omega))⟩
 ·exact⟨ckM s st0,hz st0,fun w=>z71 s st0 w (z4n s st0 w (by omega) hmax)⟩
structure zdu (a b c d t n:Int):Prop where
 ga: -1≤a
 gb: -1≤b
 gc: -1≤c
 gd: -1≤d
 gt: -1≤t
 gn: -1≤n
 j:0≤a→0≤b→0≤c→a≤c∧b≤c∧d=c
 tw:0≤a→0≤t→a=t
 no:0≤a→n≤a
theorem zbA (k1 n1 k2 n2:Int)(S A V Q P A2 V2 Q2:zej)(hs1: ¬S.size+P.size>9223372036854775807)(hs2: ¬P.size+S.size>9223372036854775807)(hs3: ¬S.size+S.size>9223372036854775807)(a b c d t n:Int)(e f:Int)(F:zdu a b c d t n)(hef:e=0→f=0)
  (h1: ∀w,Calls Tryz.prog 24 #[.string S,.string A,.string V,.string Q] w fun r w'=>r= .returned (.int .i64 a)∧Below w.heap.size w w')
  (h2: ∀w,Calls Tryz.prog 24 #[.string P,.string A,.string V,.string Q] w fun r w'=>r= .returned (.int .i64 b)∧Below w.heap.size w w')
  (h3: ∀w,Calls Tryz.prog 24 #[.string (S++P),.string A,.string V,.string Q] w fun r w'=>r= .returned (.int .i64 c)∧Below w.heap.size w w')
  (h4: ∀w,Calls Tryz.prog 24 #[.string (P++S),.string A,.string V,.string Q] w fun r w'=>r= .returned (.int .i64 d)∧Below w.heap.size w w')
  (h5: ∀w,Calls Tryz.prog 24 #[.string (S++S),.string A,.string V,.string Q] w fun r w'=>r= .returned (.int .i64 t)∧Below w.heap.size w w')
  (h6: ∀w,Calls Tryz.prog 24 #[.string S,.string A,.string V,.string ⟨#[]⟩] w fun r w'=>r= .returned (.int .i64 n)∧Below w.heap.size w w')
  (h7: ∀w,Calls Tryz.prog 25 #[.string S] w fun r w'=>r= .returned (.tuple #[.int .i64 e,.int .i64 f])∧Below w.heap.size w w') (w:World):
  Calls Tryz.prog 15 #[.agg #[.int .i64 k1,.int .i64 n1,.string S,.string A,.string V,.string Q],.agg #[.int .i64 k2,.int .i64 n2,.string P,.string A2,.string V2,.string Q2]] w fun e w'=>e= .returned (.bool true)∧Below w.heap.size w w':=by
 have H:=z8 (ze9 h1 (ze9 h2 (ze9 h3 (ze9 h4 (ze9 h5 (ze9 h6 h7))))))
 have HF:=z8 (ze9 F hef)
 clear h1 h2 h3 h4 h5 h6 h7 F hef
 have hB0:Below w.heap.size w ((w.alloc (.cells #[.int .i64 k1,.int .i64 n1,.string S,.string A,.string V,.string Q] 27)).alloc (.cells #[.int .i64 k2,.int .i64 n2,.string P,.string A2,.string V2,.string Q2] 27)):=((zei _ _).alloc (ze8 _) _).alloc (by simp) _
 have hi0:((w.alloc (.cells #[.int .i64 k1,.int .i64 n1,.string S,.string A,.string V,.string Q] 27)).alloc (.cells #[.int .i64 k2,.int .i64 n2,.string P,.string A2,.string V2,.string Q2] 27)).heap[w.heap.size+1]?=some (.cells #[.int .i64 k2,.int .i64 n2,.string P,.string A2,.string V2,.string Q2] 27):=by have:=heap_alloc_new (w.alloc (.cells #[.int .i64 k1,.int .i64 n1,.string S,.string A,.string V,.string Q] 27)) (.cells #[.int .i64 k2,.int .i64 n2,.string P,.string A2,.string V2,.string Q2] 27);rw [show(w.alloc (.cells #[.int .i64 k1,.int .i64 n1,.string S,.string A,.string V,.string Q] 27)).heap.size=w.heap.size+1 by simp] at this;exact this
 have hg0:((w.alloc (.cells #[.int .i64 k1,.int .i64 n1,.string S,.string A,.string V,.string Q] 27)).alloc (.cells #[.int .i64 k2,.int .i64 n2,.string P,.string A2,.string V2,.string Q2] 27)).heap[w.heap.size]?=some (.cells #[.int .i64 k1,.int .i64 n1,.string S,.string A,.string V,.string Q] 27):=(zea _ _ _ (by simp)).trans (heap_alloc_new w _)
 have hz0:w.heap.size+1<((w.alloc (.cells #[.int .i64 k1,.int .i64 n1,.string S,.string A,.string V,.string Q] 27)).alloc (.cells #[.int .i64 k2,.int .i64 n2,.string P,.string A2,.string V2,.string Q2] 27)).heap.size:=by simp
 have HB0:=z8 (ze9 hB0 (ze9 hg0 (ze9 hi0 hz0)))
 obtain⟨y0,y1,y2,y3,y4,y5⟩:=z1H hg0
 obtain⟨z0,z1,z2,z3,z4,z5⟩:=z1H hi0
 clear hB0 hg0 hi0 hz0
 go_enter Tryz.func15,Tryz.ntmps15
 go_wp2_with fail
 refine(H.out.1 _).mono ?_
 rintro e w1 ⟨rfl,hB1⟩
 obtain⟨hB00,hg0,hi0,hz0⟩:=HB0.out
 clear HB0
 have hg1:=(hB1.block _ (Nat.lt_of_succ_lt hz0)).trans hg0
 have hi1:=(hB1.block _ hz0).trans hi0
 have hB01:Below w.heap.size w w1:=hB00.trans (hB1.mono (by omega))
 have hz1:w.heap.size+1<w1.heap.size:=zee hz0 hB1.size
 clear y0 y1 y2 y3 y4 y5 z0 z1 z2 z3 z4 z5
 obtain⟨y0,y1,y2,y3,y4,y5⟩:=z1H hg1
 obtain⟨z0,z1,z2,z3,z4,z5⟩:=z1H hi1
 have HB1:=z8 (ze9 hB01 (ze9 hg1 (ze9 hi1 hz1)))
 clear hB1 hB00 hg0 hi0 hz0 hB01 hg1 hi1 hz1
 go_wp2_with fail
 refine(H.out.2.1 _).mono ?_
 rintro e w2 ⟨rfl,hB2⟩
 obtain⟨hB01,hg1,hi1,hz1⟩:=HB1.out
 clear HB1
 have hg2:=(hB2.block _ (Nat.lt_of_succ_lt hz1)).trans hg1
 have hi2:=(hB2.block _ hz1).trans hi1
 have hB02:Below w.heap.size w w2:=hB01.trans (hB2.mono (by omega))
 have hz2:w.heap.size+1<w2.heap.size:=zee hz1 hB2.size
 clear y0 y1 y2 y3 y4 y5 z0 z1 z2 z3 z4 z5
 obtain⟨y0,y1,y2,y3,y4,y5⟩:=z1H hg2
 obtain⟨z0,z1,z2,z3,z4,z5⟩:=z1H hi2
 have HB2:=z8 (ze9 hB02 (ze9 hg2 (ze9 hi2 hz2)))
 clear hB2 hB01 hg1 hi1 hz1 hB02 hg2 hi2 hz2
 go_wp2_with fail
 refine(H.out.2.2.1 _).mono ?_
 rintro e w3 ⟨rfl,hB3⟩
 obtain⟨hB02,hg2,hi2,hz2⟩:=HB2.out
 clear HB2
 have hg3:=(hB3.block _ (Nat.lt_of_succ_lt hz2)).trans hg2
 have hi3:=(hB3.block _ hz2).trans hi2
 have hB03:Below w.heap.size w w3:=hB02.trans (hB3.mono (by omega))
 have hz3:w.heap.size+1<w3.heap.size:=zee hz2 hB3.size
 clear y0 y1 y2 y3 y4 y5 z0 z1 z2 z3 z4 z5
 obtain⟨y0,y1,y2,y3,y4,y5⟩:=z1H hg3
 obtain⟨z0,z1,z2,z3,z4,z5⟩:=z1H hi3
 have HB3:=z8 (ze9 hB03 (ze9 hg3 (ze9 hi3 hz3)))
 clear hB3 hB02 hg2 hi2 hz2 hB03 hg3 hi3 hz3
 go_wp2_with fail
 refine(H.out.2.2.2.1 _).mono ?_
 rintro e w4 ⟨rfl,hB4⟩
 obtain⟨hB03,hg3,hi3,hz3⟩:=HB3.out
 clear HB3
 have hg4:=(hB4.block _ (Nat.lt_of_succ_lt hz3)).trans hg3
 have hi4:=(hB4.block _ hz3).trans hi3
 have hB04:Below w.heap.size w w4:=hB03.trans (hB4.mono (by omega))
 have hz4:w.heap.size+1<w4.heap.size:=zee hz3 hB4.size
 clear y0 y1 y2 y3 y4 y5 z0 z1 z2 z3 z4 z5
 obtain⟨y0,y1,y2,y3,y4,y5⟩:=z1H hg4
 obtain⟨z0,z1,z2,z3,z4,z5⟩:=z1H hi4
 have HB4:=z8 (ze9 hB04 (ze9 hg4 (ze9 hi4 hz4)))
 clear hB4 hB03 hg3 hi3 hz3 hB04 hg4 hi4 hz4
 go_wp2_with fail
 refine(H.out.2.2.2.2.1 _).mono ?_
 rintro e w5 ⟨rfl,hB5⟩
 obtain⟨hB04,hg4,hi4,hz4⟩:=HB4.out
 clear HB4
 have hg5:=(hB5.block _ (Nat.lt_of_succ_lt hz4)).trans hg4
 have hi5:=(hB5.block _ hz4).trans hi4
 have hB05:Below w.heap.size w w5:=hB04.trans (hB5.mono (by omega))
 have hz5:w.heap.size+1<w5.heap.size:=zee hz4 hB5.size
 clear y0 y1 y2 y3 y4 y5 z0 z1 z2 z3 z4 z5
 obtain⟨y0,y1,y2,y3,y4,y5⟩:=z1H hg5
 obtain⟨z0,z1,z2,z3,z4,z5⟩:=z1H hi5
 have HB5:=z8 (ze9 hB05 (ze9 hg5 (ze9 hi5 hz5)))
 clear hB5 hB04 hg4 hi4 hz4 hB05 hg5 hi5 hz5
 go_wp2_with fail
 refine(H.out.2.2.2.2.2.1 _).mono ?_
 rintro e w6 ⟨rfl,hB6⟩
 obtain⟨hB05,hg5,hi5,hz5⟩:=HB5.out
 clear HB5
 have hg6:=(hB6.block _ (Nat.lt_of_succ_lt hz5)).trans hg5
 have hi6:=(hB6.block _ hz5).trans hi5
 have hB06:Below w.heap.size w w6:=hB05.trans (hB6.mono (by omega))
 have hz6:w.heap.size+1<w6.heap.size:=zee hz5 hB6.size
 clear y0 y1 y2 y3 y4 y5 z0 z1 z2 z3 z4 z5
 obtain⟨y0,y1,y2,y3,y4,y5⟩:=z1H hg6
 obtain⟨z0,z1,z2,z3,z4,z5⟩:=z1H hi6
 have HB6:=z8 (ze9 hB06 (ze9 hg6 (ze9 hi6 hz6)))
 clear hB6 hB05 hg5 hi5 hz5 hB06 hg6 hi6 hz6
 obtain⟨F,hef⟩:=HF.out
 have ha2: ¬a= -2:=by have:=F.ga;omega
 have hb2: ¬b= -2:=by have:=F.gb;omega
 have hc2: ¬c= -2:=by have:=F.gc;omega
 have hd2: ¬d= -2:=by have:=F.gd;omega
 have ht2: ¬t= -2:=by have:=F.gt;omega
 have hn2: ¬n= -2:=by have:=F.gn;omega
 have hab:(a== -2)=false:=by simpa using ha2
 have hbb:(b== -2)=false:=by simpa using hb2
 have hcb:(c== -2)=false:=by simpa using hc2
 have hdb:(d== -2)=false:=by simpa using hd2
 have htb:(t== -2)=false:=by simpa using ht2
 have hnb:(n== -2)=false:=by simpa using hn2
 have fj:=z8 F.j
 have ft:=z8 F.tw
 have fn:=z8 F.no
 clear F HF
 have efc:(¬e=0)∨(e=0∧f=0):=by
  by_cases q:e=0
  ·exact .inr ⟨q,hef q⟩
  ·exact .inl q
 clear hef
 rcases efc with he|⟨rfl,rfl⟩
 have heb:(e==0)=false:=by simpa using he
 all_goals
  by_cases pa:0≤a
  ·have pn: ¬a<n:=by have:=fn.out pa;omega
   by_cases pt:0≤t
   ·obtain rfl:=ft.out pa pt
    by_cases pb:0≤b
    ·by_cases pc:0≤c
     ·obtain⟨q1,q2,rfl⟩:=fj.out pa pb pc
      have q1: ¬d<a:=by omega
      have q2: ¬d<b:=by omega
      clear fj ft fn
      go_wp2_with fail
      refine(H.out.2.2.2.2.2.2 _).mono ?_
      rintro e' w7 ⟨rfl,hB7⟩
      have HB7:=z8 (HB6.out.1.trans (hB7.mono (by have:=HB6.out.2.2.2;omega)))
      clear hB7 HB6 y0 y1 y2 y3 y4 y5 z0 z1 z2 z3 z4 z5
      go_wp2_with fail
      refine(z01 _ _).mono ?_
      rintro e' w8 ⟨rfl,rfl⟩
      go_wp2_with fail
      go_ret
      exact⟨rfl,HB7.out⟩
     ·clear fj ft fn
      go_wp2_with fail
      refine(H.out.2.2.2.2.2.2 _).mono ?_
      rintro e' w7 ⟨rfl,hB7⟩
      have HB7:=z8 (HB6.out.1.trans (hB7.mono (by have:=HB6.out.2.2.2;omega)))
      clear hB7 HB6 y0 y1 y2 y3 y4 y5 z0 z1 z2 z3 z4 z5
      go_wp2_with fail
      refine(z01 _ _).mono ?_
      rintro e' w8 ⟨rfl,rfl⟩
      go_wp2_with fail
      go_ret
      exact⟨rfl,HB7.out⟩
    ·clear fj ft fn
     go_wp2_with fail
     refine(H.out.2.2.2.2.2.2 _).mono ?_
     rintro e' w7 ⟨rfl,hB7⟩
     have HB7:=z8 (HB6.out.1.trans (hB7.mono (by have:=HB6.out.2.2.2;omega)))
     clear hB7 HB6 y0 y1 y2 y3 y4 y5 z0 z1 z2 z3 z4 z5
     go_wp2_with fail
     refine(z01 _ _).mono ?_
     rintro e' w8 ⟨rfl,rfl⟩
     go_wp2_with fail
     go_ret
     exact⟨rfl,HB7.out⟩
   ·clear ft fn
    by_cases pb:0≤b
    ·by_cases pc:0≤c
     ·obtain⟨q1,q2,rfl⟩:=fj.out pa pb pc
      have q1: ¬d<a:=by omega
      have q2: ¬d<b:=by omega
      clear fj
      go_wp2_with fail
      refine(H.out.2.2.2.2.2.2 _).mono ?_
      rintro e' w7 ⟨rfl,hB7⟩
      have HB7:=z8 (HB6.out.1.trans (hB7.mono (by have:=HB6.out.2.2.2;omega)))
      clear hB7 HB6 y0 y1 y2 y3 y4 y5 z0 z1 z2 z3 z4 z5
      go_wp2_with fail
      refine(z01 _ _).mono ?_
      rintro e' w8 ⟨rfl,rfl⟩
      go_wp2_with fail
      go_ret
      exact⟨rfl,HB7.out⟩
     ·clear fj
      go_wp2_with fail
      refine(H.out.2.2.2.2.2.2 _).mono ?_
      rintro e' w7 ⟨rfl,hB7⟩
      have HB7:=z8 (HB6.out.1.trans (hB7.mono (by have:=HB6.out.2.2.2;omega)))
      clear hB7 HB6 y0 y1 y2 y3 y4 y5 z0 z1 z2 z3 z4 z5
      go_wp2_with fail
      refine(z01 _ _).mono ?_
      rintro e' w8 ⟨rfl,rfl⟩
      go_wp2_with fail
      go_ret
      exact⟨rfl,HB7.out⟩
    ·clear fj
     go_wp2_with fail
     refine(H.out.2.2.2.2.2.2 _).mono ?_
     rintro e' w7 ⟨rfl,hB7⟩
     have HB7:=z8 (HB6.out.1.trans (hB7.mono (by have:=HB6.out.2.2.2;omega)))
     clear hB7 HB6 y0 y1 y2 y3 y4 y5 z0 z1 z2 z3 z4 z5
     go_wp2_with fail
     refine(z01 _ _).mono ?_
     rintro e' w8 ⟨rfl,rfl⟩
     go_wp2_with fail
     go_ret
     exact⟨rfl,HB7.out⟩
  ·clear fj ft fn
   go_wp2_with fail
   refine(H.out.2.2.2.2.2.2 _).mono ?_
   rintro e' w7 ⟨rfl,hB7⟩
   have HB7:=z8 (HB6.out.1.trans (hB7.mono (by have:=HB6.out.2.2.2;omega)))
   clear hB7 HB6 y0 y1 y2 y3 y4 y5 z0 z1 z2 z3 z4 z5
   go_wp2_with fail
   refine(z01 _ _).mono ?_
   rintro e' w8 ⟨rfl,rfl⟩
   go_wp2_with fail
   go_ret
   exact⟨rfl,HB7.out⟩
theorem z9F (k1 n1 k2 n2:Int)(S A V Q P A2 V2 Q2:zej)(hS:S.size≤140737488355328)(hA:A.size≤maxLen)(hV:V.size≤maxLen)(hQ:Q.size≤maxLen)(hP:P.size≤140737488355328)(w:World):
  Calls Tryz.prog 15 #[.agg #[.int .i64 k1,.int .i64 n1,.string S,.string A,.string V,.string Q],.agg #[.int .i64 k2,.int .i64 n2,.string P,.string A2,.string V2,.string Q2]] w fun e w'=>e= .returned (.bool true)∧Below w.heap.size w w':=by
 have hm:(140737488355328:Nat)+140737488355328≤maxLen:=by unfold maxLen;omega
 have s1:(S++P).size≤maxLen:=by rw [ByteArray.size_append];omega
 have s2:(P++S).size≤maxLen:=by rw [ByteArray.size_append];omega
 have s3:(S++S).size≤maxLen:=by rw [ByteArray.size_append];omega
 obtain⟨a,la,ca⟩:=z44 S A V Q (by omega) hA hV hQ
 obtain⟨b,lb,cb⟩:=z44 P A V Q (by omega) hA hV hQ
 obtain⟨c,lc,cc⟩:=z44 (S++P) A V Q s1 hA hV hQ
 obtain⟨d,ld,cd⟩:=z44 (P++S) A V Q s2 hA hV hQ
 obtain⟨t,lt,ct⟩:=z44 (S++S) A V Q s3 hA hV hQ
 obtain⟨n,ln,cn⟩:=z44 S A V ⟨#[]⟩ (by omega) hA hV (zef _)
 obtain⟨r,hr,cr⟩:=zbg S (by omega)
 exact zbA k1 n1 k2 n2 S A V Q P A2 V2 Q2 (by omega) (by omega) (by omega) a b c d t n r.1 r.2 ⟨la.ge,lb.ge,lc.ge,ld.ge,lt.ge,ln.ge,fun x y z=>la.join lb lc ld x y z,fun x y=>la.twice lt x y,fun x=>la.none ln x⟩ hr ca cb cc cd ct cn cr w
theorem z81 (b off len cap:Nat)(K N:Nat→Int)(S A V Q:Nat→zej)(w:World)(h:Ops w b off len K N S A V Q)(hlen:len≤maxLen)(ht:Tab w)
  (hs: ∀i,i<len→(S i).size≤140737488355328∧(A i).size≤maxLen∧(V i).size≤maxLen∧(Q i).size≤maxLen):
  Calls Tryz.prog 9 #[.slice (some ⟨b,off,none⟩) len cap] w fun e w'=>e= .returned (.bool true)∧Below w.heap.size w w':=by
 have HO:=z8 h
 have HS:=z8 hs
 have HT:=z8 ht
 clear h hs ht
 have hl63:len≤9223372036854775807:=by unfold maxLen at hlen;omega
 clear hlen
 go_enter Tryz.func9,Tryz.ntmps9
 go_wp2_with fail
 refine(z5u _ HT.out).mono ?_
 rintro e w1 ⟨rfl,hB1⟩
 have hg1:((w1.alloc (.cells #[.int .i64 0,.int .i64 0,.string ⟨#[]⟩,.string ⟨#[]⟩,.string ⟨#[]⟩,.string ⟨#[]⟩] 27))).heap[w1.heap.size]?=some (.cells #[.int .i64 0,.int .i64 0,.string ⟨#[]⟩,.string ⟨#[]⟩,.string ⟨#[]⟩,.string ⟨#[]⟩] 27):=heap_alloc_new w1 _
 have HB1:=z8 (ze9 hB1 hg1)
 clear hB1 hg1
 go_wp2_with fail
 go_loopg [5,6] (1152921504606846976+1) (fun g iv _ wr=> ∃i:Nat,g+i=1152921504606846976+1∧i≤1152921504606846976∧i≤len∧iv= .int .i64 i∧Below w.heap.size w wr∧w1.heap.size<wr.heap.size∧ ∃(lk ln:Int) (ls la lv lq:zej),ls.size≤140737488355328∧wr.heap[w1.heap.size]?=some (.cells #[.int .i64 lk,.int .i64 ln,.string ls,.string la,.string lv,.string lq] 27))
 case atStart=>exact⟨0,rfl,zef _,zef _,rfl,HB1.out.1.alloc HB1.out.1.size _,by simp,0,0,⟨#[]⟩,⟨#[]⟩,⟨#[]⟩,⟨#[]⟩,zef _,HB1.out.2⟩
 case round=>
  obtain⟨i,hgk,hi60,hil,rfl,hB,hz,lk,ln,ls,la,lv,lq,hls,hg⟩:=hrel
  have HGK:=z8 hgk
  have HB:=z8 (ze9 hB (ze9 hz hg))
  clear hgk
  by_cases hlt:i<len
  ·by_cases h60:i<1152921504606846976
   ·have hb:=HO.out.lt (by omega)
    have c0:=(hB.cell (p:=⟨b,off+i*6,none⟩) hb).trans (HO.out.c0 i hlt)
    have c1:=(hB.cell (p:=⟨b,off+i*6+1,none⟩) hb).trans (HO.out.c1 i hlt)
    have c2:=(hB.cell (p:=⟨b,off+i*6+2,none⟩) hb).trans (HO.out.c2 i hlt)
    have c3:=(hB.cell (p:=⟨b,off+i*6+3,none⟩) hb).trans (HO.out.c3 i hlt)
    have c4:=(hB.cell (p:=⟨b,off+i*6+4,none⟩) hb).trans (HO.out.c4 i hlt)
    have c5:=(hB.cell (p:=⟨b,off+i*6+5,none⟩) hb).trans (HO.out.c5 i hlt)
    obtain⟨y0,y1,y2,y3,y4,y5⟩:=z1H hg
    have hli:(i:Int)<len:=by omega
    have h60i:(i:Int)<1152921504606846976:=by omega
    obtain⟨q1,q2,q3,q4⟩:=HS.out i hlt
    have HP:=z8 (z9F (K i) (N i) lk ln (S i) (A i) (V i) (Q i) ls la lv lq q1 q2 q3 q4 hls)
    have hz1:w.heap.size≤wr.heap.size:=hB.size
    have hzl:w1.heap.size<wr.heap.size:=hz
    have hbz:b<wr.heap.size:=zee hb hz1
    clear hB hz hg q1 q2 q3 q4 hls
    have HQ:=z8 (ze9 (HS.out i hlt).1 (ze9 c0 (ze9 c1 (ze9 c2 (ze9 c3 (ze9 c4 c5))))))
    generalize K i=ki at*
    generalize N i=ni at*
    generalize S i=si at*
    generalize A i=ai at*
    generalize V i=vi at*
    generalize Q i=qi at*
    go_wp2_with fail
    go_region_held3 (fun w'=>w'.cell? ⟨b,off+i*6,none⟩=some (.int .i64 ki)∧w'.cell? ⟨b,off+i*6+1,none⟩=some (.int .i64 ni)∧w'.cell? ⟨b,off+i*6+2,none⟩=some (.string si)∧w'.cell? ⟨b,off+i*6+3,none⟩=some (.string ai)∧w'.cell? ⟨b,off+i*6+4,none⟩=some (.string vi)∧w'.cell? ⟨b,off+i*6+5,none⟩=some (.string qi)∧w'.cell? ⟨w1.heap.size,0,none⟩=some (.int .i64 lk)∧w'.cell? ⟨w1.heap.size,1,none⟩=some (.int .i64 ln)∧w'.cell? ⟨w1.heap.size,2,none⟩=some (.string ls)∧w'.cell? ⟨w1.heap.size,3,none⟩=some (.string la)∧w'.cell? ⟨w1.heap.size,4,none⟩=some (.string lv)∧w'.cell? ⟨w1.heap.size,5,none⟩=some (.string lq)) (go_keep) (first|(go_at_call 15;refine(HP.out _).mono ?_;rintro e w2 ⟨rfl,hB2⟩;(have d0:=(hB2.cell (p:=⟨b,off+i*6,none⟩) hbz).trans c0);(have d1:=(hB2.cell (p:=⟨b,off+i*6+1,none⟩) hbz).trans c1);(have d2:=(hB2.cell (p:=⟨b,off+i*6+2,none⟩) hbz).trans c2);(have d3:=(hB2.cell (p:=⟨b,off+i*6+3,none⟩) hbz).trans c3);(have d4:=(hB2.cell (p:=⟨b,off+i*6+4,none⟩) hbz).trans c4);(have d5:=(hB2.cell (p:=⟨b,off+i*6+5,none⟩) hbz).trans c5);(have d6:=(hB2.cell (p:=⟨w1.heap.size,0,none⟩) hzl).trans y0);(have d7:=(hB2.cell (p:=⟨w1.heap.size,1,none⟩) hzl).trans y1);(have d8:=(hB2.cell (p:=⟨w1.heap.size,2,none⟩) hzl).trans y2);(have d9:=(hB2.cell (p:=⟨w1.heap.size,3,none⟩) hzl).trans y3);(have d10:=(hB2.cell (p:=⟨w1.heap.size,4,none⟩) hzl).trans y4);(have d11:=(hB2.cell (p:=⟨w1.heap.size,5,none⟩) hzl).trans y5)))
    obtain⟨hB,hz,hg⟩:=HB.out
    have hg2:w2.heap[w1.heap.size]?=some (.cells #[.int .i64 lk,.int .i64 ln,.string ls,.string la,.string lv,.string lq] 27):=(hB2.block _ hz).trans hg
    have hB02:Below w.heap.size w w2:=hB.trans ⟨hB2.os,hB2.tape,hB2.output,hB2.size,fun k hk=>hB2.block k (zee hk hz1)⟩
    have hz2:w1.heap.size<w2.heap.size:=zee hz hB2.size
    have fr:=(zai hg2).2.2.2.2.2.2
    have f0:=fr 0
    have f1:=fr 1
    have f2:=fr 2
    have f3:=fr 3
    have f4:=fr 4
    have f5:=fr 5
    have HN:=z8 (ze9 hB02 (ze9 hz2 hg2))
    clear hB hz hg hg2 hB02 hB2 hz2 fr c0 c1 c2 c3 c4 c5 y0 y1 y2 y3 y4 y5 HB hzl hbz hz1
    go_wp2_with fail
    go_roundg (1152921504606846976 - i)
    case measure=>have:=HGK.out;omega
    case rel=>
     obtain⟨hB,hz,hg⟩:=HN.out
     have hle:w.heap.size≤w1.heap.size:=HB1.out.1.size
     exact⟨i+1,by have:=HGK.out;omega,by omega,by omega,by go_num,(((((hB.setCell hle _).setCell hle _).setCell hle _).setCell hle _).setCell hle _).setCell hle _,by simpa [World.setCell] using hz,ki,ni,si,ai,vi,qi,HQ.out.1,z39 hg _ _ _ _ _ _⟩
   ·have hli:(i:Int)<len:=by omega
    have h60i: ¬(i:Int)<1152921504606846976:=by omega
    clear hB hz hg
    go_wp2_with fail
    go_ret
    exact⟨rfl,HB.out.1⟩
  ·have hli: ¬(i:Int)<len:=by omega
   clear hB hz hg
   go_wp2_with fail
   go_ret
   exact⟨rfl,HB.out.1⟩
end Go.Proofs.YtkoohcilbpdgeaaGreatDoor
