import Derived.Deep.RegionHeld3
import Derived.Test.YtkoohcilbpdgeaaGreatDoorC09
set_option linter.all false
set_option linter.unusedVariables false
set_option linter.unusedSimpArgs false
set_option linter.unnecessarySimpa false
set_option linter.constructorNameAsVariable false
set_option linter.deprecated false
set_option maxRecDepth 100000
set_option maxHeartbeats 6400000
namespace Go.Proofs.YtkoohcilbpdgeaaGreatDoor
open Go Go.RowKit
theorem zfd (q:zgS):plM pol (rqM q).1 0= -1:=by
 unfold rqM
 split
 ·rfl
 ·split
  ·rfl
  ·rename_i h
   simp only [Bool.or_eq_true,not_or,bne_iff_ne,ne_eq] at h
   exact Classical.not_not.1 h.2
theorem zaV:pol.toList=[80,79,76,73,67,89]:=by rw [zgG];rfl
theorem zaX {A:List As}{L:List Lc}{qs:List zgS}{top:Nat}{W:List Int}{i:Nat}{x:As}(hx:A[i]?=some x)(h:0<zb (gvM A L qs top W A.length) (i:Int)):1≤zb W x.conds:=by
 have hi:=(zgF.1 hx).1
 obtain⟨m,hm⟩: ∃m,A.length=m+1:=⟨A.length - 1,by omega⟩
 rw [hm] at h
 have h:0<zb (ltM A W (jP (stM A qs top (gvM A L qs top W m)) top L [])) (i:Int):=h
 unfold ltM at h
 rw [z5N,hx] at h
 exact(z1T.1 (show 1≤z6a _ _ from h)).1
section
variable {A:List As} {L:List Lc} {qs:List zgS} {top:Nat} {W:List Int}
theorem z6F (hW:Lvr top W)(hp:zfn A L top)(hq:plM pol qs 0= -1)(hA8:A.length≤8):
  (stM A qs top (gvM A L qs top W A.length) pol=0∧z7a A (lnM A L) (rwM A (lnM A L) qs (gvM A L qs top W A.length) A.length)=[])∨
  (0<stM A qs top (gvM A L qs top W A.length) pol∧(∀x∈z7a A (lnM A L) (rwM A (lnM A L) qs (gvM A L qs top W A.length) A.length),0≤x∧x≤9)∧ ∃K,zgp A (lnM A L) qs W (z3G (z7a A (lnM A L) (rwM A (lnM A L) qs (gvM A L qs top W A.length) A.length))) K):=by
 have hr:=z24 (A:=A) (qs:=qs) (z4x (A:=A) (L:=L) (qs:=qs) hW A.length) pol
 by_cases h0:stM A qs top (gvM A L qs top W A.length) pol=0
 ·refine .inl ⟨h0,?_⟩
  rcases z1X [pol] (rwM A (lnM A L) qs (gvM A L qs top W A.length) A.length) A with⟨e,_⟩|⟨f,x,hx,_,⟨c1,c2⟩,_⟩
  ·unfold z7a
   rw [e,z1g (by omega)]
   rfl
  ·exfalso
   have hg:=(z3n c1).2
   have hb:x.by_=pol:=by simpa using z4N _ _ c2
   have:=(z1v (A:=A) (qs:=qs) (top:=top) (g:=gvM A L qs top W A.length) (nm:=pol) (Int.le_refl 1)).2 (.inr ⟨hq,f,x,hx,by rw [hb],by omega⟩)
   omega
 ·refine .inr ⟨by omega,?_⟩
  rcases(z1v (A:=A) (qs:=qs) (top:=top) (g:=gvM A L qs top W A.length) (nm:=pol) (Int.le_refl 1)).1 (by omega) with⟨q1,_⟩|⟨_,j,y,hy,hyb,hyg⟩
  ·exact absurd hq q1
  ·have hl:=zfN (W:=W) (qs:=qs) hp A.length (zgH _) j y hy hyg
   have hyb:=z2Q hyb
   rcases z1X [pol] (rwM A (lnM A L) qs (gvM A L qs top W A.length) A.length) A with⟨_,hno⟩|⟨f,x,hx,e,⟨c1,c2⟩,_⟩
   ·exact absurd ⟨hl,z9u _ _ (by rw [hyb];exact List.mem_cons_self)⟩ (hno j y hy)
   ·have hxb:x.by_=pol:=by simpa using z4N _ _ c2
    have hbd:=z0H (A:=A) (ln:=lnM A L) (qs:=qs) (g:=gvM A L qs top W A.length) A.length f
    obtain⟨k,hk⟩: ∃k:Nat,zb (rwM A (lnM A L) qs (gvM A L qs top W A.length) A.length) (f:Int)=((k+1:Nat):Int):=⟨(zb (rwM A (lnM A L) qs (gvM A L qs top W A.length) A.length) (f:Int)).toNat - 1,by omega⟩
    have hrow:=zeA k f hk
    have eR:z7a A (lnM A L) (rwM A (lnM A L) qs (gvM A L qs top W A.length) A.length)=z6m A (lnM A L) (rwM A (lnM A L) qs (gvM A L qs top W A.length) A.length) (k+1) f:=by
     unfold z7a
     rw [e,hk,Int.toNat_natCast]
    rw [eR]
    have hlen:=zbj A (lnM A L) (rwM A (lnM A L) qs (gvM A L qs top W A.length) A.length) (k+1) f
    obtain⟨rs,hrs⟩: ∃rs,z6m A (lnM A L) (rwM A (lnM A L) qs (gvM A L qs top W A.length) A.length) (k+1) f=(f:Int)::rs:=⟨_,rfl⟩
    rw [hrs] at hrow hlen ⊢
    generalize hR:(f:Int)::rs=R at*
    generalize rwM A (lnM A L) qs (gvM A L qs top W A.length) A.length=ls at*
    have hmem:=za4 R _ hrow
    have h9: ∀x∈R,0≤x∧x≤9:=fun x hx=>by
     obtain⟨i,z,rfl,h1,_,_⟩:=hmem x hx
     have:=(zgF.1 h1).1
     omega
    refine⟨h9,fun t=>(R.getD t 0).toNat,?_⟩
    have hget: ∀t,t<R.length→ ∃(i:Nat) (z:As),R[t]?=some (i:Int)∧(R.getD t 0).toNat=i∧A[i]?=some z∧0<zb (gvM A L qs top W A.length) (i:Int):=fun t ht=>by
     obtain⟨i,z,h1,h2,h3,_⟩:=hmem (R[t]'ht) (List.getElem_mem ht)
     have e:R[t]?=some (i:Int):=by rw [zgE ht,h1]
     exact⟨i,z,e,by simp [List.getD,e],h2,h3⟩
    have hsz:=z5K R
    refine⟨by omega,by omega,fun t ht=> ?_,fun t ht=> ?_,fun t t' htt ht=> ?_,?_⟩
    ·obtain⟨i,z,h1,h2,h3,_⟩:=hget t (by omega)
     have hd:=zaO R t ht i h1
     obtain⟨q1,q2⟩:=h9 (i:Int) (zgM h1)
     obtain⟨d1,d2,d3⟩:=z8W q1 q2
     rw [hd]
     show _=(((R.getD t 0).toNat:Nat):Int)∧_=(R.getD t 0).toNat+48
     rw [h2]
     omega
    ·obtain⟨i,z,h1,h2,h3,h4⟩:=hget t (by omega)
     show ∃x,A[(R.getD t 0).toNat]?=some x∧_∧_∧(0<t→x.by_∈lnM A L (R.getD (t - 1) 0).toNat)
     rw [h2]
     have hw:=zaX h3 h4
     refine⟨z,h3,?_,fun e=> ?_,fun e=> ?_⟩
     ·cases hq:(zb W z.conds==0) with
      |false=>rfl
      |true=>simp at hq;omega
     ·subst e
      rw [←hR] at h1
      have e0:(f:Int)=(i:Int):=by simpa using h1
      have e:f=i:=by omega
      rw [←e,hx] at h3
      injection h3 with e
      rw [←e,hxb,zaV]
      rfl
     ·obtain⟨i',z',g1,g2,g3,g4⟩:=hget (t - 1) (by omega)
      rw [g2]
      obtain⟨ia,ja,ya,e1,e2,e3,e4⟩:=zcw R _ hrow (t - 1) i' i g1 (by rw [show t - 1+1=t by omega];exact h1)
      have ea:ia=i':=by omega
      have eb:ja=i:=by omega
      subst ea eb
      rw [h3] at e3
      injection e3 with e
      rw [e]
      exact z4N _ _ e4
    ·obtain⟨i,z,h1,h2,_⟩:=hget t (by omega)
     obtain⟨i',z',g1,g2,_⟩:=hget t' (by omega)
     show(R.getD t' 0).toNat≠(R.getD t 0).toNat
     rw [h2,g2]
     intro e
     exact zdj R _ hrow t t' i htt h1 (by rw [g1,e])
    ·obtain⟨i,z,h1,h2,_⟩:=hget ((z3G R).size - 1) (by omega)
     show ∃nm∈lnM A L (R.getD ((z3G R).size - 1) 0).toNat,nm∈qs
     rw [h2]
     obtain⟨i',e1,e2⟩:=zbm R _ hrow i (by rw [List.getLast?_eq_getElem?];rw [hsz] at h1;exact h1)
     have e:i'=i:=by omega
     subst e
     obtain⟨nm,n1,n2⟩:=List.any_eq_true.1 e2
     exact⟨nm,n1,z4N _ _ (by simpa using n2)⟩
end
attribute [local go_sem] wrap64_byte
theorem Ask.pos {s a v q:zgS}{st:St}(h:Ask s a v q st)(h0:grM s a v q st=0)(top:Nat):zfn st.A st.L top∧Tos st.A st.L:=by
 obtain⟨n,hM⟩:=h.mr
 obtain⟨_,_,hck,hs,_,_⟩:=z11 h0
 obtain⟨e,w',fr,⟨lv,_,_,_,hq⟩,_⟩:=z0d s n st (World.holding Tryz.prog default ⟨#[],#[],[]⟩) hM hs []
 obtain⟨f,ps,_,hq⟩:=hq hck
 exact zbu (h.cnt h0) top hq
theorem Ask.lvr {s a v q:zgS}{st:St}(h0:grM s a v q st=0):Lvr ((vlM v).1.length - 1) (jZ (vlM v).1 (zf (raM a).1 st.E []) st.C []):=z7R fun x hx=>by
 have h2:=Ask.two h0
 have:=z8E (vlM v).1 (zf (raM a).1 st.E []) (by omega) st.C [] (fun x h=>by cases h) x hx
 omega
theorem Ask.chain {s a v q:zgS}{st:St}(h:Ask s a v q st)(w:World):Calls Tryz.prog 20 #[.string s,.string a,.string v,.string q] w fun e w'=>z0o (chM s a v q st).1 (chM s a v q st).2 w e w':=
 zbl s a v q st w (h.gr w) (by have:=h.ee;omega) (by have:=h.ea;omega) (by have:=h.ec;omega) h.cl (z3s v) h.ra.2 h.ra.1 h.es h.lok (fun h0 x hx=>(h.w h0 x hx).1) (fun h0=>by have:=Ask.two h0;omega) (fun h0=>(h.pos h0 1).2) (fun h0=>(z3m (z11 h0).2.2.1).2.2.1) (fun h0=>by
  rcases z6F (qs:=(rqM q).1) (Ask.lvr h0) (h.pos h0 ((vlM v).1.length - 1)).1 (zfd q) (z3m (z11 h0).2.2.1).2.2.1 with⟨_,e⟩|⟨_,e,_⟩
  ·rw [e];exact fun x hx=>by cases hx
  ·exact e)
def plc (V v:zgS):Nat→Nat→Int→Nat→Int
 |0,_,_,_=> -1
 |n+1,i,k,fr=>if i==V.size||pk V i false==44 then(if((V.extract fr i).toList==v.toList)&& !v.toList.isEmpty then k else plc V v n (i+1) (k+1) (i+1)) else plc V v n (i+1) k fr
def zbw (V v:zgS):Int:=plc V v (V.size+1) 0 0 0
theorem z8x (V v:zgS)(w:World)(hV:V.size≤100000):Calls Tryz.prog 27 #[.string V,.string v] w fun e w'=>e= .returned (.int .i64 (zbw V v))∧ ∃n,w'=w.drewN n:=by
 have hM:Hid (zbw V v=plc V v (V.size+1) 0 0 0):=z8 rfl
 generalize zbw V v=R at*
 go_enter Tryz.func27,Tryz.ntmps27
 go_wp2_with fail
 go_loopg [5,6,7] (V.size+2) (fun n kv fv iv wr=> ∃(i fr m:Nat) (k:Int),n+i=V.size+2∧i≤V.size+1∧fr≤i∧kv= .int .i64 k∧fv= .int .i64 fr∧iv= .int .i64 i∧wr=w.drewN m∧0≤k∧k≤i∧Hid (plc V v (V.size+1 - i) i k fr=R))
 case atStart=>exact⟨0,0,0,0,rfl,by omega,zgH _,rfl,rfl,rfl,rfl,by omega,by omega,z8 hM.out.symm⟩
 case round=>
  obtain⟨i,fr,m,k,hk,hi1,hfr,rfl,rfl,rfl,rfl,hk0,hki,hfin⟩:=hrel
  have hHK:=z8 hk
  clear hk
  by_cases hle:i≤V.size
  ·have hle':(i:Int)≤V.size:=by omega
   have hst:Hid (R=if i==V.size||pk V i false==44 then(if((V.extract fr i).toList==v.toList)&& !v.toList.isEmpty then k else plc V v (V.size+1 -(i+1)) (i+1) (k+1) (i+1)) else plc V v (V.size+1 -(i+1)) (i+1) k fr):=z8 (by
    rw [←hfin.out]
    obtain⟨q,hq⟩: ∃q,V.size+1 - i=q+1:=⟨V.size - i,by omega⟩
    rw [hq,show V.size+1 -(i+1)=q by omega]
    rfl)
   have hext:Hid (fr≤i∧i≤V.size):=z8 ⟨hfr,hle⟩
   have hfr':(fr:Int)≤i:=by omega
   by_cases hie:i=V.size
   ·have hcond:Hid ((i==V.size||pk V i false==44)=true):=z8 (by simp [hie])
    have hie':(i:Int)=V.size:=by omega
    clear hle hle'
    subst hie
    have hle':(V.size:Int)≤V.size:=Int.le_refl _
    clear hie'
    cases hq:((V.extract fr V.size).toList==v.toList)
    case false=>
     have HS:Hid (plc V v (V.size+1 -(V.size+1)) (V.size+1) (k+1) (V.size+1)=R):=z8 (by rw [hst.out,hcond.out,hq];rfl)
     go_wp2_with fail
     have hk:=hHK.out
     go_roundg (V.size+2 -(V.size+1))
     case measure=>omega
     case rel=>exact⟨V.size+1,V.size+1,_,k+1,by omega,by omega,by omega,by go_num,by go_num,by go_num,rfl,by omega,by omega,HS⟩
    case true=>
    cases hn:v.toList.isEmpty
    case true=>
     have HS:Hid (plc V v (V.size+1 -(V.size+1)) (V.size+1) (k+1) (V.size+1)=R):=z8 (by rw [hst.out,hcond.out,hq,hn];rfl)
     go_wp2_with fail
     have hk:=hHK.out
     go_roundg (V.size+2 -(V.size+1))
     case measure=>omega
     case rel=>exact⟨V.size+1,V.size+1,_,k+1,by omega,by omega,by omega,by go_num,by go_num,by go_num,rfl,by omega,by omega,HS⟩
    case false=>
     have hres:Hid (R=k):=z8 (by rw [hst.out,hcond.out,hq,hn];rfl)
     go_wp2_with fail
     go_ret
     exact⟨by rw [hres.out];rfl,_,rfl⟩
   ·have hlt':(i:Int)<V.size:=by omega
    have hne': ¬(i:Int)=V.size:=by omega
    have hbe:((i:Int)==(V.size:Int))=false:=by simpa using hne'
    have hlt:i<V.size:=by omega
    have hpk:pk V i false=((V[i]'hlt).toNat:Int):=by unfold pk;rw [dif_pos hlt];rfl
    by_cases h44:((V[i]'hlt).toNat:Int)=44
    ·have hcond:Hid ((i==V.size||pk V i false==44)=true):=z8 (by rw [hpk,h44];simp)
     clear hpk hie
     cases hq:((V.extract fr i).toList==v.toList)
     case false=>
      have HS:Hid (plc V v (V.size+1 -(i+1)) (i+1) (k+1) (i+1)=R):=z8 (by rw [hst.out,hcond.out,hq];rfl)
      go_wp2_with fail
      have hk:=hHK.out
      go_roundg (V.size+2 -(i+1))
      case measure=>omega
      case rel=>exact⟨i+1,i+1,_,k+1,by omega,by omega,by omega,by go_num,by go_num,by go_num,rfl,by omega,by omega,HS⟩
     case true=>
     cases hn:v.toList.isEmpty
     case true=>
      have HS:Hid (plc V v (V.size+1 -(i+1)) (i+1) (k+1) (i+1)=R):=z8 (by rw [hst.out,hcond.out,hq,hn];rfl)
      go_wp2_with fail
      have hk:=hHK.out
      go_roundg (V.size+2 -(i+1))
      case measure=>omega
      case rel=>exact⟨i+1,i+1,_,k+1,by omega,by omega,by omega,by go_num,by go_num,by go_num,rfl,by omega,by omega,HS⟩
     case false=>
      have hres:Hid (R=k):=z8 (by rw [hst.out,hcond.out,hq,hn];rfl)
      go_wp2_with fail
      go_ret
      exact⟨by rw [hres.out];rfl,_,rfl⟩
    ·have hb4:(((V[i]'hlt).toNat:Int)==44)=false:=by simpa using h44
     have HS:Hid (plc V v (V.size+1 -(i+1)) (i+1) k fr=R):=z8 (by
      have e:(i==V.size||pk V i false==44)=false:=by rw [hpk];simp [hie,h44]
      rw [hst.out,e]
      rfl)
     clear hpk hie
     go_wp2_with fail
     have hk:=hHK.out
     go_roundg (V.size+2 -(i+1))
     case measure=>omega
     case rel=>exact⟨i+1,fr,_,k,by omega,by omega,by omega,rfl,rfl,by go_num,rfl,by omega,by omega,HS⟩
  ·have hle': ¬(i:Int)≤V.size:=by omega
   have hres:Hid (R= -1):=z8 (by rw [←hfin.out,show V.size+1 - i=0 by omega];rfl)
   go_wp2_with fail
   go_ret
   exact⟨by rw [hres.out];rfl,m,rfl⟩
theorem z40 {p:Int→Bool}{s:zgS}: ∀(k a:Nat),∀i,a≤i→i<run p s false k a→p (pk s i false)=true:=by
 intro k
 induction k with
 |zero=>intro a i h1 h2;unfold run at h2;omega
 |succ k ih=>
  intro a i h1 h2
  unfold run at h2
  split at h2
  ·rename_i hp
   by_cases e:i=a
   ·subst e;exact hp
   ·exact ih (a+1) i (by omega) h2
  ·omega
theorem z3M {s:zgS}{a:Nat}(h:(zi s a false).2.1=false):a<(zi s a false).1∧(zi s a false).2.2=s.extract a (zi s a false).1∧ ∀i,a≤i→i<(zi s a false).1→(pk s i false==44)=false:=by
 unfold zi z05 at h ⊢
 simp only at h ⊢
 split at h
 ·cases h
 ·rename_i hq
  rw [if_neg hq]
  simp only [Bool.or_eq_true,not_or,beq_iff_eq] at hq
  have hl:=z40 (p:=zk) (s:=s) 8 a
  refine⟨?_,rfl,fun i h1 h2=> ?_⟩
  ·show a<run zk s false 8 a
   have: ∀k b,b≤run zk s false k b:=by
    intro k
    induction k with
    |zero=>intro b;exact zgH _
    |succ k ih=>intro b;unfold run;split;exact zgP (Nat.le_succ b) (ih (b+1));exact zgH _
   have h1:=this 8 a
   have h2:=hq.1
   omega
  ·have:=hl i h1 h2
   cases hc:(pk s i false==44) with
   |false=>rfl
   |true=>
     have e:pk s i false=44:=by simpa using hc
     rw [e] at this
     exact absurd this (by decide)
theorem z9r (s:zgS): ∀(n a:Nat) (l:List zgS),(nmM s n a true l).2.1=true:=by
 intro n
 cases n with
 |zero=>intro a l;rfl
 |succ n=>intro a l;unfold nmM;rw [if_neg (by simp [pk])]
def zfs (V:zgS):List zgS→Nat→Prop
 |[],a=>a=V.size
 |x::l,a=>(pk V a false==44)=true∧a<V.size∧ ∃b,a+1<b∧b≤V.size∧x=V.extract (a+1) b∧(∀i,a+1≤i→i<b→(pk V i false==44)=false)∧zfs V l b
theorem zdz {s:zgS}{a:Nat}{c:Int}(h:pk s a false=c)(hc:c≠ -1):a<s.size:=by
 unfold pk at h
 split at h
 ·exact absurd h.symm hc
 ·split at h
  ·assumption
  ·exact absurd h.symm hc
theorem z9R {s:zgS}{a:Nat}(h:(zi s a false).2.1=false):(zi s a false).1≤s.size:=by
 obtain⟨h1,_,_⟩:=z3M h
 unfold zi z05 at h h1 ⊢
 simp only at h h1 ⊢
 split at h
 ·cases h
 ·rename_i hq
  rw [if_neg hq] at h1 ⊢
  simp only at h1 ⊢
  have hl:=z40 (p:=zk) (s:=s) 8 a (run zk s false 8 a - 1) (by omega) (by omega)
  have:=zdz (s:=s) (a:=run zk s false 8 a - 1) rfl (fun e=>by rw [e] at hl;exact absurd hl (by decide))
  omega
theorem zcX (s:zgS): ∀(n a:Nat) (d:Bool) (l:List zgS),z29 s (nmM s n a d l).1 (nmM s n a d l).2.1=false→a≤s.size→d=false∧ ∃t,(nmM s n a d l).2.2=l++t∧zfs s t a:=by
 intro n
 induction n with
 |zero=>
  intro a d l h ha
  have h:(d||decide (a<s.size))=false:=h
  rw [Bool.or_eq_false_iff,decide_eq_false_iff_not] at h
  exact⟨h.1,[],by simp [nmM],by have h3: ¬a<s.size:=h.2;show a=s.size;omega⟩
 |succ n ih=>
  intro a d l h ha
  cases d with
  |true=>
   have:=z9r s (n+1) a l
   unfold z29 at h
   rw [this] at h
   cases h
  |false=>
  refine⟨rfl,?_⟩
  unfold nmM at h ⊢
  split at h
  ·rename_i hc
   rw [if_pos hc]
   cases hb:(zi s (a+1) false).2.1 with
   |true=>
    exfalso
    simp only [hb] at h
    have:=z9r s n (zi s (a+1) false).1 (l++[(zi s (a+1) false).2.2])
    unfold z29 at h
    rw [this] at h
    cases h
   |false=>
   obtain⟨g1,g2,g3⟩:=z3M hb
   have g4:=z9R hb
   simp only [hb] at h ⊢
   obtain⟨_,t,h1,h2⟩:=ih _ _ _ h g4
   refine⟨(zi s (a+1) false).2.2::t,?_,hc,zdz (c:=44) (by simpa using hc) (by decide),_,g1,g4,g2,g3,h2⟩
   rw [h1]
   simp
  ·rename_i hc
   rw [if_neg hc]
   have h:(false||decide (a<s.size))=false:=h
   rw [Bool.or_eq_false_iff,decide_eq_false_iff_not] at h
   exact⟨[],by simp,by have h3: ¬a<s.size:=h.2;show a=s.size;omega⟩
theorem z7V (V v:zgS)(k:Int)(fr b:Nat)(hb:b≤V.size): ∀(m i:Nat),i+m=b→(∀j,i≤j→j<b→(pk V j false==44)=false)→plc V v (V.size+1 - i) i k fr=plc V v (V.size+1 - b) b k fr:=by
 intro m
 induction m with
 |zero=>intro i h _;rw [show i=b by omega]
 |succ m ih=>
  intro i h hn
  rw [show V.size+1 - i=(V.size+1 -(i+1))+1 by omega]
  rw [←ih (i+1) (by omega) fun j h1 h2=>hn j (by omega) h2]
  have e:(i==V.size||pk V i false==44)=false:=by
   rw [hn i (zgH _) (by omega)]
   have: ¬i=V.size:=by omega
   simp [this]
  show(if(i==V.size||pk V i false==44)=true then _ else _)=_
  rw [e]
  rfl
def zft (nm:zgS):List zgS→Int→Int
 |[],_=> -1
 |x::xs,i=>if x.toList==nm.toList then i else zft nm xs (i+1)
theorem zd3 (nm:zgS): ∀(l:List zgS) (i:Nat),zft nm l i=plM nm l i:=by
 intro l
 induction l with
 |nil=>intro i;rfl
 |cons x xs ih=>intro i;unfold zft plM;rw [←ih (i+1)];rfl
theorem zdq (V v:zgS)(hv:v.toList.isEmpty=false): ∀(t:List zgS) (a b:Nat) (k:Int) (x:zgS),x=V.extract a b→b≤V.size→zfs V t b→plc V v (V.size+1 - b) b k a=zft v (x::t) k:=by
 intro t
 induction t with
 |nil=>
  intro a b k x hx hb hs
  have hs:b=V.size:=hs
  rw [show V.size+1 - b=0+1 by omega]
  show(if(b==V.size||pk V b false==44)=true then(if((V.extract a b).toList==v.toList&& !v.toList.isEmpty)=true then k else plc V v 0 (b+1) (k+1) (b+1)) else _)=_
  rw [if_pos (by simp [hs]),hv,←hx]
  show(if(x.toList==v.toList&&true)=true then k else -1)=(if(x.toList==v.toList)=true then k else -1)
  rw [Bool.and_true]
 |cons y t ih=>
  intro a b k x hx hb hs
  obtain⟨h44,hlt,c,h1,h2,h3,h4,h5⟩:=hs
  rw [show V.size+1 - b=(V.size+1 -(b+1))+1 by omega]
  show(if(b==V.size||pk V b false==44)=true then(if((V.extract a b).toList==v.toList&& !v.toList.isEmpty)=true then k else plc V v (V.size+1 -(b+1)) (b+1) (k+1) (b+1)) else _)=_
  rw [if_pos (by simp [h44]),hv,←hx,z7V V v (k+1) (b+1) c h2 (c -(b+1)) (b+1) (by omega) h4,ih (b+1) c (k+1) y h3 h2 h5]
  show(if(x.toList==v.toList&&true)=true then k else _)=(if(x.toList==v.toList)=true then k else _)
  rw [Bool.and_true]
theorem zcf {V:zgS}{a b:Nat}(h:a<b)(hb:b≤V.size):(V.extract a b).toList.isEmpty=false:=by
 have h1:(V.extract a b).size=b - a:=by rw [ByteArray.size_extract];omega
 rw [zgG]
 have h2:(V.extract a b).data.toList.length=b - a:=by rw [Array.length_toList];exact h1
 cases hq:(V.extract a b).data.toList with
 |nil=>rw [hq] at h2;simp at h2;omega
 |cons x l=>rfl
theorem zcs (V:zgS): ∀(t:List zgS) (a:Nat),zfs V t a→ ∀x∈t,x.toList.isEmpty=false:=by
 intro t
 induction t with
 |nil=>intro a _ x hx;cases hx
 |cons y t ih=>
  intro a hs x hx
  obtain⟨h44,hlt,c,h1,h2,h3,h4,h5⟩:=hs
  rcases List.mem_cons.mp hx with rfl|hx
  ·rw [h3];exact zcf h1 h2
  ·exact ih c h5 x hx
theorem z9c {V:zgS}(h:(rnM V).2=false):(∀v:zgS,v.toList.isEmpty=false→zbw V v=plM v (rnM V).1 0)∧ ∀x∈(rnM V).1,x.toList.isEmpty=false:=by
 unfold rnM at h ⊢
 simp only at h ⊢
 cases hb:(zi V 0 false).2.1 with
 |true=>
  exfalso
  rw [hb] at h
  have:=z9r V (V.size+1) (zi V 0 false).1 [(zi V 0 false).2.2]
  unfold z29 at h
  rw [this] at h
  cases h
 |false=>
 obtain⟨g1,g2,g3⟩:=z3M hb
 have g4:=z9R hb
 obtain⟨_,t,h1,h2⟩:=zcX V _ _ _ _ h g4
 rw [hb] at h1
 rw [h1]
 refine⟨fun v hv=> ?_,fun x hx=> ?_⟩
 ·unfold zbw
  have:=z7V V v 0 0 (zi V 0 false).1 g4 (zi V 0 false).1 0 (by omega) g3
  rw [show V.size+1=V.size+1 - 0 by omega,this,zdq V v hv t 0 _ 0 _ g2 g4 h2,←zd3]
  rfl
 ·rcases List.mem_cons.mp hx with rfl|hx
  ·rw [g2];exact zcf g1 g4
  ·exact zcs V t _ h2 x hx
theorem zdy (l:List zgS): ∀(n i:Nat),z5w l n i=false→ ∀m,i≤m→m<i+n→plM (l.getD m ⟨#[]⟩) l 0=m:=by
 intro n
 induction n with
 |zero=>intro i _ m h1 h2;omega
 |succ n ih=>
  intro i h m h1 h2
  unfold z5w at h
  rw [Bool.or_eq_false_iff] at h
  by_cases e:m=i
  ·subst e;simpa using h.1
  ·exact ih (i+1) h.2 m (by omega) (by omega)
theorem z9l {V:zgS}(h:(vlM V).2=false){m:Nat}(hm:m<(vlM V).1.length):zbw V ((vlM V).1.getD m ⟨#[]⟩)=m:=by
 unfold vlM at h hm ⊢
 split at h
 ·cases h
 ·rename_i hc
  rw [if_neg hc] at hm ⊢
  simp only [Bool.or_eq_true,not_or,Bool.not_eq_true] at hc
  obtain⟨⟨⟨c1,_⟩,_⟩,c4⟩:=hc
  obtain⟨p1,p2⟩:=z9c c1
  simp only at hm ⊢
  have hx:(rnM V).1.getD m ⟨#[]⟩∈(rnM V).1:=by
   rw [List.getD_eq_getElem?_getD,zgE hm]
   exact List.getElem_mem hm
  rw [p1 _ (p2 _ hx)]
  exact zdy _ _ 0 c4 m (zgO _) (by omega)
theorem zav {V:zgS}(h:(vlM V).2=false){i:Int}(h0:0≤i)(h1:i<(vlM V).1.length):zbw V (vaM (vlM V).1 i)=i.toNat:=by
 unfold vaM
 rw [if_neg (by omega)]
 exact z9l h (by omega)
theorem z9P {B:Nat}{a w:World}(h:Below B a w)(n:Nat):Below B a (w.drewN n):=h.trans ⟨rfl,rfl,rfl,zgH _,fun _ _=>rfl⟩
theorem zae (S A V Q:zgS)(e:Int)(hn:e≠0)(w:World)(h: ∀w,Calls Tryz.prog 19 #[.string S,.string A,.string V,.string Q] w fun r w'=>z0o ⟨#[]⟩ e w r w'):
  Calls Tryz.prog 24 #[.string S,.string A,.string V,.string Q] w fun r w'=>r= .returned (.int .i64 (-1))∧Below w.heap.size w w':=by
 have H:=z8 h
 clear h
 go_enter Tryz.func24,Tryz.ntmps24
 go_wp2_with fail
 refine(H.out _).mono ?_
 rintro e w1 ⟨rfl,hB⟩
 have HB:=z8 hB
 clear hB
 go_wp2_with fail
 refine(jw _ _).mono ?_
 rintro e w3 ⟨rfl,rfl⟩
 go_wp2_with fail
 go_ret
 exact⟨rfl,HB.out⟩
theorem zf1 (S A V Q x:zgS)(k:Nat)(hV:V.size≤60)(hk:zbw V x=k)(w:World)(h: ∀w,Calls Tryz.prog 19 #[.string S,.string A,.string V,.string Q] w fun r w'=>z0o x 0 w r w'):
  Calls Tryz.prog 24 #[.string S,.string A,.string V,.string Q] w fun r w'=>r= .returned (.int .i64 (k:Int))∧Below w.heap.size w w':=by
 have H:=z8 h
 have HK:=z8 hk
 have HV:=z8 hV
 clear h hk hV
 go_enter Tryz.func24,Tryz.ntmps24
 go_wp2_with fail
 refine(H.out _).mono ?_
 rintro e w1 ⟨rfl,hB⟩
 have HB:=z8 hB
 clear hB
 go_wp2_with fail
 refine(jw _ _).mono ?_
 rintro e w3 ⟨rfl,rfl⟩
 go_wp2_with fail
 refine(z8x V x _ (by have:=HV.out;omega)).mono ?_
 rintro e w4 ⟨rfl,n,rfl⟩
 rw [HK.out]
 have hk0: ¬((k:Int)<0):=by omega
 go_wp2_with fail
 go_ret
 exact⟨rfl,z9P HB.out n⟩
def sL:zgS:=⟨#[98,121,32,80,79,76,73,67,89,10,116,111,32,65,10,105,102,32,116,114,117,101,10]⟩
def vL:zgS:=⟨#[110,111,44,121,101,115]⟩
def qL:zgS:=⟨#[65]⟩
def eL:zgS:=⟨#[49,32,43,32,50,32,42,32,51]⟩
def pL:zgS:=⟨#[98,121,32,80,79,76,73,67,89,32,10,116,111,32,40,65,41,10,105,102,32,49,61,61,49,38,38,116,114,117,101,10]⟩
def oL:zgS:=⟨#[98,121,32,80,79,76,73,67,89,10,116,111,32,65,10,105,102,32,40,40,49,32,61,61,32,49,41,32,38,38,32,116,114,117,101,41,10]⟩
def zcH:St:=(MR sL 20 st0).getD st0
def z0D:St:=(MR pL 20 st0).getD st0
def zaA:Int×St:=(M eL 20 0 0 (st1 eL)).getD (0,st0)
theorem z3I {α:Type}{o:Option α}{d:α}(h:o.isSome=true):o=some (o.getD d):=by cases o with|none=>cases h|some x=>rfl
theorem zdx {s a v q:zgS}{n:Nat}{st:St}(hM:MR s n st0=some st)(hs:s.size≤600)(ha:a.size≤100)(hv:v.size≤60)(hq:q.size≤60)(hA:st.A.length≤10010)(hL:st.L.length≤10010)(hE:st.E.length≤10010)(hC:st.C.length≤10010):Ask s a v q st:=by
 have hz:Sz st:=z8O s hs n st0 st hM ⟨fun x h=>(by cases h),fun x h=>(by cases h),fun x h=>(by cases h),fun x h=>(by cases h)⟩
 have hcl:=z9F s n st0 st hM (fun c h=>by cases h)
 have hcv:=zce s n st0 st hM zgd
 have hgd:=z1V s n st0 st hM z6O
 have hvl:=z3s v
 exact⟨fun w=>z1p s a v q st w hs ha hv hq (fun W=>jz s n st W hM hs (by omega) (by omega) (by omega)) (by omega) hcl hvl,
  fun w=>z34 s a v q st w hs ha hv hq (z0d s n st w hM hs) hgd.e hcv (by omega) hcl hvl,⟨n,hM⟩,hA,hL,hE,hC,hcl,hcv,hgd,hz.1,z2i a (by omega),fun h0=>z3L (a:=a) (v:=v) (q:=q) hM (by omega) h0⟩
theorem z7j:Ask sL ⟨#[]⟩ vL qL zcH:=
 zdx (n:=20) (z3I (by decide+kernel)) (by decide) (by decide) (by decide) (by decide) (by decide+kernel) (by decide+kernel) (by decide+kernel) (by decide+kernel)
theorem z88 (w:World):Calls Tryz.prog 19 #[.string sL,.string ⟨#[]⟩,.string vL,.string qL] w fun e w'=>z0o ⟨#[121,101,115]⟩ 0 w e w':=by
 have h:=z7j.query w
 rw [show quM sL ⟨#[]⟩ vL qL zcH=(⟨#[121,101,115]⟩,0) by decide+kernel] at h
 exact h
theorem z87 (w:World):Calls Tryz.prog 20 #[.string sL,.string ⟨#[]⟩,.string vL,.string qL] w fun e w'=>z0o ⟨#[48]⟩ 0 w e w':=by
 have h:=z7j.chain w
 rw [show chM sL ⟨#[]⟩ vL qL zcH=(⟨#[48]⟩,0) by decide+kernel] at h
 exact h
theorem z8A (w:World)(ht:Tab w):Calls Tryz.prog 21 #[.string eL,.string ⟨#[]⟩] w fun e w'=>z0o ⟨#[55]⟩ 0 w e w':=by
 have h:=z6P eL ⟨#[]⟩ 20 zaA.1 zaA.2 w (z3I (d:=(0,st0)) (by decide+kernel)) (by decide) (by decide) (by decide+kernel) (by decide+kernel) (by decide+kernel) (by decide+kernel) (by decide+kernel) ht
 rw [show woM eL ⟨#[]⟩ zaA.1 zaA.2=(⟨#[55]⟩,0) by decide+kernel] at h
 exact h
theorem zaL:PrS z0D oL:=by
 have hA:z0D.A=[⟨⟨#[80,79,76,73,67,89]⟩,0,0⟩]:=by kernel_rfl
 have hL:z0D.L[0]?=some ⟨0,⟨#[65]⟩,-1,-1,0,0,[]⟩:=by kernel_rfl
 have hC:z0D.C[0]?=some [⟨5,0,⟨#[]⟩,-1⟩]:=by kernel_rfl
 have e0:z0D.E[0]?=some ⟨0,21,⟨#[49]⟩,-1,-1⟩:=by kernel_rfl
 have e1:z0D.E[1]?=some ⟨0,24,⟨#[49]⟩,-1,-1⟩:=by kernel_rfl
 have e2:z0D.E[2]?=some ⟨6,22,⟨#[61,61]⟩,0,1⟩:=by kernel_rfl
 have e3:z0D.E[3]?=some ⟨2,27,⟨#[116,114,117,101]⟩,-1,-1⟩:=by kernel_rfl
 have e4:z0D.E[4]?=some ⟨6,25,⟨#[38,38]⟩,2,3⟩:=by kernel_rfl
 have e5:z0D.E[5]?=some ⟨7,21,⟨#[]⟩,4,-1⟩:=by kernel_rfl
 have p0:PrE z0D.E 1 0 ⟨#[49]⟩:=⟨by decide,0,_,rfl,e0,by decide,.inl ⟨.inl rfl,rfl⟩⟩
 have p1:PrE z0D.E 1 1 ⟨#[49]⟩:=⟨by decide,1,_,rfl,e1,by decide,.inl ⟨.inl rfl,rfl⟩⟩
 have p2:PrE z0D.E 2 2 ⟨#[40,49,32,61,61,32,49,41]⟩:=⟨by decide,2,_,rfl,e2,by decide,.inr (.inr (.inr (.inr (.inl ⟨rfl,_,_,p0,p1,by decide+kernel⟩))))⟩
 have p3:PrE z0D.E 2 3 ⟨#[116,114,117,101]⟩:=⟨by decide,3,_,rfl,e3,by decide,.inl ⟨.inr (.inl rfl),rfl⟩⟩
 have p4:PrE z0D.E 3 4 ⟨#[40,40,49,32,61,61,32,49,41,32,38,38,32,116,114,117,101,41]⟩:=⟨by decide,4,_,rfl,e4,by decide,.inr (.inr (.inr (.inr (.inl ⟨rfl,_,_,p2,p3,by decide+kernel⟩))))⟩
 have p5:PrE z0D.E 4 5 ⟨#[40,40,49,32,61,61,32,49,41,32,38,38,32,116,114,117,101,41]⟩:=⟨by decide,5,_,rfl,e5,by decide,.inr (.inr (.inr (.inr (.inr ⟨rfl,p4⟩))))⟩
 refine⟨5,[oL],?_,by decide+kernel⟩
 rw [hA]
 refine⟨⟨by decide,⟨#[65]⟩,⟨#[40,40,49,32,61,61,32,49,41,32,38,38,32,116,114,117,101,41]⟩,⟨by decide,0,_,rfl,hL,by decide,.inl ⟨rfl,rfl⟩⟩,⟨by decide,0,_,[⟨#[40,40,49,32,61,61,32,49,41,32,38,38,32,116,114,117,101,41]⟩],rfl,hC,by decide,⟨⟨by decide,_,p5,.inl ⟨rfl,rfl⟩⟩,trivial⟩,by decide+kernel⟩,by decide+kernel⟩,trivial⟩
theorem z84 (w:World):Calls Tryz.prog 22 #[.string pL] w fun e w'=>z3J oL 0 w e w':=by
 have hM:MR pL 20 st0=some z0D:=z3I (by decide+kernel)
 have h1:z0D.A.length≤100000∧z0D.L.length≤100000∧z0D.E.length≤100000∧z0D.C.length≤100000:=by decide+kernel
 exact z47 pL z0D oL w (jz pL 20 z0D w hM (by decide) (by omega) (by omega) (by omega)) (by decide+kernel) zaL (by omega) (by omega) (by omega) (by omega)
theorem z5Z (w:World)(ht:Tab w):Calls Tryz.prog 14 #[] w fun e w'=>e= .returned (.bool true)∧Below w.heap.size w w':=by
 have HT:=z8 ht
 clear ht
 go_enter Tryz.func14,Tryz.ntmps14
 go_wp2_with fail
 refine(z88 _).mono ?_
 rintro e w1 ⟨rfl,hB1⟩
 have HB1:=z8 hB1
 clear hB1
 go_wp2_with fail
 refine(z87 _).mono ?_
 rintro e w2 ⟨rfl,hB2⟩
 have HB2:=z8 (HB1.out.trans (hB2.mono HB1.out.size))
 clear hB2 HB1
 go_wp2_with fail
 refine(z8A _ (HT.out.below HB2.out)).mono ?_
 rintro e w3 ⟨rfl,hB3⟩
 have HB3:=z8 (HB2.out.trans (hB3.mono HB2.out.size))
 clear hB3 HB2
 go_wp2_with fail
 refine(z84 _).mono ?_
 rintro e w4 ⟨rfl,hB4⟩
 have HB4:=z8 (HB3.out.trans (hB4.mono HB3.out.size))
 clear hB4 HB3
 go_wp2_with fail
 refine(jw _ _).mono ?_
 rintro e w5 ⟨rfl,rfl⟩
 go_wp2_with fail
 refine(jw _ _).mono ?_
 rintro e w5 ⟨rfl,rfl⟩
 go_wp2_with fail
 refine(jw _ _).mono ?_
 rintro e w5 ⟨rfl,rfl⟩
 go_wp2_with fail
 refine(jw _ _).mono ?_
 rintro e w5 ⟨rfl,rfl⟩
 go_wp2_with fail
 go_ret
 have hoL:(oL.toList==[98,121,32,80,79,76,73,67,89,10,116,111,32,65,10,105,102,32,40,40,49,32,61,61,32,49,41,32,38,38,32,116,114,117,101,41,10])=true:=by decide+kernel
 exact⟨congrArg (fun b=>Ending.returned (.bool b)) hoL,HB4.out⟩
def stp (c:Int):Bool:=c== -1||c==10||c==41
structure Win (s t:zgS)(o k:Nat):Prop where
 eq: ∀a,a<k→pk t (o+a) false=pk s a false
 sp:stp (pk s k false)=true
 tp:stp (pk t (o+k) false)=true
 ks:k≤s.size
def Dull (p:Int→Bool):Prop:=p (-1)=false∧p 10=false∧p 41=false
theorem Dull.st_ {p:Int→Bool}(h:Dull p){c:Int}(hc:stp c=true):p c=false:=by
 unfold stp at hc
 simp only [Bool.or_eq_true,beq_iff_eq] at hc
 rcases hc with(rfl|rfl)|rfl
 ·exact h.1
 ·exact h.2.1
 ·exact h.2.2
section
variable {s t:zgS} {o k:Nat}
theorem Win.test (h:Win s t o k){p:Int→Bool}(hp:Dull p){a:Nat}(ha:a≤k):p (pk t (o+a) false)=p (pk s a false):=by
 by_cases e:a=k
 ·subst e;rw [hp.st_ h.sp,hp.st_ h.tp]
 ·rw [h.eq a (by omega)]
theorem Win.rn (h:Win s t o k){p:Int→Bool}(hp:Dull p): ∀(m a:Nat),a≤k→run p s false m a≤k∧run p t false m (o+a)=o+run p s false m a:=by
 intro m
 induction m with
 |zero=>intro a ha;exact⟨ha,rfl⟩
 |succ m ih=>
  intro a ha
  have ht:=h.test hp ha
  unfold run
  rw [ht]
  cases hc:p (pk s a false) with
  |false=>exact⟨ha,rfl⟩
  |true=>
   have hk:a≠k:=fun e=>by subst e;rw [hp.st_ h.sp] at hc;cases hc
   exact ih (a+1) (by omega)
theorem Win.rn' (h:Win s t o k){p:Int→Bool}: ∀(m a:Nat),run p s false m a<k→run p t false m (o+a)=o+run p s false m a:=by
 intro m
 induction m with
 |zero=>intro a _;rfl
 |succ m ih=>
  intro a ha
  have hge:=z39 p s false (m+1) a
  have e:=h.eq a (by omega)
  unfold run at ha ⊢
  rw [e]
  cases hc:p (pk s a false) with
  |false=>rfl
  |true=>
   rw [hc] at ha
   exact ih (a+1) ha
theorem z6q:Dull zk:=⟨rfl,rfl,rfl⟩
theorem z2K:Dull zg:=⟨rfl,rfl,rfl⟩
theorem za8 {c:Int}(h:stp c=false):Dull (·==c):=by
 unfold stp at h
 simp only [Bool.or_eq_false_iff,beq_eq_false_iff_ne] at h
 refine⟨?_,?_,?_⟩<;>simp<;>omega
theorem Win.sk (h:Win s t o k): ∀(m a:Nat),a+m=k→skip s a false≤k∧skip t (o+a) false=o+skip s a false:=by
 intro m
 induction m with
 |zero=>
  intro a ha
  have e:a=k:=by omega
  subst e
  have h1:pk s a false≠32:=fun e=>by have:=h.sp;rw [e] at this;cases this
  have h2:pk t (o+a) false≠32:=fun e=>by have:=h.tp;rw [e] at this;cases this
  rw [zI h1,zI h2]
  exact⟨zgH _,rfl⟩
 |succ m ih=>
  intro a ha
  have e:=h.eq a (by omega)
  by_cases hb:pk s a false=32
  ·rw [←z0V hb,←z0V (s:=t) (a:=o+a) (by rw [e];exact hb)]
   exact ih (a+1) (by omega)
  ·rw [zI hb,zI (by rw [e];exact hb)]
   exact⟨by omega,rfl⟩
theorem Win.skp (h:Win s t o k){a:Nat}(ha:a≤k):skip s a false≤k∧skip t (o+a) false=o+skip s a false:=h.sk (k - a) a (by omega)
theorem Win.word (h:Win s t o k): ∀(l:List UInt8) (a:Nat),(zt s false l a).2=false→(zt s false l a).1≤k→zt t false l (o+a)=(o+(zt s false l a).1,false):=by
 intro l
 induction l with
 |nil=>intro a _ _;rfl
 |cons c cs ih=>
  intro a h1 h2
  unfold zt at h1 h2 ⊢
  by_cases hc:pk s a false=(c.toNat:Int)
  ·rw [if_pos hc] at h1 h2 ⊢
   have hge:=z1F s false cs (a+1)
   rw [if_pos (by rw [h.eq a (by omega)];exact hc)]
   exact ih (a+1) h1 h2
  ·rw [if_neg hc] at h1;cases h1
theorem z5M {s:zgS}{l:List UInt8}{a:Nat}(h:(jo s false l a).2=false):(zt s false l a).2=false∧(zt s false l a).1≤(jo s false l a).1:=⟨h,by unfold jo;exact z16 _ _ _⟩
theorem Win.sign (h:Win s t o k){l:List UInt8}{a:Nat}(h1:(jo s false l a).2=false)(h2:(jo s false l a).1≤k):jo t false l (o+a)=(o+(jo s false l a).1,false):=by
 obtain⟨g1,g2⟩:=z5M h1
 have hw:=h.word l a g1 (by omega)
 have hk:=(h.skp (a:=(zt s false l a).1) (by omega)).2
 unfold jo
 rw [hw,g1]
 simp only
 rw [hk]
theorem z27 {s:zgS}{a:Nat}(h:a<s.size):pk s a false=(s[a].toNat:Int):=by
 unfold pk;rw [if_neg (by decide),dif_pos h]
theorem Win.byte (h:Win s t o k){a:Nat}(ha:a<k): ∃(h1:a<s.size) (h2:o+a<t.size),t[o+a]=s[a]:=by
 have hs:a<s.size:=zgN ha h.ks
 have e:=h.eq a ha
 rw [z27 hs] at e
 have ht:o+a<t.size:=(jT (s:=t) (a:=o+a) (d:=false) (by rw [e];omega)).2
 rw [z27 ht] at e
 exact⟨hs,ht,UInt8.toNat_inj.1 (by omega)⟩
theorem Win.ext (h:Win s t o k){a b:Nat}(hb:b≤k):t.extract (o+a) (o+b)=s.extract a b:=by
 by_cases hab:a<b
 ·have hs:b≤s.size:=zgP hb h.ks
  have ht:o+b≤t.size:=by
   obtain⟨_,h2,_⟩:=h.byte (a:=b - 1) (by omega)
   omega
  apply ByteArray.ext
  apply Array.ext
  ·show(t.extract (o+a) (o+b)).size=(s.extract a b).size
   rw [ByteArray.size_extract,ByteArray.size_extract]
   omega
  ·intro i h1 h2
   have h2':i<(s.extract a b).size:=h2
   rw [ByteArray.size_extract] at h2'
   obtain⟨q1,q2,q3⟩:=h.byte (a:=a+i) (by omega)
   have e1:(t.extract (o+a) (o+b)).data[i]=t[o+a+i]'(by omega):=by
    have:=ByteArray.getElem_extract (b:=t) (start:=o+a) (stop:=o+b) (i:=i) h1
    exact this
   have e2:(s.extract a b).data[i]=s[a+i]'q1:=by
    have:=ByteArray.getElem_extract (b:=s) (start:=a) (stop:=b) (i:=i) h2
    exact this
   rw [e1,e2,←q3]
   congr 1
   omega
 ·have e: ∀(u:zgS) (x y:Nat),y≤x→u.extract x y=⟨#[]⟩:=fun u x y hxy=>by
   apply ByteArray.ext
   apply Array.ext
   ·show(u.extract x y).size=0
    rw [ByteArray.size_extract];omega
   ·intro i h1 h2;exact absurd h2 (Nat.not_lt_zero i)
  rw [e _ _ _ (by omega),e _ _ _ (by omega)]
end
section
variable {s t:zgS} {o k:Nat}
theorem Win.tok (h:Win s t o k){p:Int→Bool}(hp:Dull p){m a:Nat}(ha:a≤k)(hg:(z23 p m s a false).2.1=false):(z23 p m s a false).1≤k∧z23 p m t (o+a) false=(o+(z23 p m s a false).1,false,(z23 p m s a false).2.2):=by
 obtain⟨r1,r2⟩:=h.rn hp m a ha
 unfold z23 at hg ⊢
 simp only at hg ⊢
 rw [r2,h.test hp r1,show(o+run p s false m a==o+a)=(run p s false m a==a) by rw [Bool.eq_iff_iff];simp]
 split at hg
 ·cases hg
 ·rename_i hc
  rw [if_neg hc]
  obtain⟨k1,k2⟩:=h.skp r1
  exact⟨k1,by rw [k2,h.ext r1,if_neg hc]⟩
theorem Win.name (h:Win s t o k){a:Nat}(ha:a≤k)(hg:(zw s a false).2.1=false):(zw s a false).1≤k∧zw t (o+a) false=(o+(zw s a false).1,false,(zw s a false).2.2):=h.tok z6q ha hg
theorem Win.eqs (h:Win s t o k){a:Nat}(ha:a≤k){c:Int}(hc:stp c=false):(pk t (o+a) false==c)=(pk s a false==c):=h.test (za8 hc) ha
theorem Win.number (h:Win s t o k){a:Nat}(ha:a≤k)(hg:(zO s a false).2.1=false):(zO s a false).1≤k∧zO t (o+a) false=(o+(zO s a false).1,false,(zO s a false).2.2):=by
 unfold zO at hg ⊢
 rw [h.eqs ha (c:=48) (by decide)]
 exact h.tok z2K ha hg
theorem z7D {s:zgS}{a:Nat}{c:UInt8}(h:(zt s false [c] a).2=false):(zt s false [c] a).1=a+1:=by
 unfold zt at h ⊢
 split at h
 ·rename_i hc;rw [if_pos hc];rfl
 ·cases h
theorem Win.quoted (h:Win s t o k){a:Nat}(hg:(zT s a false).2.1=false)(hk:(zT s a false).1≤k):zT t (o+a) false=(o+(zT s a false).1,false,(zT s a false).2.2):=by
 unfold zT at hg hk ⊢
 simp only at hg hk ⊢
 cases hv:(zt s false [34] a).2 with
 |true=>rw [hv,z3O] at hg;cases hg
 |false=>
  rw [hv] at hg hk
  obtain⟨g1,g2⟩:=z5M hg
  have g3:=z7D g1
  have g4:=z39 zo s false 12 (zt s false [34] a).1
  have hw:=h.word [34] a hv (by omega)
  rw [hw]
  simp only
  have hr:=h.rn' (p:=zo) 12 (zt s false [34] a).1 (by omega)
  rw [hr,h.sign hg hk,h.ext (by omega)]
theorem Win.arrow (h:Win s t o k){a:Nat}(ha:a≤k):zz t (o+a) false=zz s a false:=by
 unfold zz
 rw [h.eqs ha (c:=45) (by decide)]
 cases hc:(pk s a false==45) with
 |false=>rfl
 |true=>
  have hk:a≠k:=fun e=>by
   subst e
   have:=(za8 (c:=45) (by decide)).st_ h.sp
   rw [hc] at this
   cases this
  rw [show o+a+1=o+(a+1) by omega,h.eqs (a:=a+1) (by omega) (c:=62) (by decide)]
theorem Win.sum (h:Win s t o k){a:Nat}(ha:a≤k):zr t (o+a) false=zr s a false:=by
 unfold zr
 rw [h.arrow ha,h.eqs ha (c:=43) (by decide),h.eqs ha (c:=45) (by decide),h.eqs ha (c:=46) (by decide)]
theorem Win.product (h:Win s t o k){a:Nat}(ha:a≤k):zh t (o+a) false=zh s a false:=by
 unfold zh
 rw [h.eqs ha (c:=42) (by decide),h.eqs ha (c:=47) (by decide),h.eqs ha (c:=37) (by decide)]
theorem Win.ordering (h:Win s t o k){short long:zgS}{a:Nat}(hg:(zx s short long a false).2.1=false)(hk:(zx s short long a false).1≤k):zx t short long (o+a) false=(o+(zx s short long a false).1,false,(zx s short long a false).2.2):=by
 unfold zx at hg hk ⊢
 simp only at hg hk ⊢
 cases hv:(zt s false short.data.toList a).2 with
 |true=>
  exfalso
  rw [hv] at hg
  rw [if_pos (by simp [pk])] at hg
  cases hg
 |false=>
  rw [hv] at hg hk
  have hle:(zt s false short.data.toList a).1≤k:=by
   split at hk
   ·exact zgP (z16 _ _ _) hk
   ·exact zgP (z1f _ _ _ _) hk
  rw [h.word _ a hv hle]
  simp only
  rw [show(pk t (o+(zt s false short.data.toList a).1) false !=61)=(pk s (zt s false short.data.toList a).1 false !=61) by unfold bne;rw [h.eqs hle (c:=61) (by decide)]]
  split at hg
  ·rename_i hc
   rw [if_pos hc] at hk ⊢
   rw [if_pos hc,(h.skp hle).2]
  ·rename_i hc
   rw [if_neg hc] at hk ⊢
   rw [if_neg hc,h.sign hg hk]
theorem Win.comparing (h:Win s t o k){a:Nat}(ha:a≤k)(hg:(ze s a false).2.1=false)(hk:(ze s a false).1≤k):ze t (o+a) false=(o+(ze s a false).1,false,(ze s a false).2.2):=by
 unfold ze at hg hk ⊢
 rw [h.eqs ha (c:=61) (by decide),h.eqs ha (c:=33) (by decide),h.eqs ha (c:=60) (by decide),h.eqs ha (c:=62) (by decide)]
 split at hg
 ·rename_i hc;rw [if_pos hc] at hk ⊢;rw [if_pos hc,h.sign hg hk]
 ·rename_i hc
  rw [if_neg hc] at hk ⊢
  rw [if_neg hc]
  split at hg
  ·rename_i hc;rw [if_pos hc] at hk ⊢;rw [if_pos hc,h.sign hg hk]
  ·rename_i hc
   rw [if_neg hc] at hk ⊢
   rw [if_neg hc]
   split at hg
   ·rename_i hc;rw [if_pos hc] at hk ⊢;rw [if_pos hc,h.ordering hg hk]
   ·rename_i hc
    rw [if_neg hc] at hk ⊢
    rw [if_neg hc]
    split at hg
    ·rename_i hc;rw [if_pos hc] at hk ⊢;rw [if_pos hc,h.ordering hg hk]
    ·rename_i hc
     rw [if_neg hc,if_neg hc]
end
def shi (n:Nat)(i:Int):Int:=if i<0 then i else i+n
def shE (o n:Nat)(x:Ex):Ex:=⟨x.form,x.place+o,x.text,shi n x.left,shi n x.right⟩
def shL (o n:Nat)(x:Lc):Lc:=⟨x.form,x.text,shi n x.left,shi n x.right,if x.form=2 then x.place+o else x.place,x.count,x.items.map (shi n)⟩
def z8C (n m:Nat)(x:Cl):Cl:=⟨shi n x.test,x.form,x.result,shi m x.inner⟩
def shA (l c:Nat)(x:As):As:=⟨x.by_,shi l x.to_,shi c x.conds⟩
def shS (o:Nat)(P st:St):St:=⟨o+st.at_,st.bad,P.A++st.A.map (shA P.L.length P.C.length),P.L++st.L.map (shL o P.L.length),P.E++st.E.map (shE o P.E.length),P.C++st.C.map fun c=>c.map (z8C P.E.length P.C.length)⟩
theorem z73 (n i:Nat):shi n (i:Int)=((n+i:Nat):Int):=by unfold shi;rw [if_neg (by omega)];omega
theorem z0q {o:Nat}{P st:St}{x y:Ex}{r r':Int×St}(h:jQ st x=some r)(h':jQ (shS o P st) y=some r')(hy:y=shE o P.E.length x):r'=(shi P.E.length r.1,shS o P r.2):=by
 obtain⟨_,rfl⟩:=zj h
 obtain⟨_,rfl⟩:=zj h'
 subst hy
 refine Prod.ext ?_ ?_
 ·show(((P.E++st.E.map (shE o P.E.length)).length:Nat):Int)=shi P.E.length (st.E.length:Int)
  rw [z73,List.length_append,List.length_map]
 ·show({shS o P st with E:=(P.E++st.E.map (shE o P.E.length))++[shE o P.E.length x]}:St)=shS o P {st with E:=st.E++[x]}
  unfold shS
  simp only [List.map_append,List.map_cons,List.map_nil,List.append_assoc]
section
variable {s t:zgS} {o k:Nat} {P:St}
theorem Win.pks (h:Win s t o k){st:St}(hb:st.bad=false)(ha:st.at_≤k){c:Int}(hc:stp c=false):(pkS t (shS o P st)==c)=(pkS s st==c):=by
 unfold pkS
 show(pk t (o+st.at_) st.bad==c)=_
 rw [hb]
 exact h.eqs ha hc
theorem Win.pkd (h:Win s t o k){st:St}(hb:st.bad=false)(ha:st.at_≤k):zg (pkS t (shS o P st))=zg (pkS s st):=by
 unfold pkS
 show zg (pk t (o+st.at_) st.bad)=_
 rw [hb]
 exact h.test z2K ha
theorem Win.sgn (h:Win s t o k){l:List UInt8}{st:St}(hb:st.bad=false)(h1:(sgn s l st).bad=false)(h2:(sgn s l st).at_≤k):sgn t l (shS o P st)=shS o P (sgn s l st):=by
 unfold Go.Proofs.YtkoohcilbpdgeaaGreatDoor.sgn St.put at h1 h2 ⊢
 rw [hb] at h1 h2 ⊢
 simp only at h1 h2
 unfold shS
 simp only
 rw [hb,h.sign h1 h2,h1]
theorem Win.wrd (h:Win s t o k){l:List UInt8}{st:St}(hb:st.bad=false)(h1:(wrd s l st).bad=false)(h2:(wrd s l st).at_≤k):wrd t l (shS o P st)=shS o P (wrd s l st):=by
 unfold Go.Proofs.YtkoohcilbpdgeaaGreatDoor.wrd St.put at h1 h2 ⊢
 rw [hb] at h1 h2 ⊢
 simp only at h1 h2
 unfold shS
 simp only
 rw [hb,h.word _ _ h1 h2,h1]
theorem Win.put3 {st:St}{x y:Nat×Bool×zgS}(hy:y=(o+x.1,x.2.1,x.2.2)):(shS o P st).put3 y=shS o P (st.put3 x):=by
 subst hy;rfl
theorem z6n {s:zgS}{n tag:Nat}{l:Int}{st:St}{r:Int×St}(h:M s n tag l st=some r)(hr:r.2.bad=false):st.bad=false:=by
 cases hb:st.bad with
 |false=>rfl
 |true=>have:=(zeR s n tag l st r h hb).1;rw [hr] at this;cases this
end
theorem z4J (n:Nat):shi n (-1)= -1:=by unfold shi;rw [if_pos (by decide)]
section
variable {s t:zgS} {o k:Nat} {P:St}
theorem z1y {s:zgS}{a:Nat}{d:Bool}(h:(ze s a d).2.1=false):d=false:=by
 cases d with
 |false=>rfl
 |true=>simp [ze,pk] at h
theorem z18 {s:zgS}{a:Nat}{d:Bool}(h:(zw s a d).2.1=false):d=false:=by
 cases d with
 |false=>rfl
 |true=>rw [z12] at h;cases h
theorem zcB {o e:Nat}(a:Nat)(f:Int)(c:zgS)(i j:Int):(⟨f,((o+a:Nat):Int),c,shi e i,shi e j⟩:Ex)=shE o e ⟨f,(a:Int),c,i,j⟩:=by
 unfold shE
 simp only
 rw [show((o+a:Nat):Int)=(a:Int)+o by omega]
theorem zcJ {o e:Nat}(a:Nat)(f:Int)(c:zgS)(i:Int):(⟨f,((o+a:Nat):Int),c,shi e i,-1⟩:Ex)=shE o e ⟨f,(a:Int),c,i,-1⟩:=by
 rw [←zcB,z4J]
theorem z9Z {o e:Nat}(a:Nat)(f:Int)(c:zgS):(⟨f,((o+a:Nat):Int),c,-1,-1⟩:Ex)=shE o e ⟨f,(a:Int),c,-1,-1⟩:=by
 rw [←zcB,z4J]
theorem z0n {s:zgS}{c:UInt8}{cs:List UInt8}{st:St}(h:(sgn s (c::cs) st).bad=false):st.bad=false:=by
 cases hb:st.bad with
 |false=>rfl
 |true=>rw [(z0b hb).1] at h;cases h
theorem zfE (W:Win s t o k): ∀n tag l st r,M s n tag l st=some r→r.2.bad=false→r.2.at_≤k→ ∀m l' r',(10≤tag→l'=shi P.E.length l)→M t m tag l' (shS o P st)=some r'→r'=(shi P.E.length r.1,shS o P r.2):=by
 intro n
 induction n with
 |zero=>intro tag l st r h;simp [M] at h
 |succ n ih=>
  intro tag l st r h hg hk m l' r' hl h'
  cases m with
  |zero=>simp [M] at h'
  |succ m=>
  have two: ∀{t1 t2:Nat} {st0:St},¬10≤t1→((M s n t1 0 st0).bind fun r=>M s n t2 r.1 r.2)=some r→((M t m t1 0 (shS o P st0)).bind fun r=>M t m t2 r.1 r.2)=some r'→r'=(shi P.E.length r.1,shS o P r.2):=fun ht h h'=>by
   obtain⟨q,h1,h2⟩:=zgD.1 h
   obtain⟨q',h1',h2'⟩:=zgD.1 h'
   obtain rfl:=ih _ _ _ _ h1 (z6n h2 hg) (zgP (z7s _ _ _ _ _ _ h2) hk) _ _ _ (fun h=>absurd h ht) h1'
   exact ih _ _ _ _ h2 hg hk _ _ _ (fun _=>rfl) h2'
  have three: ∀{t1 t2:Nat} {ls:List UInt8} {st0:St} {x x':Int×St→Ex},¬10≤t1→st0.bad=false→(∀q q',q'=(shi P.E.length q.1,shS o P q.2)→x' q'=shE o P.E.length (x q))→((M s n t1 0 (sgn s ls st0)).bind fun r=>(jQ r.2 (x r)).bind fun q=>M s n t2 q.1 q.2)=some r→((M t m t1 0 (sgn t ls (shS o P st0))).bind fun r=>(jQ r.2 (x' r)).bind fun q=>M t m t2 q.1 q.2)=some r'→r'=(shi P.E.length r.1,shS o P r.2):=fun ht hb hx h h'=>by
   obtain⟨q,h1,h2⟩:=zgD.1 h
   obtain⟨q2,h3,h4⟩:=zgD.1 h2
   obtain⟨q',h1',h2'⟩:=zgD.1 h'
   obtain⟨q2',h3',h4'⟩:=zgD.1 h2'
   have g2:=z6n h4 hg
   have a2:=z7s _ _ _ _ _ _ h4
   obtain⟨e1,e2⟩:=zZ h3
   have g1:q.2.bad=false:=by rw [←e1];exact g2
   have a1:q.2.at_≤k:=by omega
   have g0:=z6n h1 g1
   have a0:=z7s _ _ _ _ _ _ h1
   rw [W.sgn hb g0 (by omega)] at h1'
   obtain rfl:=ih _ _ _ _ h1 g1 a1 _ _ _ (fun h=>absurd h ht) h1'
   obtain rfl:=z0q h3 h3' (hx _ _ rfl)
   exact ih _ _ _ _ h4 hg hk _ _ _ (fun _=>rfl) h4'
  have one: ∀{t1:Nat} {ls:List UInt8} {st0:St} {x x':Int×St→Ex},¬10≤t1→st0.bad=false→(∀q q',q'=(shi P.E.length q.1,shS o P q.2)→x' q'=shE o P.E.length (x q))→((M s n t1 0 (sgn s ls st0)).bind fun r=>jQ r.2 (x r))=some r→((M t m t1 0 (sgn t ls (shS o P st0))).bind fun r=>jQ r.2 (x' r))=some r'→r'=(shi P.E.length r.1,shS o P r.2):=fun ht hb hx h h'=>by
   obtain⟨q,h1,h3⟩:=zgD.1 h
   obtain⟨q',h1',h3'⟩:=zgD.1 h'
   obtain⟨e1,e2⟩:=zZ h3
   have g1:q.2.bad=false:=by rw [←e1];exact hg
   have a1:q.2.at_≤k:=by omega
   have g0:=z6n h1 g1
   have a0:=z7s _ _ _ _ _ _ h1
   rw [W.sgn hb g0 (by omega)] at h1'
   obtain rfl:=ih _ _ _ _ h1 g1 a1 _ _ _ (fun h=>absurd h ht) h1'
   exact z0q h3 h3' (hx _ _ rfl)
  match tag,h,h' with
  |0,h,h'=>rw [M_0] at h h';exact two (by omega) h h'
  |1,h,h'=>rw [M_1] at h h';exact two (by omega) h h'
  |4,h,h'=>rw [M_4] at h h';exact two (by omega) h h'
  |5,h,h'=>rw [M_5] at h h';exact two (by omega) h h'
  |10,h,h'=>
   rw [z71] at h h'
   have hb:st.bad=false:=z6n (s:=s) (n:=n+1) (tag:=10) (l:=l) (r:=r) (by rw [z71];exact h) hg
   have ha:st.at_≤k:=zgP (z7s s (n+1) 10 l st r (by rw [z71];exact h)) hk
   rw [W.pks hb ha (c:=124) (by decide)] at h'
   obtain rfl:=hl (by omega)
   split at h
   ·rename_i hc
    rw [if_pos hc] at h'
    exact three (t1:=1) (by omega) hb (fun q q' e=>by subst e;exact zcB st.at_ _ _ _ _) h h'
   ·rename_i hc
    rw [if_neg hc] at h'
    cases h;cases h';rfl
  |11,h,h'=>
   rw [z7h] at h h'
   have hb:st.bad=false:=z6n (s:=s) (n:=n+1) (tag:=11) (l:=l) (r:=r) (by rw [z7h];exact h) hg
   have ha:st.at_≤k:=zgP (z7s s (n+1) 11 l st r (by rw [z7h];exact h)) hk
   rw [W.pks hb ha (c:=38) (by decide)] at h'
   obtain rfl:=hl (by omega)
   split at h
   ·rename_i hc
    rw [if_pos hc] at h'
    exact three (t1:=2) (by omega) hb (fun q q' e=>by subst e;exact zcB st.at_ _ _ _ _) h h'
   ·rename_i hc
    rw [if_neg hc] at h'
    cases h;cases h';rfl
  |14,h,h'=>
   rw [z6x] at h h'
   simp only at h h'
   have hb:st.bad=false:=z6n (s:=s) (n:=n+1) (tag:=14) (l:=l) (r:=r) (by rw [z6x];exact h) hg
   have ha:st.at_≤k:=zgP (z7s s (n+1) 14 l st r (by rw [z6x];exact h)) hk
   have es:zr t (shS o P st).at_ (shS o P st).bad=zr s st.at_ st.bad:=by
    show zr t (o+st.at_) st.bad=_
    rw [hb]
    exact W.sum ha
   rw [es] at h'
   obtain rfl:=hl (by omega)
   split at h
   ·rename_i hc
    rw [if_pos hc] at h'
    cases h;cases h';rfl
   ·rename_i hc
    rw [if_neg hc] at h'
    exact three (t1:=5) (by omega) hb (fun q q' e=>by subst e;exact zcB st.at_ _ _ _ _) h h'
  |15,h,h'=>
   rw [z7L] at h h'
   simp only at h h'
   have hb:st.bad=false:=z6n (s:=s) (n:=n+1) (tag:=15) (l:=l) (r:=r) (by rw [z7L];exact h) hg
   have ha:st.at_≤k:=zgP (z7s s (n+1) 15 l st r (by rw [z7L];exact h)) hk
   have es:zh t (shS o P st).at_ (shS o P st).bad=zh s st.at_ st.bad:=by
    show zh t (o+st.at_) st.bad=_
    rw [hb]
    exact W.product ha
   rw [es] at h'
   obtain rfl:=hl (by omega)
   split at h
   ·rename_i hc
    rw [if_pos hc] at h'
    cases h;cases h';rfl
   ·rename_i hc
    rw [if_neg hc] at h'
    exact three (t1:=6) (by omega) hb (fun q q' e=>by subst e;exact zcB st.at_ _ _ _ _) h h'
  |2,h,h'=>
   rw [M_2] at h h'
   have hb:st.bad=false:=z6n (s:=s) (n:=n+1) (tag:=2) (l:=l) (r:=r) (by rw [M_2];exact h) hg
   have ha:st.at_≤k:=zgP (z7s s (n+1) 2 l st r (by rw [M_2];exact h)) hk
   rw [show(pkS t (shS o P st) !=33)=(pkS s st !=33) by unfold bne;rw [W.pks hb ha (c:=33) (by decide)]] at h'
   split at h
   ·rename_i hc
    rw [if_pos hc] at h'
    exact ih _ _ _ _ h hg hk _ _ _ (by omega) h'
   ·rename_i hc
    rw [if_neg hc] at h'
    exact one (t1:=2) (by omega) hb (fun q q' e=>by subst e;exact zcJ st.at_ _ _ _) h h'
  |6,h,h'=>
   rw [M_6] at h h'
   have hb:st.bad=false:=z6n (s:=s) (n:=n+1) (tag:=6) (l:=l) (r:=r) (by rw [M_6];exact h) hg
   have ha:st.at_≤k:=zgP (z7s s (n+1) 6 l st r (by rw [M_6];exact h)) hk
   rw [show(pkS t (shS o P st) !=45)=(pkS s st !=45) by unfold bne;rw [W.pks hb ha (c:=45) (by decide)]] at h'
   split at h
   ·rename_i hc
    rw [if_pos hc] at h'
    exact ih _ _ _ _ h hg hk _ _ _ (by omega) h'
   ·rename_i hc
    rw [if_neg hc] at h'
    exact one (t1:=6) (by omega) hb (fun q q' e=>by subst e;exact zcJ st.at_ _ _ _) h h'
  |3,h,h'=>
   rw [M_3] at h h'
   obtain⟨q,h1,h2⟩:=zgD.1 h
   obtain⟨q',h1',h2'⟩:=zgD.1 h'
   simp only at h2 h2'
   have hc:(ze s q.2.at_ q.2.bad).2.1=false∧(ze s q.2.at_ q.2.bad).1≤k:=by
    split at h2
    ·cases h2;exact⟨hg,hk⟩
    ·obtain⟨q2,h3,h4⟩:=zgD.1 h2
     obtain⟨e1,e2⟩:=zZ h4
     have g2:q2.2.bad=false:=by rw [←e1];exact hg
     have a2:=z7s _ _ _ _ _ _ h3
     exact⟨z6n h3 g2,zgP a2 (by omega)⟩
   obtain⟨hc1,hc2⟩:=hc
   have hq:=z1y hc1
   have ha:q.2.at_≤k:=zgP (z1b s q.2.at_ q.2.bad) hc2
   obtain rfl:=ih _ _ _ _ h1 hq ha _ _ _ (fun h=>absurd h (by omega)) h1'
   have ec:ze t (shS o P q.2).at_ (shS o P q.2).bad=(o+(ze s q.2.at_ q.2.bad).1,(ze s q.2.at_ q.2.bad).2.1,(ze s q.2.at_ q.2.bad).2.2):=by
    show ze t (o+q.2.at_) q.2.bad=_
    rw [hq] at hc1 hc2 ⊢
    rw [W.comparing ha hc1 hc2,hc1]
   rw [ec] at h2'
   simp only at h2'
   split at h2
   ·rename_i hz
    rw [if_pos hz] at h2'
    cases h2;cases h2';rfl
   ·rename_i hz
    rw [if_neg hz] at h2'
    obtain⟨q2,h3,h4⟩:=zgD.1 h2
    obtain⟨q2',h3',h4'⟩:=zgD.1 h2'
    obtain⟨e1,e2⟩:=zZ h4
    rw [Win.put3 (x:=ze s q.2.at_ q.2.bad) rfl] at h3'
    obtain rfl:=ih _ _ _ _ h3 (by rw [←e1];exact hg) (by omega) _ _ _ (fun h=>absurd h (by omega)) h3'
    exact z0q h4 h4' (zcB q.2.at_ _ _ _ _)
  |7,h,h'=>
   rw [M_7] at h h'
   simp only at h h'
   have hb:st.bad=false:=z6n (s:=s) (n:=n+1) (tag:=7) (l:=l) (r:=r) (by rw [M_7];exact h) hg
   have ha:st.at_≤k:=zgP (z7s s (n+1) 7 l st r (by rw [M_7];exact h)) hk
   rw [W.pkd hb ha,W.pks hb ha (c:=34) (by decide),W.pks hb ha (c:=64) (by decide),W.pks hb ha (c:=40) (by decide)] at h'
   have bad':(shS o P st).bad=false:=hb
   split at h
   ·rename_i hz
    rw [if_pos hz] at h'
    obtain⟨e1,e2⟩:=zZ h
    rw [hb] at h
    rw [bad'] at h'
    have c1:(zO s st.at_ st.bad).2.1=false:=e1.symm.trans hg
    rw [hb] at c1
    obtain⟨_,w2⟩:=W.number ha c1
    rw [show(shS o P st).at_=o+st.at_ from rfl,w2,Win.put3 (x:=zO s st.at_ false) (by rw [c1])] at h'
    exact z0q h h' (z9Z st.at_ _ _)
   ·rename_i hz
    rw [if_neg hz] at h'
    split at h
    ·rename_i hz
     rw [if_pos hz] at h'
     obtain⟨e1,e2⟩:=zZ h
     rw [hb] at h
     rw [bad'] at h'
     have c1:(zT s st.at_ st.bad).2.1=false:=e1.symm.trans hg
     have c2:(zT s st.at_ st.bad).1≤k:=zgP (Nat.le_of_eq e2.symm) hk
     rw [hb] at c1 c2
     have w2:=W.quoted c1 c2
     rw [show(shS o P st).at_=o+st.at_ from rfl,w2,Win.put3 (x:=zT s st.at_ false) (by rw [c1])] at h'
     exact z0q h h' (z9Z st.at_ _ _)
    ·rename_i hz
     rw [if_neg hz] at h'
     split at h
     ·rename_i hz
      rw [if_pos hz] at h'
      obtain⟨e1,e2⟩:=zZ h
      have u1:(zw s (wrd s [64] st).at_ (wrd s [64] st).bad).2.1=false:=e1.symm.trans hg
      have u2:=z18 u1
      have u3:(wrd s [64] st).at_≤k:=zgP (jq _ _ _) (zgP (Nat.le_of_eq e2.symm) hk)
      rw [W.wrd hb u2 u3] at h'
      have w2:zw t (shS o P (wrd s [64] st)).at_ (shS o P (wrd s [64] st)).bad=(o+(zw s (wrd s [64] st).at_ (wrd s [64] st).bad).1,(zw s (wrd s [64] st).at_ (wrd s [64] st).bad).2.1,(zw s (wrd s [64] st).at_ (wrd s [64] st).bad).2.2):=by
       show zw t (o+(wrd s [64] st).at_) (wrd s [64] st).bad=_
       rw [u2] at u1 ⊢
       rw [(W.name u3 u1).2,u1]
      rw [w2,Win.put3 (x:=zw s (wrd s [64] st).at_ (wrd s [64] st).bad) rfl] at h'
      exact z0q h h' (z9Z st.at_ _ _)
     ·rename_i hz
      rw [if_neg hz] at h'
      split at h
      ·rename_i hz
       rw [if_pos hz] at h'
       obtain⟨q,h1,h2⟩:=zgD.1 h
       obtain⟨q',h1',h2'⟩:=zgD.1 h'
       cases h2
       cases h2'
       have g1:=z0n hg
       have a1:q.2.at_≤k:=zgP (zL s [41] q.2) hk
       have g0:=z6n h1 g1
       have a0:=z7s _ _ _ _ _ _ h1
       rw [W.sgn hb g0 (by omega)] at h1'
       obtain rfl:=ih _ _ _ _ h1 g1 a1 _ _ _ (fun h=>absurd h (by omega)) h1'
       simp only
       rw [W.sgn g1 hg hk]
      ·rename_i hz
       rw [if_neg hz] at h'
       have u1:(zw s st.at_ st.bad).2.1=false:=by
        split at h
        ·exact(zZ h).1.symm.trans hg
        ·exact(zZ h).1.symm.trans hg
       have w2:zw t (shS o P st).at_ (shS o P st).bad=(o+(zw s st.at_ st.bad).1,(zw s st.at_ st.bad).2.1,(zw s st.at_ st.bad).2.2):=by
        show zw t (o+st.at_) st.bad=_
        rw [hb] at u1 ⊢
        rw [(W.name ha u1).2,u1]
       rw [w2,Win.put3 (x:=zw s st.at_ st.bad) rfl] at h'
       simp only at h'
       split at h
       ·rename_i hz
        rw [if_pos hz] at h'
        exact z0q h h' (z9Z st.at_ _ _)
       ·rename_i hz
        rw [if_neg hz] at h'
        exact z0q h h' (z9Z st.at_ _ _)
  |8,h,h'=>simp [M] at h
  |9,h,h'=>simp [M] at h
  |12,h,h'=>simp [M] at h
  |13,h,h'=>simp [M] at h
  |u+16,h,h'=>simp [M] at h
end
theorem z1r (s:zgS): ∀n tag l p c its st r,ML s n tag l p c its st=some r→st.at_≤r.2.at_:=by
 intro n
 induction n with
 |zero=>intro tag l p c its st r h;simp [ML] at h
 |succ n ih=>
  intro tag l p c its st r h
  match tag,h with
  |0,h=>
   rw [z7G] at h
   obtain⟨q,h1,h2⟩:=zgD.1 h
   exact zgP (ih _ _ _ _ _ _ _ h1) (ih _ _ _ _ _ _ _ h2)
  |1,h=>
   rw [z7I] at h
   obtain⟨q,h1,h2⟩:=zgD.1 h
   exact zgP (ih _ _ _ _ _ _ _ h1) (ih _ _ _ _ _ _ _ h2)
  |10,h=>
   rw [z2n] at h
   split at h
   ·obtain⟨q,h1,h2⟩:=zgD.1 h
    obtain⟨q2,h3,h4⟩:=zgD.1 h2
    have k0:=zL s [124,124] st
    have k1:=ih _ _ _ _ _ _ _ h1
    have k2:=(z0R h3).2
    have k3:=ih _ _ _ _ _ _ _ h4
    omega
   ·cases h;exact zgH _
  |11,h=>
   rw [z2w] at h
   split at h
   ·obtain⟨q,h1,h2⟩:=zgD.1 h
    obtain⟨q2,h3,h4⟩:=zgD.1 h2
    have k0:=zL s [38,38] st
    have k1:=ih _ _ _ _ _ _ _ h1
    have k2:=(z0R h3).2
    have k3:=ih _ _ _ _ _ _ _ h4
    omega
   ·cases h;exact zgH _
  |2,h=>
   rw [z6l] at h
   split at h
   ·obtain⟨q,h1,h2⟩:=zgD.1 h
    cases h2
    exact zgP (zgP (zL s [40] st) (ih _ _ _ _ _ _ _ h1)) (zL s [41] q.2)
   ·split at h
    ·exact ih _ _ _ _ _ _ _ h
    ·have k:=(z0R h).2
     rw [k];exact jq _ _ _
  |3,h=>
   rw [z9z] at h
   obtain⟨q,h1,h2⟩:=zgD.1 h
   have k0:=zL s [45,111,102,40] {st with at_:=st.at_+1}
   have k1:=ih _ _ _ _ _ _ _ h1
   have k2:=ih _ _ _ _ _ _ _ h2
   have k3:st.at_+1≤(sgn s [45,111,102,40] {st with at_:=st.at_+1}).at_:=k0
   omega
  |13,h=>
   rw [z2U] at h
   split at h
   ·split at h
    ·obtain⟨q,h1,h2⟩:=zgD.1 h
     exact zgP (zgP (zL s [44] st) (ih _ _ _ _ _ _ _ h1)) (ih _ _ _ _ _ _ _ h2)
    ·rw [(z0R h).2];exact zL s [41] st
   ·cases h
  |4,h=>simp [ML] at h
  |5,h=>simp [ML] at h
  |6,h=>simp [ML] at h
  |7,h=>simp [ML] at h
  |8,h=>simp [ML] at h
  |9,h=>simp [ML] at h
  |12,h=>simp [ML] at h
  |u+14,h=>simp [ML] at h
theorem z0K {s:zgS}{n tag:Nat}{l p c:Int}{its:List Int}{st:St}{r:Int×St}(h:ML s n tag l p c its st=some r)(hr:r.2.bad=false)(ht:tag≠3):st.bad=false:=by
 cases hb:st.bad with
 |false=>rfl
 |true=>have:=(z4v s n tag l p c its st r h ht hb).1;rw [hr] at this;cases this
theorem z3q {o:Nat}{P st:St}{x y:Lc}{r r':Int×St}(h:z2H st x=some r)(h':z2H (shS o P st) y=some r')(hy:y=shL o P.L.length x):r'=(shi P.L.length r.1,shS o P r.2):=by
 obtain⟨_,rfl⟩:=zJ h
 obtain⟨_,rfl⟩:=zJ h'
 subst hy
 refine Prod.ext ?_ ?_
 ·show(((P.L++st.L.map (shL o P.L.length)).length:Nat):Int)=shi P.L.length (st.L.length:Int)
  rw [z73,List.length_append,List.length_map]
 ·show({shS o P st with L:=(P.L++st.L.map (shL o P.L.length))++[shL o P.L.length x]}:St)=shS o P {st with L:=st.L++[x]}
  unfold shS
  simp only [List.map_append,List.map_cons,List.map_nil,List.append_assoc]
section
variable {s t:zgS} {o k:Nat} {P:St}
theorem zf7 (W:Win s t o k): ∀n tag l p c its st r,ML s n tag l p c its st=some r→r.2.bad=false→r.2.at_≤k→(tag=3→zg (pkS s st)=true)→ ∀m l' p' c' its' r',(tag=10∨tag=11→l'=shi P.L.length l)→(tag=13→p'=p+o∧c'=c∧its'=its.map (shi P.L.length))→ML t m tag l' p' c' its' (shS o P st)=some r'→r'=(shi P.L.length r.1,shS o P r.2):=by
 intro n
 induction n with
 |zero=>intro tag l p c its st r h;simp [ML] at h
 |succ n ih=>
  intro tag l p c its st r h hg hk hd m l' p' c' its' r' hl hi h'
  cases m with
  |zero=>simp [ML] at h'
  |succ m=>
  match tag,h,h' with
  |0,h,h'=>
   rw [z7G] at h h'
   obtain⟨q,h1,h2⟩:=zgD.1 h
   obtain⟨q',h1',h2'⟩:=zgD.1 h'
   obtain rfl:=ih _ _ _ _ _ _ _ h1 (z0K h2 hg (by omega)) (zgP (z1r _ _ _ _ _ _ _ _ _ h2) hk) (by omega) _ _ _ _ _ _ (by omega) (by omega) h1'
   exact ih _ _ _ _ _ _ _ h2 hg hk (by omega) _ _ _ _ _ _ (fun _=>rfl) (by omega) h2'
  |1,h,h'=>
   rw [z7I] at h h'
   obtain⟨q,h1,h2⟩:=zgD.1 h
   obtain⟨q',h1',h2'⟩:=zgD.1 h'
   obtain rfl:=ih _ _ _ _ _ _ _ h1 (z0K h2 hg (by omega)) (zgP (z1r _ _ _ _ _ _ _ _ _ h2) hk) (by omega) _ _ _ _ _ _ (by omega) (by omega) h1'
   exact ih _ _ _ _ _ _ _ h2 hg hk (by omega) _ _ _ _ _ _ (fun _=>rfl) (by omega) h2'
  |10,h,h'=>
   have hb:=z0K (tag:=10) h hg (by omega)
   have ha:=zgP (z1r s (n+1) 10 l p c its st r h) hk
   rw [z2n] at h h'
   rw [W.pks hb ha (c:=124) (by decide)] at h'
   obtain rfl:=hl (by omega)
   split at h
   ·rename_i hc
    rw [if_pos hc] at h'
    obtain⟨q,h1,h2⟩:=zgD.1 h
    obtain⟨q2,h3,h4⟩:=zgD.1 h2
    obtain⟨q',h1',h2'⟩:=zgD.1 h'
    obtain⟨q2',h3',h4'⟩:=zgD.1 h2'
    have g2:=z0K h4 hg (by omega)
    have a2:=z1r _ _ _ _ _ _ _ _ _ h4
    obtain⟨e1,e2⟩:=z0R h3
    have g1:q.2.bad=false:=by rw [←e1];exact g2
    have a1:q.2.at_≤k:=by omega
    have g0:=z0K h1 g1 (by omega)
    have a0:=z1r _ _ _ _ _ _ _ _ _ h1
    rw [W.sgn hb g0 (by omega)] at h1'
    obtain rfl:=ih _ _ _ _ _ _ _ h1 g1 a1 (by omega) _ _ _ _ _ _ (by omega) (by omega) h1'
    obtain rfl:=z3q h3 h3' (by simp [shL])
    exact ih _ _ _ _ _ _ _ h4 hg hk (by omega) _ _ _ _ _ _ (fun _=>rfl) (by omega) h4'
   ·rename_i hc
    rw [if_neg hc] at h'
    cases h;cases h';rfl
  |11,h,h'=>
   have hb:=z0K (tag:=11) h hg (by omega)
   have ha:=zgP (z1r s (n+1) 11 l p c its st r h) hk
   rw [z2w] at h h'
   rw [W.pks hb ha (c:=38) (by decide)] at h'
   obtain rfl:=hl (by omega)
   split at h
   ·rename_i hc
    rw [if_pos hc] at h'
    obtain⟨q,h1,h2⟩:=zgD.1 h
    obtain⟨q2,h3,h4⟩:=zgD.1 h2
    obtain⟨q',h1',h2'⟩:=zgD.1 h'
    obtain⟨q2',h3',h4'⟩:=zgD.1 h2'
    have g2:=z0K h4 hg (by omega)
    have a2:=z1r _ _ _ _ _ _ _ _ _ h4
    obtain⟨e1,e2⟩:=z0R h3
    have g1:q.2.bad=false:=by rw [←e1];exact g2
    have a1:q.2.at_≤k:=by omega
    have g0:=z0K h1 g1 (by omega)
    have a0:=z1r _ _ _ _ _ _ _ _ _ h1
    rw [W.sgn hb g0 (by omega)] at h1'
    obtain rfl:=ih _ _ _ _ _ _ _ h1 g1 a1 (by omega) _ _ _ _ _ _ (by omega) (by omega) h1'
    obtain rfl:=z3q h3 h3' (by simp [shL])
    exact ih _ _ _ _ _ _ _ h4 hg hk (by omega) _ _ _ _ _ _ (fun _=>rfl) (by omega) h4'
   ·rename_i hc
    rw [if_neg hc] at h'
    cases h;cases h';rfl
  |2,h,h'=>
   have hb:=z0K (tag:=2) h hg (by omega)
   have ha:=zgP (z1r s (n+1) 2 l p c its st r h) hk
   rw [z6l] at h h'
   rw [W.pks hb ha (c:=40) (by decide),W.pkd hb ha] at h'
   split at h
   ·rename_i hz
    rw [if_pos hz] at h'
    obtain⟨q,h1,h2⟩:=zgD.1 h
    obtain⟨q',h1',h2'⟩:=zgD.1 h'
    cases h2
    cases h2'
    have g1:=z0n hg
    have a1:q.2.at_≤k:=zgP (zL s [41] q.2) hk
    have g0:=z0K h1 g1 (by omega)
    have a0:=z1r _ _ _ _ _ _ _ _ _ h1
    rw [W.sgn hb g0 (by omega)] at h1'
    obtain rfl:=ih _ _ _ _ _ _ _ h1 g1 a1 (by omega) _ _ _ _ _ _ (by omega) (by omega) h1'
    simp only
    rw [W.sgn g1 hg hk]
   ·rename_i hz
    rw [if_neg hz] at h'
    split at h
    ·rename_i hz
     rw [if_pos hz] at h'
     exact ih _ _ _ _ _ _ _ h hg hk (fun _=>hz) _ _ _ _ _ _ (by omega) (by omega) h'
    ·rename_i hz
     rw [if_neg hz] at h'
     simp only at h h'
     have u1:(zw s st.at_ st.bad).2.1=false:=(z0R h).1.symm.trans hg
     have w2:zw t (shS o P st).at_ (shS o P st).bad=(o+(zw s st.at_ st.bad).1,(zw s st.at_ st.bad).2.1,(zw s st.at_ st.bad).2.2):=by
      show zw t (o+st.at_) st.bad=_
      rw [hb] at u1 ⊢
      rw [(W.name ha u1).2,u1]
     rw [w2,Win.put3 (x:=zw s st.at_ st.bad) rfl] at h'
     exact z3q h h' (by simp [shL,z4J])
  |3,h,h'=>
   have hd':=hd rfl
   have hb:st.bad=false:=by
    cases hq:st.bad with
    |false=>rfl
    |true=>rw [z2I hq] at hd';cases hd'
   have ha:=zgP (z1r s (n+1) 3 l p c its st r h) hk
   have hlt:st.at_<k:=by
    rcases Nat.lt_or_ge st.at_ k with h|h
    ·exact h
    ·have e:st.at_=k:=by omega
     unfold pkS at hd'
     rw [hb,e,z2K.st_ W.sp] at hd'
     cases hd'
   rw [z9z] at h h'
   have ep:pkS t (shS o P st)=pkS s st:=by
    unfold pkS
    show pk t (o+st.at_) st.bad=_
    rw [hb];exact W.eq _ hlt
   rw [ep] at h'
   obtain⟨q,h1,h2⟩:=zgD.1 h
   obtain⟨q',h1',h2'⟩:=zgD.1 h'
   have g1:=z0K h2 hg (by omega)
   have a1:=z1r _ _ _ _ _ _ _ _ _ h2
   have g0:=z0K h1 g1 (by omega)
   have a0:=z1r _ _ _ _ _ _ _ _ _ h1
   rw [show({shS o P st with at_:=(shS o P st).at_+1}:St)=shS o P {st with at_:=st.at_+1} by unfold shS;simp only [Nat.add_assoc],W.sgn (st:={st with at_:=st.at_+1}) hb g0 (by omega)] at h1'
   obtain rfl:=ih _ _ _ _ _ _ _ h1 g1 (by omega) (by omega) _ _ _ _ _ _ (by omega) (by omega) h1'
   exact ih _ _ _ _ _ _ _ h2 hg hk (by omega) _ _ _ _ _ _ (by omega) (fun _=>⟨by show((o+st.at_:Nat):Int)=_;omega,rfl,rfl⟩) h2'
  |13,h,h'=>
   have hb:=z0K (tag:=13) h hg (by omega)
   have ha:=zgP (z1r s (n+1) 13 l p c its st r h) hk
   obtain⟨rfl,rfl,rfl⟩:=hi rfl
   rw [z2U] at h h'
   rw [W.pks hb ha (c:=44) (by decide),List.length_map] at h'
   split at h
   ·rename_i hz
    rw [if_pos hz] at h'
    split at h
    ·rename_i hz
     rw [if_pos hz] at h'
     obtain⟨q,h1,h2⟩:=zgD.1 h
     obtain⟨q',h1',h2'⟩:=zgD.1 h'
     have g1:=z0K h2 hg (by omega)
     have a1:=z1r _ _ _ _ _ _ _ _ _ h2
     have g0:=z0K h1 g1 (by omega)
     have a0:=z1r _ _ _ _ _ _ _ _ _ h1
     rw [W.sgn hb g0 (by omega)] at h1'
     obtain rfl:=ih _ _ _ _ _ _ _ h1 g1 (by omega) (by omega) _ _ _ _ _ _ (by omega) (by omega) h1'
     exact ih _ _ _ _ _ _ _ h2 hg hk (by omega) _ _ _ _ _ _ (by omega) (fun _=>⟨rfl,rfl,by simp⟩) h2'
    ·rename_i hz
     rw [if_neg hz] at h'
     obtain⟨e1,e2⟩:=z0R h
     rw [W.sgn hb (e1.symm.trans hg) (by omega)] at h'
     exact z3q h h' (by simp [shL,z4J])
   ·cases h
  |4,h,h'=>simp [ML] at h
  |5,h,h'=>simp [ML] at h
  |6,h,h'=>simp [ML] at h
  |7,h,h'=>simp [ML] at h
  |8,h,h'=>simp [ML] at h
  |9,h,h'=>simp [ML] at h
  |12,h,h'=>simp [ML] at h
  |u+14,h,h'=>simp [ML] at h
end
theorem z3k {s:zgS}{n tag:Nat}{cls:List Cl}{st:St}{r:Int×Cl×St}(h:MC s n tag cls st=some r)(hr:r.2.2.bad=false):st.bad=false:=by
 cases hb:st.bad with
 |false=>rfl
 |true=>have:=(z67 s n tag cls st r h hb).1;rw [hr] at this;cases this
theorem zaR {o:Nat}{P st:St}{x y:List Cl}{r r':Int×St}(h:z8I st x=some r)(h':z8I (shS o P st) y=some r')(hy:y=x.map (z8C P.E.length P.C.length)):r'=(shi P.C.length r.1,shS o P r.2):=by
 obtain⟨_,rfl⟩:=jy h
 obtain⟨_,rfl⟩:=jy h'
 subst hy
 refine Prod.ext ?_ ?_
 ·show(((P.C++st.C.map fun c=>c.map (z8C P.E.length P.C.length)).length:Nat):Int)=shi P.C.length (st.C.length:Int)
  rw [z73,List.length_append,List.length_map]
 ·show({shS o P st with C:=(P.C++st.C.map fun c=>c.map (z8C P.E.length P.C.length))++[x.map (z8C P.E.length P.C.length)]}:St)=shS o P {st with C:=st.C++[x]}
  unfold shS
  simp only [List.map_append,List.map_cons,List.map_nil,List.append_assoc]
section
variable {s t:zgS} {o k:Nat} {P:St}
theorem zdK (W:Win s t o k): ∀n tag cls st r,MC s n tag cls st=some r→r.2.2.bad=false→r.2.2.at_≤k→ ∀m cls' r',(tag=2→cls'=cls.map (z8C P.E.length P.C.length))→MC t m tag cls' (shS o P st)=some r'→r'.2.2=shS o P r.2.2∧(tag≠1→r'.1=shi P.C.length r.1)∧(tag=1→r'.2.1=z8C P.E.length P.C.length r.2.1):=by
 intro n
 induction n with
 |zero=>intro tag cls st r h;simp [MC] at h
 |succ n ih=>
  intro tag cls st r h hg hk m cls' r' hc h'
  cases m with
  |zero=>simp [MC] at h'
  |succ m=>
  match tag,h,h' with
  |0,h,h'=>
   rw [z8h] at h h'
   obtain⟨q,h1,h2⟩:=zgD.1 h
   obtain⟨q',h1',h2'⟩:=zgD.1 h'
   obtain⟨k1,_,k3⟩:=ih _ _ _ _ h1 (z3k h2 hg) (zgP (z5d _ _ _ _ _ _ h2) hk) _ _ _ (by omega) h1'
   rw [k1,k3 rfl] at h2'
   obtain⟨j1,j2,_⟩:=ih _ _ _ _ h2 hg hk _ _ _ (fun _=>rfl) h2'
   exact⟨j1,fun _=>j2 (by omega),fun h=>by omega⟩
  |2,h,h'=>
   have hb:=z3k h hg
   have ha:=zgP (z5d _ _ _ _ _ _ h) hk
   obtain rfl:=hc rfl
   rw [z7k] at h h'
   rw [W.pks hb ha (c:=59) (by decide),List.length_map] at h'
   split at h
   ·rename_i hz
    rw [if_pos hz] at h'
    split at h
    ·rename_i hz
     rw [if_pos hz] at h'
     obtain⟨q,h1,h2⟩:=zgD.1 h
     obtain⟨q',h1',h2'⟩:=zgD.1 h'
     have g1:=z3k h2 hg
     have a1:=z5d _ _ _ _ _ _ h2
     have g0:=z3k h1 g1
     have a0:=z5d _ _ _ _ _ _ h1
     rw [W.sgn hb g0 (by omega)] at h1'
     obtain⟨k1,_,k3⟩:=ih _ _ _ _ h1 g1 (by omega) _ _ _ (by omega) h1'
     rw [k1,k3 rfl] at h2'
     obtain⟨j1,j2,_⟩:=ih _ _ _ _ h2 hg hk _ _ _ (fun _=>by simp) h2'
     exact⟨j1,fun _=>j2 (by omega),fun h=>by omega⟩
    ·rename_i hz
     rw [if_neg hz] at h'
     obtain⟨q,h1,h2⟩:=zgD.1 h
     obtain⟨q',h1',h2'⟩:=zgD.1 h'
     cases h2
     cases h2'
     obtain rfl:=zaR h1 h1' rfl
     exact⟨rfl,fun _=>rfl,fun h=>by omega⟩
   ·cases h
  |1,h,h'=>
   rw [zai] at h h'
   obtain⟨q,h1,h2⟩:=zgD.1 h
   obtain⟨q',h1',h2'⟩:=zgD.1 h'
   obtain⟨u,h3,h4⟩:=zgD.1 h2
   obtain⟨u',h3',h4'⟩:=zgD.1 h2'
   obtain⟨e1,e2⟩:=zZ h3
   have hu:u.2.bad=false∧u.2.at_≤k:=by
    split at h4
    ·cases h4;exact⟨hg,hk⟩
    ·simp only at h4
     have k0:=zL s [45,62] u.2
     split at h4
     ·obtain⟨v,h5,h6⟩:=zgD.1 h4
      cases h6
      have g1:=z0n hg
      have g2:=z3k h5 g1
      have a1:=zL s [125] v.2.2
      have a2:=z5d _ _ _ _ _ _ h5
      have a3:=zL s [123] (sgn s [45,62] u.2)
      have hk':(sgn s [125] v.2.2).at_≤k:=hk
      exact⟨z0n (z0n g2),by omega⟩
     ·cases h4
      have a1:=jq s (sgn s [45,62] u.2).at_ (sgn s [45,62] u.2).bad
      have hk':(zw s (sgn s [45,62] u.2).at_ (sgn s [45,62] u.2).bad).1≤k:=hk
      exact⟨z0n (z18 hg),by omega⟩
   obtain⟨hub,hua⟩:=hu
   have g1:q.2.bad=false:=by rw [←e1];exact hub
   obtain rfl:=zfE (P:=P) W _ _ _ _ _ h1 g1 (by omega) _ _ _ (by omega) h1'
   obtain rfl:=z0q h3 h3' (zcJ st.at_ _ _ _)
   simp only at h4'
   have ear:zz t (shS o P u.2).at_ (shS o P u.2).bad=zz s u.2.at_ u.2.bad:=by
    show zz t (o+u.2.at_) u.2.bad=_
    rw [hub];exact W.arrow hua
   rw [ear] at h4'
   split at h4
   ·rename_i hz
    rw [if_pos hz] at h4'
    cases h4;cases h4'
    exact⟨rfl,fun h=>absurd rfl h,fun _=>by simp [z8C,z4J]⟩
   ·rename_i hz
    rw [if_neg hz] at h4'
    simp only at h4 h4'
    have hs:(sgn s [45,62] u.2).bad=false∧(sgn s [45,62] u.2).at_≤k:=by
     split at h4
     ·obtain⟨v,h5,h6⟩:=zgD.1 h4
      cases h6
      have g1:=z0n hg
      have g2:=z3k h5 g1
      have a1:=zL s [125] v.2.2
      have a2:=z5d _ _ _ _ _ _ h5
      have a3:=zL s [123] (sgn s [45,62] u.2)
      have hk':(sgn s [125] v.2.2).at_≤k:=hk
      exact⟨z0n g2,by omega⟩
     ·cases h4
      have a1:=jq s (sgn s [45,62] u.2).at_ (sgn s [45,62] u.2).bad
      have hk':(zw s (sgn s [45,62] u.2).at_ (sgn s [45,62] u.2).bad).1≤k:=hk
      exact⟨z18 hg,by omega⟩
    obtain⟨hs1,hs2⟩:=hs
    rw [W.sgn hub hs1 hs2,W.pks hs1 hs2 (c:=123) (by decide)] at h4'
    split at h4
    ·rename_i hz
     rw [if_pos hz] at h4'
     obtain⟨v,h5,h6⟩:=zgD.1 h4
     obtain⟨v',h5',h6'⟩:=zgD.1 h4'
     cases h6
     cases h6'
     have g1:=z0n hg
     have a1:=zL s [125] v.2.2
     have hk':(sgn s [125] v.2.2).at_≤k:=hk
     have g2:=z3k h5 g1
     have a2:=z5d _ _ _ _ _ _ h5
     rw [W.sgn hs1 g2 (by omega)] at h5'
     obtain⟨k1,k2,_⟩:=ih _ _ _ _ h5 g1 (by omega) _ _ _ (by omega) h5'
     refine⟨?_,fun h=>absurd rfl h,fun _=> ?_⟩
     ·show sgn t [125] v'.2.2=_
      rw [k1,W.sgn g1 hg hk]
     ·show(⟨shi P.E.length u.1,2,⟨#[]⟩,v'.1⟩:Cl)=_
      rw [k2 (by omega)]
      simp [z8C]
    ·rename_i hz
     rw [if_neg hz] at h4'
     cases h4
     have u1:(zw s (sgn s [45,62] u.2).at_ (sgn s [45,62] u.2).bad).2.1=false:=hg
     have w2:zw t (shS o P (sgn s [45,62] u.2)).at_ (shS o P (sgn s [45,62] u.2)).bad=(o+(zw s (sgn s [45,62] u.2).at_ (sgn s [45,62] u.2).bad).1,(zw s (sgn s [45,62] u.2).at_ (sgn s [45,62] u.2).bad).2.1,(zw s (sgn s [45,62] u.2).at_ (sgn s [45,62] u.2).bad).2.2):=by
      show zw t (o+(sgn s [45,62] u.2).at_) (sgn s [45,62] u.2).bad=_
      rw [hs1] at u1 ⊢
      rw [(W.name hs2 u1).2,u1]
     rw [w2,Win.put3 (x:=zw s (sgn s [45,62] u.2).at_ (sgn s [45,62] u.2).bad) rfl] at h4'
     cases h4'
     exact⟨rfl,fun h=>absurd rfl h,fun _=>by simp [z8C,z4J]⟩
  |u+3,h,h'=>simp [MC] at h
end
theorem z1u {s:zgS}{c:UInt8}{cs:List UInt8}{st:St}(h:(wrd s (c::cs) st).bad=false):st.bad=false:=by
 cases hb:st.bad with
 |false=>rfl
 |true=>rw [(z0L hb).1] at h;cases h
theorem z6Q {s:zgS}{c:UInt8}{st:St}(h:(wrd s [c] st).bad=false):(wrd s [c] st).at_=st.at_+1∧pk s st.at_ false=(c.toNat:Int):=by
 have hb:=z1u h
 unfold wrd St.put at h ⊢
 rw [hb] at h ⊢
 simp only at h ⊢
 refine⟨z7D h,?_⟩
 unfold zt at h
 split at h
 ·assumption
 ·cases h
theorem z1w {s:zgS}{c:UInt8}{cs:List UInt8}{st:St}(h:(zp s (c::cs) st).bad=false):(wrd s (c::cs) st).bad=false∧st.bad=false:=by
 have:=z0n (c:=32) (cs:=[]) h
 exact⟨this,z1u this⟩
theorem z3V (s:zgS)(l:List UInt8)(st:St):(wrd s l st).at_≤(zp s l st).at_:=zL s [32] (wrd s l st)
theorem zaG {o:Nat}{P st:St}{x y:As}{r r':St}(h:zbp st x=some r)(h':zbp (shS o P st) y=some r')(hy:y=shA P.L.length P.C.length x):r'=shS o P r:=by
 obtain⟨_,rfl⟩:=jl h
 obtain⟨_,rfl⟩:=jl h'
 subst hy
 show({shS o P st with A:=(P.A++st.A.map (shA P.L.length P.C.length))++[shA P.L.length P.C.length x]}:St)=shS o P {st with A:=st.A++[x]}
 unfold shS
 simp only [List.map_append,List.map_cons,List.map_nil,List.append_assoc]
section
variable {s t:zgS} {o k:Nat} {P:St}
theorem Win.lst (W:Win s t o k){c:UInt8}{cs:List UInt8}{st:St}(h1:(zp s (c::cs) st).bad=false)(h2:(zp s (c::cs) st).at_≤k):zp t (c::cs) (shS o P st)=shS o P (zp s (c::cs) st):=by
 obtain⟨g1,g0⟩:=z1w h1
 have a1:=z3V s (c::cs) st
 unfold zp
 rw [W.wrd g0 g1 (by omega)]
 exact W.sgn g1 h1 h2
theorem zf6 (W:Win s t o k)(he:pk t (o+k) false=pk s k false){st:St}(h1:(wrd s [10] st).bad=false)(h2:(wrd s [10] st).at_≤k+1):wrd t [10] (shS o P st)=shS o P (wrd s [10] st):=by
 have hb:=z1u h1
 obtain⟨e1,e2⟩:=z6Q h1
 have e3:pk t (o+st.at_) false=((10:UInt8).toNat:Int):=by
  by_cases e:st.at_=k
  ·rw [e,he,←e];exact e2
  ·rw [W.eq _ (by omega)];exact e2
 unfold wrd St.put
 rw [show(shS o P st).bad=false from hb,hb]
 have w1:zt s false [10] st.at_=(st.at_+1,false):=by unfold zt;rw [if_pos e2];rfl
 have w2:zt t false [10] (shS o P st).at_=(o+st.at_+1,false):=by
  show zt t false [10] (o+st.at_)=_
  unfold zt;rw [if_pos e3];rfl
 rw [w1,w2]
 unfold shS
 simp only [Nat.add_assoc]
theorem zeM (W:Win s t o k)(he:pk t (o+k) false=pk s k false){n m:Nat}{st u u':St}(h:MA s n st=some u)(hg:u.bad=false)(hk:u.at_≤k+1)(h':MA t m (shS o P st)=some u'):u'=shS o P u:=by
 unfold MA at h h'
 simp only at h h'
 obtain⟨q,h1,h2⟩:=zgD.1 h
 obtain⟨v,h3,h4⟩:=zgD.1 h2
 obtain⟨q',h1',h2'⟩:=zgD.1 h'
 obtain⟨v',h3',h4'⟩:=zgD.1 h2'
 have eu:=(jl h4).2
 have g5:(wrd s [10] v.2.2).bad=false:=by rw [eu] at hg;exact hg
 have a5:(wrd s [10] v.2.2).at_≤k+1:=by rw [eu] at hk;exact hk
 have g4:=z1u g5
 have a4:=(z6Q g5).1
 have g3:=z3k h3 g4
 have a3:=z5d _ _ _ _ _ _ h3
 obtain⟨g2,_⟩:=z1w g3
 have a2:=z3V s [105,102] (wrd s [10] q.2)
 have a2':=z09 s [105,102] (wrd s [10] q.2)
 have g1:=z1u g2
 have g0:=z1u g1
 have a1:=z09 s [10] q.2
 have gd:=z0K h1 g0 (by omega)
 have ad:=z1r _ _ _ _ _ _ _ _ _ h1
 obtain⟨gw,_⟩:=z1w gd
 have gw2:=z1u gw
 have aw:=z3V s [116,111] (wrd s [10] ((zp s [98,121] st).put3 (zw s (zp s [98,121] st).at_ (zp s [98,121] st).bad)))
 have aw':=z09 s [116,111] (wrd s [10] ((zp s [98,121] st).put3 (zw s (zp s [98,121] st).at_ (zp s [98,121] st).bad)))
 have gp:=z1u gw2
 have ap:=z09 s [10] ((zp s [98,121] st).put3 (zw s (zp s [98,121] st).at_ (zp s [98,121] st).bad))
 have gn:(zw s (zp s [98,121] st).at_ (zp s [98,121] st).bad).2.1=false:=gp
 have an:(zw s (zp s [98,121] st).at_ (zp s [98,121] st).bad).1≤(wrd s [10] ((zp s [98,121] st).put3 (zw s (zp s [98,121] st).at_ (zp s [98,121] st).bad))).at_:=ap
 have ga:=z18 gn
 have aa:=jq s (zp s [98,121] st).at_ (zp s [98,121] st).bad
 rw [W.lst ga (by omega)] at h1' h4'
 have w2:zw t (shS o P (zp s [98,121] st)).at_ (shS o P (zp s [98,121] st)).bad=(o+(zw s (zp s [98,121] st).at_ (zp s [98,121] st).bad).1,(zw s (zp s [98,121] st).at_ (zp s [98,121] st).bad).2.1,(zw s (zp s [98,121] st).at_ (zp s [98,121] st).bad).2.2):=by
  show zw t (o+(zp s [98,121] st).at_) (zp s [98,121] st).bad=_
  rw [ga] at gn ⊢
  rw [(W.name (by omega) gn).2,gn]
 rw [w2,Win.put3 (x:=zw s (zp s [98,121] st).at_ (zp s [98,121] st).bad) rfl,W.wrd gp gw2 (by omega),W.lst gd (by omega)] at h1'
 obtain rfl:=zf7 (P:=P) W _ _ _ _ _ _ _ _ h1 g0 (by omega) (by omega) _ _ _ _ _ _ (by omega) (by omega) h1'
 rw [W.wrd g0 g1 (by omega),W.lst g3 (by omega)] at h3'
 obtain⟨k1,k2,_⟩:=zdK (P:=P) W _ _ _ _ _ h3 g4 (by omega) _ _ _ (by omega) h3'
 rw [k1,k2 (by omega),zf6 W he g5 a5,w2] at h4'
 exact zaG h4 h4' rfl
end
theorem z4T (i:Int):shi 0 i=i:=by unfold shi;split<;>omega
theorem zfS (x:Ex):shE 0 0 x=x:=by unfold shE;rw [z4T,z4T];simp
theorem z2L {α:Type}{f:α→α}(h: ∀x,f x=x)(l:List α):l.map f=l:=by
 induction l with
 |nil=>rfl
 |cons x l ih=>rw [List.map_cons,h,ih]
theorem zfB (x:Lc):shL 0 0 x=x:=by
 unfold shL
 rw [z4T,z4T,z2L z4T]
 simp
theorem zdT (x:Cl):z8C 0 0 x=x:=by unfold z8C;rw [z4T,z4T]
theorem zfG (x:As):shA 0 0 x=x:=by unfold shA;rw [z4T,z4T]
theorem zea (st:St):shS 0 st0 st=st:=by
 unfold shS
 show(⟨0+st.at_,st.bad,[]++st.A.map (shA 0 0),[]++st.L.map (shL 0 0),[]++st.E.map (shE 0 0),[]++st.C.map fun c=>c.map (z8C 0 0)⟩:St)=st
 rw [z2L zfG,z2L zfB,z2L zfS,z2L (fun c=>z2L zdT c)]
 simp
theorem zcb {s:zgS}{a:Nat}{c:UInt8}(h:pk s a false=(c.toNat:Int)):a<s.size:=(jT (s:=s) (a:=a) (d:=false) (by rw [h];omega)).2
theorem zeY {s:zgS}{n:Nat}{st u:St}(h:MA s n st=some u)(hg:u.bad=false):1≤u.at_∧u.at_≤s.size∧pk s (u.at_ - 1) false=10:=by
 unfold MA at h
 simp only at h
 obtain⟨q,h1,h2⟩:=zgD.1 h
 obtain⟨v,h3,h4⟩:=zgD.1 h2
 have eu:=(jl h4).2
 have g5:(wrd s [10] v.2.2).bad=false:=by rw [eu] at hg;exact hg
 obtain⟨e1,e2⟩:=z6Q g5
 have ea:u.at_=v.2.2.at_+1:=by rw [eu];exact e1
 have hlt:=zcb e2
 refine⟨by omega,by omega,?_⟩
 rw [ea]
 exact e2
theorem z7H {s:zgS}{n:Nat}{st u:St}(h:MR s n st=some u)(hb:st.bad=true):u=st:=by
 cases n with
 |zero=>simp [MR] at h
 |succ n=>
  unfold MR at h
  rw [hb] at h
  simpa using h.symm
theorem zes {s t:zgS}(hs:s.size≤t.size)(he: ∀a,a<s.size→pk t a false=pk s a false): ∀n st u,MR s n st=some u→u.bad=false→st.at_≤s.size→u.at_=s.size∧ ∀m r,MR t m st=some r→ ∃m',MR t m' u=some r:=by
 intro n
 induction n with
 |zero=>intro st u h;simp [MR] at h
 |succ n ih=>
  intro st u h hg ha
  have hb:st.bad=false:=by
   cases hb:st.bad with
   |false=>rfl
   |true=>rw [z7H h hb,hb] at hg;cases hg
  unfold MR at h
  rw [hb] at h
  by_cases hlt:st.at_<s.size
  ·rw [if_pos (by simp [hlt])] at h
   obtain⟨w,h1,h2⟩:=zgD.1 h
   have hw:w.bad=false:=by
    cases hq:w.bad with
    |false=>rfl
    |true=>rw [z7H h2 hq,hq] at hg;cases hg
   obtain⟨w1,w2,w3⟩:=zeY h1 hw
   obtain⟨k1,k2⟩:=ih w u h2 hg w2
   refine⟨k1,fun m r hr=> ?_⟩
   cases m with
   |zero=>simp [MR] at hr
   |succ m=>
    unfold MR at hr
    rw [hb,if_pos (by simp;omega)] at hr
    obtain⟨w',j1,j2⟩:=zgD.1 hr
    have W:Win s t 0 (w.at_ - 1):=⟨fun a h=>by rw [Nat.zero_add];exact he a (by omega),by rw [w3];rfl,by rw [Nat.zero_add,he _ (by omega),w3];rfl,by omega⟩
    have:=zeM (P:=st0) W (by rw [Nat.zero_add];exact he _ (by omega)) h1 hw (by omega) (by rw [zea];exact j1)
    rw [zea] at this
    subst this
    exact k2 m r j2
  ·rw [if_neg (by simp [hlt])] at h
   cases h
   exact⟨by omega,fun m r hr=>⟨m,hr⟩⟩
theorem zbJ {pre ls:List Int}{i:Int}(h:i<pre.length):zb (pre++ls) i=zb pre i:=by
 by_cases h0:i<0
 ·rw [z1g h0,z1g h0]
 ·obtain⟨j,rfl⟩:=Int.eq_ofNat_of_zero_le (show 0≤i by omega)
  rw [z0i,if_pos (by omega)]
theorem zcl {pre ws:List Wt}{i:Int}(h:i<pre.length):wAt (pre++ws) i=wAt pre i:=by
 unfold wAt
 by_cases h0:i<0
 ·rw [if_pos h0,if_pos h0]
 ·rw [if_neg h0,if_neg h0,List.getD_eq_getElem?_getD,List.getD_eq_getElem?_getD,List.getElem?_append_left (by omega)]
def z2a:List Ex→List Int→List Int
 |[],ts=>ts
 |x::xs,ts=>z2a xs (ts++[zv x (zb ts x.left) (zb ts x.right)])
def z2o:List Ex→List Int→Prop
 |[],_=>True
 |x::xs,ts=>zv x (zb ts x.left) (zb ts x.right)≠0∧z2o xs (ts++[zv x (zb ts x.left) (zb ts x.right)])
theorem zfX: ∀(xs:List Ex) (ts:List Int),z2o xs ts→tfM xs ts= -1:=by
 intro xs
 induction xs with
 |nil=>intro ts _;rfl
 |cons x xs ih=>intro ts ⟨h1,h2⟩;unfold tfM;rw [if_neg (by simpa using h1)];exact ih _ h2
theorem zg9: ∀(xs:List Ex) (ts:List Int),(∀x∈xs,0≤x.place)→tfM xs ts= -1→z2o xs ts:=by
 intro xs
 induction xs with
 |nil=>intro ts _ _;trivial
 |cons x xs ih=>
  intro ts hp h
  unfold tfM at h
  split at h
  ·have:=hp x List.mem_cons_self;omega
  ·rename_i q
   exact⟨by simpa using q,ih _ (fun y hy=>hp y (List.mem_cons_of_mem _ hy)) h⟩
theorem z7d: ∀(xs:List Ex) (ts:List Int),(z2a xs ts).length=ts.length+xs.length:=by
 intro xs
 induction xs with
 |nil=>intro ts;rfl
 |cons x xs ih=>intro ts;unfold z2a;rw [ih];simp;omega
theorem z3X: ∀(xs ys:List Ex) (ts:List Int),z2o (xs++ys) ts↔z2o xs ts∧z2o ys (z2a xs ts):=by
 intro xs
 induction xs with
 |nil=>intro ys ts;exact⟨fun h=>⟨trivial,h⟩,fun h=>h.2⟩
 |cons x xs ih=>
  intro ys ts
  have e:=ih ys (ts++[zv x (zb ts x.left) (zb ts x.right)])
  exact⟨fun⟨a,b⟩=>⟨⟨a,(e.1 b).1⟩,(e.1 b).2⟩,fun⟨⟨a,b⟩,c⟩=>⟨a,e.2 ⟨b,c⟩⟩⟩
theorem zfW: ∀(xs:List Lc) (f:Int),(∀x∈xs,z0P x=false)→cfM xs f=f:=by
 intro xs
 induction xs with
 |nil=>intro f _;rfl
 |cons x xs ih=>
  intro f h
  have hx:=h x List.mem_cons_self
  unfold cfM
  rw [if_pos (by
   unfold z0P at hx
   unfold bne
   cases h1:(x.form==2) with
   |false=>rfl
   |true=>rw [h1] at hx;simpa using hx)]
  exact ih f fun y hy=>h y (List.mem_cons_of_mem _ hy)
theorem z8c {s:zgS}{n:Nat}{st:St}(hM:MR s n st0=some st)(hck:(ckM s st).1=0): ∀x∈st.L,z0P x=false:=by
 obtain⟨hs,_,_,hcf⟩:=z3m hck
 obtain⟨e,w',fr,⟨lv,_,_,_,h⟩,_⟩:=z0d s n st (World.holding Tryz.prog default ⟨#[],#[],[]⟩) hM hs []
 obtain⟨f,ps,_,h⟩:=h hck
 have hg:=z1V s n st0 st hM z6O
 have hmf:=zfF (fun x hx=>(hg.l x hx).2) ps st.A 0 0 st.L.length st.E.length 0 st.at_ h hg.o
 have hr:=hmf.cf
 rw [hcf] at hr
 intro x hx
 obtain⟨j,hj⟩:=List.mem_iff_getElem?.1 hx
 have hjl:=(zgF.1 hj).1
 rcases hmf.min with⟨_,q⟩|⟨j',y,_,q1,q2,q3,q4,_⟩
 ·exact q j x (zgO _) hjl hj
 ·have:=(hmf.span j' y (zgO _) q1 q2 q3).1
  omega
def Sub (top:Nat)(A1:List As)(L1:List Lc)(W1:List Int)(A2:List As)(L2:List Lc)(W2:List Int):Prop:=
 ∀x∈A1,∃y∈A2,y.by_=x.by_∧(∀sg:zgS→Int,zb (jP sg top L2 []) y.to_=zb (jP sg top L1 []) x.to_)∧zb W2 y.conds=zb W1 x.conds
section
variable {top:Nat} {A1 A2:List As} {L1 L2:List Lc} {W1 W2:List Int} {q1 q2:List zgS}
theorem zcE {k:Nat}(hk:1≤k)(hW:Lvr top W1)(h:Sub top A1 L1 W1 A2 L2 W2)(hq: ∀nm,plM nm q1 0≠ -1→plM nm q2 0≠ -1):
  ∀(r:Nat) (nm:zgS),(k:Int)≤stM A1 q1 top (gvM A1 L1 q1 top W1 r) nm→(k:Int)≤stM A2 q2 top (gvM A2 L2 q2 top W2 r) nm:=by
 intro r
 induction r with
 |zero=>
  intro nm h1
  rw [z1v (by omega)] at h1 ⊢
  rcases h1 with⟨p1,p2⟩|⟨p1,j,x,_,_,p4⟩
  ·exact .inl ⟨hq _ p1,p2⟩
  ·unfold gvM at p4;rw [z2q] at p4;omega
 |succ r ih=>
  intro nm h1
  have hle:=(z24 (A:=A1) (qs:=q1) (z4x (A:=A1) (L:=L1) (qs:=q1) hW (r+1)) nm).2
  rw [z1v (by omega)]
  by_cases hp:plM nm q2 0= -1
  ·rw [z1v (by omega)] at h1
   rcases h1 with⟨p1,_⟩|⟨p1,j,x,p2,p3,p4⟩
   ·exact absurd hp (hq _ p1)
   ·refine .inr ⟨hp,?_⟩
    obtain⟨y,hy,e1,e2,e3⟩:=h x (zgM p2)
    obtain⟨j2,hj2⟩:=List.mem_iff_getElem?.1 hy
    refine⟨j2,y,hj2,by rw [e1];exact p3,?_⟩
    have p4:(k:Int)≤zb (ltM A1 W1 (jP (stM A1 q1 top (gvM A1 L1 q1 top W1 r)) top L1 [])) (j:Int):=p4
    show(k:Int)≤zb (ltM A2 W2 (jP (stM A2 q2 top (gvM A2 L2 q2 top W2 r)) top L2 [])) (j2:Int)
    unfold ltM at p4 ⊢
    rw [z5N,p2] at p4
    rw [z5N,hj2]
    simp only at p4 ⊢
    rw [z1T] at p4 ⊢
    rw [e2,e3]
    exact⟨p4.1,z7o hk ih L1 [] [] rfl (fun i hi=>hi) _ p4.2⟩
  ·exact .inl ⟨hp,by omega⟩
theorem zdN {A:List As}{L:List Lc}{qs:List zgS}{W:List Int}{k:Nat}(hk:1≤k)(r:Nat):Thr k (gvM A L qs top W r) (gvM A L qs top W A.length):=by
 by_cases h:r≤A.length
 ·exact zcd hk h
 ·have key: ∀d,Thr k (gvM A L qs top W (A.length+d)) (gvM A L qs top W A.length):=by
   intro d
   induction d with
   |zero=>exact fun i hi=>hi
   |succ d ih=>exact fun i hi=>ze7 hk i (z5v (A:=A) (L:=L) (qs:=qs) (top:=top) (W:=W) hk ih i hi)
  have:=key (r - A.length)
  rw [show A.length+(r - A.length)=r by omega] at this
  exact this
theorem zc9 (h1:Lvr top W1)(h2:Lvr top W2)(h:Sub top A1 L1 W1 A2 L2 W2)(hq: ∀nm,plM nm q1 0≠ -1→plM nm q2 0≠ -1)(nm:zgS):stM A1 q1 top (gvM A1 L1 q1 top W1 A1.length) nm≤stM A2 q2 top (gvM A2 L2 q2 top W2 A2.length) nm:=by
 have r1:=z24 (A:=A1) (qs:=q1) (z4x (A:=A1) (L:=L1) (qs:=q1) h1 A1.length) nm
 have r2:=z24 (A:=A2) (qs:=q2) (z4x (A:=A2) (L:=L2) (qs:=q2) h2 A2.length) nm
 by_cases h0:stM A1 q1 top (gvM A1 L1 q1 top W1 A1.length) nm=0
 ·omega
 ·obtain⟨k,hk⟩:=Int.eq_ofNat_of_zero_le r1.1
  have hk1:1≤k:=by omega
  rw [hk]
  exact z9m hk1 (zdN hk1 A1.length) nm (zcE hk1 h1 h hq A1.length nm (by omega))
end
def lvM (a v:zgS)(st:St):List Int:=jZ (vlM v).1 (zf (raM a).1 st.E []) st.C []
section
variable {top o:Nat} {a v:zgS} {u w:St}
end
theorem z4F {s:zgS}{st:St}:(ckM s st).1=0↔s.size≤600∧st.bad=false∧st.A.length≤8∧cfM st.L (-1)= -1∧tfM st.E []= -1:=by
 unfold ckM
 constructor
 ·intro h
  split at h
  ·cases h
  ·split at h
   ·cases h
   ·split at h
    ·cases h
    ·split at h
     ·cases h
     ·split at h
      ·cases h
      ·rename_i h1 h2 h3 h4 h5
       exact⟨by omega,by simpa using h2,by omega,by simpa using h4,by simpa using h5⟩
 ·intro ⟨h1,h2,h3,h4,h5⟩
  rw [if_neg (by omega),if_neg (by rw [h2];decide),if_neg (by omega),if_neg (by rw [h4];decide),if_neg (by rw [h5];decide)]
theorem zcg {s a v q:zgS}{st:St}:grM s a v q st=0↔(a.size≤100∧v.size≤60∧q.size≤60∧(raM a).2=false∧(vlM v).2=false∧(rqM q).2=false)∧(ckM s st).1=0∧hoM (vlM v).1 st.C=false:=by
 unfold grM
 constructor
 ·intro h
  split at h
  ·cases h
  ·rename_i h0
   split at h
   ·rename_i h1;rw [h] at h1;simp at h1
   ·rename_i h1
    split at h
    ·cases h
    ·rename_i h2
     split at h
     ·cases h
     ·rename_i h3
      simp only [Bool.or_eq_true,not_or,decide_eq_true_eq] at h0 h2
      exact⟨⟨by omega,by omega,by omega,by simpa using h2.1.1,by simpa using h2.1.2,by simpa using h2.2⟩,by simpa using h1,by simpa using h3⟩
 ·intro ⟨⟨h1,h2,h3,h4,h5,h6⟩,h7,h8⟩
  have h9:=(z4F.1 h7).1
  rw [if_neg (by simp only [Bool.or_eq_true,not_or,decide_eq_true_eq];omega),if_neg (by rw [h7];decide),if_neg (by rw [h4,h5,h6];decide),if_neg (by rw [h8];decide)]
def lqM (s a v q:zgS)(st:St):Int:=if grM s a v q st=0 then stM st.A (rqM q).1 ((vlM v).1.length - 1) (gvM st.A st.L (rqM q).1 ((vlM v).1.length - 1) (lvM a v st) st.A.length) pol else -1
def LQ (s a v q:zgS)(z:Int):Prop:=(∃n st,MR s n st0=some st∧z=lqM s a v q st)∨(600<s.size∧z= -1)
theorem LQ.ge {s a v q:zgS}{z:Int}(h:LQ s a v q z): -1≤z:=by
 rcases h with⟨n,st,h1,h2⟩|⟨_,h2⟩
 ·unfold lqM at h2
  split at h2
  ·rename_i h0
   have:=(z24 (A:=st.A) (qs:=(rqM q).1) (z4x (A:=st.A) (L:=st.L) (qs:=(rqM q).1) (Ask.lvr (q:=q) h0) st.A.length) pol).1
   unfold lvM at h2
   omega
  ·omega
 ·omega
theorem zc6 {s a v q:zgS}{st:St}(h:grM s a v q st=0):Lvr ((vlM v).1.length - 1) (lvM a v st):=Ask.lvr (s:=s) (q:=q) h
theorem zf2 {s:zgS}{n m:Nat}{u r:St}(h1:MR s n st0=some u)(hu:u.bad=false)(h2:MR s m st0=some r):r=u:=by
 obtain⟨e,k⟩:=zes (s:=s) (t:=s) (zgH _) (fun _ _=>rfl) n st0 u h1 hu (zgO _)
 obtain⟨m',h3⟩:=k m r h2
 cases m' with
 |zero=>simp [MR] at h3
 |succ m'=>
  unfold MR at h3
  rw [if_neg (by simp [hu,e])] at h3
  exact(Option.some.inj h3).symm
theorem zbR (s a v q:zgS)(hs:s.size≤maxLen)(ha:a.size≤maxLen)(hv:v.size≤maxLen)(hq:q.size≤maxLen): ∃z,LQ s a v q z∧ ∀w,Calls Tryz.prog 24 #[.string s,.string a,.string v,.string q] w fun r w'=>r= .returned (.int .i64 z)∧Below w.heap.size w w':=by
 by_cases h:s.size≤600∧a.size≤100∧v.size≤60∧q.size≤60
 ·obtain⟨st,K⟩:=z9S s a v q h.1 h.2.1 h.2.2.1 h.2.2.2
  obtain⟨n,hM⟩:=K.mr
  refine⟨lqM s a v q st,.inl ⟨n,st,hM,rfl⟩,?_⟩
  by_cases h0:grM s a v q st=0
  ·have hv2:=Ask.two h0
   have hvb:=(z11 h0).1
   have hW:=Ask.lvr (q:=q) h0
   have hgr:=z24 (A:=st.A) (qs:=(rqM q).1) (z4x (A:=st.A) (L:=st.L) (qs:=(rqM q).1) hW st.A.length) pol
   have eq:quM s a v q st=(vaM (vlM v).1 (stM st.A (rqM q).1 ((vlM v).1.length - 1) (gvM st.A st.L (rqM q).1 ((vlM v).1.length - 1) (jZ (vlM v).1 (zf (raM a).1 st.E []) st.C []) st.A.length) pol),0):=by unfold quM;rw [h0];rfl
   have hQ:=K.query
   rw [eq] at hQ
   have hpl:=zav hvb hgr.1 (by omega)
   have hc:=fun w=>zf1 s a v q _ _ h.2.2.1 hpl w hQ
   have e:lqM s a v q st=(((stM st.A (rqM q).1 ((vlM v).1.length - 1) (gvM st.A st.L (rqM q).1 ((vlM v).1.length - 1) (jZ (vlM v).1 (zf (raM a).1 st.E []) st.C []) st.A.length) pol).toNat:Nat):Int):=by
    unfold lqM lvM
    rw [if_pos h0]
    omega
   rw [e]
   exact hc
  ·have e:lqM s a v q st= -1:=by unfold lqM;rw [if_neg h0]
   rw [e]
   exact fun w=>zae s a v q _ h0 w (fun w=>z7p s a v q st w (K.gr w) _ rfl (by simpa using h0))
 ·have h1:=z7J h st0
  have hc:=fun w=>zae s a v q 1 (by decide) w (fun w=>z7p s a v q st0 w (z3x s a v q st0 w hs ha hv hq (by omega)) 1 h1 rfl)
  refine⟨-1,?_,hc⟩
  by_cases h6:600<s.size
  ·exact .inr ⟨h6,rfl⟩
  ·obtain⟨n,st,hM,_⟩:=z7B s (by omega)
   refine .inl ⟨n,st,hM,?_⟩
   unfold lqM
   rw [if_neg (by rw [z7J h st];decide)]
def At (s:zgS):Nat→List UInt8→Prop
 |_,[]=>True
 |a,c::cs=>pk s a false=(c.toNat:Int)∧At s (a+1) cs
theorem zy {s:zgS}: ∀(l1 l2:List UInt8) (a:Nat),At s a (l1++l2)↔At s a l1∧At s (a+l1.length) l2:=by
 intro l1
 induction l1 with
 |nil=>intro l2 a;exact⟨fun h=>⟨trivial,h⟩,fun h=>h.2⟩
 |cons c cs ih=>
  intro l2 a
  have e:=ih l2 (a+1)
  rw [show a+1+cs.length=a+(cs.length+1) by omega] at e
  exact⟨fun⟨h1,h2⟩=>⟨⟨h1,(e.1 h2).1⟩,(e.1 h2).2⟩,fun⟨⟨h1,h2⟩,h3⟩=>⟨h1,e.2 ⟨h2,h3⟩⟩⟩
theorem zdh {t:zgS}: ∀(l:List UInt8) (a:Nat),t.data.toList.drop a=l→At t a l:=by
 intro l
 induction l with
 |nil=>intro a _;trivial
 |cons c cs ih=>
  intro a h
  have hl:a<t.size:=by
   by_cases q:a<t.size
   ·exact q
   ·rw [List.drop_eq_nil_of_le (by simpa using q)] at h;cases h
  rw [z02 t a hl] at h
  injection h with h1 h2
  exact⟨by rw [z27 hl,h1],ih (a+1) h2⟩
theorem zcI (t:zgS):At t 0 t.data.toList:=zdh _ 0 rfl
theorem zeX {s:zgS}: ∀(l:List UInt8) (a:Nat),At s a l→ ∃rest,s.data.toList.drop a=l++rest:=by
 intro l
 induction l with
 |nil=>intro a _;exact⟨_,rfl⟩
 |cons c cs ih=>
  intro a ⟨h1,h2⟩
  have hl:=zcb h1
  obtain⟨rest,h3⟩:=ih (a+1) h2
  refine⟨rest,?_⟩
  rw [z02 s a hl,h3]
  rw [z27 hl] at h1
  have:s[a]=c:=UInt8.toNat_inj.1 (by omega)
  rw [this]
  rfl
theorem jL (s:zgS)(a b:Nat):(s.extract a b).data.toList=(s.data.toList.drop a).take (b - a):=by
 show(s.extract a b).data.toList=_
 rw [ByteArray.data_extract,Array.toList_extract]
theorem jI {s:zgS}{l:List UInt8}{a:Nat}(h:At s a l):(s.extract a (a+l.length)).data.toList=l:=by
 obtain⟨rest,hr⟩:=zeX l a h
 rw [jL,hr,Nat.add_sub_cancel_left,List.take_left]
theorem z1Z {s:zgS}: ∀(l:List UInt8) (a:Nat),At s a l→zt s false l a=(a+l.length,false):=by
 intro l
 induction l with
 |nil=>intro a _;rfl
 |cons c cs ih=>
  intro a ⟨h1,h2⟩
  rw [jd h1,ih _ h2,List.length_cons]
  congr 1
  omega
theorem z2R {s:zgS}{l:List UInt8}{a:Nat}(h:At s a l):jo s false l a=(skip s (a+l.length) false,false):=by
 unfold jo;rw [z1Z l a h]
theorem z5x {s:zgS}{l:List UInt8}{st:St}(hb:st.bad=false)(h:At s st.at_ l):wrd s l st={st with at_:=st.at_+l.length}:=by
 unfold wrd St.put
 rw [hb,z1Z l _ h,←hb]
theorem z0m {s:zgS}{l:List UInt8}{st:St}(hb:st.bad=false)(h:At s st.at_ l):sgn s l st={st with at_:=skip s (st.at_+l.length) false}:=by
 unfold sgn St.put
 rw [hb,z2R h,←hb]
theorem zbD {s:zgS}{p:Int→Bool}: ∀(l:List UInt8) (m a:Nat),At s a l→(∀c∈l,p (c.toNat:Int)=true)→l.length≤m→p (pk s (a+l.length) false)=false→run p s false m a=a+l.length:=by
 intro l
 induction l with
 |nil=>intro m a _ _ _ h;exact ju h
 |cons c cs ih=>
  intro m a ⟨h1,h2⟩ hp hm hn
  cases m with
  |zero=>simp at hm
  |succ m=>
   rw [z1q (by rw [h1];exact hp c List.mem_cons_self),ih m (a+1) h2 (fun x hx=>hp x (List.mem_cons_of_mem _ hx)) (by simpa using hm) (by rw [List.length_cons] at hn;rw [show a+1+cs.length=a+(cs.length+1) by omega];exact hn),List.length_cons]
   omega
theorem zbY {s:zgS}{p:Int→Bool}{l:List UInt8}{m a:Nat}(h:At s a l)(hp: ∀c∈l,p (c.toNat:Int)=true)(h1:1≤l.length)(hm:l.length≤m)(hn:p (pk s (a+l.length) false)=false):
  z23 p m s a false=(skip s (a+l.length) false,false,s.extract a (a+l.length)):=z6J (zbD l m a h hp hm hn) (by omega) hn
def isL (c:UInt8):Bool:=zk (c.toNat:Int)
def isD (c:UInt8):Bool:=zg (c.toNat:Int)
def isQ (c:UInt8):Bool:=zo (c.toNat:Int)
def z4y (l:List UInt8):Prop:=1≤l.length∧l.length≤8∧ ∀c∈l,isL c=true
def zfJ (l:List UInt8):Prop:=1≤l.length∧l.length≤9∧(∀c∈l,isD c=true)∧(l.head?=some 48→l.length=1)
def zfg (l:List UInt8):Prop:=l.length≤12∧ ∀c∈l,isQ c=true
theorem z2O {s:zgS}{l:List UInt8}{a:Nat}(h:At s a l)(hl:z4y l)(hn:zk (pk s (a+l.length) false)=false):zw s a false=(skip s (a+l.length) false,false,s.extract a (a+l.length)):=
 zbY h hl.2.2 hl.1 hl.2.1 hn
theorem za6 {s:zgS}{l:List UInt8}{a:Nat}(h:At s a l)(hl:zfJ l)(hn:zg (pk s (a+l.length) false)=false):zO s a false=(skip s (a+l.length) false,false,s.extract a (a+l.length)):=by
 unfold zO
 refine zbY h hl.2.2.1 hl.1 ?_ hn
 split
 ·rename_i h0
  have h0:pk s a false=48:=by simpa using h0
  cases l with
  |nil=>simp
  |cons c cs=>
   have:c=48:=UInt8.toNat_inj.1 (by have:=h.1;rw [h0] at this;show c.toNat=48;omega)
   rw [hl.2.2.2 (by rw [this];rfl)]
   exact zgH _
 ·exact hl.2.1
theorem z9U {s:zgS}{l:List UInt8}{a:Nat}(h:At s a (34::(l++[34])))(hl:zfg l):zT s a false=(skip s (a+(l.length+2)) false,false,s.extract (a+1) (a+1+l.length)):=by
 obtain⟨h1,h2⟩:=h
 obtain⟨h3,h4⟩:=(zy l [34] (a+1)).1 h2
 have hw:zt s false [34] a=(a+1,false):=z1Z [34] a ⟨h1,trivial⟩
 have hr:run zo s false 12 (a+1)=a+1+l.length:=zbD l 12 (a+1) h3 hl.2 hl.1 (by rw [h4.1];rfl)
 have hg:=z2R (s:=s) (l:=[34]) (a:=a+1+l.length) h4
 unfold zT
 simp only [hw,hr,hg]
 congr 2
 simp only [List.length_cons,List.length_nil]
 omega
theorem z7O {p:Int→Bool}{s:zgS}: ∀(m a:Nat),run p s false m a≤a+m∧ ∀i,a≤i→i<run p s false m a→p (pk s i false)=true:=by
 intro m
 induction m with
 |zero=>intro a;exact⟨zgH _,fun i h1 h2=>by unfold run at h2;omega⟩
 |succ m ih=>
  intro a
  unfold run
  cases hc:p (pk s a false) with
  |false=>
   rw [if_neg (by decide)]
   exact⟨by omega,fun i h1 h2=>by omega⟩
  |true=>
   rw [if_pos rfl]
   obtain⟨h1,h2⟩:=ih (a+1)
   refine⟨by omega,fun i h3 h4=> ?_⟩
   by_cases e:i=a
   ·subst e;exact hc
   ·exact h2 i (by omega) h4
theorem z9v {p:Int→Bool}{s:zgS}{a r:Nat}(hr:r≤s.size)(h: ∀i,a≤i→i<r→p (pk s i false)=true): ∀c∈(s.extract a r).data.toList,p (c.toNat:Int)=true:=by
 intro c hc
 rw [jL] at hc
 obtain⟨i,hi⟩:=List.mem_iff_getElem?.1 hc
 have hlt:i<r - a:=by
  have:=(zgF.1 hi).1
  rw [List.length_take] at this
  omega
 rw [List.getElem?_take_of_lt hlt,List.getElem?_drop] at hi
 have hs:a+i<s.size:=by omega
 have e:s.data.toList[a+i]?=some s[a+i]:=by
  rw [zgE (by simpa using hs)]
  rfl
 rw [e] at hi
 have:=h (a+i) (by omega) (by omega)
 rw [z27 hs] at this
 rw [←Option.some.inj hi]
 exact this
theorem zc8 {p:Int→Bool}(hp:p (-1)=false){m:Nat}{s:zgS}{a:Nat}(h:(z23 p m s a false).2.1=false):1≤(z23 p m s a false).2.2.data.toList.length∧(z23 p m s a false).2.2.data.toList.length≤m∧ ∀c∈(z23 p m s a false).2.2.data.toList,p (c.toNat:Int)=true:=by
 have hge:=z39 p s false m a
 obtain⟨h1,h2⟩:=z7O (p:=p) (s:=s) m a
 unfold z23 at h ⊢
 simp only at h ⊢
 split at h
 ·cases h
 ·rename_i hc
  rw [if_neg hc]
  simp only [Bool.or_eq_true,not_or,beq_iff_eq] at hc
  have hlt:a<run p s false m a:=by omega
  have hsz:run p s false m a≤s.size:=by
   have q:=h2 (run p s false m a - 1) (by omega) (by omega)
   have:pk s (run p s false m a - 1) false≠ -1:=fun e=>by rw [e,hp] at q;cases q
   have:=(jT this).2
   omega
  have hlen:(s.extract a (run p s false m a)).data.toList.length=run p s false m a - a:=by
   rw [jL,List.length_take,List.length_drop]
   have:s.data.toList.length=s.size:=by rw [Array.length_toList];rfl
   omega
  refine⟨by show 1≤(s.extract a (run p s false m a)).data.toList.length;omega,by show(s.extract a (run p s false m a)).data.toList.length≤m;omega,z9v hsz h2⟩
theorem z3u {s:zgS}{a:Nat}(h:(zw s a false).2.1=false):z4y (zw s a false).2.2.data.toList:=zc8 (by decide) h
theorem za3 {s:zgS}{a:Nat}(h:(zO s a false).2.1=false):zfJ (zO s a false).2.2.data.toList:=by
 unfold zO at h ⊢
 obtain⟨h1,h2,h3⟩:=zc8 (p:=zg) (by decide) h
 refine⟨h1,?_,h3,fun hh=> ?_⟩
 ·refine zgP h2 ?_
  split<;>omega
 ·cases hc:(pk s a false==48) with
  |true=>
   rw [hc] at h1 h2
   have h2:(z23 zg 1 s a false).2.2.data.toList.length≤1:=h2
   have h1:1≤(z23 zg 1 s a false).2.2.data.toList.length:=h1
   show(z23 zg 1 s a false).2.2.data.toList.length=1
   omega
  |false=>
   exfalso
   rw [hc] at h hh
   simp only [if_neg (show ¬(false=true) by decide)] at h hh
   unfold z23 at h hh
   simp only at h hh
   split at h
   ·cases h
   ·rename_i q
    rw [if_neg q] at hh
    simp only [Bool.or_eq_true,not_or,beq_iff_eq] at q
    rw [jL] at hh
    have hge:=z39 zg s false 9 a
    have hh:(((s.data.toList.drop a).take (run zg s false 9 a - a))).head?=some 48:=hh
    rw [List.head?_take] at hh
    split at hh
    ·cases hh
    ·rw [List.head?_drop] at hh
     have hl:=(zgF.1 hh).1
     have hs:a<s.size:=by simpa using hl
     have:pk s a false=48:=by
      rw [z27 hs]
      have e:s.data.toList[a]?=some s[a]:=by
       rw [zgE hl]
       rfl
      rw [e] at hh
      rw [Option.some.inj hh]
      rfl
     rw [this] at hc
     cases hc
theorem z9I {s:zgS}{a:Nat}(h:(zT s a false).2.1=false):zfg (zT s a false).2.2.data.toList:=by
 unfold zT at h ⊢
 simp only at h ⊢
 cases hv:(zt s false [34] a).2 with
 |true=>rw [hv,z3O] at h;cases h
 |false=>
  obtain⟨h1,h2⟩:=z7O (p:=zo) (s:=s) 12 (zt s false [34] a).1
  have hge:=z39 zo s false 12 (zt s false [34] a).1
  by_cases he:run zo s false 12 (zt s false [34] a).1=(zt s false [34] a).1
  ·have e0:(s.extract (zt s false [34] a).1 (run zo s false 12 (zt s false [34] a).1)).data.toList=[]:=by
    rw [jL,he,Nat.sub_self];rfl
   show zfg (s.extract _ _).data.toList
   rw [e0]
   exact⟨zgO _,fun c hc=>(by cases hc)⟩
  ·have hsz:run zo s false 12 (zt s false [34] a).1≤s.size:=by
    have q:=h2 (run zo s false 12 (zt s false [34] a).1 - 1) (by omega) (by omega)
    have:pk s (run zo s false 12 (zt s false [34] a).1 - 1) false≠ -1:=fun e=>by rw [e] at q;cases q
    have:=(jT this).2
    omega
   refine⟨?_,z9v hsz h2⟩
   show(s.extract _ _).data.toList.length≤12
   rw [jL,List.length_take]
   omega
theorem z0Y {a b:zgS}(h:a.data.toList=b.data.toList):a=b:=by
 cases a;cases b
 exact congrArg ByteArray.mk (Array.ext' h)
theorem z0J {s:zgS}{a:Nat}(h:pk s a false=32)(h2:pk s (a+1) false≠32):skip s a false=a+1:=by
 rw [←z0V h,zI h2]
abbrev TB:Type:=Std.DTreeMap.Internal.Impl (Int×List UInt8) (fun _=>Unit)
def zfh:TB→Prop
 | .inner 0 _ _ l r=>l= .leaf∧r= .leaf
 | .inner 1 k _ l r=>k.1=0∧zfh l∧r= .leaf
 | .inner 2 k _ l r=>k.1=0∧zfh l∧zfh r
 |_=>False
def TE:Type:={T:TB//zfh T}
def TE.lf (f:Int)(t:List UInt8):TE:=⟨.inner 0 (f,t) () .leaf .leaf,rfl,rfl⟩
def TE.pr (t:List UInt8)(a:TE):TE:=⟨.inner 1 (0,t) () (Subtype.val a) .leaf,rfl,a.2,rfl⟩
def TE.pa (t:List UInt8)(a b:TE):TE:=⟨.inner 2 (0,t) () (Subtype.val a) (Subtype.val b),rfl,a.2,b.2⟩
theorem TE.ind {motive:TE→Prop}(lf: ∀f t,motive (TE.lf f t))(pr: ∀t a,motive a→motive (TE.pr t a))(pa: ∀t a b,motive a→motive b→motive (TE.pa t a b))(T:TE):motive T:=by
 obtain⟨T,h⟩:=T
 induction T with
 |leaf=>exact absurd h id
 |inner n k v l r ihl ihr=>
  obtain⟨f,t⟩:=k
  cases v
  match n,h with
  |0,h=>obtain⟨rfl,rfl⟩:=h;exact lf f t
  |1,h=>
   obtain⟨hk,hl,rfl⟩:=h
   have hk:f=0:=hk
   subst hk
   exact pr t ⟨l,hl⟩ (ihl hl)
  |2,h=>
   obtain⟨hk,hl,hr⟩:=h
   have hk:f=0:=hk
   subst hk
   exact pa t ⟨l,hl⟩ ⟨r,hr⟩ (ihl hl) (ihr hr)
  |n+3,h=>exact absurd h id
theorem TE.cas {motive:TE→Prop}(lf: ∀f t,motive (TE.lf f t))(pr: ∀t a,motive (TE.pr t a))(pa: ∀t a b,motive (TE.pa t a b))(T:TE):motive T:=TE.ind lf (fun t a _=>pr t a) (fun t a b _ _=>pa t a b) T
def zfu (E:List Ex):TB→Int→Prop
 | .inner 0 (f,t) _ _ _,i=> ∃(n:Nat) (x:Ex),i=(n:Int)∧E[n]?=some x∧x.form=f∧x.text.data.toList=t
 | .inner 1 (_,t) _ a _,i=> ∃(n:Nat) (x:Ex),i=(n:Int)∧E[n]?=some x∧x.form=5∧x.text.data.toList=t∧x.left<(n:Int)∧zfu E a x.left
 | .inner 2 (_,t) _ a b,i=> ∃(n:Nat) (x:Ex),i=(n:Int)∧E[n]?=some x∧x.form=6∧x.text.data.toList=t∧x.left<(n:Int)∧x.right<(n:Int)∧zfu E a x.left∧zfu E b x.right
 |_,_=>False
def IsE (E:List Ex)(T:TE)(i:Int):Prop:=zfu E (Subtype.val T) i
theorem z0t {α:Type}{E:List α}(F:List α){n:Nat}{x:α}(h:E[n]?=some x):(E++F)[n]?=some x:=by
 rw [List.getElem?_append_left (zgF.1 h).1];exact h
theorem IsE.more {E:List Ex}(F:List Ex): ∀{T:TE} {i:Int},IsE E T i→IsE (E++F) T i:=by
 intro T
 induction T using TE.ind with
 |lf f t=>intro i ⟨n,x,h1,h2,h3⟩;exact⟨n,x,h1,z0t F h2,h3⟩
 |pr t a ih=>intro i ⟨n,x,h1,h2,h3,h4,h5,h6⟩;exact⟨n,x,h1,z0t F h2,h3,h4,h5,ih h6⟩
 |pa t a b iha ihb=>intro i ⟨n,x,h1,h2,h3,h4,h5,h6,h7,h8⟩;exact⟨n,x,h1,z0t F h2,h3,h4,h5,h6,iha h7,ihb h8⟩
theorem IsE.lt {E:List Ex}{T:TE}{i:Int}(h:IsE E T i):i<(E.length:Int):=by
 cases T using TE.cas with
 |lf f t=>obtain⟨n,x,h1,h2,_⟩:=h;have:=(zgF.1 h2).1;omega
 |pr t a=>obtain⟨n,x,h1,h2,_⟩:=h;have:=(zgF.1 h2).1;omega
 |pa t a b=>obtain⟨n,x,h1,h2,_⟩:=h;have:=(zgF.1 h2).1;omega
theorem z0e {α:Type}(E:List α)(x:α):(E++[x])[E.length]?=some x:=by simp
theorem z4t {E:List Ex}{x:Ex}:IsE (E++[x]) (.lf x.form x.text.data.toList) (E.length:Int):=⟨E.length,x,rfl,z0e E x,rfl,rfl⟩
theorem zcc {E:List Ex}{T:TE}{l p r:Int}{c:zgS}(h:IsE E T l):IsE (E++[⟨5,p,c,l,r⟩]) (.pr c.data.toList T) (E.length:Int):=⟨E.length,_,rfl,z0e E _,rfl,rfl,h.lt,h.more _⟩
theorem z9O {E:List Ex}{T U:TE}{l p r:Int}{c:zgS}(h:IsE E T l)(k:IsE E U r):IsE (E++[⟨6,p,c,l,r⟩]) (.pa c.data.toList T U) (E.length:Int):=⟨E.length,_,rfl,z0e E _,rfl,rfl,h.lt,k.lt,h.more _,k.more _⟩
def orS (t:List UInt8):Prop:=t=[124,124]
def anS (t:List UInt8):Prop:=t=[38,38]
def cmS (t:List UInt8):Prop:=t=[61,61]∨t=[33,61]∨t=[60]∨t=[60,61]∨t=[62]∨t=[62,61]
def smS (t:List UInt8):Prop:=t=[43]∨t=[45]∨t=[46]
def pdS (t:List UInt8):Prop:=t=[42]∨t=[47]∨t=[37]
def zbi:List UInt8:=[116,114,117,101]
def z7E:List UInt8:=[102,97,108,115,101]
def zfj:TB→Prop
 | .inner 0 (f,t) _ _ _=>(f=0∧zfJ t)∨(f=1∧zfg t)∨(f=2∧(t=zbi∨t=z7E))∨(f=3∧z4y t∧t≠zbi∧t≠z7E)∨(f=4∧z4y t)
 | .inner 1 (_,t) _ a _=>(t=[33]∨t=[45])∧zfj a
 | .inner 2 (_,t) _ a b=>(orS t∨anS t∨cmS t∨smS t∨pdS t)∧zfj a∧zfj b
 |_=>False
def VlE (T:TE):Prop:=zfj (Subtype.val T)
theorem z8t {s:zgS}{a:Nat}{d:Bool}(h:((zr s a d).size==0)≠true):smS (zr s a d).data.toList:=by
 unfold zr at h ⊢
 unfold smS
 split at h
 ·exact absurd rfl h
 ·rename_i h0
  rw [if_neg h0]
  split at h
  ·rename_i h1;rw [if_pos h1];exact .inl rfl
  ·rename_i h1
   rw [if_neg h1]
   split at h
   ·rename_i h2;rw [if_pos h2];exact .inr (.inl rfl)
   ·rename_i h2
    rw [if_neg h2]
    split at h
    ·rename_i h3;rw [if_pos h3];exact .inr (.inr rfl)
    ·exact absurd rfl h
theorem z4n {s:zgS}{a:Nat}{d:Bool}(h:((zh s a d).size==0)≠true):pdS (zh s a d).data.toList:=by
 unfold zh at h ⊢
 unfold pdS
 split at h
 ·rename_i h1;rw [if_pos h1];exact .inl rfl
 ·rename_i h1
  rw [if_neg h1]
  split at h
  ·rename_i h2;rw [if_pos h2];exact .inr (.inl rfl)
  ·rename_i h2
   rw [if_neg h2]
   split at h
   ·rename_i h3;rw [if_pos h3];exact .inr (.inr rfl)
   ·exact absurd rfl h
theorem z2c (s short long:zgS)(a:Nat)(d:Bool):(zx s short long a d).2.2=short∨(zx s short long a d).2.2=long:=by
 unfold zx
 simp only
 split
 ·exact .inl rfl
 ·exact .inr rfl
theorem z6j {s:zgS}{a:Nat}{d:Bool}(h:((ze s a d).2.2.size==0)≠true):cmS (ze s a d).2.2.data.toList:=by
 unfold ze at h ⊢
 unfold cmS
 split at h
 ·rename_i h1;rw [if_pos h1];exact .inl rfl
 ·rename_i h1
  rw [if_neg h1]
  split at h
  ·rename_i h2;rw [if_pos h2];exact .inr (.inl rfl)
  ·rename_i h2
   rw [if_neg h2]
   split at h
   ·rename_i h3
    rw [if_pos h3]
    rcases z2c s ⟨#[60]⟩ ⟨#[60,61]⟩ a d with e|e
    ·rw [e];exact .inr (.inr (.inl rfl))
    ·rw [e];exact .inr (.inr (.inr (.inl rfl)))
   ·rename_i h3
    rw [if_neg h3]
    split at h
    ·rename_i h4
     rw [if_pos h4]
     rcases z2c s ⟨#[62]⟩ ⟨#[62,61]⟩ a d with e|e
     ·rw [e];exact .inr (.inr (.inr (.inr (.inl rfl))))
     ·rw [e];exact .inr (.inr (.inr (.inr (.inr rfl))))
    ·exact absurd rfl h
theorem z9Y (s:zgS): ∀n tag l st r,M s n tag l st=some r→r.2.bad=false→(10≤tag→ ∃T,VlE T∧IsE st.E T l)→ ∃T,VlE T∧IsE r.2.E T r.1:=by
 intro n
 induction n with
 |zero=>intro tag l st r h;simp [M] at h
 |succ n ih=>
  intro tag l st r h hr hl
  have two: ∀{t1 t2:Nat} {st0:St},t1<10→((M s n t1 0 st0).bind fun r=>M s n t2 r.1 r.2)=some r→ ∃T,VlE T∧IsE r.2.E T r.1:=fun ht h=>by
   obtain⟨q,h1,h2⟩:=zgD.1 h
   exact ih _ _ _ _ h2 hr fun _=>ih _ _ _ _ h1 (z6n h2 hr) (fun e=>by omega)
  have three: ∀{t1 t2:Nat} {st0:St} {c:zgS} {p:Int},t1<10→(∃T,VlE T∧IsE st.E T l)→(orS c.data.toList∨anS c.data.toList∨cmS c.data.toList∨smS c.data.toList∨pdS c.data.toList)→((M s n t1 0 st0).bind fun r=>(jQ r.2 ⟨6,p,c,l,r.1⟩).bind fun q=>M s n t2 q.1 q.2)=some r→st0.E=st.E→ ∃T,VlE T∧IsE r.2.E T r.1:=fun ht hT hc h he=>by
   obtain⟨q,h1,h2⟩:=zgD.1 h
   obtain⟨q2,h3,h4⟩:=zgD.1 h2
   obtain⟨_,rfl⟩:=zj h3
   have hb:q.2.bad=false:=by have:=z6n h4 hr;exact this
   obtain⟨T1,v1,i1⟩:=ih _ _ _ _ h1 hb (fun e=>by omega)
   obtain⟨T0,v0,i0⟩:=hT
   obtain⟨⟨F,hF⟩,_⟩:=z1z s _ _ _ _ _ h1
   rw [he] at hF
   exact ih _ _ _ _ h4 hr fun _=>⟨.pa _ T0 T1,⟨hc,v0,v1⟩,z9O (by rw [hF];exact i0.more F) i1⟩
  have one: ∀{t1:Nat} {st0:St} {c:zgS} {p:Int},t1<10→(c.data.toList=[33]∨c.data.toList=[45])→((M s n t1 0 st0).bind fun r=>jQ r.2 ⟨5,p,c,r.1,-1⟩)=some r→ ∃T,VlE T∧IsE r.2.E T r.1:=fun ht hc h=>by
   obtain⟨q,h1,h2⟩:=zgD.1 h
   obtain⟨_,rfl⟩:=zj h2
   obtain⟨T1,v1,i1⟩:=ih _ _ _ _ h1 hr (fun e=>by omega)
   exact⟨.pr _ T1,⟨hc,v1⟩,zcc i1⟩
  match tag,h,hl with
  |0,h,hl=>rw [M_0] at h;exact two (by omega) h
  |1,h,hl=>rw [M_1] at h;exact two (by omega) h
  |4,h,hl=>rw [M_4] at h;exact two (by omega) h
  |5,h,hl=>rw [M_5] at h;exact two (by omega) h
  |10,h,hl=>
   rw [z71] at h
   split at h
   ·exact three (c:=⟨#[124,124]⟩) (t1:=1) (by omega) (hl (by omega)) (.inl rfl) h rfl
   ·cases h;exact hl (by omega)
  |11,h,hl=>
   rw [z7h] at h
   split at h
   ·exact three (c:=⟨#[38,38]⟩) (t1:=2) (by omega) (hl (by omega)) (.inr (.inl rfl)) h rfl
   ·cases h;exact hl (by omega)
  |14,h,hl=>
   rw [z6x] at h
   simp only at h
   split at h
   ·cases h;exact hl (by omega)
   ·rename_i hc
    exact three (t1:=5) (by omega) (hl (by omega)) (.inr (.inr (.inr (.inl (z8t hc))))) h rfl
  |15,h,hl=>
   rw [z7L] at h
   simp only at h
   split at h
   ·cases h;exact hl (by omega)
   ·rename_i hc
    exact three (t1:=6) (by omega) (hl (by omega)) (.inr (.inr (.inr (.inr (z4n hc))))) h rfl
  |2,h,hl=>
   rw [M_2] at h
   split at h
   ·exact ih _ _ _ _ h hr (fun e=>by omega)
   ·exact one (c:=⟨#[33]⟩) (by omega) (.inl rfl) h
  |6,h,hl=>
   rw [M_6] at h
   split at h
   ·exact ih _ _ _ _ h hr (fun e=>by omega)
   ·exact one (c:=⟨#[45]⟩) (by omega) (.inr rfl) h
  |3,h,hl=>
   rw [M_3] at h
   obtain⟨q,h1,h2⟩:=zgD.1 h
   simp only at h2
   split at h2
   ·cases h2
    have hb:q.2.bad=false:=z1y hr
    obtain⟨T,v,i⟩:=ih _ _ _ _ h1 hb (fun e=>by omega)
    exact⟨T,v,i⟩
   ·rename_i hc
    obtain⟨q2,h3,h4⟩:=zgD.1 h2
    obtain⟨_,rfl⟩:=zj h4
    have hb2:(q.2.put3 (ze s q.2.at_ q.2.bad)).bad=false:=z6n h3 hr
    have hb:q.2.bad=false:=z1y hb2
    obtain⟨T0,v0,i0⟩:=ih _ _ _ _ h1 hb (fun e=>by omega)
    obtain⟨T1,v1,i1⟩:=ih _ _ _ _ h3 hr (fun e=>by omega)
    obtain⟨⟨F,hF⟩,_⟩:=z1z s _ _ _ _ _ h3
    exact⟨.pa _ T0 T1,⟨.inr (.inr (.inl (z6j hc))),v0,v1⟩,z9O (by rw [hF];exact i0.more F) i1⟩
  |7,h,hl=>
   rw [M_7] at h
   split at h
   ·rename_i hd
    simp only at h
    obtain⟨_,rfl⟩:=zj h
    have hb:(zO s st.at_ st.bad).2.1=false:=hr
    have hs:st.bad=false:=by
     cases hq:st.bad with
     |false=>rfl
     |true=>unfold pkS pk at hd;rw [hq] at hd;cases hd
    rw [hs] at hb ⊢
    exact⟨.lf _ _,.inl ⟨rfl,za3 hb⟩,z4t⟩
   ·split at h
    ·rename_i hd
     simp only at h
     obtain⟨_,rfl⟩:=zj h
     have hb:(zT s st.at_ st.bad).2.1=false:=hr
     have hs:st.bad=false:=by
      cases hq:st.bad with
      |false=>rfl
      |true=>unfold pkS pk at hd;rw [hq] at hd;cases hd
     rw [hs] at hb ⊢
     exact⟨.lf _ _,.inr (.inl ⟨rfl,z9I hb⟩),z4t⟩
    ·split at h
     ·simp only at h
      obtain⟨_,rfl⟩:=zj h
      have hb:(zw s (wrd s [64] st).at_ (wrd s [64] st).bad).2.1=false:=hr
      have hs:=z18 hb
      rw [hs] at hb ⊢
      exact⟨.lf _ _,.inr (.inr (.inr (.inr ⟨rfl,z3u hb⟩))),z4t⟩
     ·split at h
      ·obtain⟨q,h1,h2⟩:=zgD.1 h
       cases h2
       have hb:q.2.bad=false:=z0n hr
       obtain⟨T,v,i⟩:=ih _ _ _ _ h1 hb (fun e=>by omega)
       exact⟨T,v,i⟩
      ·simp only at h
       split at h
       ·rename_i ht
        obtain⟨_,rfl⟩:=zj h
        refine⟨.lf _ _,.inr (.inr (.inl ⟨rfl,?_⟩)),z4t⟩
        simp only [Bool.or_eq_true,beq_iff_eq] at ht
        exact ht
       ·rename_i ht
        obtain⟨_,rfl⟩:=zj h
        have hb:(zw s st.at_ st.bad).2.1=false:=hr
        have hs:=z18 hb
        rw [hs] at hb ht ⊢
        simp only [Bool.or_eq_true,beq_iff_eq,not_or] at ht
        exact⟨.lf _ _,.inr (.inr (.inr (.inl ⟨rfl,z3u hb,ht.1,ht.2⟩))),z4t⟩
  |8,h,hl=>simp [M] at h
  |9,h,hl=>simp [M] at h
  |12,h,hl=>simp [M] at h
  |13,h,hl=>simp [M] at h
  |t+16,h,hl=>simp [M] at h
theorem z3Q: ∀(xs ys:List Ex) (ts:List Int),z2a (xs++ys) ts=z2a ys (z2a xs ts):=by
 intro xs
 induction xs with
 |nil=>intro ys ts;rfl
 |cons x xs ih=>intro ys ts;exact ih ys _
theorem z7U: ∀(xs:List Ex) (ts:List Int),∃us,z2a xs ts=ts++us:=by
 intro xs
 induction xs with
 |nil=>intro ts;exact⟨[],by simp [z2a]⟩
 |cons x xs ih=>
  intro ts
  obtain⟨us,h⟩:=ih (ts++[zv x (zb ts x.left) (zb ts x.right)])
  exact⟨_,by unfold z2a;rw [h,List.append_assoc]⟩
theorem z5c {α:Type}{E:List α}{n:Nat}{x:α}(h:E[n]?=some x):E=E.take n++[x]++E.drop (n+1):=by
 obtain⟨hl,hx⟩:=zgF.1 h
 conv=>lhs;rw [←List.take_append_drop n E,zgL hl,hx]
 simp
theorem z61 {E:List Ex}{n:Nat}{x:Ex}(h:E[n]?=some x):zb (z2a E []) (n:Int)=zv x (zb (z2a (E.take n) []) x.left) (zb (z2a (E.take n) []) x.right)∧ ∀i:Int,i<(n:Int)→zb (z2a (E.take n) []) i=zb (z2a E []) i:=by
 have hl:=(zgF.1 h).1
 have hlen:(z2a (E.take n) []).length=n:=by rw [z7d];simp;omega
 have e:z2a E []=z2a (E.drop (n+1)) (z2a (E.take n) []++[zv x (zb (z2a (E.take n) []) x.left) (zb (z2a (E.take n) []) x.right)]):=by
  conv=>lhs;rw [z5c h,z3Q,z3Q]
  rfl
 obtain⟨us,hus⟩:=z7U (E.drop (n+1)) (z2a (E.take n) []++[zv x (zb (z2a (E.take n) []) x.left) (zb (z2a (E.take n) []) x.right)])
 rw [e,hus,List.append_assoc]
 refine⟨?_,fun i hi=>(zbJ (by omega)).symm⟩
 rw [z0i,if_neg (by omega),hlen,Nat.sub_self,z1j]
 rfl
theorem z3E {E:List Ex}{n:Nat}{x:Ex}(l:List (zgS×zgS))(h:E[n]?=some x):wAt (zf l E []) (n:Int)=wOf l x (wAt (zf l (E.take n) []) x.left) (wAt (zf l (E.take n) []) x.right)∧ ∀i:Int,i<(n:Int)→wAt (zf l (E.take n) []) i=wAt (zf l E []) i:=by
 have hl:=(zgF.1 h).1
 have hlen:(zf l (E.take n) []).length=n:=by rw [ji];simp;omega
 have e:zf l E []=zf l (E.drop (n+1)) (zf l (E.take n) []++[wOf l x (wAt (zf l (E.take n) []) x.left) (wAt (zf l (E.take n) []) x.right)]):=by
  conv=>lhs;rw [z5c h,jU,jU]
  rfl
 obtain⟨us,hus⟩:=z0M l (E.drop (n+1)) (zf l (E.take n) []++[wOf l x (wAt (zf l (E.take n) []) x.left) (wAt (zf l (E.take n) []) x.right)])
 rw [e,hus,List.append_assoc]
 refine⟨?_,fun i hi=>(zcl (by omega)).symm⟩
 unfold wAt
 rw [if_neg (by omega),List.getD_eq_getElem?_getD,Int.toNat_natCast,List.getElem?_append_right (by omega),hlen,Nat.sub_self]
 rfl
def zdf:TB→Int
 | .inner 0 (f,t) _ _ _=>zv ⟨f,0,⟨t.toArray⟩,-1,-1⟩ 0 0
 | .inner 1 (_,t) _ a _=>zv ⟨5,0,⟨t.toArray⟩,-1,-1⟩ (zdf a) 0
 | .inner 2 (_,t) _ a b=>zv ⟨6,0,⟨t.toArray⟩,-1,-1⟩ (zdf a) (zdf b)
 |_=>0
def tyE (T:TE):Int:=zdf (Subtype.val T)
theorem za5 (f:Int)(t:List UInt8):tyE (.lf f t)=zv ⟨f,0,⟨t.toArray⟩,-1,-1⟩ 0 0:=rfl
theorem z0S {b:zgS}{t:List UInt8}(h:b.data.toList=t):b=⟨t.toArray⟩:=z0Y (by rw [h])
theorem zg0 {f:Int}{t:List UInt8}(h:VlE (.lf f t))(p l r a b:Int):zv ⟨f,p,⟨t.toArray⟩,l,r⟩ a b=tyE (.lf f t):=by
 rw [za5]
 rcases h with⟨rfl,_⟩|⟨rfl,_⟩|⟨rfl,_⟩|⟨rfl,_⟩|⟨rfl,_⟩<;>rfl
theorem zaN {E:List Ex}: ∀{T:TE} {i:Int},VlE T→IsE E T i→zb (z2a E []) i=tyE T:=by
 intro T
 induction T using TE.ind with
 |lf f t=>
  intro i hv ⟨n,x,h1,h2,h3,h4⟩
  subst h1
  obtain⟨fo,p,tx,l,r⟩:=x
  simp only at h3 h4
  subst h3
  rw [(z61 h2).1,z0S h4]
  exact zg0 hv _ _ _ _ _
 |pr t a ih=>
  intro i hv ⟨n,x,h1,h2,h3,h4,h5,h6⟩
  subst h1
  obtain⟨fo,p,tx,l,r⟩:=x
  simp only at h3 h4 h5 h6
  subst h3
  obtain⟨k1,k2⟩:=z61 h2
  rw [k1,z0S h4]
  simp only
  rw [k2 l h5,ih hv.2 h6]
  rfl
 |pa t a b iha ihb=>
  intro i hv ⟨n,x,h1,h2,h3,h4,h5,h6,h7,h8⟩
  subst h1
  obtain⟨fo,p,tx,l,r⟩:=x
  simp only at h3 h4 h5 h6 h7 h8
  subst h3
  obtain⟨k1,k2⟩:=z61 h2
  rw [k1,z0S h4]
  simp only
  rw [k2 l h5,k2 r h6,iha hv.2.1 h7,ihb hv.2.2 h8]
  rfl
def zfq:TB→Prop
 | .inner 0 _ _ _ _=>True
 | .inner 1 (_,t) _ a _=>zv ⟨5,0,⟨t.toArray⟩,-1,-1⟩ (zdf a) 0≠0∧zfq a
 | .inner 2 (_,t) _ a b=>zv ⟨6,0,⟨t.toArray⟩,-1,-1⟩ (zdf a) (zdf b)≠0∧zfq a∧zfq b
 |_=>False
def WtE (T:TE):Prop:=zfq (Subtype.val T)
theorem z8M: ∀(xs:List Ex) (ts:List Int),z2o xs ts→ ∀k,ts.length≤k→k<ts.length+xs.length→(z2a xs ts).getD k 0≠0:=by
 intro xs
 induction xs with
 |nil=>intro ts _ k h1 h2;simp at h2;omega
 |cons x xs ih=>
  intro ts ⟨h1,h2⟩ k h3 h4
  by_cases e:k=ts.length
  ·obtain⟨us,hu⟩:=z7U xs (ts++[zv x (zb ts x.left) (zb ts x.right)])
   unfold z2a
   rw [hu,e,List.getD_eq_getElem?_getD,List.append_assoc,List.getElem?_append_right (by omega),Nat.sub_self]
   exact h1
  ·exact ih _ h2 k (by simp;omega) (by simp at h4 ⊢;omega)
theorem zeQ {E:List Ex}(h:z2o E []){T:TE}{i:Int}(hv:VlE T)(hi:IsE E T i):tyE T≠0:=by
 rw [←zaN hv hi]
 have hlt:=hi.lt
 have h0:0≤i:=by
  cases T using TE.cas with
  |lf f t=>obtain⟨n,x,h1,_⟩:=hi;omega
  |pr t a=>obtain⟨n,x,h1,_⟩:=hi;omega
  |pa t a b=>obtain⟨n,x,h1,_⟩:=hi;omega
 obtain⟨n,rfl⟩:=Int.eq_ofNat_of_zero_le h0
 rw [z1j]
 exact z8M E [] h n (zgO _) (by simp;omega)
theorem zg4 {E:List Ex}(h:z2o E []): ∀{T:TE} {i:Int},VlE T→IsE E T i→WtE T:=by
 intro T
 induction T using TE.ind with
 |lf f t=>intro i _ _;trivial
 |pr t a ih=>
  intro i hv hi
  have:=zeQ h hv hi
  obtain⟨n,x,h1,h2,h3,h4,h5,h6⟩:=hi
  exact⟨this,ih hv.2 h6⟩
 |pa t a b iha ihb=>
  intro i hv hi
  have:=zeQ h hv hi
  obtain⟨n,x,h1,h2,h3,h4,h5,h6,h7,h8⟩:=hi
  exact⟨this,iha hv.2.1 h7,ihb hv.2.2 h8⟩
theorem zgn {f:Int}{t:zgS}(hf:f≠5∧f≠6∧f≠7)(al:List (zgS×zgS))(p l r p' l' r':Int)(a b a' b':Wt):wOf al ⟨f,p,t,l,r⟩ a b=wOf al ⟨f,p',t,l',r'⟩ a' b':=by
 unfold wOf
 simp [hf.1,hf.2.1,hf.2.2]
theorem zdR {E E':List Ex}(al:List (zgS×zgS)): ∀{T:TE} {i i':Int},VlE T→IsE E T i→IsE E' T i'→wAt (zf al E []) i=wAt (zf al E' []) i':=by
 intro T
 induction T using TE.ind with
 |lf f t=>
  intro i i' hv ⟨n,x,h1,h2,h3,h4⟩ ⟨n',x',h1',h2',h3',h4'⟩
  subst h1 h1'
  obtain⟨fo,p,tx,l,r⟩:=x
  obtain⟨fo',p',tx',l',r'⟩:=x'
  simp only at h3 h4 h3' h4'
  subst h3 h3'
  rw [(z3E al h2).1,(z3E al h2').1,z0S h4,z0S h4']
  exact zgn (by rcases hv with⟨rfl,_⟩|⟨rfl,_⟩|⟨rfl,_⟩|⟨rfl,_⟩|⟨rfl,_⟩<;>decide) ..
 |pr t a ih=>
  intro i i' hv ⟨n,x,h1,h2,h3,h4,h5,h6⟩ ⟨n',x',h1',h2',h3',h4',h5',h6'⟩
  subst h1 h1'
  obtain⟨fo,p,tx,l,r⟩:=x
  obtain⟨fo',p',tx',l',r'⟩:=x'
  simp only at h3 h4 h5 h6 h3' h4' h5' h6'
  subst h3 h3'
  obtain⟨k1,k2⟩:=z3E al h2
  obtain⟨k1',k2'⟩:=z3E al h2'
  rw [k1,k1',z0S h4,z0S h4']
  simp only
  rw [k2 l h5,k2' l' h5',ih hv.2 h6 h6']
  rfl
 |pa t a b iha ihb=>
  intro i i' hv ⟨n,x,h1,h2,h3,h4,h5,h6,h7,h8⟩ ⟨n',x',h1',h2',h3',h4',h5',h6',h7',h8'⟩
  subst h1 h1'
  obtain⟨fo,p,tx,l,r⟩:=x
  obtain⟨fo',p',tx',l',r'⟩:=x'
  simp only at h3 h4 h5 h6 h7 h8 h3' h4' h5' h6' h7' h8'
  subst h3 h3'
  obtain⟨k1,k2⟩:=z3E al h2
  obtain⟨k1',k2'⟩:=z3E al h2'
  rw [k1,k1',z0S h4,z0S h4']
  simp only
  rw [k2 l h5,k2' l' h5',k2 r h6,k2' r' h6',iha hv.2.1 h7 h7',ihb hv.2.2 h8 h8']
  rfl
def zfm:TB→List UInt8
 | .inner 0 (f,t) _ _ _=>if f=1 then 34::(t++[34]) else if f=4 then 64::t else t
 | .inner 1 (_,t) _ a _=>t++zfm a
 | .inner 2 (_,t) _ a b=>40::(zfm a++(32::(t++(32::(zfm b++[41])))))
 |_=>[]
def prE (T:TE):List UInt8:=zfm (Subtype.val T)
theorem zbP (f:Int)(t:List UInt8):prE (.lf f t)=if f=1 then 34::(t++[34]) else if f=4 then 64::t else t:=rfl
theorem zbz (t:List UInt8)(a:TE):prE (.pr t a)=t++prE a:=rfl
theorem zbH (t:List UInt8)(a b:TE):prE (.pa t a b)=40::(prE a++(32::(t++(32::(prE b++[41]))))):=rfl
theorem jx (a b:zgS):(a++b).data.toList=a.data.toList++b.data.toList:=by
 rw [ByteArray.data_append,Array.toList_append]
theorem zeV {E:List Ex}: ∀{T:TE} {f:Nat} {i:Int} {t:zgS},VlE T→IsE E T i→PrE E f i t→t.data.toList=prE T:=by
 intro T
 induction T using TE.ind with
 |lf fo tx=>
  intro f i t hv ⟨n,x,h1,h2,h3,h4⟩ hp
  cases f with
  |zero=>exact absurd hp id
  |succ f=>
   obtain⟨_,m,y,e1,e2,_,hp⟩:=hp
   have:n=m:=by omega
   subst this
   rw [h2] at e2
   cases e2
   rw [h3] at hp
   rw [zbP]
   rcases hv with⟨rfl,_⟩|⟨rfl,_⟩|⟨rfl,_⟩|⟨rfl,_⟩|⟨rfl,_⟩<;>simp at hp ⊢
   ·rw [hp,h4]
   ·rw [hp,jx,jx,h4];rfl
   ·rw [hp,h4]
   ·rw [hp,h4]
   ·rw [hp,jx,h4];rfl
 |pr tx a ih=>
  intro f i t hv ⟨n,x,h1,h2,h3,h4,h5,h6⟩ hp
  cases f with
  |zero=>exact absurd hp id
  |succ f=>
   obtain⟨_,m,y,e1,e2,_,hp⟩:=hp
   have:n=m:=by omega
   subst this
   rw [h2] at e2
   cases e2
   rw [h3] at hp
   simp at hp
   obtain⟨t1,p1,rfl⟩:=hp
   rw [zbz,jx,h4,ih hv.2 h6 p1]
 |pa tx a b iha ihb=>
  intro f i t hv ⟨n,x,h1,h2,h3,h4,h5,h6,h7,h8⟩ hp
  cases f with
  |zero=>exact absurd hp id
  |succ f=>
   obtain⟨_,m,y,e1,e2,_,hp⟩:=hp
   have:n=m:=by omega
   subst this
   rw [h2] at e2
   cases e2
   rw [h3] at hp
   simp at hp
   obtain⟨t1,p1,t2,p2,rfl⟩:=hp
   rw [zbH]
   unfold z6L
   simp only [jx,h4,iha hv.2.1 h7 p1,ihb hv.2.2 h8 p2]
   simp
def dlm (c:Int):Bool:=c== -1||c==32||c==41||c==59||c==10||c==125
theorem zbd {c:Int}(h:dlm c=true):zk c=false∧zg c=false:=by
 unfold dlm at h
 simp only [Bool.or_eq_true,beq_iff_eq] at h
 rcases h with((((rfl|rfl)|rfl)|rfl)|rfl)|rfl<;>decide
structure RdE (T:TE)(st:St)(a:Nat)(r:Int×St):Prop where
 bad:r.2.bad=false
 at_:r.2.at_=a
 ext:ExtE st r.2
 is:IsE r.2.E T r.1
 ty:z2o st.E []→z2o r.2.E []
def qt (s:zgS)(tag a:Nat):Prop:=(tag≤5→zh s a false=⟨#[]⟩)∧(tag≤4→zr s a false=⟨#[]⟩)∧(tag≤3→ze s a false=(a,false,⟨#[]⟩))∧(tag≤1→pk s a false≠38)∧(tag≤0→pk s a false≠124)
theorem qt.mono {s:zgS}{t t' a:Nat}(h:qt s t a)(ht:t≤t'):qt s t' a:=⟨fun q=>h.1 (by omega),fun q=>h.2.1 (by omega),fun q=>h.2.2.1 (by omega),fun q=>h.2.2.2.1 (by omega),fun q=>h.2.2.2.2 (by omega)⟩
def qb (tag:Nat)(c:Int):Bool:=(decide (5<tag)||(c !=42&&c !=47&&c !=37))&&(decide (4<tag)||(c !=43&&c !=45&&c !=46))&&(decide (3<tag)||(c !=61&&c !=33&&c !=60&&c !=62))&&(decide (1<tag)||c !=38)&&(decide (0<tag)||c !=124)
theorem zdt {s:zgS}{a tag:Nat}{c:Int}(h:pk s a false=c)(hb:qb tag c=true):qt s tag a:=by
 unfold qb at hb
 simp only [Bool.and_eq_true,Bool.or_eq_true,decide_eq_true_eq,bne_iff_ne] at hb
 obtain⟨⟨⟨⟨h1,h2⟩,h3⟩,h4⟩,h5⟩:=hb
 refine⟨fun q=> ?_,fun q=> ?_,fun q=> ?_,fun q=>by omega,fun q=>by omega⟩
 ·have h1:=h1.resolve_left (by omega)
  unfold zh
  simp [h,h1.1.1,h1.1.2,h1.2]
 ·have h2:=h2.resolve_left (by omega)
  unfold zr zz
  simp [h,h2.1.1,h2.1.2,h2.2]
 ·have h3:=h3.resolve_left (by omega)
  unfold ze
  simp [h,h3.1.1.1,h3.1.1.2,h3.1.2,h3.2]
section
variable {s:zgS} {T:TE} {st:St} {a:Nat}
theorem up6 (H: ∀n r,M s n 7 0 st=some r→RdE T st a r)(h:pkS s st≠45): ∀n r,M s n 6 0 st=some r→RdE T st a r:=by
 intro n r hm
 cases n with
 |zero=>simp [M] at hm
 |succ n=>rw [M_6,if_pos (by simpa using h)] at hm;exact H n r hm
theorem up5 (H: ∀n r,M s n 6 0 st=some r→RdE T st a r)(h:zh s a false=⟨#[]⟩): ∀n r,M s n 5 0 st=some r→RdE T st a r:=by
 intro n r hm
 cases n with
 |zero=>simp [M] at hm
 |succ n=>
  rw [M_5] at hm
  obtain⟨q,h1,h2⟩:=zgD.1 hm
  have k:=H n q h1
  cases n with
  |zero=>simp [M] at h2
  |succ n=>
   rw [z7L,k.at_,k.bad,h] at h2
   have h2:some (q.1,q.2)=some r:=h2
   cases h2
   exact k
theorem up4 (H: ∀n r,M s n 5 0 st=some r→RdE T st a r)(h:zr s a false=⟨#[]⟩): ∀n r,M s n 4 0 st=some r→RdE T st a r:=by
 intro n r hm
 cases n with
 |zero=>simp [M] at hm
 |succ n=>
  rw [M_4] at hm
  obtain⟨q,h1,h2⟩:=zgD.1 hm
  have k:=H n q h1
  cases n with
  |zero=>simp [M] at h2
  |succ n=>
   rw [z6x,k.at_,k.bad,h] at h2
   have h2:some (q.1,q.2)=some r:=h2
   cases h2
   exact k
theorem up3 (H: ∀n r,M s n 4 0 st=some r→RdE T st a r)(h:ze s a false=(a,false,⟨#[]⟩)): ∀n r,M s n 3 0 st=some r→RdE T st a r:=by
 intro n r hm
 cases n with
 |zero=>simp [M] at hm
 |succ n=>
  rw [M_3] at hm
  obtain⟨q,h1,h2⟩:=zgD.1 hm
  have k:=H n q h1
  simp only at h2
  rw [k.at_,k.bad,h] at h2
  have h2:some (q.1,q.2.put3 (a,false,⟨#[]⟩))=some r:=h2
  cases h2
  exact⟨rfl,rfl,k.ext,k.is,k.ty⟩
theorem up2 (H: ∀n r,M s n 3 0 st=some r→RdE T st a r)(h:pkS s st≠33): ∀n r,M s n 2 0 st=some r→RdE T st a r:=by
 intro n r hm
 cases n with
 |zero=>simp [M] at hm
 |succ n=>rw [M_2,if_pos (by simpa using h)] at hm;exact H n r hm
theorem up1 (H: ∀n r,M s n 2 0 st=some r→RdE T st a r)(h:pk s a false≠38): ∀n r,M s n 1 0 st=some r→RdE T st a r:=by
 intro n r hm
 cases n with
 |zero=>simp [M] at hm
 |succ n=>
  rw [M_1] at hm
  obtain⟨q,h1,h2⟩:=zgD.1 hm
  have k:=H n q h1
  cases n with
  |zero=>simp [M] at h2
  |succ n=>
   rw [z7h,if_neg (by unfold pkS;rw [k.at_,k.bad];simpa using h)] at h2
   cases h2
   exact k
theorem up0 (H: ∀n r,M s n 1 0 st=some r→RdE T st a r)(h:pk s a false≠124): ∀n r,M s n 0 0 st=some r→RdE T st a r:=by
 intro n r hm
 cases n with
 |zero=>simp [M] at hm
 |succ n=>
  rw [M_0] at hm
  obtain⟨q,h1,h2⟩:=zgD.1 hm
  have k:=H n q h1
  cases n with
  |zero=>simp [M] at h2
  |succ n=>
   rw [z71,if_neg (by unfold pkS;rw [k.at_,k.bad];simpa using h)] at h2
   cases h2
   exact k
theorem zfA {lv:Nat}(hlv:lv≤7)(H: ∀n r,M s n lv 0 st=some r→RdE T st a r)(h45:lv=7→pkS s st≠45)(h33:3≤lv→pkS s st≠33): ∀d tag,tag+d=lv→qt s tag a→ ∀n r,M s n tag 0 st=some r→RdE T st a r:=by
 intro d
 induction d with
 |zero=>
   intro tag e _;have:tag=lv:=by omega
   subst this;exact H
 |succ d ih=>
  intro tag e q
  have k:=ih (tag+1) (by omega) (q.mono (by omega))
  match tag,q,k,e with
  |0,q,k,e=>exact up0 k (q.2.2.2.2 (by omega))
  |1,q,k,e=>exact up1 k (q.2.2.2.1 (by omega))
  |2,q,k,e=>exact up2 k (h33 (by omega))
  |3,q,k,e=>exact up3 k (q.2.2.1 (by omega))
  |4,q,k,e=>exact up4 k (q.2.1 (by omega))
  |5,q,k,e=>exact up5 k (q.1 (by omega))
  |6,q,k,e=>exact up6 k (h45 (by omega))
  |t+7,q,k,e=>omega
theorem z3g {lv tag:Nat}(hlv:lv≤7)(H: ∀n r,M s n lv 0 st=some r→RdE T st a r)(h45:lv=7→pkS s st≠45)(h33:3≤lv→pkS s st≠33)(ht:tag≤lv)(q:qt s tag a): ∀n r,M s n tag 0 st=some r→RdE T st a r:=zfA hlv H h45 h33 (lv - tag) tag (by omega) q
end
theorem z3P {E:List Ex}{x:Ex}{T:TE}(hE:z2o E [])(hv:VlE T)(hi:IsE (E++[x]) T (E.length:Int))(hz:tyE T≠0):z2o (E++[x]) []:=by
 refine(z3X _ _ _).2 ⟨hE,?_⟩
 have h1:=(z61 (z0e E x)).1
 rw [zaN hv hi,List.take_left] at h1
 exact⟨by rw [←h1];exact hz,trivial⟩
theorem z3D {st:St}{a:Nat}{f p:Int}{tx:zgS}{t:List UInt8}{r:Int×St}(h:jQ {st with at_:=a,bad:=false} ⟨f,p,tx,-1,-1⟩=some r)(ht:tx.data.toList=t)(hv:VlE (.lf f t))(hz:tyE (.lf f t)≠0):RdE (.lf f t) st a r:=by
 obtain⟨_,rfl⟩:=zj h
 subst ht
 have hi:IsE (st.E++[⟨f,p,tx,-1,-1⟩]) (.lf f tx.data.toList) (st.E.length:Int):=z4t
 exact⟨rfl,rfl,⟨⟨_,rfl⟩,rfl,rfl,rfl⟩,hi,fun hE=>z3P hE hv hi hz⟩
def zgr:TB→Nat
 | .inner 1 (_,t) _ _ _=>if t=[33] then 2 else 6
 |_=>7
def lvE (T:TE):Nat:=zgr (Subtype.val T)
theorem z4K (t:List UInt8)(a:TE):lvE (.pr t a)=if t=[33] then 2 else 6:=rfl
theorem zc1 (f:Int)(t:List UInt8):lvE (.lf f t)=7:=rfl
theorem zbF (t:List UInt8)(a b:TE):lvE (.pa t a b)=7:=rfl
theorem z2G {c:Int}(h:zk c=true):65≤c∧c≤122:=by
 unfold zk at h
 simp only [Bool.or_eq_true,Bool.and_eq_true,decide_eq_true_eq] at h
 omega
theorem z6N {c:Int}(h:zg c=true):48≤c∧c≤57:=by
 unfold zg at h
 simp only [Bool.and_eq_true,decide_eq_true_eq] at h
 omega
theorem zbQ {c:Int}(h:c<48∨57<c):zg c=false:=by
 unfold zg
 simp only [Bool.and_eq_false_iff,decide_eq_false_iff_not]
 omega
theorem z5h:z4y zbi∧z4y z7E:=by
 refine⟨⟨by decide,by decide,?_⟩,⟨by decide,by decide,?_⟩⟩<;>decide
theorem z0O {s:zgS}{a:Nat}{T:TE}(hv:VlE T)(h:At s a (prE T)):pk s a false≠32∧(lvE T≠2→pk s a false≠33)∧(lvE T=7→pk s a false≠45):=by
 have nm: ∀{t:List UInt8},z4y t→At s a t→65≤pk s a false:=fun{t} ht h=>by
  cases t with
  |nil=>have:=ht.1;simp at this
  |cons c cs=>rw [h.1];exact(z2G (ht.2.2 c List.mem_cons_self)).1
 cases T using TE.cas with
 |lf f t=>
  rw [zbP] at h
  rcases hv with⟨rfl,hn⟩|⟨rfl,hq⟩|⟨rfl,ht⟩|⟨rfl,hn,_⟩|⟨rfl,hn⟩
  ·have h:At s a t:=h
   cases t with
   |nil=>have:=hn.1;simp at this
   |cons c cs=>
    have:=z6N (hn.2.2.1 c List.mem_cons_self)
    rw [h.1]
    exact⟨by omega,fun _=>by omega,fun _=>by omega⟩
  ·have h:At s a (34::(t++[34])):=h
   rw [h.1]
   exact⟨by decide,fun _=>by decide,fun _=>by decide⟩
  ·have h:At s a t:=h
   have:=nm (by rcases ht with rfl|rfl;exact z5h.1;exact z5h.2) h
   exact⟨by omega,fun _=>by omega,fun _=>by omega⟩
  ·have:=nm hn h
   exact⟨by omega,fun _=>by omega,fun _=>by omega⟩
  ·have h:At s a (64::t):=h
   rw [h.1]
   exact⟨by decide,fun _=>by decide,fun _=>by decide⟩
 |pr t b=>
  rw [zbz] at h
  rcases hv.1 with rfl|rfl
  ·rw [h.1]
   exact⟨by decide,fun e=>absurd rfl e,fun e=>by simp [z4K] at e⟩
  ·rw [h.1]
   exact⟨by decide,fun e=>by decide,fun e=>by simp [z4K] at e⟩
 |pa t b c=>
  rw [zbH] at h
  rw [h.1]
  exact⟨by decide,fun _=>by decide,fun _=>by decide⟩
theorem z8N {T:TE}:lvE T≤7∧2≤lvE T:=by
 cases T using TE.cas with
 |lf f t=>rw [zc1];omega
 |pr t a=>rw [z4K];split<;>omega
 |pa t a b=>rw [zbF];omega
theorem z3d {T:TE}(h0:tyE T≠0)(h1:tyE T≠1):6≤lvE T:=by
 cases T using TE.cas with
 |lf f t=>rw [zc1];omega
 |pa t a b=>rw [zbF];omega
 |pr t b=>
  rw [z4K]
  split
  ·rename_i e
   exfalso
   subst e
   have e:tyE (.pr [33] b)=zY (tyE b==1) 1:=by
    show zv ⟨5,0,⟨#[33]⟩,-1,-1⟩ (tyE b) 0=_
    unfold zv
    simp [zgG]
   rw [e] at h0 h1
   unfold zY at h0 h1
   split at h0
   ·exact h1 (by rename_i q;rw [if_pos q])
   ·exact h0 rfl
  ·omega
theorem z6G {t:List UInt8}{a b:TE}(h:tyE (.pa t a b)≠0)(ht:cmS t∨smS t∨pdS t):tyE a≠1∧tyE b≠1:=by
 have e:tyE (.pa t a b)=zB ⟨t.toArray⟩ (tyE a) (tyE b):=by
  show zv ⟨6,0,⟨t.toArray⟩,-1,-1⟩ (tyE a) (tyE b)=_
  unfold zv
  simp
 rw [e] at h
 have key: ∀l r,l=1∨r=1→zB ⟨t.toArray⟩ l r=0:=by
  intro l r hlr
  unfold zB
  by_cases hl:l=r
  ·subst hl
   have hl:l=1:=by omega
   subst hl
   unfold cmS smS pdS at ht
   rcases ht with(rfl|rfl|rfl|rfl|rfl|rfl)|(rfl|rfl|rfl)|(rfl|rfl|rfl)<;>simp [jc,zY,zgG]
  ·rw [if_pos (by simpa using hl)]
 exact⟨fun e1=>h (key _ _ (.inl e1)),fun e1=>h (key _ _ (.inr e1))⟩
theorem zdm {b:TE}(h:tyE (.pr [45] b)≠0):tyE b≠1:=by
 intro e1
 refine h ?_
 show zv ⟨5,0,⟨#[45]⟩,-1,-1⟩ (tyE b) 0=0
 rw [e1]
 unfold zv
 simp [zgG,zY]
end Go.Proofs.YtkoohcilbpdgeaaGreatDoor
