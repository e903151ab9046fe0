import Derived.Test.YtkoohcilbpdgeaaGreatDoorC40
set_option linter.all false
set_option linter.unusedVariables false
set_option linter.unusedSimpArgs false
set_option linter.unnecessarySimpa false
set_option linter.constructorNameAsVariable false
set_option linter.deprecated false
set_option maxRecDepth 100000
set_option maxHeartbeats 6400000
namespace Go.Proofs.YtkoohcilbpdgeaaGreatDoor
open Go Go.RowKit
attribute [local go_sem] wrap64_byte
theorem reqs_ok {q:ByteArray}{l:List ByteArray}{ok:Bool}(h:(ok=false∧(rnM q).2=true∧q.size≠0)∨(rnM q=(l,false)∧q.size≠0∧ok=(decide (0≤l.length)&&decide (l.length≤4)))∨(q.size=0∧l=[]∧ok=decide (0=0))):
  (rqM q).2= !(ok&&decide (plM pol l 0<0))∧((rqM q).2=false→(rqM q).1=l):=by
 rcases h with⟨rfl,h2,h3⟩|⟨h1,h2,rfl⟩|⟨h1,rfl,rfl⟩
 ·have e:rqM q=([],true):=by unfold rqM;rw [if_neg h3,h2];rfl
  rw [e]
  exact⟨rfl,fun e=>by cases e⟩
 ·have hp:=plM_range pol l 0
  by_cases h4:4<l.length
  ·have e:rqM q=([],true):=by unfold rqM;rw [if_neg h2,h1];simp [h4]
   rw [e]
   refine⟨?_,fun e=>by cases e⟩
   have: ¬l.length≤4:=by omega
   simp [this]
  ·by_cases h5:plM pol l 0= -1
   ·have e:rqM q=(l,false):=by unfold rqM;rw [if_neg h2,h1];simp [h4,h5]
    rw [e]
    refine⟨?_,fun _=>rfl⟩
    have:l.length≤4:=by omega
    simp [this,h5]
   ·have e:rqM q=([],true):=by unfold rqM;rw [if_neg h2,h1];simp [h5]
    rw [e]
    refine⟨?_,fun e=>by cases e⟩
    have: ¬plM pol l 0<0:=by omega
    simp [this]
 ·have e:rqM q=([],false):=by unfold rqM;rw [if_pos h1]
  rw [e]
  exact⟨rfl,fun _=>rfl⟩
theorem asked1_long (s a v q:ByteArray)(st:St)(w:World)(hs:s.size≤maxLen)(ha:a.size≤maxLen)(hv:v.size≤maxLen)(hq:q.size≤maxLen)(h:600<s.size∨100<a.size∨60<v.size∨60<q.size):Calls Tryz.prog 57 #[.string s,.string a,.string v,.string q,.bool true] w fun e w'=>AkPost s a v q st w e w':=by
 unfold maxLen at hs ha hv hq
 have hres:Hid (grM s a v q st=1):=hide (by unfold grM;rw [if_pos];simp;omega)
 have fin: ∀(W':World),Below w.heap.size w W'→AkPost s a v q st w (.returned (.tuple #[.slice none 0 0,.slice none 0 0,.slice none 0 0,.slice none 0 0,.int .i64 1])) W':=fun W' hb=>⟨_,_,_,_,by rw [hres.out],hb,isSl_nil,isSl_nil,isSl_nil,isSl_nil,fun e=>by rw [hres.out] at e;cases e⟩
 have FIN:=hide fin
 clear fin hres
 by_cases h1:600<s.size
 ·have h1':(600:Int)<s.size:=by omega
  go_enter Tryz.func57,Tryz.ntmps57
  go_wp2_with fail
  (try simp only [Exit.inBlock,Exit.then])
  refine bodyPost_ret (results_tmp5 rfl _ _ _) rfl ?_
  exact FIN.out _ (Below.refl _ _)
 have h1': ¬(600:Int)<s.size:=by omega
 by_cases h2:100<a.size
 ·have h2':(100:Int)<a.size:=by omega
  go_enter Tryz.func57,Tryz.ntmps57
  go_wp2_with fail
  (try simp only [Exit.inBlock,Exit.then])
  refine bodyPost_ret (results_tmp5 rfl _ _ _) rfl ?_
  exact FIN.out _ (Below.refl _ _)
 have h2': ¬(100:Int)<a.size:=by omega
 by_cases h3:60<v.size
 ·have h3':(60:Int)<v.size:=by omega
  go_enter Tryz.func57,Tryz.ntmps57
  go_wp2_with fail
  (try simp only [Exit.inBlock,Exit.then])
  refine bodyPost_ret (results_tmp5 rfl _ _ _) rfl ?_
  exact FIN.out _ (Below.refl _ _)
 have h3': ¬(60:Int)<v.size:=by omega
 have h4':(60:Int)<q.size:=by omega
 go_enter Tryz.func57,Tryz.ntmps57
 go_wp2_with fail
 (try simp only [Exit.inBlock,Exit.then])
 refine bodyPost_ret (results_tmp5 rfl _ _ _) rfl ?_
 exact FIN.out _ (Below.refl _ _)
theorem asked1_short (s a v q:ByteArray)(st:St)(w:World)(hs:s.size≤600)(ha:a.size≤100)(hv:v.size≤60)(hq:q.size≤60)(h:Calls Tryz.prog 49 #[.string s] w fun e w'=>RdPost s st w e w')(hg:GoodE st.E)(hcov:CovA st)(hA:st.A.length≤100000)(hCl: ∀c∈st.C,c.length≤100000)(hvl:(vlM v).1.length≤100000):
  Calls Tryz.prog 57 #[.string s,.string a,.string v,.string q,.bool true] w fun e w'=>AkPost s a v q st w e w':=by
 have hs': ¬(600:Int)<s.size:=by omega
 have ha': ¬(100:Int)<a.size:=by omega
 have hv': ¬(60:Int)<v.size:=by omega
 have hq': ¬(60:Int)<q.size:=by omega
 have hgr:Hid (grM s a v q st=if(ckM s st).1 !=0 then(ckM s st).1 else if(raM a).2||(vlM v).2||(rqM q).2 then 6 else if hoM (vlM v).1 st.C then 7 else 0):=hide (by unfold grM;rw [if_neg];simp;omega)
 have H:=hide h
 have HG:=hide (And.intro hg hCl)
 have HA:=hide (fun W=>attributes_any a W (by omega))
 have HV:=hide (fun W=>values_any v W (by omega))
 obtain⟨fk,hcov⟩:=hcov
 obtain⟨A,A0,A1,AP⟩:=SegB.parts _ _ _ hcov
 have hAle: ∀i,i<st.A.length→A i≤A (i+1):=fun i hi=>by
  obtain⟨k,_,q2,q3⟩:=AP i _ (List.getElem?_eq_getElem hi)
  have:=q2.a_le
  omega
 have HP:=hide (And.intro AP (asB_all (vals:=(vlM v).1) A0 A1 hAle))
 clear h hg hCl hcov A0 A1 AP hAle
 go_enter Tryz.func57,Tryz.ntmps57
 go_wp2_with fail
 refine H.out.mono ?_
 rintro e w1 ⟨lv,rfl,hB,⟨a1,n1,k1,hlv⟩,htr⟩
 subst hlv
 have HB1:=hide hB
 have HTR:=hide htr
 clear hB htr H
 generalize ckM s st=ck at*
 obtain⟨ck1,ck2⟩:=ck
 simp only at*
 cases hz:(ck1 !=0)
 case true=>
  have hres:Hid (grM s a v q st=ck1):=hide (by rw [hgr.out,hz];rfl)
  go_wp2_with fail
  (try simp only [Exit.inBlock,Exit.then])
  refine bodyPost_ret (results_tmp5 rfl _ _ _) rfl ?_
  exact⟨_,_,_,_,by rw [hres.out];simp,HB1.out,isSl_nil,isSl_nil,isSl_nil,isSl_nil,fun e=>by rw [hres.out] at e;subst e;simp at hz⟩
 have hck0:ck1=0:=by simpa using hz
 subst hck0
 obtain⟨f2,ps,how,hseg⟩:=HTR.out rfl
 have hn1:n1=st.A.length:=by
  obtain⟨a2,k2,e2⟩:=ownsRow_slc how
  injection e2
 subst hn1
 have HW:=hide how
 have HS:=hide hseg
 have hpl:=hide (SegA.len _ _ _ _ _ _ hseg)
 have HA1:=hide (HA.out w1)
 clear how hseg HTR hz HA
 go_wp2_with fail
 refine HA1.out.mono ?_
 rintro e w2 ⟨a2,n2,k2,rfl,hB2,hO2⟩
 have HB2:=hide hB2
 have HO2:=hide hO2
 have HB12:=hide (HB1.out.trans (hB2.mono HB1.out.size))
 have HV1:=hide (HV.out w2)
 clear hB2 hO2 HV HA1
 go_wp2_with fail
 refine HV1.out.mono ?_
 rintro e w3 ⟨a3,n3,k3,rfl,hB3,hO3⟩
 have HB3:=hide hB3
 have HO3:=hide hO3
 have HB13:=hide (HB12.out.trans (hB3.mono HB12.out.size))
 have HB23:=hide (HB2.out.trans (hB3.mono HB2.out.size))
 clear hB3 hO3 HV1
 have HN:=hide (names_gen q 0 4 w3 (by omega) (by omega) (by omega))
 go_wp2_with fail
 refine HN.out.mono ?_
 rintro e w5 ⟨a5,n5,k5,l5,ok,rfl,hB5,hO5,hl5,hcs⟩
 have hn5:n5=l5.length:=by
  obtain⟨qa,qk,q⟩:=ownsRow_slice hO5
  injection q with _ q _
 subst hn5
 have HPL:=hide (placeR_any _ l5 _ pol w5 hO5 (by omega))
 have hpr:=plM_range pol l5 0
 have hzq:Hid ((rqM q).2= !(ok&&decide (plM pol l5 0<0))∧((rqM q).2=false→(rqM q).1=l5)):=hide (reqs_ok hcs)
 unfold pol at HPL hzq hpr
 generalize plM ⟨#[80,79,76,73,67,89]⟩ l5 0=pz at*
 have HO5:=hide hO5
 have HB35:=hide hB5
 have HB25:=hide (HB3.out.trans (hB5.mono HB3.out.size))
 have HB15:=hide (HB13.out.trans (hB5.mono HB13.out.size))
 have HB35':=hide (HB23.out.trans (hB5.mono HB23.out.size))
 clear hB5 hO5 hcs HN hpr
 go_wp2_with fail
 refine HPL.out.mono ?_
 rintro e w6 ⟨rfl,rfl⟩
 clear HPL
 have hzz:Hid (∀b:Bool,(!(ok&&decide (pz<0)))=b→(rqM q).2=b):=hide fun b e=>by rw [hzq.out.1,e]
 cases hzo:(ok&&decide (pz<0))
 case false=>
  have hrq:(rqM q).2=true:=hzz.out true (by rw [hzo];rfl)
  have hres:Hid (grM s a v q st=6):=hide (by rw [hgr.out,hrq];simp)
  cases ok
  all_goals cases hra:(raM a).2
  all_goals cases hva:(vlM v).2
  all_goals by_cases hpz:pz<0
  all_goals first|(exfalso;simp [hpz] at hzo;done)|skip
  all_goals go_wp2_with fail
  all_goals (try simp only [Exit.inBlock,Exit.then])
  all_goals refine bodyPost_ret (results_tmp5 rfl _ _ _) rfl ?_
  all_goals exact⟨_,_,_,_,by rw [hres.out];rfl,HB15.out,isSl_nil,isSl_nil,isSl_nil,isSl_nil,fun e=>by rw [hres.out] at e;cases e⟩
 have hrq:(rqM q).2=false:=hzz.out false (by rw [hzo];rfl)
 have hrl:Hid ((rqM q).1=l5):=hide (hzq.out.2 hrq)
 have hok:ok=true∧pz<0:=by simpa using hzo
 obtain⟨rfl,hpz⟩:=hok
 clear hzo hzz hzq
 cases hra:(raM a).2
 case true=>
  have hres:Hid (grM s a v q st=6):=hide (by rw [hgr.out,hra];rfl)
  go_wp2_with fail
  (try simp only [Exit.inBlock,Exit.then])
  refine bodyPost_ret (results_tmp5 rfl _ _ _) rfl ?_
  exact⟨_,_,_,_,by rw [hres.out];rfl,HB15.out,isSl_nil,isSl_nil,isSl_nil,isSl_nil,fun e=>by rw [hres.out] at e;cases e⟩
 cases hva:(vlM v).2
 case true=>
  have hres:Hid (grM s a v q st=6):=hide (by rw [hgr.out,hra,hva,hrq];rfl)
  go_wp2_with fail
  (try simp only [Exit.inBlock,Exit.then])
  refine bodyPost_ret (results_tmp5 rfl _ _ _) rfl ?_
  exact⟨_,_,_,_,by rw [hres.out];rfl,HB15.out,isSl_nil,isSl_nil,isSl_nil,isSl_nil,fun e=>by rw [hres.out] at e;cases e⟩
 have hgr2:Hid (grM s a v q st=if hoM (vlM v).1 st.C then 7 else 0):=hide (by rw [hgr.out,hra,hva,hrq];rfl)
 have HO2':=hide (HO2.out hra)
 have HO3':=hide (HO3.out hva)
 have hn3:n3=(vlM v).1.length:=by
  obtain⟨qa,qk,q⟩:=ownsRow_slice HO3'.out
  injection q with _ q _
 subst hn3
 clear hgr HO2 HO3 hra hva
 go_wp2_with fail
 go_loopg [25] (st.A.length+1) (fun n iv wr=> ∃i:Nat,n+i=st.A.length+1∧i≤st.A.length∧iv= .int .i64 i∧Hid (Below w6.heap.size w6 wr)∧Hid (allF (fun i=>okB (vlM v).1 st.C (A i) (A (i+1))) (st.A.length - i) i= !hoM (vlM v).1 st.C))
 case atStart=>exact⟨0,rfl,Nat.zero_le _,rfl,hide (Below.refl _ _),hide HP.out.2⟩
 case round=>
  obtain⟨i,hk,hiE,rfl,HBR,hfin⟩:=hrel
  have hHK:=hide hk
  clear hk
  by_cases hlt:i<st.A.length
  ·obtain⟨g,cap,hvx,hb,hgl⟩:=HW.out.form (by omega)
   injection hvx with e1 e2 e3
   subst e1 e3
   obtain⟨pp,hpp⟩: ∃pp,ps[i]?=some pp:=⟨ps[i]'(by have:=hpl.out;omega),List.getElem?_eq_getElem _⟩
   obtain⟨x,a',b',e',g',hx,li,ci,r1,r2,r3,r4,r5⟩:=SegA.get _ _ _ _ _ _ i pp HS.out hpp
   have c2:w1.cell? ⟨g,i*3+2,none⟩=some (.pointer pp.2):=row_cell HW.out _ _ ((rowA_get hpp hx (by omega)).trans rfl)
   have hB1r:=HB35'.out.trans (HBR.out.mono HB35'.out.size)
   have q2:=(hB1r.cell (p:=⟨g,i*3+2,none⟩) hgl).trans c2
   obtain⟨kx,z1,z2,z3⟩:=HP.out.1 i x hx
   have hkc:kx=ci:=by rw [r2] at z1;omega
   subst hkc
   have hC:=valued_CX HG.out.1 (vlM v).1 _ (.slice a3 (vlM v).1.length k3) hvl HG.out.2 f2 _ kx b' g' fk (A i) wr (r5.keepX (below_same hB1r)) z2 (ownsRow_same HO3'.out fun q e=>(HB35.out.trans (HBR.out.mono HB35.out.size)).block q (HO3'.out.lt q e).2)
   rw [←z3] at hC
   have HC:=hide hC
   have hst:Hid ((!hoM (vlM v).1 st.C)=(okB (vlM v).1 st.C (A i) (A (i+1))&&allF (fun i=>okB (vlM v).1 st.C (A i) (A (i+1))) (st.A.length -(i+1)) (i+1))):=hide (by
    rw [←hfin.out]
    obtain⟨m,hm⟩: ∃m,st.A.length - i=m+1:=⟨st.A.length - i - 1,by omega⟩
    rw [hm,show st.A.length -(i+1)=m by omega]
    rfl)
   have hlt':(i:Int)<st.A.length:=by omega
   have HWB:=hide (HB15.out.trans (HBR.out.mono HB15.out.size))
   clear hC hB1r c2 hpp hx r4 r5 hfin z1 z2 z3 r1 r2 r3
   cases hbi:okB (vlM v).1 st.C (A i) (A (i+1))
   case true=>
    rw [hbi] at HC
    have HS2:Hid (allF (fun i=>okB (vlM v).1 st.C (A i) (A (i+1))) (st.A.length -(i+1)) (i+1)= !hoM (vlM v).1 st.C):=hide (by rw [hst.out,hbi];rfl)
    clear hbi hst
    go_wp2_with fail
    refine HC.out.mono ?_
    rintro e w4 ⟨rfl,hB4⟩
    have HB4:=hide (HBR.out.trans (hB4.mono HBR.out.size))
    clear hB4
    go_wp2_with fail
    have hk:=hHK.out
    go_roundg (st.A.length - i)
    case measure=>omega
    case rel=>exact⟨i+1,by omega,by omega,by go_num,HB4,HS2⟩
   case false=>
    rw [hbi] at HC
    have hres:Hid (grM s a v q st=7):=hide (by
     have:hoM (vlM v).1 st.C=true:=by have q:=hst.out;rw [hbi] at q;simpa using q
     rw [hgr2.out,this];rfl)
    clear hbi hst
    go_wp2_with fail
    refine HC.out.mono ?_
    rintro e w4 ⟨rfl,hB4⟩
    have HB4:=hide (HWB.out.trans (hB4.mono HWB.out.size))
    clear hB4
    go_wp2_with fail
    (try simp only [Exit.inBlock,Exit.then])
    refine bodyPost_ret (results_tmp5 rfl _ _ _) rfl ?_
    exact⟨_,_,_,_,by rw [hres.out];rfl,HB4.out,isSl_nil,isSl_nil,isSl_nil,isSl_nil,fun e=>by rw [hres.out] at e;cases e⟩
  ·have hlt': ¬(i:Int)<st.A.length:=by omega
   have hres:Hid (grM s a v q st=0):=hide (by
    have:hoM (vlM v).1 st.C=false:=by
     have q:=hfin.out
     rw [show st.A.length - i=0 by omega] at q
     have q:true= !hoM (vlM v).1 st.C:=q
     cases hh:hoM (vlM v).1 st.C
     ·rfl
     ·rw [hh] at q;cases q
    rw [hgr2.out,this];rfl)
   have hB1r:=hide (HB35'.out.trans (HBR.out.mono HB35'.out.size))
   have hB2r:=hide (HB25.out.trans (HBR.out.mono HB25.out.size))
   have hB3r:=hide (HB35.out.trans (HBR.out.mono HB35.out.size))
   have HWB:=hide (HB15.out.trans (HBR.out.mono HB15.out.size))
   go_wp2_with fail
   (try simp only [Exit.inBlock,Exit.then])
   refine bodyPost_ret (results_tmp5 rfl _ _ _) rfl ?_
   refine⟨_,_,_,_,by rw [hres.out];rfl,HWB.out,⟨_,_,_,rfl⟩,⟨_,_,_,rfl⟩,⟨_,_,_,rfl⟩,⟨_,_,_,rfl⟩,fun _=>⟨f2,ps,?_,?_,?_,?_,?_⟩⟩
   ·exact ownsRow_same HW.out fun q e=>hB1r.out.block q (HW.out.lt q e).2
   ·exact SegA.imp (fun p x a b e g ⟨i,ci,q1,q2,q3,q4,q5⟩=>⟨i,ci,q1,q2,q3,q4.keepX (below_same hB1r.out),q5.keepX (below_same hB1r.out)⟩) _ _ _ _ _ _ HS.out
   ·exact ownsRow_base (ownsRow_same HO2'.out fun q e=>hB2r.out.block q (HO2'.out.lt q e).2) HB1.out.size
   ·exact ownsRow_base (ownsRow_same HO3'.out fun q e=>hB3r.out.block q (HO3'.out.lt q e).2) HB12.out.size
   ·rw [hrl.out];exact ownsRow_base (ownsRow_same HO5.out fun q e=>HBR.out.block q (HO5.out.lt q e).2) HB13.out.size
theorem ckM_zero {s:ByteArray}{st:St}(h:(ckM s st).1=0):s.size≤600∧st.bad=false∧st.A.length≤8∧cfM st.L (-1)= -1:=by
 unfold ckM at h
 split at h
 ·cases h
 ·split at h
  ·cases h
  ·split at h
   ·cases h
   ·split at h
    ·cases h
    ·rename_i h1 h2 h3 h4
     exact⟨by omega,by simpa using h2,by omega,by simpa using h4⟩
theorem counts_ok {s:ByteArray}{n:Nat}{st:St}(hM:MR s n st0=some st)(hck:(ckM s st).1=0): ∀x∈st.L,x.form=2→1≤x.count:=by
 obtain⟨hs,_,_,hcf⟩:=ckM_zero hck
 obtain⟨e,w',fr,⟨lv,_,_,_,h⟩,_⟩:=read_short s n st (World.holding Tryz.prog default ⟨#[],#[],[]⟩) hM hs []
 obtain⟨f,ps,_,h⟩:=h hck
 have hg:=MR_good s n st0 st hM good0
 have hmf:=fewA (fun x hx=>(hg.l x hx).2) ps st.A 0 0 st.L.length st.E.length 0 st.at_ h hg.o
 have hr:=hmf.cf
 rw [hcf] at hr
 intro x hx hf
 obtain⟨j,hj⟩:=List.mem_iff_getElem?.1 hx
 have hjl:=(List.getElem?_eq_some_iff.1 hj).1
 have hno:flty x=false:=by
  rcases hmf.min with⟨_,q⟩|⟨j',y,_,q1,q2,q3,q4,_⟩
  ·exact q j x (Nat.zero_le _) hjl hj
  ·have:=(hmf.span j' y (Nat.zero_le _) q1 q2 q3).1
   omega
 unfold flty at hno
 rw [hf] at hno
 simp at hno
 exact hno.1
theorem vlM_five {v:ByteArray}:(vlM v).1.length≤5:=by
 unfold vlM
 split
 ·exact Nat.zero_le _
 ·rename_i q
  simp only [Bool.or_eq_true,not_or,decide_eq_true_eq] at q
  show(rnM v).1.length≤5
  omega
theorem queryR_of (s a v q:ByteArray)(st:St)(w:World)(h:Calls Tryz.prog 57 #[.string s,.string a,.string v,.string q,.bool true] w fun e w'=>AkPost s a v q st w e w')(hg:GoodE st.E)(hcov:CovA st)(hCl: ∀c∈st.C,c.length≤100000)(hll:(raM a).1.length≤100000)(hls: ∀p∈(raM a).1,p.2.size≤600)(hEs: ∀x∈st.E,x.text.size≤600)(hit: ∀x∈st.L,x.items.length≤100000)
  (hW:grM s a v q st=0→ ∀x∈worthsM (raM a).1 st.E [],x.text.size≤100000000∧ -999999999≤x.num∧x.num≤999999999) (hcnt:grM s a v q st=0→ ∀x∈st.L,x.form=2→1≤x.count):
  Calls Tryz.prog 32 #[.string s,.string a,.string v,.string q] w fun e w'=>WoPost (quM s a v q st).1 (quM s a v q st).2 w e w':=by
 have HC:=hide h
 have hco:Hid (quM s a v q st=if grM s a v q st !=0 then(⟨#[]⟩,grM s a v q st) else
  (vaM (vlM v).1 (stM st.A (rqM q).1 ((vlM v).1.length - 1) (gvM st.A st.L (rqM q).1 ((vlM v).1.length - 1) (lvsM (vlM v).1 (worthsM (raM a).1 st.E []) st.C []) st.A.length) pol),0)):=hide rfl
 have HG:=hide (And.intro hg (And.intro hcov (And.intro hCl (And.intro hls (And.intro hEs (And.intro hit (And.intro hW hcnt)))))))
 have hzz:=hide (@grM_zero s a v q st)
 clear h hg hcov hCl hls hEs hit hW hcnt
 go_enter Tryz.func32,Tryz.ntmps32
 go_wp2_with fail
 refine HC.out.mono ?_
 rintro e w1 ⟨x1,x2,x3,x4,rfl,hB1,⟨a1,n1,k1,rfl⟩,⟨a2,n2,k2,rfl⟩,⟨a3,n3,k3,rfl⟩,⟨a4,n4,k4,rfl⟩,hQ⟩
 have HB1:=hide hB1
 have HQ:=hide hQ
 clear hB1 hQ HC
 generalize grM s a v q st=E at*
 cases hEz:(E !=0)
 case true=>
  have hres:Hid (quM s a v q st=(⟨#[]⟩,E)):=hide (by rw [hco.out,hEz];rfl)
  go_wp2_with fail
  go_ret2
  exact⟨by rw [hres.out];rfl,HB1.out⟩
 have hE0:E=0:=by simpa using hEz
 subst hE0
 obtain⟨f,ps,how,hseg,hO2,hO3,hO4⟩:=HQ.out rfl
 obtain⟨hvz,_,hck,_,_,_⟩:=hzz.out rfl
 have hv2:=vlM_two hvz
 have hA8:=(ckM_zero hck).2.2.1
 obtain⟨hg,hcov,hCl,hls,hEs,hit,hW,hcnt⟩:=HG.out
 have HSN:=hide (stands_any st f ps _ _ _ _ _ (raM a).1 (vlM v).1 (rqM q).1 _ _ w1 how hseg hO2 hO3 hO4 hg hcov hA8 hCl vlM_five (by omega) (rqM_len q) hll hls hEs (hW rfl) (hcnt rfl) hit)
 have hn3:n3=(vlM v).1.length:=by
  obtain⟨qa,qk,q⟩:=ownsRow_slice hO3
  injection q with _ q _
 subst hn3
 have hWr:Lvr ((vlM v).1.length - 1) (lvsM (vlM v).1 (worthsM (raM a).1 st.E []) st.C []):=rng_of fun x hx=>by
  have:=lvsM_range (vlM v).1 (worthsM (raM a).1 st.E []) (by omega) st.C [] (fun x h=>by cases h) x hx
  omega
 have hrg:=stM_rng (A:=st.A) (qs:=(rqM q).1) (gv_rng (A:=st.A) (L:=st.L) (qs:=(rqM q).1) hWr st.A.length) pol
 have hco2:Hid (quM s a v q st=(vaM (vlM v).1 (stM st.A (rqM q).1 ((vlM v).1.length - 1) (gvM st.A st.L (rqM q).1 ((vlM v).1.length - 1) (lvsM (vlM v).1 (worthsM (raM a).1 st.E []) st.C []) st.A.length) pol),0)):=hide (by rw [hco.out];rfl)
 have HO3:=hide hO3
 clear hco HG hW hcnt hit hls hEs hCl hcov hg how hseg hO2 hO3 hO4 HQ hEz hzz hWr
 go_wp2_with fail
 refine HSN.out.mono ?_
 rintro e w2 ⟨sl,v5,rfl,hsd,hat,hsl,hB2⟩
 obtain⟨b5,k5,rfl⟩:=hsd.slice
 have hat5:=hat pol
 have HAT:=hide (fun N=>atR_any _ sl _ pol (w2.drewN N) (hsd.same fun k e=>rfl) (by omega))
 have hres:Hid (quM s a v q st=(vaM (vlM v).1 (atM sl pol),0)):=hide (by rw [hco2.out,hat5])
 rw [←hat5] at hrg
 have HB2:=hide (HB1.out.trans (hB2.mono HB1.out.size))
 have hO3:=ownsRow_same HO3.out fun k e=>hB2.block k (HO3.out.lt k e).2
 unfold pol at HAT hres hrg
 generalize atM sl ⟨#[80,79,76,73,67,89]⟩=lev at*
 obtain⟨m,rfl⟩:=Int.eq_ofNat_of_zero_le hrg.1
 have hm:m<(vlM v).1.length:=by omega
 obtain⟨y,hy⟩: ∃y,(vlM v).1[m]?=some y:=⟨(vlM v).1[m],List.getElem?_eq_getElem hm⟩
 have hres2:Hid (quM s a v q st=(y,0)):=hide (by
  rw [hres.out]
  unfold vaM
  rw [if_neg (by omega)]
  simp [List.getD,hy])
 obtain⟨g3,cap3,hv3,hb3,hg3⟩:=hO3.form (by omega)
 injection hv3 with e1 e2 e3
 subst e1 e3
 have c3:w2.cell? ⟨g3,m,none⟩=some (.string y):=row_cell hO3 _ _ (by rw [List.getElem?_map,hy];rfl)
 have hm':(m:Int)<(vlM v).1.length:=by omega
 clear hres hco2 hat hat5 hsd hB2 hO3 HO3 HSN hy hrg
 go_wp2_with fail
 refine(HAT.out 0).mono ?_
 rintro e w3 ⟨rfl,rfl⟩
 go_wp2_with fail
 go_ret2
 exact⟨by rw [hres2.out];rfl,HB2.out⟩
theorem query_nz (s a v q:ByteArray)(st:St)(w:World)(h:Calls Tryz.prog 34 #[.string s,.string a,.string v,.string q] w fun e w'=>GrPost s a v q st w e w')(E:Int)(hE:grM s a v q st=E)(hn:(E !=0)=true):
  Calls Tryz.prog 19 #[.string s,.string a,.string v,.string q] w fun e w'=>WoPost ⟨#[]⟩ E w e w':=by
 have HC:=hide h
 have HE:=hide hE
 clear h hE
 go_enter Tryz.func19,Tryz.ntmps19
 go_wp2_with fail
 refine HC.out.mono ?_
 rintro e w1 ⟨x1,x2,x3,x4,x5,x6,x7,rfl,hB1,⟨a1,n1,k1,rfl⟩,⟨a2,n2,k2,rfl⟩,⟨a3,n3,k3,rfl⟩,⟨a4,n4,k4,rfl⟩,⟨a5,n5,k5,rfl⟩,⟨a6,n6,k6,rfl⟩,⟨a7,n7,k7,rfl⟩,hG⟩
 rw [HE.out] at*
 have HB2:=hide (hB1.alloc hB1.size (.cells #[.int .i64 E,.slice a1 n1 k1,.slice a2 n2 k2,.slice a3 n3 k3,.slice a4 n4 k4,.slice a5 n5 k5,.slice a6 n6 k6,.slice a7 n7 k7] 58))
 clear hG hB1 HC HE
 go_wp2_with fail
 go_quiet (fail)
 go_wp2_with fail
 go_ret2
 exact⟨rfl,⟨HB2.out.os,HB2.out.tape,HB2.out.output,HB2.out.size,HB2.out.block⟩⟩
theorem queryR_nz (s a v q:ByteArray)(st:St)(w:World)(h:Calls Tryz.prog 57 #[.string s,.string a,.string v,.string q,.bool true] w fun e w'=>AkPost s a v q st w e w')(E:Int)(hE:grM s a v q st=E)(hn:(E !=0)=true):
  Calls Tryz.prog 32 #[.string s,.string a,.string v,.string q] w fun e w'=>WoPost ⟨#[]⟩ E w e w':=by
 have HC:=hide h
 have HE:=hide hE
 clear h hE
 go_enter Tryz.func32,Tryz.ntmps32
 go_wp2_with fail
 refine HC.out.mono ?_
 rintro e w1 ⟨x1,x2,x3,x4,rfl,hB1,⟨a1,n1,k1,rfl⟩,⟨a2,n2,k2,rfl⟩,⟨a3,n3,k3,rfl⟩,⟨a4,n4,k4,rfl⟩,hQ⟩
 rw [HE.out] at*
 have HB1:=hide hB1
 clear hB1 hQ HC HE
 go_wp2_with fail
 go_ret2
 exact⟨rfl,HB1.out⟩
structure Ask (s a v q:ByteArray)(st:St):Prop where
 gr: ∀w,Calls Tryz.prog 34 #[.string s,.string a,.string v,.string q] w fun e w'=>GrPost s a v q st w e w'
 ak: ∀w,Calls Tryz.prog 57 #[.string s,.string a,.string v,.string q,.bool true] w fun e w'=>AkPost s a v q st w e w'
 mr: ∃n,MR s n st0=some st
 ea:st.A.length≤10010
 el:st.L.length≤10010
 ee:st.E.length≤10010
 ec:st.C.length≤10010
 cl: ∀c∈st.C,c.length≤100000
 cov:CovA st
 gd:GoodS st
 es: ∀x∈st.E,x.text.size≤600
 ra:(∀p∈(raM a).1,p.2.size≤600)∧(raM a).1.length≤100000
 w:grM s a v q st=0→ ∀x∈worthsM (raM a).1 st.E [],x.text.size≤100000000∧ -999999999≤x.num∧x.num≤999999999
theorem ask_short (s a v q:ByteArray)(hs:s.size≤600)(ha:a.size≤100)(hv:v.size≤60)(hq:q.size≤60): ∃st,Ask s a v q st:=by
 obtain⟨n,st,hM,hA,hL,hE,hC⟩:=MR_all s hs
 have hz:Sz st:=MR_sz s hs n st0 st hM ⟨fun x h=>(by cases h),fun x h=>(by cases h),fun x h=>(by cases h),fun x h=>(by cases h)⟩
 have hcl:=MR_clo s n st0 st hM (fun c h=>by cases h)
 have hcv:=MR_cov s n st0 st hM cov0
 have hgd:=MR_good s n st0 st hM good0
 have hvl:=vlM_len v
 exact⟨st,fun w=>ground_short s a v q st w hs ha hv hq (fun W=>checkSet_short s n st W hM hs (by omega) (by omega) (by omega)) (by omega) hcl hvl,
  fun w=>asked1_short s a v q st w hs ha hv hq (read_short s n st w hM hs) hgd.e hcv (by omega) hcl hvl,⟨n,hM⟩,hA,hL,hE,hC,hcl,hcv,hgd,hz.1,raM_sizes a (by omega),fun h0=>set_small (a:=a) (v:=v) (q:=q) hM (by omega) h0⟩
theorem Ask.two {s a v q:ByteArray}{st:St}(h:grM s a v q st=0):2≤(vlM v).1.length:=vlM_two (grM_zero h).1
theorem Ask.lok {s a v q:ByteArray}{st:St}(h:Ask s a v q st):LOk st:=⟨by have:=h.el;omega,fun x hx=>(h.gd.l x hx).1⟩
theorem Ask.cnt {s a v q:ByteArray}{st:St}(h:Ask s a v q st)(h0:grM s a v q st=0): ∀x∈st.L,x.form=2→1≤x.count:=by
 obtain⟨n,hM⟩:=h.mr
 exact counts_ok hM (grM_zero h0).2.2.1
theorem Ask.query {s a v q:ByteArray}{st:St}(h:Ask s a v q st)(w:World):Calls Tryz.prog 19 #[.string s,.string a,.string v,.string q] w fun e w'=>WoPost (quM s a v q st).1 (quM s a v q st).2 w e w':=
 query_of s a v q st w (h.gr w) (by have:=h.ee;omega) (by have:=h.ea;omega) (by have:=h.ec;omega) h.cl (vlM_len v) h.ra.2 h.ra.1 h.es h.lok (fun h0 x hx=>(h.w h0 x hx).1) (fun h0=>by have:=Ask.two h0;omega)
theorem Ask.queryR {s a v q:ByteArray}{st:St}(h:Ask s a v q st)(w:World):Calls Tryz.prog 32 #[.string s,.string a,.string v,.string q] w fun e w'=>WoPost (quM s a v q st).1 (quM s a v q st).2 w e w':=
 queryR_of s a v q st w (h.ak w) h.gd.e h.cov h.cl h.ra.2 h.ra.1 h.es (fun x hx=>(h.gd.l x hx).1) h.w h.cnt
theorem grM_long {s a v q:ByteArray}(h: ¬(s.size≤600∧a.size≤100∧v.size≤60∧q.size≤60))(st:St):grM s a v q st=1:=by unfold grM;rw [if_pos];simp;omega
theorem query_both (s a v q:ByteArray)(hs:s.size≤maxLen)(ha:a.size≤maxLen)(hv:v.size≤maxLen)(hq:q.size≤maxLen): ∃(t:ByteArray) (r:Int),(∀w,Calls Tryz.prog 19 #[.string s,.string a,.string v,.string q] w fun e w'=>WoPost t r w e w')∧(∀w,Calls Tryz.prog 32 #[.string s,.string a,.string v,.string q] w fun e w'=>WoPost t r w e w'):=by
 by_cases h:s.size≤600∧a.size≤100∧v.size≤60∧q.size≤60
 ·obtain⟨st,hA⟩:=ask_short s a v q h.1 h.2.1 h.2.2.1 h.2.2.2
  exact⟨_,_,hA.query,hA.queryR⟩
 ·have h1:=grM_long h st0
  exact⟨⟨#[]⟩,1,fun w=>query_nz s a v q st0 w (ground_long s a v q st0 w hs ha hv hq (by omega)) 1 h1 rfl,fun w=>queryR_nz s a v q st0 w (asked1_long s a v q st0 w hs ha hv hq (by omega)) 1 h1 rfl⟩
end Go.Proofs.YtkoohcilbpdgeaaGreatDoor
