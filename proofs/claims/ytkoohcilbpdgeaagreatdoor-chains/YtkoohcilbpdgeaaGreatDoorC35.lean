import Derived.Test.YtkoohcilbpdgeaaGreatDoorC34
set_option linter.all false
set_option linter.unusedVariables false
set_option linter.unusedSimpArgs false
set_option linter.unnecessarySimpa false
set_option linter.constructorNameAsVariable false
set_option linter.deprecated false
set_option maxRecDepth 100000
set_option maxHeartbeats 6400000
namespace Go.Proofs.YtkoohcilbpdgeaaGreatDoor
open Go Go.RowKit
attribute [local go_sem] wrap64_byte
theorem results_tmp5 {fn:Func}{a b c d f:Tmp}(h:fn.results= #[.tmp a,.tmp b,.tmp c,.tmp d,.tmp f])(tmps:Array Value)(P:Program)(w:World):
  (results fn tmps).run P w= .ok (.tuple #[tmps.getD a undef,tmps.getD b undef,tmps.getD c undef,tmps.getD d undef,tmps.getD f undef]) w:=by
 simp [results,h]
theorem SegB.parts {P:As→Nat→Nat→Prop}: ∀(cs:List As) (a e:Nat),SegB P cs a e→ ∃A:Nat→Nat,A 0=a∧A cs.length=e∧ ∀i c,cs[i]?=some c→P c (A i) (A (i+1)):=by
 intro cs
 induction cs with
 |nil=>intro a e h;have h:a=e:=h;exact⟨fun _=>a,rfl,h,fun i c hc=>by simp at hc⟩
 |cons x cs ih=>
  intro a e ⟨m,h1,h2⟩
  obtain⟨A,q1,q2,q3⟩:=ih _ _ h2
  refine⟨fun i=>match i with|0=>a|i+1=>A i,rfl,q2,fun i c hc=> ?_⟩
  cases i with
  |zero=>
   have e:x=c:=by simpa using hc
   subst e
   show P x a (A 0)
   rw [q1];exact h1
  |succ i=>exact q3 i c (by simpa using hc)
theorem asB_all {vals:List ByteArray}{C:List (List Cl)}{n:Nat}{A:Nat→Nat}(h0:A 0=0)(h1:A n=C.length)(hle: ∀i,i<n→A i≤A (i+1)):allF (fun i=>okB vals C (A i) (A (i+1))) n 0= !hoM vals C:=by
 have key:(!hoM vals C)=okB vals C 0 C.length:=by
  rw [Bool.eq_iff_iff,okB_iff]
  unfold hoM
  simp only [Bool.not_eq_true',List.any_eq_false,Bool.not_eq_true]
  constructor
  ·intro h i _ hi
   simp only [List.getD,List.getElem?_eq_getElem hi,Option.getD_some,List.all_eq_true]
   intro c hc
   have:=h _ (List.getElem_mem hi)
   have q:=this c hc
   rw [q];rfl
  ·intro h cls hm c hc
   obtain⟨i,hi,rfl⟩:=List.getElem_of_mem hm
   have q:=h i (Nat.zero_le _) hi
   simp only [List.getD,List.getElem?_eq_getElem hi,Option.getD_some,List.all_eq_true] at q
   simpa using q c hc
 rw [key,Bool.eq_iff_iff,allF_iff,okB_iff]
 constructor
 ·intro h i _ hi
  obtain⟨k,q1,q2,q3⟩:=parts_find (A:=A) n i (by omega) (by omega)
  have q:=h k (by omega) (by omega)
  rw [okB_iff] at q
  exact q i q2 q3
 ·intro h j _ hj
  rw [okB_iff]
  intro i q1 q2
  exact h i (Nat.zero_le _) (by have:=parts_le hle (j+1) n (by omega) (by omega);omega)
def AkPost (s a v q:ByteArray)(st:St)(w:World)(e:Ending)(w':World):Prop:= ∃x1 x2 x3 x4,e= .returned (.tuple #[x1,x2,x3,x4,.int .i64 (grM s a v q st)])∧Below w.heap.size w w'∧isSl x1∧isSl x2∧isSl x3∧isSl x4∧
 (grM s a v q st=0→ ∃f ps,w'.ownsRow w.heap.size 91 3 x1 st.A.length (rowA ps st.A)∧SegA (fun p x a b e g=>AsX (fun k=>k<w.heap.size) w' st.L st.E st.C f p x a b e g) ps st.A 0 0 st.L.length st.E.length∧w'.ownsRow w.heap.size 144 2 x2 (raM a).1.length (((raM a).1.map prCells).flatten)∧w'.ownsRow w.heap.size 9 1 x3 (vlM v).1.length ((vlM v).1.map Value.string)∧w'.ownsRow w.heap.size 9 1 x4 (rqM q).1.length ((rqM q).1.map Value.string))
theorem asked_long (s a v:ByteArray)(st:St)(w:World)(hs:s.size≤maxLen)(ha:a.size≤maxLen)(hv:v.size≤maxLen)(h:600<s.size∨100<a.size∨60<v.size):Calls Tryz.prog 57 #[.string s,.string a,.string v,.string ⟨#[]⟩,.bool false] w fun e w'=>AkPost s a v ⟨#[]⟩ st w e w':=by
 unfold maxLen at hs ha hv
 have e0:(⟨#[]⟩:ByteArray).size=0:=rfl
 have hres:Hid (grM s a v ⟨#[]⟩ st=1):=hide (by unfold grM;rw [if_pos];simp [e0];omega)
 have fin: ∀(W':World),Below w.heap.size w W'→AkPost s a v ⟨#[]⟩ st w (.returned (.tuple #[.slice none 0 0,.slice none 0 0,.slice none 0 0,.slice none 0 0,.int .i64 1])) W':=fun W' hb=>⟨_,_,_,_,by rw [hres.out],hb,isSl_nil,isSl_nil,isSl_nil,isSl_nil,fun e=>by rw [hres.out] at e;cases e⟩
 have FIN:=hide fin
 clear fin hres
 by_cases h1:600<s.size
 ·have h1':(600:Int)<s.size:=by omega
  go_enter Tryz.func57,Tryz.ntmps57
  go_wp2_with fail
  (try simp only [Exit.inBlock,Exit.then])
  refine bodyPost_ret (results_tmp5 rfl _ _ _) rfl ?_
  exact FIN.out _ (Below.refl _ _)
 have h1': ¬(600:Int)<s.size:=by omega
 by_cases h2:100<a.size
 ·have h2':(100:Int)<a.size:=by omega
  go_enter Tryz.func57,Tryz.ntmps57
  go_wp2_with fail
  (try simp only [Exit.inBlock,Exit.then])
  refine bodyPost_ret (results_tmp5 rfl _ _ _) rfl ?_
  exact FIN.out _ (Below.refl _ _)
 have h2': ¬(100:Int)<a.size:=by omega
 have h3':(60:Int)<v.size:=by omega
 go_enter Tryz.func57,Tryz.ntmps57
 go_wp2_with fail
 (try simp only [Exit.inBlock,Exit.then])
 refine bodyPost_ret (results_tmp5 rfl _ _ _) rfl ?_
 exact FIN.out _ (Below.refl _ _)
theorem asked_short (s a v:ByteArray)(st:St)(w:World)(hs:s.size≤600)(ha:a.size≤100)(hv:v.size≤60)(h:Calls Tryz.prog 49 #[.string s] w fun e w'=>RdPost s st w e w')(hg:GoodE st.E)(hcov:CovA st)(hA:st.A.length≤100000)(hCl: ∀c∈st.C,c.length≤100000)(hvl:(vlM v).1.length≤100000):
  Calls Tryz.prog 57 #[.string s,.string a,.string v,.string ⟨#[]⟩,.bool false] w fun e w'=>AkPost s a v ⟨#[]⟩ st w e w':=by
 have hs': ¬(600:Int)<s.size:=by omega
 have ha': ¬(100:Int)<a.size:=by omega
 have hv': ¬(60:Int)<v.size:=by omega
 have e0:(⟨#[]⟩:ByteArray).size=0:=rfl
 have hgr:Hid (grM s a v ⟨#[]⟩ st=if(ckM s st).1 !=0 then(ckM s st).1 else if(raM a).2||(vlM v).2 then 6 else if hoM (vlM v).1 st.C then 7 else 0):=hide (by unfold grM;rw [if_neg,rqM_nil,Bool.or_false];simp [e0];omega)
 have H:=hide h
 have HG:=hide (And.intro hg hCl)
 have HA:=hide (fun W=>attributes_any a W (by omega))
 have HV:=hide (fun W=>values_any v W (by omega))
 obtain⟨fk,hcov⟩:=hcov
 obtain⟨A,A0,A1,AP⟩:=SegB.parts _ _ _ hcov
 have hAle: ∀i,i<st.A.length→A i≤A (i+1):=fun i hi=>by
  obtain⟨k,_,q2,q3⟩:=AP i _ (List.getElem?_eq_getElem hi)
  have:=q2.a_le
  omega
 have HP:=hide (And.intro AP (asB_all (vals:=(vlM v).1) A0 A1 hAle))
 clear h hg hCl hcov A0 A1 AP hAle
 go_enter Tryz.func57,Tryz.ntmps57
 go_wp2_with fail
 refine H.out.mono ?_
 rintro e w1 ⟨lv,rfl,hB,⟨a1,n1,k1,hlv⟩,htr⟩
 subst hlv
 have HB1:=hide hB
 have HTR:=hide htr
 clear hB htr H
 generalize ckM s st=ck at*
 obtain⟨ck1,ck2⟩:=ck
 simp only at*
 cases hz:(ck1 !=0)
 case true=>
  have hres:Hid (grM s a v ⟨#[]⟩ st=ck1):=hide (by rw [hgr.out,hz];rfl)
  go_wp2_with fail
  (try simp only [Exit.inBlock,Exit.then])
  refine bodyPost_ret (results_tmp5 rfl _ _ _) rfl ?_
  exact⟨_,_,_,_,by rw [hres.out];simp,HB1.out,isSl_nil,isSl_nil,isSl_nil,isSl_nil,fun e=>by rw [hres.out] at e;subst e;simp at hz⟩
 have hck0:ck1=0:=by simpa using hz
 subst hck0
 obtain⟨f2,ps,how,hseg⟩:=HTR.out rfl
 have hn1:n1=st.A.length:=by
  obtain⟨a2,k2,e2⟩:=ownsRow_slc how
  injection e2
 subst hn1
 have HW:=hide how
 have HS:=hide hseg
 have hpl:=hide (SegA.len _ _ _ _ _ _ hseg)
 have HA1:=hide (HA.out w1)
 clear how hseg HTR hz HA
 go_wp2_with fail
 refine HA1.out.mono ?_
 rintro e w2 ⟨a2,n2,k2,rfl,hB2,hO2⟩
 have HB2:=hide hB2
 have HO2:=hide hO2
 have HB12:=hide (HB1.out.trans (hB2.mono HB1.out.size))
 have HV1:=hide (HV.out w2)
 clear hB2 hO2 HV HA1
 go_wp2_with fail
 refine HV1.out.mono ?_
 rintro e w3 ⟨a3,n3,k3,rfl,hB3,hO3⟩
 have HB3:=hide hB3
 have HO3:=hide hO3
 have HB13:=hide (HB12.out.trans (hB3.mono HB12.out.size))
 have HB23:=hide (HB2.out.trans (hB3.mono HB2.out.size))
 clear hB3 hO3 HV1
 cases hra:(raM a).2
 case true=>
  have hres:Hid (grM s a v ⟨#[]⟩ st=6):=hide (by rw [hgr.out,hra];rfl)
  go_wp2_with fail
  (try simp only [Exit.inBlock,Exit.then])
  refine bodyPost_ret (results_tmp5 rfl _ _ _) rfl ?_
  exact⟨_,_,_,_,by rw [hres.out];rfl,HB13.out,isSl_nil,isSl_nil,isSl_nil,isSl_nil,fun e=>by rw [hres.out] at e;cases e⟩
 cases hva:(vlM v).2
 case true=>
  have hres:Hid (grM s a v ⟨#[]⟩ st=6):=hide (by rw [hgr.out,hra,hva];rfl)
  go_wp2_with fail
  (try simp only [Exit.inBlock,Exit.then])
  refine bodyPost_ret (results_tmp5 rfl _ _ _) rfl ?_
  exact⟨_,_,_,_,by rw [hres.out];rfl,HB13.out,isSl_nil,isSl_nil,isSl_nil,isSl_nil,fun e=>by rw [hres.out] at e;cases e⟩
 have hgr2:Hid (grM s a v ⟨#[]⟩ st=if hoM (vlM v).1 st.C then 7 else 0):=hide (by rw [hgr.out,hra,hva];rfl)
 have HO2':=hide (HO2.out hra)
 have HO3':=hide (HO3.out hva)
 have hn3:n3=(vlM v).1.length:=by
  obtain⟨qa,qk,q⟩:=ownsRow_slice HO3'.out
  injection q with _ q _
 subst hn3
 clear hgr HO2 HO3 hra hva
 go_wp2_with fail
 go_loopg [25] (st.A.length+1) (fun n iv wr=> ∃i:Nat,n+i=st.A.length+1∧i≤st.A.length∧iv= .int .i64 i∧Hid (Below w3.heap.size w3 wr)∧Hid (allF (fun i=>okB (vlM v).1 st.C (A i) (A (i+1))) (st.A.length - i) i= !hoM (vlM v).1 st.C))
 case atStart=>exact⟨0,rfl,Nat.zero_le _,rfl,hide (Below.refl _ _),hide HP.out.2⟩
 case round=>
  obtain⟨i,hk,hiE,rfl,HBR,hfin⟩:=hrel
  have hHK:=hide hk
  clear hk
  by_cases hlt:i<st.A.length
  ·obtain⟨g,cap,hvx,hb,hgl⟩:=HW.out.form (by omega)
   injection hvx with e1 e2 e3
   subst e1 e3
   obtain⟨pp,hpp⟩: ∃pp,ps[i]?=some pp:=⟨ps[i]'(by have:=hpl.out;omega),List.getElem?_eq_getElem _⟩
   obtain⟨x,a',b',e',g',hx,li,ci,r1,r2,r3,r4,r5⟩:=SegA.get _ _ _ _ _ _ i pp HS.out hpp
   have c2:w1.cell? ⟨g,i*3+2,none⟩=some (.pointer pp.2):=row_cell HW.out _ _ ((rowA_get hpp hx (by omega)).trans rfl)
   have hB1r:=HB23.out.trans (HBR.out.mono HB23.out.size)
   have q2:=(hB1r.cell (p:=⟨g,i*3+2,none⟩) hgl).trans c2
   obtain⟨kx,z1,z2,z3⟩:=HP.out.1 i x hx
   have hkc:kx=ci:=by rw [r2] at z1;omega
   subst hkc
   have hC:=valued_CX HG.out.1 (vlM v).1 _ (.slice a3 (vlM v).1.length k3) hvl HG.out.2 f2 _ kx b' g' fk (A i) wr (r5.keepX (below_same hB1r)) z2 (ownsRow_same HO3'.out fun q e=>HBR.out.block q (HO3'.out.lt q e).2)
   rw [←z3] at hC
   have HC:=hide hC
   have hst:Hid ((!hoM (vlM v).1 st.C)=(okB (vlM v).1 st.C (A i) (A (i+1))&&allF (fun i=>okB (vlM v).1 st.C (A i) (A (i+1))) (st.A.length -(i+1)) (i+1))):=hide (by
    rw [←hfin.out]
    obtain⟨m,hm⟩: ∃m,st.A.length - i=m+1:=⟨st.A.length - i - 1,by omega⟩
    rw [hm,show st.A.length -(i+1)=m by omega]
    rfl)
   have hlt':(i:Int)<st.A.length:=by omega
   have HWB:=hide (HB13.out.trans (HBR.out.mono HB13.out.size))
   clear hC hB1r c2 hpp hx r4 r5 hfin z1 z2 z3 r1 r2 r3
   cases hbi:okB (vlM v).1 st.C (A i) (A (i+1))
   case true=>
    rw [hbi] at HC
    have HS2:Hid (allF (fun i=>okB (vlM v).1 st.C (A i) (A (i+1))) (st.A.length -(i+1)) (i+1)= !hoM (vlM v).1 st.C):=hide (by rw [hst.out,hbi];rfl)
    clear hbi hst
    go_wp2_with fail
    refine HC.out.mono ?_
    rintro e w4 ⟨rfl,hB4⟩
    have HB4:=hide (HBR.out.trans (hB4.mono HBR.out.size))
    clear hB4
    go_wp2_with fail
    have hk:=hHK.out
    go_roundg (st.A.length - i)
    case measure=>omega
    case rel=>exact⟨i+1,by omega,by omega,by go_num,HB4,HS2⟩
   case false=>
    rw [hbi] at HC
    have hres:Hid (grM s a v ⟨#[]⟩ st=7):=hide (by
     have:hoM (vlM v).1 st.C=true:=by have q:=hst.out;rw [hbi] at q;simpa using q
     rw [hgr2.out,this];rfl)
    clear hbi hst
    go_wp2_with fail
    refine HC.out.mono ?_
    rintro e w4 ⟨rfl,hB4⟩
    have HB4:=hide (HWB.out.trans (hB4.mono HWB.out.size))
    clear hB4
    go_wp2_with fail
    (try simp only [Exit.inBlock,Exit.then])
    refine bodyPost_ret (results_tmp5 rfl _ _ _) rfl ?_
    exact⟨_,_,_,_,by rw [hres.out];rfl,HB4.out,isSl_nil,isSl_nil,isSl_nil,isSl_nil,fun e=>by rw [hres.out] at e;cases e⟩
  ·have hlt': ¬(i:Int)<st.A.length:=by omega
   have hres:Hid (grM s a v ⟨#[]⟩ st=0):=hide (by
    have:hoM (vlM v).1 st.C=false:=by
     have q:=hfin.out
     rw [show st.A.length - i=0 by omega] at q
     have q:true= !hoM (vlM v).1 st.C:=q
     cases hh:hoM (vlM v).1 st.C
     ·rfl
     ·rw [hh] at q;cases q
    rw [hgr2.out,this];rfl)
   have hB1r:=hide (HB23.out.trans (HBR.out.mono HB23.out.size))
   have hB2r:=hide (HB3.out.trans (HBR.out.mono HB3.out.size))
   have HWB:=hide (HB13.out.trans (HBR.out.mono HB13.out.size))
   go_wp2_with fail
   (try simp only [Exit.inBlock,Exit.then])
   refine bodyPost_ret (results_tmp5 rfl _ _ _) rfl ?_
   refine⟨_,_,_,_,by rw [hres.out];rfl,HWB.out,⟨_,_,_,rfl⟩,⟨_,_,_,rfl⟩,⟨_,_,_,rfl⟩,isSl_nil,fun _=>⟨f2,ps,?_,?_,?_,?_,⟨rfl,.inl ⟨rfl,rfl⟩⟩⟩⟩
   ·exact ownsRow_same HW.out fun q e=>hB1r.out.block q (HW.out.lt q e).2
   ·exact SegA.imp (fun p x a b e g ⟨i,ci,q1,q2,q3,q4,q5⟩=>⟨i,ci,q1,q2,q3,q4.keepX (below_same hB1r.out),q5.keepX (below_same hB1r.out)⟩) _ _ _ _ _ _ HS.out
   ·exact ownsRow_base (ownsRow_same HO2'.out fun q e=>hB2r.out.block q (HO2'.out.lt q e).2) HB1.out.size
   ·exact ownsRow_base (ownsRow_same HO3'.out fun q e=>HBR.out.block q (HO3'.out.lt q e).2) HB12.out.size
end Go.Proofs.YtkoohcilbpdgeaaGreatDoor
