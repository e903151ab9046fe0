import Derived.BigRegion
import Derived.Test.YtkoohcilbpdgeaaGreatDoorC06
set_option linter.all false
set_option linter.unusedVariables false
set_option linter.unusedSimpArgs false
set_option linter.unnecessarySimpa false
set_option linter.constructorNameAsVariable false
set_option linter.deprecated false
set_option maxRecDepth 100000
set_option maxHeartbeats 6400000
namespace Go.Proofs.YtkoohcilbpdgeaaGreatDoor
open Go Go.RowKit
attribute [local go_sem] wrap64_byte
theorem ba_ext {a b:ByteArray}(h:a.data.toList=b.data.toList):a=b:=by
 cases a with
 |mk x=>
  cases b with
  |mk y=>simp at h;simp [h]
theorem ext_snoc {s:ByteArray}{a k:Nat}(h1:a≤k)(h2:k+1≤s.size):s.extract a k++s.extract k (k+1)=s.extract a (k+1):=by
 apply ba_ext
 have e: ∀i j,(s.extract i j).data.toList=(s.data.toList.drop i).take (j - i):=fun i j=>by
  rw [←ByteArray.toList_eq];exact ext_list s i j
 rw [ByteArray.data_append,Array.toList_append,e,e,e]
 rw [show k+1 - a=(k - a)+1 by omega,show k+1 - k=1 by omega,List.take_add,List.drop_drop,show a+(k - a)=k by omega]
theorem ext_zero (s:ByteArray)(a:Nat):s.extract a a=⟨#[]⟩:=by
 apply ba_ext
 rw [←ByteArray.toList_eq,ext_list]
 simp
theorem ext_size {s:ByteArray}{a k:Nat}(h1:a≤k)(h2:k≤s.size):(s.extract a k).size=k - a:=by simp;omega
theorem nought {s:ByteArray}{a k:Nat}(h1:a≤k)(h2:k≤s.size)(h3:a<s.size):((s.extract a k).toList==[48])=(decide (k=a+1)&&(pk s a false==48)):=by
 rw [ext_list]
 by_cases hk:k=a+1
 ·subst hk
  rw [drop_at s a h3,show a+1 - a=1 by omega,show pk s a false=(s[a].toNat:Int) by simp [pk,h3],show((s[a].toNat:Int)==48)=(s[a]==48) from(u8_beq s[a] 48).symm]
  simp
 ·have:((s.data.toList.drop a).take (k - a)).length=k - a:=by simp;omega
  rw [show decide (k=a+1)=false by simp [hk],Bool.false_and,beq_eq_false_iff_ne]
  intro e
  rw [e] at this
  simp at this
  omega
theorem one_digit (s:ByteArray)(n:Nat)(b:Nat)(st:St)(w:World)(p:Nat)(r:Int)(st':St)(hM:M s (n+1) 7 0 st=some (r,st'))(hR:Rd w b s p st.bad)(hp:skip s p st.bad=st.at_)
  (h1:isDigit (pkS s st)=true):
  Calls Tryz.prog 139 #[.pointer (some ⟨b,0,none⟩)] w fun e w'=>RPost b s st st' r w e w':=by
 rw [M_7,h1,if_pos rfl] at hM
 simp only at hM
 have hrng:48≤pk s st.at_ st.bad∧pk s st.at_ st.bad≤57:=by have h:=h1;unfold isDigit at h;rw [Bool.and_eq_true] at h;exact⟨of_decide_eq_true h.1,of_decide_eq_true h.2⟩
 obtain⟨hbd,hat⟩:=pk_lt (s:=s) (a:=st.at_) (d:=st.bad) (by omega)
 have hbl:=blanksR_any b p s st.bad w hR
 rw [hp] at hbl
 have HBL:=hide hbl
 have t1:isDigit (hereM s st.at_ st.bad)=true:=(hereM_digit _ _ _).trans h1
 have t4:(hereM s st.at_ st.bad==40)=false:=by
  rw [hereM_eq (by omega),beq_eq_false_iff_ne];omega
 have HMh:=hide hM
 have HBD:=hide hbd
 have H1:=hide h1
 clear hM hbl hp h1 hbd hrng
 go_enter Tryz.func139,Tryz.ntmps139
 go_wp2_with fail
 refine HBL.out.mono ?_
 rintro e w1 ⟨rfl,hR1,hs1⟩
 obtain⟨c0,c1,c2,f1,f2,_,_⟩:=id hR1
 have hb1:b<w1.heap.size:=block_lt_of_cell hR1.c0
 have hRa:Rd (w1.alloc (.cells #[.string ⟨#[]⟩,.string ⟨#[]⟩,.int .i64 st.at_,.slice none 0 0] 138)) b s st.at_ st.bad:=hR1.other (Below.heap_alloc _ _ _ hb1)
 have hga:=heap_alloc_new w1 (.cells #[.string ⟨#[]⟩,.string ⟨#[]⟩,.int .i64 st.at_,.slice none 0 0] 138)
 have hFa:Rf b w (w1.alloc (.cells #[.string ⟨#[]⟩,.string ⟨#[]⟩,.int .i64 st.at_,.slice none 0 0] 138)):=hs1.rf.alloc _
 have hz1:w.heap.size=w1.heap.size:=hs1.size.symm
 have HA:=hide (And.intro hRa (And.intro hga (And.intro hFa hz1)))
 clear hRa hga hFa hz1 hs1 hR
 go_wp2_with fail
 refine(here_any b st.at_ s st.bad _ HA.out.1).mono ?_
 rintro e w2 ⟨rfl,n2,rfl⟩
 go_wp2_with fail
 refine(digit_any _ _ (hereM_range _ _ _)).mono ?_
 rintro e w2 ⟨rfl,rfl⟩
 rw [t1]
 have hnb:w1.heap.size≠b:=by omega
 have hge:w.heap.size≤w1.heap.size:=Nat.le_of_eq HA.out.2.2.2
 have hR2:Rd (((w1.alloc (.cells #[.string ⟨#[]⟩,.string ⟨#[]⟩,.int .i64 st.at_,.slice none 0 0] 138)).drewN n2).setCell ⟨w1.heap.size,0,none⟩ (.string ⟨#[110,117,109]⟩)) b s st.at_ st.bad:=(HA.out.1.drewN n2).other (Below.heap_setCell _ _ _ _ (by simp;omega))
 have hg2:=set0 (w:=(w1.alloc (.cells #[.string ⟨#[]⟩,.string ⟨#[]⟩,.int .i64 st.at_,.slice none 0 0] 138)).drewN n2) HA.out.2.1 (.string ⟨#[110,117,109]⟩)
 have hF2:=(HA.out.2.2.1.drewN n2).setCell (a:=⟨w1.heap.size,0,none⟩) hge (.string ⟨#[110,117,109]⟩)
 rw [HBD.out] at hR2
 obtain⟨m,HMM⟩: ∃m,Hid ((if pk s st.at_ false==48 then 1 else 9)=m):=⟨_,hide rfl⟩
 have HS:=hide (And.intro hR2 (And.intro hg2 hF2))
 have hle1:st.at_≤s.size:=by omega
 have hsz1:s.size≤600:=HA.out.1.sz
 clear hR2 hg2 hF2 HA c0 c1 c2 f1 f2 hR1 t1 t4 HBL
 go_wp2_with fail
 go_loopg [] (s.size+1) (fun g wr=> ∃k,g+(k - st.at_)=s.size+1∧st.at_≤k∧k≤st.at_+m∧Rd wr b s k false∧wr.heap[w1.heap.size]?=some (.cells #[.string ⟨#[110,117,109]⟩,.string (s.extract st.at_ k),.int .i64 st.at_,.slice none 0 0] 138)∧Rf b w wr∧Hid (run isDigit s false (m -(k - st.at_)) k=run isDigit s false m st.at_))
 case atStart=>exact⟨st.at_,by omega,Nat.le_refl _,by omega,HS.out.1,by rw [ext_zero];exact HS.out.2.1,HS.out.2.2,by simp [Hid]⟩
 case round=>
  obtain⟨k,hgk,hak,hkm,hRk,hgW,hFk,hrun⟩:=hrel
  have HGK:=hide hgk
  have hksz:=hRk.le
  have hxs:(s.extract st.at_ k).size=k - st.at_:=ext_size hak hksz
  have hno:=nought (s:=s) hak hksz hat
  obtain⟨c0,c1,c2,f1,f2,_,_⟩:=id hRk
  obtain⟨y0,y1,y2,y3,yf⟩:=box4' hgW
  have HRk:=hide hRk
  have HGW:=hide hgW
  clear hgk hRk hgW
  by_cases hcont:k - st.at_<m∧isDigit (pk s k false)=true
  ·obtain⟨hkm2,hdk⟩:=hcont
   have hkl:k<s.size:=(pk_lt (s:=s) (a:=k) (d:=false) (fun e=>by rw [e] at hdk;exact absurd hdk (by decide))).2
   have hd2:isDigit (hereM s k false)=true:=(hereM_digit _ _ _).trans hdk
   have hm9:m≤9:=by have h:=HMM.out;split at h<;>omega
   have hs0:((s.extract st.at_ k).toList==[48])=false:=by
    rw [hno]
    cases h48:(pk s st.at_ false==48)
    ·simp
    ·have h:=HMM.out
     rw [h48,if_pos rfl] at h
     rw [show decide (k=st.at_+1)=false by simp;omega]
     rfl
   have hrun2:Hid (run isDigit s false (m -(k+1 - st.at_)) (k+1)=run isDigit s false m st.at_):=hide (by
    rw [←hrun.out,show m -(k - st.at_)=(m -(k+1 - st.at_))+1 by omega,run_go hdk])
   have hsn:Hid (s.extract st.at_ k++s.extract k (k+1)=s.extract st.at_ (k+1)):=hide (ext_snoc hak hkl)
   have hlen:(k:Int)- st.at_<9:=by omega
   clear hno hrun
   generalize hS:s.extract st.at_ k=S at*
   have HSS:=hide hS
   clear hS
   have hSz:(S.size:Int)<9:=by omega
   go_wp2_with (first|(go_at_call 96;refine(here_any b k s false _ (by first|exact HRk.out|exact HRk.out.drewN _)).mono ?_;rintro e w4 ⟨rfl,n4,rfl⟩)|(go_at_call 142;refine(digit_any _ _ (hereM_range _ _ _)).mono ?_;rintro e w4 ⟨rfl,rfl⟩))
   have hwr:IntKind.i64.wrap ((k:Int)+1)=(k:Int)+1:=by rw [IntWalk.i64_left,IntWalk.wrap64_in _ (by omega)]
   have hki:(k:Int)+1≤s.size:=by omega
   go_region
   have hRx:=(HRk.out.drewN (n4+1)).other (w':=(wr.drewN (n4+1)).setCell ⟨w1.heap.size,1,none⟩ (.string (S++s.extract k (k+1)))) (Below.heap_setCell _ _ _ _ (by simp;omega))
   have hRy:=hRx.setAt' (k+1) (k+1) (by omega) hkl
   have hgx:=set1 (w:=wr.drewN (n4+1)) HGW.out (.string (S++s.extract k (k+1)))
   have hFx:=((hFk.drewN (n4+1)).setCell (a:=⟨w1.heap.size,1,none⟩) hge (.string (S++s.extract k (k+1)))).setB 1 (.int .i64 (k+1))
   have hgy:=(Below.heap_setCell ((wr.drewN (n4+1)).setCell ⟨w1.heap.size,1,none⟩ (.string (S++s.extract k (k+1)))) ⟨b,1,none⟩ (.int .i64 (k+1)) w1.heap.size hnb).trans hgx
   obtain⟨x0,x1,x2,x3,x4,_,_⟩:=id hRx
   have HFIN:=hide (And.intro hRy (And.intro hgy hFx))
   clear hRx hRy hgx hFx hgy c0 c1 c2 f1 f2 y0 y1 y2 y3 yf
   go_wp2_with fail
   go_roundg (s.size+1 -(k+1 - st.at_))
   case measure=>have:=HGK.out;omega
   case rel=>
    refine⟨k+1,by have:=HGK.out;omega,by omega,by omega,HFIN.out.1,?_,HFIN.out.2.2,hrun2⟩
    rw [←hsn.out]
    exact HFIN.out.2.1
  ·have hrn:Hid (run isDigit s false m st.at_=k):=by
    by_cases h8:k - st.at_<m
    ·refine hide ?_
     rw [←hrun.out]
     exact run_stop (by cases hc:isDigit (pk s k false) with|false=>rfl|true=>exact absurd ⟨h8,hc⟩ hcont)
    ·exact hide (by rw [←hrun.out,show m -(k - st.at_)=0 by omega];rfl)
   have hka:k≠st.at_:=by
    intro e
    have hm1:0<m:=by have h:=HMM.out;split at h<;>omega
    exact hcont ⟨by omega,by rw [e];have h:=H1.out;unfold pkS at h;rw [HBD.out] at h;exact h⟩
   by_cases h9:k - st.at_<9
   ·have hlen:((s.extract st.at_ k).size:Int)<9:=by omega
    cases hdk:isDigit (pk s k false)
    ·have hd2:isDigit (hereM s k false)=false:=(hereM_digit _ _ _).trans hdk
     clear hno hcont
     have hnum:numberM s st.at_ st.bad=(skip s k false,false,s.extract st.at_ k):=by
      rw [HBD.out];unfold numberM;rw [HMM.out]
      exact tokM_ok hrn.out hka hdk
     have hM:=HMh.out
     rw [hnum] at hM
     obtain⟨hl,h6⟩:=addE_some hM
     cases h6
     have HF:=fun nn=>leaf_fin (st:=st) (c:=(skip s k false,false,s.extract st.at_ k)) (form:=0) (a:=st.at_) ((hFk.drewN nn).setB 2 (.bool false)) hge hnb ((Below.heap_setCell _ _ _ _ hnb).trans HGW.out) ((HRk.out.drewN nn).setBad false) rfl (fun _=>⟨.inl ⟨rfl,rfl⟩,rfl⟩)
     have HF:=hide HF
     clear hM HMh HMM hrn hrun
     go_wp2_with (first|(go_at_call 96;refine(here_any b k s false _ (by first|exact HRk.out|exact HRk.out.drewN _)).mono ?_;rintro e w4 ⟨rfl,n4,rfl⟩)|(go_at_call 142;refine(digit_any _ _ (hereM_range _ _ _)).mono ?_;rintro e w4 ⟨rfl,rfl⟩))
     go_ret
     exact HF.out _
    ·have hd2:isDigit (hereM s k false)=true:=(hereM_digit _ _ _).trans hdk
     have hs0:((s.extract st.at_ k).toList==[48])=true:=by
      rw [hno]
      cases h48:(pk s st.at_ false==48)
      ·have h:=HMM.out
       rw [h48,if_neg (by decide)] at h
       exact absurd ⟨by omega,hdk⟩ hcont
      ·have h:=HMM.out
       rw [h48,if_pos rfl] at h
       have: ¬k - st.at_<m:=fun q=>hcont ⟨q,hdk⟩
       rw [show decide (k=st.at_+1)=true by simp;omega]
       rfl
     have hs1:(s.extract st.at_ k).toList=[48]:=by simpa using hs0
     clear hno hcont
     have hnum:numberM s st.at_ st.bad=(k,true,⟨#[]⟩):=by
      rw [HBD.out];unfold numberM;rw [HMM.out]
      exact tokM_bad hrn.out (.inr hdk)
     have hM:=HMh.out
     rw [hnum] at hM
     obtain⟨hl,h6⟩:=addE_some hM
     cases h6
     have HF:=fun nn=>leaf_fin (st:=st) (c:=(k,true,⟨#[]⟩)) (form:=0) (a:=st.at_) ((hFk.drewN nn).setB 2 (.bool true)) hge hnb ((Below.heap_setCell _ _ _ _ hnb).trans HGW.out) ((HRk.out.drewN nn).setBad true) (skip_bad s k) (fun h=>by cases h)
     have HF:=hide HF
     clear hM HMh HMM hrn hrun
     go_wp2_with (first|(go_at_call 96;refine(here_any b k s false _ (by first|exact HRk.out|exact HRk.out.drewN _)).mono ?_;rintro e w4 ⟨rfl,n4,rfl⟩)|(go_at_call 142;refine(digit_any _ _ (hereM_range _ _ _)).mono ?_;rintro e w4 ⟨rfl,rfl⟩))
     go_ret
     exact HF.out _
   ·have hlen: ¬((s.extract st.at_ k).size:Int)<9:=by omega
    clear hno hcont
    cases hdk:isDigit (pk s k false)
    ·have hd2:isDigit (hereM s k false)=false:=(hereM_digit _ _ _).trans hdk
     have hnum:numberM s st.at_ st.bad=(skip s k false,false,s.extract st.at_ k):=by
      rw [HBD.out];unfold numberM;rw [HMM.out]
      exact tokM_ok hrn.out hka hdk
     have hM:=HMh.out
     rw [hnum] at hM
     obtain⟨hl,h6⟩:=addE_some hM
     cases h6
     have HF:=fun nn=>leaf_fin (st:=st) (c:=(skip s k false,false,s.extract st.at_ k)) (form:=0) (a:=st.at_) ((hFk.drewN nn).setB 2 (.bool false)) hge hnb ((Below.heap_setCell _ _ _ _ hnb).trans HGW.out) ((HRk.out.drewN nn).setBad false) rfl (fun _=>⟨.inl ⟨rfl,rfl⟩,rfl⟩)
     have HF:=hide HF
     clear hM HMh HMM hrn hrun
     go_wp2_with (first|(go_at_call 96;refine(here_any b k s false _ (by first|exact HRk.out|exact HRk.out.drewN _)).mono ?_;rintro e w4 ⟨rfl,n4,rfl⟩)|(go_at_call 142;refine(digit_any _ _ (hereM_range _ _ _)).mono ?_;rintro e w4 ⟨rfl,rfl⟩))
     go_ret
     exact HF.out _
    ·have hd2:isDigit (hereM s k false)=true:=(hereM_digit _ _ _).trans hdk
     have hnum:numberM s st.at_ st.bad=(k,true,⟨#[]⟩):=by
      rw [HBD.out];unfold numberM;rw [HMM.out]
      exact tokM_bad hrn.out (.inr hdk)
     have hM:=HMh.out
     rw [hnum] at hM
     obtain⟨hl,h6⟩:=addE_some hM
     cases h6
     have HF:=fun nn=>leaf_fin (st:=st) (c:=(k,true,⟨#[]⟩)) (form:=0) (a:=st.at_) ((hFk.drewN nn).setB 2 (.bool true)) hge hnb ((Below.heap_setCell _ _ _ _ hnb).trans HGW.out) ((HRk.out.drewN nn).setBad true) (skip_bad s k) (fun h=>by cases h)
     have HF:=hide HF
     clear hM HMh HMM hrn hrun
     go_wp2_with (first|(go_at_call 96;refine(here_any b k s false _ (by first|exact HRk.out|exact HRk.out.drewN _)).mono ?_;rintro e w4 ⟨rfl,n4,rfl⟩)|(go_at_call 142;refine(digit_any _ _ (hereM_range _ _ _)).mono ?_;rintro e w4 ⟨rfl,rfl⟩))
     go_ret
     exact HF.out _
theorem one_quote (s:ByteArray)(n:Nat)(b:Nat)(st:St)(w:World)(p:Nat)(r:Int)(st':St)(hM:M s (n+1) 7 0 st=some (r,st'))(hR:Rd w b s p st.bad)(hp:skip s p st.bad=st.at_)
  (h1:isDigit (pkS s st)=false) (h2:(pkS s st==34)=true):
  Calls Tryz.prog 139 #[.pointer (some ⟨b,0,none⟩)] w fun e w'=>RPost b s st st' r w e w':=by
 rw [M_7,h1,if_neg (by decide),h2,if_pos rfl] at hM
 simp only at hM
 obtain⟨hbd,hat⟩:=pk_good (s:=s) (a:=st.at_) (d:=st.bad) h2 (by omega)
 have hq:quotedM s st.at_ st.bad=((signM s false [34] (run isQuotable s false 12 (st.at_+1))).1,(signM s false [34] (run isQuotable s false 12 (st.at_+1))).2,s.extract (st.at_+1) (run isQuotable s false 12 (st.at_+1))):=by
  unfold quotedM
  rw [hbd,wordM_cons_yes (by have h:=h2;unfold pkS at h;rw [hbd] at h;simpa using h)]
  rfl
 rw [hq] at hM
 have hbl:=blanksR_any b p s st.bad w hR
 rw [hp] at hbl
 have HBL:=hide hbl
 have hv:hereM s st.at_ st.bad=34:=by simpa using (hereM_eq (s:=s) (a:=st.at_) (d:=st.bad) (c:=34) (by omega)).trans h2
 have HMh:=hide hM
 have HBD:=hide hbd
 clear hM hbl hp h1 h2 hq hbd
 go_enter Tryz.func139,Tryz.ntmps139
 go_wp2_with fail
 refine HBL.out.mono ?_
 rintro e w1 ⟨rfl,hR1,hs1⟩
 obtain⟨c0,c1,c2,f1,f2,_,_⟩:=id hR1
 have hb1:b<w1.heap.size:=block_lt_of_cell hR1.c0
 have hRa:Rd (w1.alloc (.cells #[.string ⟨#[]⟩,.string ⟨#[]⟩,.int .i64 st.at_,.slice none 0 0] 138)) b s st.at_ st.bad:=hR1.other (Below.heap_alloc _ _ _ hb1)
 have hga:=heap_alloc_new w1 (.cells #[.string ⟨#[]⟩,.string ⟨#[]⟩,.int .i64 st.at_,.slice none 0 0] 138)
 have hFa:Rf b w (w1.alloc (.cells #[.string ⟨#[]⟩,.string ⟨#[]⟩,.int .i64 st.at_,.slice none 0 0] 138)):=hs1.rf.alloc _
 have hz1:w.heap.size=w1.heap.size:=hs1.size.symm
 have HA:=hide (And.intro hRa (And.intro hga (And.intro hFa hz1)))
 clear hRa hga hFa hz1 hs1 hR
 go_wp2_with fail
 refine(here_any b st.at_ s st.bad _ HA.out.1).mono ?_
 rintro e w2 ⟨rfl,n2,rfl⟩
 rw [hv]
 have hfz: ∀o:Obj,(w1.alloc o).frozen? ⟨b,1,none⟩=false:=fun o=>(World.frozen?_of_block (w:=w1) (Below.heap_alloc _ _ _ hb1)).trans f1
 have hcz: ∀o:Obj,(w1.alloc o).cell? ⟨b,1,none⟩=some (.int .i64 st.at_):=fun o=>(World.cell?_of_block (w:=w1) (Below.heap_alloc _ _ _ hb1)).trans c1
 have hnb:w1.heap.size≠b:=by omega
 have hge:w.heap.size≤w1.heap.size:=Nat.le_of_eq HA.out.2.2.2
 have hR2:Rd (((w1.alloc (.cells #[.string ⟨#[]⟩,.string ⟨#[]⟩,.int .i64 st.at_,.slice none 0 0] 138)).drewN n2).setCell ⟨w1.heap.size,0,none⟩ (.string ⟨#[115,116,114]⟩)) b s st.at_ st.bad:=(HA.out.1.drewN n2).other (Below.heap_setCell _ _ _ _ (by simp;omega))
 have hR2':=hR2.setAt' (st.at_+1) (st.at_+1) (by omega) hat
 rw [HBD.out] at hR2'
 have hg2:=(Below.heap_setCell (((w1.alloc (.cells #[.string ⟨#[]⟩,.string ⟨#[]⟩,.int .i64 st.at_,.slice none 0 0] 138)).drewN n2).setCell ⟨w1.heap.size,0,none⟩ (.string ⟨#[115,116,114]⟩)) ⟨b,1,none⟩ (.int .i64 (st.at_+1)) w1.heap.size hnb).trans (set0 (w:=(w1.alloc (.cells #[.string ⟨#[]⟩,.string ⟨#[]⟩,.int .i64 st.at_,.slice none 0 0] 138)).drewN n2) HA.out.2.1 (.string ⟨#[115,116,114]⟩))
 have hF2:=((HA.out.2.2.1.drewN n2).setCell (a:=⟨w1.heap.size,0,none⟩) hge (.string ⟨#[115,116,114]⟩)).setB 1 (.int .i64 (st.at_+1))
 have HS:=hide (And.intro hR2' (And.intro hg2 hF2))
 have hsz1:s.size≤600:=HA.out.1.sz
 clear hR2 hR2' hg2 hF2 HA c2 f1 f2 hR1 HBL
 go_wp2_with fail
 refine(digit_any _ _ (by omega)).mono ?_
 rintro e w2 ⟨rfl,rfl⟩
 rw [show isDigit 34=false by decide]
 go_wp2_with fail
 clear hfz hcz c0 c1
 obtain⟨a1,HA1⟩: ∃a1,Hid (st.at_+1=a1):=⟨_,hide rfl⟩
 have ha1:a1=st.at_+1:=HA1.out.symm
 have hm:=HMh.out
 rw [HA1.out] at hm
 have HMh:=hide hm
 clear hm
 go_loopg [] (s.size+1) (fun g wr=> ∃k,g+(k - a1)=s.size+1∧a1≤k∧k≤a1+12∧Rd wr b s k false∧wr.heap[w1.heap.size]?=some (.cells #[.string ⟨#[115,116,114]⟩,.string (s.extract a1 k),.int .i64 st.at_,.slice none 0 0] 138)∧Rf b w wr∧Hid (run isQuotable s false (12 -(k - a1)) k=run isQuotable s false 12 a1))
 case atStart=>exact⟨a1,by omega,Nat.le_refl _,by omega,by rw [ha1];exact HS.out.1,by rw [ext_zero];exact HS.out.2.1,HS.out.2.2,by simp [Hid]⟩
 case round=>
  obtain⟨k,hgk,hak,hkm,hRk,hgW,hFk,hrun⟩:=hrel
  have HGK:=hide hgk
  have hksz:=hRk.le
  have hxs:(s.extract a1 k).size=k - a1:=ext_size hak hksz
  obtain⟨c0,c1,c2,f1,f2,_,_⟩:=id hRk
  obtain⟨y0,y1,y2,y3,yf⟩:=box4' hgW
  have HRk:=hide hRk
  have HGW:=hide hgW
  have HAE:=hide ha1
  clear hgk hRk hgW ha1
  by_cases hcont:k - a1<12∧isQuotable (pk s k false)=true
  ·obtain⟨hkm2,hdk⟩:=hcont
   have hkl:k<s.size:=(pk_lt (s:=s) (a:=k) (d:=false) (fun e=>by rw [e] at hdk;exact absurd hdk (by decide))).2
   have hpk:pk s k false=(s[k].toNat:Int):=by simp [pk,hkl]
   have hq1:((s[k].toNat:Int) !=34)=true∧((s[k].toNat:Int) !=10)=true:=by
    rw [hpk] at hdk
    unfold isQuotable at hdk
    simp only [Bool.and_eq_true] at hdk
    exact⟨hdk.1.2,hdk.2⟩
   obtain⟨hq1,hq2⟩:=hq1
   have hrun2:Hid (run isQuotable s false (12 -(k+1 - a1)) (k+1)=run isQuotable s false 12 a1):=hide (by
    rw [←hrun.out,show 12 -(k - a1)=(12 -(k+1 - a1))+1 by omega,run_go hdk])
   have hsn:Hid (s.extract a1 k++s.extract k (k+1)=s.extract a1 (k+1)):=hide (ext_snoc hak hkl)
   have hlti:(k:Int)<s.size:=by omega
   clear hrun hdk hpk
   generalize hS:s.extract a1 k=S at*
   have HSS:=hide hS
   clear hS
   have hSz:(S.size:Int)<12:=by omega
   clear hxs
   have hwr:IntKind.i64.wrap ((k:Int)+1)=(k:Int)+1:=by rw [IntWalk.i64_left,IntWalk.wrap64_in _ (by omega)]
   have hki:(k:Int)+1≤s.size:=by omega
   go_wp2_with fail
   go_quiet (fail)
   go_wp2_with fail
   go_region
   have hRx:=(HRk.out.drewN (nq+1)).other (w':=(wr.drewN (nq+1)).setCell ⟨w1.heap.size,1,none⟩ (.string (S++s.extract k (k+1)))) (Below.heap_setCell _ _ _ _ (by simp;omega))
   have hRy:=hRx.setAt' (k+1) (k+1) (by omega) hkl
   have hgx:=set1 (w:=wr.drewN (nq+1)) HGW.out (.string (S++s.extract k (k+1)))
   have hFx:=((hFk.drewN (nq+1)).setCell (a:=⟨w1.heap.size,1,none⟩) hge (.string (S++s.extract k (k+1)))).setB 1 (.int .i64 (k+1))
   have hgy:=(Below.heap_setCell ((wr.drewN (nq+1)).setCell ⟨w1.heap.size,1,none⟩ (.string (S++s.extract k (k+1)))) ⟨b,1,none⟩ (.int .i64 (k+1)) w1.heap.size hnb).trans hgx
   obtain⟨x0,x1,x2,x3,x4,_,_⟩:=id hRx
   have HFIN:=hide (And.intro hRy (And.intro hgy hFx))
   clear hRx hRy hgx hFx hgy c0 c1 c2 f1 f2 y0 y1 y2 y3 yf
   go_wp2_with fail
   go_roundg (s.size+1 -(k+1 - a1))
   case measure=>have:=HGK.out;omega
   case rel=>
    refine⟨k+1,by have:=HGK.out;omega,by omega,by omega,HFIN.out.1,?_,HFIN.out.2.2,hrun2⟩
    rw [←hsn.out]
    exact HFIN.out.2.1
  ·have hrn:Hid (run isQuotable s false 12 a1=k):=by
    by_cases h8:k - a1<12
    ·refine hide ?_
     rw [←hrun.out]
     exact run_stop (by cases hc:isQuotable (pk s k false) with|false=>rfl|true=>exact absurd ⟨h8,hc⟩ hcont)
    ·exact hide (by rw [←hrun.out,show 12 -(k - a1)=0 by omega];rfl)
   generalize hS:s.extract a1 k=S at*
   have HSS:=hide hS
   clear hS
   by_cases h9:k - a1<12
   ·have hlen:(S.size:Int)<12:=by omega
    clear hxs
    by_cases hkl:k<s.size
    ·have hlti:(k:Int)<s.size:=by omega
     have hpk:pk s k false=(s[k].toNat:Int):=by simp [pk,hkl]
     cases h34:((s[k].toNat:Int) !=34)
     ·clear hpk hcont
      have hM:=HMh.out
      rw [hrn.out,HSS.out] at hM
      obtain⟨hl,h6⟩:=addE_some hM
      cases h6
      clear hM HMh hrn hrun
      go_wp2_with fail
      go_quiet (fail)
      go_wp2_with fail
      refine(eat_any b k s _ false _ (by exact HRk.out.drewN _) (by decide)).mono ?_
      rintro e w5 ⟨rfl,hR5,hs5⟩
      have HF:=hide (leaf_fin (st:=st) (c:=((signM s false [34] k).1,(signM s false [34] k).2,S)) (form:=1) (a:=st.at_) ((hFk.drewN _).trans hs5.rf) hge hnb ((hs5.block _ hnb).trans HGW.out) hR5 rfl (fun _=>⟨.inr (.inl ⟨rfl,rfl⟩),rfl⟩))
      go_wp2_with fail
      go_ret
      exact HF.out
     ·have h10:((s[k].toNat:Int) !=10)=false:=by
       cases h10:((s[k].toNat:Int) !=10) with
       |false=>rfl
       |true=>
        refine absurd ⟨h9,?_⟩ hcont
        rw [hpk]
        unfold isQuotable
        rw [h34,h10]
        have hne:((s[k].toNat:Int) != -1)=true:=by simp
        rw [hne]
        rfl
      clear hpk hcont
      have hM:=HMh.out
      rw [hrn.out,HSS.out] at hM
      obtain⟨hl,h6⟩:=addE_some hM
      cases h6
      clear hM HMh hrn hrun
      go_wp2_with fail
      go_quiet (fail)
      go_wp2_with fail
      refine(eat_any b k s _ false _ (by exact HRk.out.drewN _) (by decide)).mono ?_
      rintro e w5 ⟨rfl,hR5,hs5⟩
      have HF:=hide (leaf_fin (st:=st) (c:=((signM s false [34] k).1,(signM s false [34] k).2,S)) (form:=1) (a:=st.at_) ((hFk.drewN _).trans hs5.rf) hge hnb ((hs5.block _ hnb).trans HGW.out) hR5 rfl (fun _=>⟨.inr (.inl ⟨rfl,rfl⟩),rfl⟩))
      go_wp2_with fail
      go_ret
      exact HF.out
    ·have hlti: ¬(k:Int)<s.size:=by omega
     have hd:decide ((k:Int)<s.size)=false:=by simp;omega
     clear hcont
     have hM:=HMh.out
     rw [hrn.out,HSS.out] at hM
     obtain⟨hl,h6⟩:=addE_some hM
     cases h6
     clear hM HMh hrn hrun
     go_wp2_with fail
     go_quiet (fail)
     go_wp2_with fail
     refine(eat_any b k s _ false _ (by exact HRk.out.drewN _) (by decide)).mono ?_
     rintro e w5 ⟨rfl,hR5,hs5⟩
     have HF:=hide (leaf_fin (st:=st) (c:=((signM s false [34] k).1,(signM s false [34] k).2,S)) (form:=1) (a:=st.at_) ((hFk.drewN _).trans hs5.rf) hge hnb ((hs5.block _ hnb).trans HGW.out) hR5 rfl (fun _=>⟨.inr (.inl ⟨rfl,rfl⟩),rfl⟩))
     go_wp2_with fail
     go_ret
     exact HF.out
   ·have hlen: ¬(S.size:Int)<12:=by omega
    have hd:decide ((S.size:Int)<12)=false:=by simp;omega
    clear hxs hcont
    have hM:=HMh.out
    rw [hrn.out,HSS.out] at hM
    obtain⟨hl,h6⟩:=addE_some hM
    cases h6
    clear hM HMh hrn hrun
    go_wp2_with fail
    go_quiet (fail)
    go_wp2_with fail
    refine(eat_any b k s _ false _ (by exact HRk.out.drewN _) (by decide)).mono ?_
    rintro e w5 ⟨rfl,hR5,hs5⟩
    have HF:=hide (leaf_fin (st:=st) (c:=((signM s false [34] k).1,(signM s false [34] k).2,S)) (form:=1) (a:=st.at_) ((hFk.drewN _).trans hs5.rf) hge hnb ((hs5.block _ hnb).trans HGW.out) hR5 rfl (fun _=>⟨.inr (.inl ⟨rfl,rfl⟩),rfl⟩))
    go_wp2_with fail
    go_ret
    exact HF.out
theorem one_step (s:ByteArray)(n:Nat)(ih:OKR s 0 0 n):OKRf s 139 7 (n+1):=by
 intro b st w p r st' hM hR hp
 cases h1:isDigit (pkS s st)
 ·cases h2:(pkS s st==34)
  ·cases h3:(pkS s st==64)
   ·cases h4:(pkS s st==40)
    ·exact one_name s n b st w p r st' hM hR hp h1 h2 h3 h4
    ·exact one_paren s n b st w p r st' hM hR hp h1 h4 h2 h3 ih
   ·exact one_at s n b st w p r st' hM hR hp h1 h2 h3 ih
  ·exact one_quote s n b st w p r st' hM hR hp h1 h2
 ·exact one_digit s n b st w p r st' hM hR hp h1
theorem compared_step (s:ByteArray)(n:Nat)(ihs:OKRf s 92 2 n)(ihn: ∀m,m<n→OKR s 3 4 m):OKRf s 92 2 (n+1):=by
 intro b st w p r st' hM hR hp
 cases hc:(pkS s st !=33)
 ·exact compared_not s n ihs b st w p r st' hM hR hp hc
 ·rw [M_2,hc,if_pos rfl] at hM
  cases n with
  |zero=>simp [M] at hM
  |succ m=>exact compared_sum s m (ihn m (Nat.lt_succ_self m)) b st w p r st' hM hR hp hc
theorem all_RE (s:ByteArray): ∀n,OKR s 0 0 n∧OKR s 1 1 n∧OKRf s 92 2 n∧OKR s 3 4 n∧OKR s 4 5 n∧OKRf s 93 6 n∧OKRf s 139 7 n:=by
 have hz: ∀k tag,OKR s k tag 0:=fun k tag b st w p r st' h=>by simp [M] at h
 have hzf: ∀k tag,OKRf s k tag 0:=fun k tag b st w p r st' h=>by simp [M] at h
 intro n
 induction n using Nat.strongRecOn with
 |_ n ih=>
  cases n with
  |zero=>exact⟨hz _ _,hz _ _,hzf _ _,hz _ _,hz _ _,hzf _ _,hzf _ _⟩
  |succ n=>
   have hn:=ih n (Nat.lt_succ_self n)
   exact⟨lev0 s n fun m h=>(ih m (by omega)).2.1,lev1 s n fun m h=>lev2 s m (ih m (by omega)).2.2.1,compared_step s n hn.2.2.1 fun m h=>(ih m (by omega)).2.2.2.1,
    lev3 s n fun m h=>(ih m (by omega)).2.2.2.2.1,lev4 s n fun m h=>lev5 s m (ih m (by omega)).2.2.2.2.2.1,un_step s n hn.2.2.2.2.2.1 hn.2.2.2.2.2.2,one_step s n hn.1⟩
def ExtL (st st':St):Prop:=(∃F,st'.L=st.L++F)∧st'.A=st.A∧st'.E=st.E∧st'.C=st.C
theorem ExtL.refl (st:St):ExtL st st:=⟨⟨[],by simp⟩,rfl,rfl,rfl⟩
theorem ExtL.trans {a b c:St}(h:ExtL a b)(k:ExtL b c):ExtL a c:=by
 obtain⟨⟨F,h1⟩,h2,h3,h4⟩:=h
 obtain⟨⟨G,k1⟩,k2,k3,k4⟩:=k
 exact⟨⟨F++G,by rw [k1,h1,List.append_assoc]⟩,k2.trans h2,k3.trans h3,k4.trans h4⟩
theorem ExtL.sgn {s:ByteArray}{l:List UInt8}{st st':St}(h:ExtL (sgn s l st) st'):ExtL st st':=h
theorem addL_ext {st:St}{x:Lc}{r:Int×St}(h:addL st x=some r):ExtL st r.2:=by
 obtain⟨_,rfl⟩:=addL_some h
 exact⟨⟨[x],rfl⟩,rfl,rfl,rfl⟩
theorem ML_ext (s:ByteArray): ∀n tag l p k its st r,ML s n tag l p k its st=some r→ExtL st r.2:=by
 intro n
 induction n with
 |zero=>intro tag l p k its st r h;simp [ML] at h
 |succ n ih=>
  intro tag l p k its st r h
  have three: ∀{t1 t2:Nat} {st0:St} {x:Int×St→Lc},((ML s n t1 0 0 0 [] st0).bind fun r=>(addL r.2 (x r)).bind fun q=>ML s n t2 q.1 0 0 [] q.2)=some r→ExtL st0 r.2:=fun h=>by
   obtain⟨q,h1,h2⟩:=Option.bind_eq_some_iff.1 h
   obtain⟨q2,h3,h4⟩:=Option.bind_eq_some_iff.1 h2
   exact((ih _ _ _ _ _ _ _ h1).trans (addL_ext h3)).trans (ih _ _ _ _ _ _ _ h4)
  match tag,h with
  |0,h=>
   rw [ML_0] at h
   obtain⟨q,h1,h2⟩:=Option.bind_eq_some_iff.1 h
   exact(ih _ _ _ _ _ _ _ h1).trans (ih _ _ _ _ _ _ _ h2)
  |1,h=>
   rw [ML_1] at h
   obtain⟨q,h1,h2⟩:=Option.bind_eq_some_iff.1 h
   exact(ih _ _ _ _ _ _ _ h1).trans (ih _ _ _ _ _ _ _ h2)
  |10,h=>
   rw [ML_10] at h
   split at h
   ·exact(three h).sgn
   ·cases h;exact .refl _
  |11,h=>
   rw [ML_11] at h
   split at h
   ·exact(three h).sgn
   ·cases h;exact .refl _
  |2,h=>
   rw [ML_2] at h
   simp only at h
   split at h
   ·obtain⟨q,h1,h2⟩:=Option.bind_eq_some_iff.1 h
    have kk:=ih _ _ _ _ _ _ _ h1
    cases h2
    exact kk
   ·split at h
    ·exact ih _ _ _ _ _ _ _ h
    ·have kk:=addL_ext h;exact kk
  |3,h=>
   rw [ML_3] at h
   obtain⟨q,h1,h2⟩:=Option.bind_eq_some_iff.1 h
   have kk:=ih _ _ _ _ _ _ _ h1
   exact ExtL.trans kk (ih _ _ _ _ _ _ _ h2)
  |13,h=>
   rw [ML_13] at h
   split at h
   ·split at h
    ·obtain⟨q,h1,h2⟩:=Option.bind_eq_some_iff.1 h
     have kk:=ih _ _ _ _ _ _ _ h1
     exact ExtL.trans kk (ih _ _ _ _ _ _ _ h2)
    ·have kk:=addL_ext h;exact kk
   ·cases h
  |4,h=>simp [ML] at h
  |5,h=>simp [ML] at h
  |6,h=>simp [ML] at h
  |7,h=>simp [ML] at h
  |8,h=>simp [ML] at h
  |9,h=>simp [ML] at h
  |12,h=>simp [ML] at h
  |t+14,h=>simp [ML] at h
theorem ML_bad (s:ByteArray): ∀n tag l p k its st r,ML s n tag l p k its st=some r→tag≠3→st.bad=true→Stay st r.2:=by
 intro n
 induction n with
 |zero=>intro tag l p k its st r h;simp [ML] at h
 |succ n ih=>
  intro tag l p k its st r h ht hb
  have hpk:=pkS_bad (s:=s) hb
  match tag,h,ht with
  |0,h,_=>
   rw [ML_0] at h
   obtain⟨q,h1,h2⟩:=Option.bind_eq_some_iff.1 h
   have k1:=ih _ _ _ _ _ _ _ h1 (by omega) hb
   have k2:=ih _ _ _ _ _ _ _ h2 (by omega) k1.1
   exact⟨k2.1,k2.2.trans k1.2⟩
  |1,h,_=>
   rw [ML_1] at h
   obtain⟨q,h1,h2⟩:=Option.bind_eq_some_iff.1 h
   have k1:=ih _ _ _ _ _ _ _ h1 (by omega) hb
   have k2:=ih _ _ _ _ _ _ _ h2 (by omega) k1.1
   exact⟨k2.1,k2.2.trans k1.2⟩
  |10,h,_=>
   rw [ML_10,if_neg (by rw [hpk];decide)] at h
   cases h;exact⟨hb,rfl⟩
  |11,h,_=>
   rw [ML_11,if_neg (by rw [hpk];decide)] at h
   cases h;exact⟨hb,rfl⟩
  |2,h,_=>
   rw [ML_2] at h
   simp only at h
   rw [if_neg (by rw [hpk];decide),if_neg (by rw [hpk];decide),hb,nameM_badst] at h
   have:=addL_at h
   exact⟨this.1,this.2⟩
  |3,_,ht=>exact absurd rfl ht
  |13,h,_=>
   rw [ML_13] at h
   split at h
   ·rw [if_neg (by rw [hpk];decide)] at h
    have k1:=addL_at h
    have k2:=sgn_bad (s:=s) (c:=41) (cs:=[]) hb
    exact⟨k1.1.trans k2.1,k1.2.trans k2.2⟩
   ·cases h
  |4,h,_=>simp [ML] at h
  |5,h,_=>simp [ML] at h
  |6,h,_=>simp [ML] at h
  |7,h,_=>simp [ML] at h
  |8,h,_=>simp [ML] at h
  |9,h,_=>simp [ML] at h
  |12,h,_=>simp [ML] at h
  |t+14,h,_=>simp [ML] at h
def SegV (P:Value→Nat→Nat→Prop):List Value→List Int→Nat→Nat→Prop
 |[],[],a,e=>a=e
 |v::vs,i::is,a,e=> ∃j:Nat,i=(j:Int)∧P v a j∧SegV P vs is (j+1) e
 |_,_,_,_=>False
theorem SegV.imp {P Q:Value→Nat→Nat→Prop}(h: ∀v a i,P v a i→Q v a i): ∀(vs:List Value) (is:List Int) (a e:Nat),SegV P vs is a e→SegV Q vs is a e:=by
 intro vs
 induction vs with
 |nil=>intro is a e;cases is<;>exact id
 |cons v vs ih=>
  intro is a e
  cases is with
  |nil=>exact id
  |cons i is=>intro ⟨j,h1,h2,h3⟩;exact⟨j,h1,h _ _ _ h2,ih is _ _ h3⟩
theorem SegV.snoc {P:Value→Nat→Nat→Prop}: ∀(vs:List Value) (is:List Int) (a e:Nat) (v:Value) (j:Nat),SegV P vs is a e→P v e j→SegV P (vs++[v]) (is++[(j:Int)]) a (j+1):=by
 intro vs
 induction vs with
 |nil=>
  intro is a e v j h hp
  cases is with
  |nil=>have h:a=e:=h;subst h;exact⟨j,rfl,hp,rfl⟩
  |cons i is=>exact absurd h id
 |cons u vs ih=>
  intro is a e v j h hp
  cases is with
  |nil=>exact absurd h id
  |cons i is=>
   obtain⟨q,h1,h2,h3⟩:=h
   exact⟨q,h1,h2,ih is _ _ v j h3 hp⟩
theorem SegV.length {P:Value→Nat→Nat→Prop}: ∀(vs:List Value) (is:List Int) (a e:Nat),SegV P vs is a e→vs.length=is.length:=by
 intro vs
 induction vs with
 |nil=>intro is a e h;cases is with
  |nil=>rfl
  |cons i is=>exact absurd h id
 |cons v vs ih=>
  intro is a e h
  cases is with
  |nil=>exact absurd h id
  |cons i is=>obtain⟨j,_,_,h3⟩:=h;simp [ih is _ _ h3]
def Out (b B:Nat)(k:Nat):Prop:=k=b∨k<B
def SameX (X:Nat→Prop)(w w':World):Prop:= ∀k,k<w.heap.size→ ¬X k→w'.heap[k]?=w.heap[k]?
theorem Rf.sameX {b:Nat}{w w':World}(h:Rf b w w'){X:Nat→Prop}(hX:X b):SameX X w w':=fun k hk hn=>h.block k hk fun e=>hn (e▸hX)
theorem SameX.trans {X:Nat→Prop}{u v w:World}(h:SameX X u v)(k:SameX X v w)(hs:u.heap.size≤v.heap.size):SameX X u w:=fun i hi hn=>(k i (Nat.lt_of_lt_of_le hi hs) hn).trans (h i hi hn)
structure NodeX (X:Nat→Prop)(w:World)(v:Value)(op tx:ByteArray)(at_:Int)(kids:List Value):Prop where
 ex: ∃g kv,v= .pointer (some ⟨g,0,none⟩)∧ ¬X g∧w.heap[g]?=some (.cells #[.string op,.string tx,.int .i64 at_,kv] 138)∧w.ownsRow 0 89 1 kv kids.length kids∧ ∀k,kv.ownBlock=some k→ ¬X k
theorem Node.x {b B:Nat}{w:World}{v:Value}{op tx:ByteArray}{a:Int}{kids:List Value}(h:Node b B w v op tx a kids):NodeX (Out b B) w v op tx a kids:=by
 obtain⟨g,kv,h1,h2,h0,h3,h4,h5⟩:=h.ex
 refine⟨g,kv,h1,fun e=> ?_,h3,ownsRow_low h4 (Nat.zero_le _),fun k e q=> ?_⟩
 ·rcases e with e|e
  ·exact h2 e
  ·omega
 ·have:=(h4.lt k e).1
  rcases q with q|q
  ·exact h5 (q▸e)
  ·omega
theorem NodeX.keepX {X:Nat→Prop}{w w':World}{v:Value}{op tx:ByteArray}{a:Int}{kids:List Value}(h:NodeX X w v op tx a kids)(hr:SameX X w w'):NodeX X w' v op tx a kids:=by
 obtain⟨g,kv,h1,h2,h3,h4,h5⟩:=h.ex
 exact⟨g,kv,h1,h2,(hr g (Array.getElem?_eq_some_iff.1 h3).1 h2).trans h3,ownsRow_same h4 fun k e=>hr k (h4.lt k e).2 (h5 k e),h5⟩
theorem NodeX.mono {X X':Nat→Prop}(hX: ∀k,X' k→X k){w:World}{v:Value}{op tx:ByteArray}{a:Int}{kids:List Value}(h:NodeX X w v op tx a kids):NodeX X' w v op tx a kids:=by
 obtain⟨g,kv,h1,h2,h3,h4,h5⟩:=h.ex
 exact⟨g,kv,h1,fun e=>h2 (hX _ e),h3,h4,fun k e q=>h5 k e (hX _ q)⟩
theorem NodeX.cap {X:Nat→Prop}{w:World}{v:Value}{op tx:ByteArray}{a:Int}{kids:List Value}(h:NodeX X w v op tx a kids):NodeX (fun k=>X k∨w.heap.size≤k) w v op tx a kids:=by
 obtain⟨g,kv,h1,h2,h3,h4,h5⟩:=h.ex
 have hg:=(Array.getElem?_eq_some_iff.1 h3).1
 refine⟨g,kv,h1,fun e=> ?_,h3,h4,fun k e q=> ?_⟩
 ·rcases e with e|e
  ·exact h2 e
  ·omega
 ·have:=(h4.lt k e).2
  rcases q with q|q
  ·exact h5 k e q
  ·omega
def RefLX (X:Nat→Prop)(w:World)(L:List Lc):Nat→Value→Nat→Nat→Prop
 |0,_,_,_=>False
 |f+1,v,a,i=> ∃x,L[i]?=some x∧(
   (x.form=0∧a=i∧ ∃p,NodeX X w v sName x.text p [])∨
   (x.form=1∧ ∃(v1 v2:Value) (j k:Nat) (p:Int),i=k+1∧x.left=(j:Int)∧x.right=(k:Int)∧(x.text=⟨#[124,124]⟩∨x.text=⟨#[38,38]⟩)∧NodeX X w v x.text ⟨#[]⟩ p [v1,v2]∧RefLX X w L f v1 a j∧RefLX X w L f v2 (j+1) k)∨
   (x.form=2∧ ∃(vs:List Value) (c:UInt8),(c.toNat:Int)- 48=x.count∧48≤c.toNat∧c.toNat≤57∧NodeX X w v sOf ⟨#[c]⟩ x.place vs∧SegV (fun v a i=>RefLX X w L f v a i) vs x.items a i))
abbrev RefL (b B:Nat)(w:World)(L:List Lc)(f:Nat)(v:Value)(a i:Nat):Prop:=RefLX (Out b B) w L f v a i
theorem RefLX.keepX {X:Nat→Prop}{w w':World}{L:List Lc}(hr:SameX X w w'): ∀{f:Nat} {v:Value} {a i:Nat},RefLX X w L f v a i→RefLX X w' L f v a i:=by
 intro f
 induction f with
 |zero=>intro v a i h;exact absurd h id
 |succ f ih=>
  intro v a i h
  obtain⟨x,hx,h⟩:=h
  refine⟨x,hx,?_⟩
  rcases h with⟨h1,h2,p,h3⟩|⟨h1,v1,v2,j,k,p,h2,h3,h4,h8,h5,h6,h7⟩|⟨h1,vs,c,h2,h3,h4,h5,h6⟩
  ·exact .inl ⟨h1,h2,p,h3.keepX hr⟩
  ·exact .inr (.inl ⟨h1,v1,v2,j,k,p,h2,h3,h4,h8,h5.keepX hr,ih h6,ih h7⟩)
  ·exact .inr (.inr ⟨h1,vs,c,h2,h3,h4,h5.keepX hr,SegV.imp (fun _ _ _ q=>ih q) _ _ _ _ h6⟩)
theorem RefLX.mono {X X':Nat→Prop}(hX: ∀k,X' k→X k){w:World}{L:List Lc}: ∀{f:Nat} {v:Value} {a i:Nat},RefLX X w L f v a i→RefLX X' w L f v a i:=by
 intro f
 induction f with
 |zero=>intro v a i h;exact absurd h id
 |succ f ih=>
  intro v a i h
  obtain⟨x,hx,h⟩:=h
  refine⟨x,hx,?_⟩
  rcases h with⟨h1,h2,p,h3⟩|⟨h1,v1,v2,j,k,p,h2,h3,h4,h8,h5,h6,h7⟩|⟨h1,vs,c,h2,h3,h4,h5,h6⟩
  ·exact .inl ⟨h1,h2,p,h3.mono hX⟩
  ·exact .inr (.inl ⟨h1,v1,v2,j,k,p,h2,h3,h4,h8,h5.mono hX,ih h6,ih h7⟩)
  ·exact .inr (.inr ⟨h1,vs,c,h2,h3,h4,h5.mono hX,SegV.imp (fun _ _ _ q=>ih q) _ _ _ _ h6⟩)
theorem RefLX.cap {X:Nat→Prop}{w:World}{L:List Lc}: ∀{f:Nat} {v:Value} {a i:Nat},RefLX X w L f v a i→RefLX (fun k=>X k∨w.heap.size≤k) w L f v a i:=by
 intro f
 induction f with
 |zero=>intro v a i h;exact absurd h id
 |succ f ih=>
  intro v a i h
  obtain⟨x,hx,h⟩:=h
  refine⟨x,hx,?_⟩
  rcases h with⟨h1,h2,p,h3⟩|⟨h1,v1,v2,j,k,p,h2,h3,h4,h8,h5,h6,h7⟩|⟨h1,vs,c,h2,h3,h4,h5,h6⟩
  ·exact .inl ⟨h1,h2,p,h3.cap⟩
  ·exact .inr (.inl ⟨h1,v1,v2,j,k,p,h2,h3,h4,h8,h5.cap,ih h6,ih h7⟩)
  ·exact .inr (.inr ⟨h1,vs,c,h2,h3,h4,h5.cap,SegV.imp (fun _ _ _ q=>ih q) _ _ _ _ h6⟩)
theorem RefLX.more {X:Nat→Prop}{w:World}{L:List Lc}(F:List Lc): ∀{f:Nat} {v:Value} {a i:Nat},RefLX X w L f v a i→RefLX X w (L++F) f v a i:=by
 intro f
 induction f with
 |zero=>intro v a i h;exact absurd h id
 |succ f ih=>
  intro v a i h
  obtain⟨x,hx,h⟩:=h
  refine⟨x,by rw [List.getElem?_append_left (List.getElem?_eq_some_iff.1 hx).1];exact hx,?_⟩
  rcases h with⟨h1,h2,p,h3⟩|⟨h1,v1,v2,j,k,p,h2,h3,h4,h8,h5,h6,h7⟩|⟨h1,vs,c,h2,h3,h4,h5,h6⟩
  ·exact .inl ⟨h1,h2,p,h3⟩
  ·exact .inr (.inl ⟨h1,v1,v2,j,k,p,h2,h3,h4,h8,h5,ih h6,ih h7⟩)
  ·exact .inr (.inr ⟨h1,vs,c,h2,h3,h4,h5,SegV.imp (fun _ _ _ q=>ih q) _ _ _ _ h6⟩)
theorem RefLX.up {X:Nat→Prop}{w:World}{L:List Lc}: ∀{f:Nat} {v:Value} {a i:Nat},RefLX X w L f v a i→RefLX X w L (f+1) v a i:=by
 intro f
 induction f with
 |zero=>intro v a i h;exact absurd h id
 |succ f ih=>
  intro v a i h
  obtain⟨x,hx,h⟩:=h
  refine⟨x,hx,?_⟩
  rcases h with⟨h1,h2,p,h3⟩|⟨h1,v1,v2,j,k,p,h2,h3,h4,h8,h5,h6,h7⟩|⟨h1,vs,c,h2,h3,h4,h5,h6⟩
  ·exact .inl ⟨h1,h2,p,h3⟩
  ·exact .inr (.inl ⟨h1,v1,v2,j,k,p,h2,h3,h4,h8,h5,ih h6,ih h7⟩)
  ·exact .inr (.inr ⟨h1,vs,c,h2,h3,h4,h5,SegV.imp (fun _ _ _ q=>ih q) _ _ _ _ h6⟩)
theorem RefLX.ups {X:Nat→Prop}{w:World}{L:List Lc}{f:Nat}(g:Nat){v:Value}{a i:Nat}(h:RefLX X w L f v a i):RefLX X w L (f+g) v a i:=by
 induction g with
 |zero=>exact h
 |succ g ih=>exact ih.up
theorem RefLX.low {b B B':Nat}{w:World}{L:List Lc}(hr:B'≤B){f:Nat}{v:Value}{a i:Nat}(h:RefLX (Out b B) w L f v a i):RefLX (Out b B') w L f v a i:=h.mono fun k e=>e.imp id fun e=>by omega
theorem RefLX.keep {b B:Nat}{w w':World}{L:List Lc}(hr:Rf b w w'){f:Nat}{v:Value}{a i:Nat}(h:RefLX (Out b B) w L f v a i):RefLX (Out b B) w' L f v a i:=h.keepX (hr.sameX (.inl rfl))
def RefEX (X:Nat→Prop)(w:World)(E:List Ex):Nat→Value→Nat→Nat→Prop
 |0,_,_,_=>False
 |f+1,v,a,i=> ∃x,E[i]?=some x∧(
   (x.form=0∧a=i∧ ∃p,NodeX X w v sNum x.text p [])∨
   (x.form=1∧a=i∧ ∃p,NodeX X w v sStr x.text p [])∨
   (x.form=2∧a=i∧(x.text.data.toList=[116,114,117,101]∨x.text.data.toList=[102,97,108,115,101])∧ ∃p,NodeX X w v x.text x.text p [])∨
   (x.form=3∧a=i∧ ∃p,NodeX X w v sAttr x.text p [])∨
   (x.form=4∧a=i∧ ∃p,NodeX X w v sAt x.text p [])∨
   (x.form=5∧ ∃(v1:Value) (j:Nat),i=j+1∧x.left=(j:Int)∧(x.text=⟨#[33]⟩∧NodeX X w v sNot ⟨#[]⟩ x.place [v1]∨x.text=⟨#[45]⟩∧NodeX X w v sN ⟨#[]⟩ x.place [v1])∧RefEX X w E f v1 a j)∨
   (x.form=6∧ ∃(v1 v2:Value) (j k:Nat),i=k+1∧x.left=(j:Int)∧x.right=(k:Int)∧NodeX X w v x.text ⟨#[]⟩ x.place [v1,v2]∧RefEX X w E f v1 a j∧RefEX X w E f v2 (j+1) k))
theorem RefE.x {b B:Nat}{w:World}{E:List Ex}: ∀{f:Nat} {v:Value} {a i:Nat},RefE b B w E f v a i→RefEX (Out b B) w E f v a i:=by
 intro f
 induction f with
 |zero=>intro v a i h;exact absurd h id
 |succ f ih=>
  intro v a i h
  obtain⟨x,hx,h⟩:=h
  refine⟨x,hx,?_⟩
  rcases h with⟨h1,h2,p,h3⟩|⟨h1,h2,p,h3⟩|⟨h1,h2,h4,p,h3⟩|⟨h1,h2,p,h3⟩|⟨h1,h2,p,h3⟩|⟨h1,v1,j,h2,h3,h4,h5⟩|⟨h1,v1,v2,j,k,h2,h3,h4,h5,h6,h7⟩
  ·exact .inl ⟨h1,h2,p,h3.x⟩
  ·exact .inr (.inl ⟨h1,h2,p,h3.x⟩)
  ·exact .inr (.inr (.inl ⟨h1,h2,h4,p,h3.x⟩))
  ·exact .inr (.inr (.inr (.inl ⟨h1,h2,p,h3.x⟩)))
  ·exact .inr (.inr (.inr (.inr (.inl ⟨h1,h2,p,h3.x⟩))))
  ·exact .inr (.inr (.inr (.inr (.inr (.inl ⟨h1,v1,j,h2,h3,h4.imp (fun q=>⟨q.1,q.2.x⟩) (fun q=>⟨q.1,q.2.x⟩),ih h5⟩)))))
  ·exact .inr (.inr (.inr (.inr (.inr (.inr ⟨h1,v1,v2,j,k,h2,h3,h4,h5.x,ih h6,ih h7⟩)))))
theorem RefEX.keepX {X:Nat→Prop}{w w':World}{E:List Ex}(hr:SameX X w w'): ∀{f:Nat} {v:Value} {a i:Nat},RefEX X w E f v a i→RefEX X w' E f v a i:=by
 intro f
 induction f with
 |zero=>intro v a i h;exact absurd h id
 |succ f ih=>
  intro v a i h
  obtain⟨x,hx,h⟩:=h
  refine⟨x,hx,?_⟩
  rcases h with⟨h1,h2,p,h3⟩|⟨h1,h2,p,h3⟩|⟨h1,h2,h4,p,h3⟩|⟨h1,h2,p,h3⟩|⟨h1,h2,p,h3⟩|⟨h1,v1,j,h2,h3,h4,h5⟩|⟨h1,v1,v2,j,k,h2,h3,h4,h5,h6,h7⟩
  ·exact .inl ⟨h1,h2,p,h3.keepX hr⟩
  ·exact .inr (.inl ⟨h1,h2,p,h3.keepX hr⟩)
  ·exact .inr (.inr (.inl ⟨h1,h2,h4,p,h3.keepX hr⟩))
  ·exact .inr (.inr (.inr (.inl ⟨h1,h2,p,h3.keepX hr⟩)))
  ·exact .inr (.inr (.inr (.inr (.inl ⟨h1,h2,p,h3.keepX hr⟩))))
  ·exact .inr (.inr (.inr (.inr (.inr (.inl ⟨h1,v1,j,h2,h3,h4.imp (fun q=>⟨q.1,q.2.keepX hr⟩) (fun q=>⟨q.1,q.2.keepX hr⟩),ih h5⟩)))))
  ·exact .inr (.inr (.inr (.inr (.inr (.inr ⟨h1,v1,v2,j,k,h2,h3,h4,h5.keepX hr,ih h6,ih h7⟩)))))
theorem RefEX.mono {X X':Nat→Prop}(hX: ∀k,X' k→X k){w:World}{E:List Ex}: ∀{f:Nat} {v:Value} {a i:Nat},RefEX X w E f v a i→RefEX X' w E f v a i:=by
 intro f
 induction f with
 |zero=>intro v a i h;exact absurd h id
 |succ f ih=>
  intro v a i h
  obtain⟨x,hx,h⟩:=h
  refine⟨x,hx,?_⟩
  rcases h with⟨h1,h2,p,h3⟩|⟨h1,h2,p,h3⟩|⟨h1,h2,h4,p,h3⟩|⟨h1,h2,p,h3⟩|⟨h1,h2,p,h3⟩|⟨h1,v1,j,h2,h3,h4,h5⟩|⟨h1,v1,v2,j,k,h2,h3,h4,h5,h6,h7⟩
  ·exact .inl ⟨h1,h2,p,h3.mono hX⟩
  ·exact .inr (.inl ⟨h1,h2,p,h3.mono hX⟩)
  ·exact .inr (.inr (.inl ⟨h1,h2,h4,p,h3.mono hX⟩))
  ·exact .inr (.inr (.inr (.inl ⟨h1,h2,p,h3.mono hX⟩)))
  ·exact .inr (.inr (.inr (.inr (.inl ⟨h1,h2,p,h3.mono hX⟩))))
  ·exact .inr (.inr (.inr (.inr (.inr (.inl ⟨h1,v1,j,h2,h3,h4.imp (fun q=>⟨q.1,q.2.mono hX⟩) (fun q=>⟨q.1,q.2.mono hX⟩),ih h5⟩)))))
  ·exact .inr (.inr (.inr (.inr (.inr (.inr ⟨h1,v1,v2,j,k,h2,h3,h4,h5.mono hX,ih h6,ih h7⟩)))))
theorem RefEX.cap {X:Nat→Prop}{w:World}{E:List Ex}: ∀{f:Nat} {v:Value} {a i:Nat},RefEX X w E f v a i→RefEX (fun k=>X k∨w.heap.size≤k) w E f v a i:=by
 intro f
 induction f with
 |zero=>intro v a i h;exact absurd h id
 |succ f ih=>
  intro v a i h
  obtain⟨x,hx,h⟩:=h
  refine⟨x,hx,?_⟩
  rcases h with⟨h1,h2,p,h3⟩|⟨h1,h2,p,h3⟩|⟨h1,h2,h4,p,h3⟩|⟨h1,h2,p,h3⟩|⟨h1,h2,p,h3⟩|⟨h1,v1,j,h2,h3,h4,h5⟩|⟨h1,v1,v2,j,k,h2,h3,h4,h5,h6,h7⟩
  ·exact .inl ⟨h1,h2,p,h3.cap⟩
  ·exact .inr (.inl ⟨h1,h2,p,h3.cap⟩)
  ·exact .inr (.inr (.inl ⟨h1,h2,h4,p,h3.cap⟩))
  ·exact .inr (.inr (.inr (.inl ⟨h1,h2,p,h3.cap⟩)))
  ·exact .inr (.inr (.inr (.inr (.inl ⟨h1,h2,p,h3.cap⟩))))
  ·exact .inr (.inr (.inr (.inr (.inr (.inl ⟨h1,v1,j,h2,h3,h4.imp (fun q=>⟨q.1,q.2.cap⟩) (fun q=>⟨q.1,q.2.cap⟩),ih h5⟩)))))
  ·exact .inr (.inr (.inr (.inr (.inr (.inr ⟨h1,v1,v2,j,k,h2,h3,h4,h5.cap,ih h6,ih h7⟩)))))
theorem RefEX.more {X:Nat→Prop}{w:World}{E:List Ex}(F:List Ex): ∀{f:Nat} {v:Value} {a i:Nat},RefEX X w E f v a i→RefEX X w (E++F) f v a i:=by
 intro f
 induction f with
 |zero=>intro v a i h;exact absurd h id
 |succ f ih=>
  intro v a i h
  obtain⟨x,hx,h⟩:=h
  refine⟨x,by rw [List.getElem?_append_left (List.getElem?_eq_some_iff.1 hx).1];exact hx,?_⟩
  rcases h with⟨h1,h2,p,h3⟩|⟨h1,h2,p,h3⟩|⟨h1,h2,h4,p,h3⟩|⟨h1,h2,p,h3⟩|⟨h1,h2,p,h3⟩|⟨h1,v1,j,h2,h3,h4,h5⟩|⟨h1,v1,v2,j,k,h2,h3,h4,h5,h6,h7⟩
  ·exact .inl ⟨h1,h2,p,h3⟩
  ·exact .inr (.inl ⟨h1,h2,p,h3⟩)
  ·exact .inr (.inr (.inl ⟨h1,h2,h4,p,h3⟩))
  ·exact .inr (.inr (.inr (.inl ⟨h1,h2,p,h3⟩)))
  ·exact .inr (.inr (.inr (.inr (.inl ⟨h1,h2,p,h3⟩))))
  ·exact .inr (.inr (.inr (.inr (.inr (.inl ⟨h1,v1,j,h2,h3,h4.imp (fun q=>⟨q.1,q.2⟩) (fun q=>⟨q.1,q.2⟩),ih h5⟩)))))
  ·exact .inr (.inr (.inr (.inr (.inr (.inr ⟨h1,v1,v2,j,k,h2,h3,h4,h5,ih h6,ih h7⟩)))))
theorem RefEX.up {X:Nat→Prop}{w:World}{E:List Ex}: ∀{f:Nat} {v:Value} {a i:Nat},RefEX X w E f v a i→RefEX X w E (f+1) v a i:=by
 intro f
 induction f with
 |zero=>intro v a i h;exact absurd h id
 |succ f ih=>
  intro v a i h
  obtain⟨x,hx,h⟩:=h
  refine⟨x,hx,?_⟩
  rcases h with⟨h1,h2,p,h3⟩|⟨h1,h2,p,h3⟩|⟨h1,h2,h4,p,h3⟩|⟨h1,h2,p,h3⟩|⟨h1,h2,p,h3⟩|⟨h1,v1,j,h2,h3,h4,h5⟩|⟨h1,v1,v2,j,k,h2,h3,h4,h5,h6,h7⟩
  ·exact .inl ⟨h1,h2,p,h3⟩
  ·exact .inr (.inl ⟨h1,h2,p,h3⟩)
  ·exact .inr (.inr (.inl ⟨h1,h2,h4,p,h3⟩))
  ·exact .inr (.inr (.inr (.inl ⟨h1,h2,p,h3⟩)))
  ·exact .inr (.inr (.inr (.inr (.inl ⟨h1,h2,p,h3⟩))))
  ·exact .inr (.inr (.inr (.inr (.inr (.inl ⟨h1,v1,j,h2,h3,h4.imp (fun q=>⟨q.1,q.2⟩) (fun q=>⟨q.1,q.2⟩),ih h5⟩)))))
  ·exact .inr (.inr (.inr (.inr (.inr (.inr ⟨h1,v1,v2,j,k,h2,h3,h4,h5,ih h6,ih h7⟩)))))
theorem RefEX.ups {X:Nat→Prop}{w:World}{E:List Ex}{f:Nat}(g:Nat){v:Value}{a i:Nat}(h:RefEX X w E f v a i):RefEX X w E (f+g) v a i:=by
 induction g with
 |zero=>exact h
 |succ g ih=>exact ih.up
end Go.Proofs.YtkoohcilbpdgeaaGreatDoor
