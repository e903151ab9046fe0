import Derived.Test.YtkoohcilbpdgeaaGreatDoorC20
set_option linter.all false
set_option linter.unusedVariables false
set_option linter.unusedSimpArgs false
set_option linter.unnecessarySimpa false
set_option linter.constructorNameAsVariable false
set_option linter.deprecated false
set_option maxRecDepth 100000
set_option maxHeartbeats 6400000
namespace Go.Proofs.YtkoohcilbpdgeaaGreatDoor
open Go Go.RowKit
attribute [local go_sem] wrap64_byte
def kc (k:Int):Int:=if k=0 then 101 else if k=1 then 98 else if k=2 then 110 else 115
def DPost (x:Wt)(w:World)(e:Ending)(w':World):Prop:=e= .returned (.agg #[.int .u8 (kc x.kind),.bool x.truth,.int .i64 x.num,.string x.text])∧Below w.heap.size w w'
theorem of_any (base:Nat)(l:List (ByteArray×ByteArray))(v:Value)(nm:ByteArray)(w:World)(h:w.ownsRow base 144 2 v l.length ((l.map prCells).flatten))(hlen:l.length≤100000):
  Calls Tryz.prog 99 #[v,.string nm] w fun e w'=>e= .returned (.string (valM nm l))∧w'=w:=by
 obtain⟨a0,c0,rfl⟩:=ownsRow_slice h
 have HW:=hide h
 clear h
 go_enter Tryz.func99,Tryz.ntmps99
 go_wp2_with fail
 go_loopg [5] (l.length+1) (fun k iv wr=> ∃(i:Nat),k+i=l.length+1∧i≤l.length∧iv= .int .i64 i∧wr=w∧Hid (valM nm (l.drop i)=valM nm l))
 case atStart=>exact⟨0,rfl,Nat.zero_le _,rfl,rfl,rfl⟩
 case round=>
  obtain⟨i,hk,hiE,rfl,rfl,hfin⟩:=hrel
  have hHK:=hide hk
  clear hk
  by_cases hlt:i<l.length
  ·obtain⟨g,cap,hv,hb,hg⟩:=HW.out.form (by omega)
   injection hv with e1 e2 e3
   subst e1 e3
   obtain⟨x,hx⟩: ∃x,l[i]?=some x:=⟨l[i],List.getElem?_eq_getElem hlt⟩
   have q0:wr.cell? ⟨g,i*2,none⟩=some (.string x.1):=row_cell HW.out _ _ (flat_get prCells 2 prCells_len l i 0 x hx (by omega))
   have q1:wr.cell? ⟨g,i*2+1,none⟩=some (.string x.2):=row_cell HW.out _ _ (flat_get prCells 2 prCells_len l i 1 x hx (by omega))
   have hlt':(i:Int)<l.length:=by omega
   have hst:Hid (valM nm (l.drop i)=if x.1.toList==nm.toList then x.2 else valM nm (l.drop (i+1))):=hide (by
    obtain⟨hl,hx'⟩:=List.getElem?_eq_some_iff.1 hx
    rw [List.drop_eq_getElem_cons hl,hx']
    rfl)
   cases hq:(x.1.toList==nm.toList)
   ·go_wp2_with fail
    have hk:=hHK.out
    go_roundg (l.length - i)
    case measure=>omega
    case rel=>exact⟨i+1,by omega,by omega,by go_num,rfl,hide (by rw [←hfin.out,hst.out,hq];rfl)⟩
   ·go_wp2_with fail
    go_ret
    exact⟨by rw [←hfin.out,hst.out,hq];simp,rfl⟩
  ·have hlt': ¬(i:Int)<l.length:=by omega
   go_wp2_with fail
   go_ret
   exact⟨by rw [←hfin.out,List.drop_of_length_le (by omega)];simp [valM],rfl⟩
theorem held_any (n:Int)(w:World):Calls Tryz.prog 143 #[.int .i64 n] w fun e w'=>DPost (wNum n) w e w':=by
 have hB:=hide fun o:Obj=>(Below.refl w.heap.size w).alloc (Nat.le_refl _) o
 by_cases h1:999999999<n
 ·have hx:Hid (wNum n=wErr):=hide (by unfold wNum;rw [if_pos (.inl h1)])
  go_enter Tryz.func143,Tryz.ntmps143
  go_wp2_with fail
  refine bodyPost_ret (v:= .agg #[.int .u8 101,.bool false,.int .i64 0,.string ⟨#[]⟩]) (by simp [results,Tryz.results143,go_sem]) rfl ?_
  exact⟨by rw [hx.out];rfl,hB.out _⟩
 ·by_cases h2:n< -999999999
  ·have hx:Hid (wNum n=wErr):=hide (by unfold wNum;rw [if_pos (.inr h2)])
   go_enter Tryz.func143,Tryz.ntmps143
   go_wp2_with fail
   refine bodyPost_ret (v:= .agg #[.int .u8 101,.bool false,.int .i64 0,.string ⟨#[]⟩]) (by simp [results,Tryz.results143,go_sem]) rfl ?_
   exact⟨by rw [hx.out];rfl,hB.out _⟩
  ·have hx:Hid (wNum n=⟨2,false,n,⟨#[]⟩⟩):=hide (by unfold wNum;rw [if_neg (by omega)])
   go_enter Tryz.func143,Tryz.ntmps143
   go_wp2_with fail
   refine bodyPost_ret (v:= .agg #[.int .u8 110,.bool false,.int .i64 n,.string ⟨#[]⟩]) (by simp [results,Tryz.results143,go_sem]) rfl ?_
   exact⟨by rw [hx.out];rfl,hB.out _⟩
theorem ba_empty {u:ByteArray}(h:u.size=0):u=⟨#[]⟩:=by
 obtain⟨d⟩:=u
 have hd:d= #[]:=Array.eq_empty_of_size_eq_zero h
 rw [hd]
theorem run_before {p:Int→Bool}{s:ByteArray}{d:Bool}{j:Nat}(h:p (pk s j d)=false): ∀k a,a≤j→run p s d k a≤j:=by
 intro k
 induction k with
 |zero=>intro a h1;exact h1
 |succ k ih=>
  intro a h1
  unfold run
  by_cases hc:p (pk s a d)=true
  ·rw [if_pos hc]
   have:a≠j:=fun e=>by rw [e,h] at hc;cases hc
   exact ih (a+1) (by omega)
  ·rw [if_neg hc];exact h1
theorem run_through {p:Int→Bool}{s:ByteArray}{d:Bool}{r:Nat}(hr:p (pk s r d)=false): ∀k a,a≤r→r≤a+k→(∀j,a≤j→j<r→p (pk s j d)=true)→run p s d k a=r:=by
 intro k
 induction k with
 |zero=>
   intro a h1 h2 _;have:a=r:=by omega
   subst this;rfl
 |succ k ih=>
  intro a h1 h2 h3
  unfold run
  by_cases hc:a=r
  ·subst hc;rw [if_neg (by simp [hr])]
  ·rw [if_pos (h3 a (Nat.le_refl _) (by omega))]
   exact ih (a+1) (by omega) (by omega) fun j q1 q2=>h3 j (by omega) q2
theorem pk_end (t:ByteArray):pk t t.size false= -1:=by simp [pk]
theorem ns_short {t:ByteArray}{m:Nat}(hm:m=if pk t (fromM t) false==48 then 1 else 9)(h:run isDigit t false m (fromM t)<t.size):nsM t=wErr:=by
 unfold nsM bareNumber
 rw [←hm]
 simp only
 have h1:(bareM isDigit m t (fromM t) false).1=run isDigit t false m (fromM t):=by unfold bareM;simp only;split<;>rfl
 have h2:eofM t (bareM isDigit m t (fromM t) false).1 (bareM isDigit m t (fromM t) false).2.1=true:=by unfold eofM;rw [h1];simp [h]
 rw [h2];rfl
theorem ns_err {t:ByteArray}{i:Nat}(hi:fromM t+i<t.size)(h:isDigit (pk t (fromM t+i) false)=false∨9≤i):nsM t=wErr:=by
 refine ns_short rfl ?_
 rcases h with h|h
 ·exact Nat.lt_of_le_of_lt (run_before h _ _ (by omega)) hi
 ·have:=run_up isDigit t false (if pk t (fromM t) false==48 then 1 else 9) (fromM t)
  have:(if pk t (fromM t) false==48 then 1 else 9)≤9:=by split<;>omega
  omega
theorem ns_empty {t:ByteArray}(h:fromM t=t.size):nsM t=wErr:=by
 unfold nsM bareNumber
 simp only
 rw [h]
 have h1: ∀m,bareM isDigit m t t.size false=(t.size,true,⟨#[]⟩):=fun m=>bareM_bad (run_stop (by rw [pk_end];rfl)) (.inl rfl)
 rw [h1];rfl
theorem ns_zero {t:ByteArray}(h:pk t (fromM t) false=48)(h2:fromM t+1<t.size∨negM t=true):nsM t=wErr:=by
 have hlt:=(pk_lt (s:=t) (a:=fromM t) (d:=false) (by omega)).2
 have hm:(if pk t (fromM t) false==48 then 1 else 9)=1:=by rw [h];rfl
 by_cases h3:fromM t+1<t.size
 ·refine ns_short hm.symm ?_
  have:=run_up isDigit t false 1 (fromM t)
  omega
 ·have hn:=h2.resolve_left h3
  have hsz:t.size=fromM t+1:=by omega
  have hd:isDigit (pk t (fromM t) false)=true:=by rw [h];rfl
  have hr:run isDigit t false 1 (fromM t)=fromM t+1:=by rw [run_go hd];rfl
  have hb:bareM isDigit 1 t (fromM t) false=(fromM t+1,false,t.extract (fromM t) (fromM t+1)):=bareM_ok hr (by omega) (by rw [←hsz,pk_end];rfl)
  have hx:((t.extract (fromM t) (fromM t+1)).toList==[48])=true:=by
   have q:=sig1 (s:=t) (p:=fromM t) 48 (by omega)
   rw [q,h];rfl
  unfold nsM bareNumber
  rw [hm,hb]
  simp only
  rw [hx,hn]
  simp
theorem ns_ok {t:ByteArray}(h0:fromM t<t.size)(h9:t.size≤fromM t+9)(hd: ∀i,fromM t+i<t.size→isDigit (pk t (fromM t+i) false)=true)(hz:pk t (fromM t) false=48→ ¬fromM t+1<t.size∧negM t=false):
  nsM t=wNum (if negM t then - decM (t.extract (fromM t) t.size).toList else decM (t.extract (fromM t) t.size).toList):=by
 have hdd: ∀j,fromM t≤j→j<t.size→isDigit (pk t j false)=true:=fun j h1 h2=>by
  have:=hd (j - fromM t) (by omega)
  rwa [show fromM t+(j - fromM t)=j by omega] at this
 have hr:run isDigit t false (if pk t (fromM t) false==48 then 1 else 9) (fromM t)=t.size:=by
  refine run_through (by rw [pk_end];rfl) _ _ (by omega) ?_ hdd
  cases hq:(pk t (fromM t) false==48) with
  |true=>have:=hz (by simpa using hq);simp;omega
  |false=>simp;omega
 have hb:bareNumber t (fromM t) false=(t.size,false,t.extract (fromM t) t.size):=bareM_ok hr (by omega) (by rw [pk_end];rfl)
 unfold nsM
 rw [hb]
 simp only
 have h1:eofM t t.size false=false:=by simp [eofM]
 have h2:(negM t&&(t.extract (fromM t) t.size).toList==[48])=false:=by
  cases hn:negM t with
  |false=>rfl
  |true=>
   cases hq:((t.extract (fromM t) t.size).toList==[48]) with
   |false=>rfl
   |true=>
    have e1:(t.extract (fromM t) t.size).toList=[48]:=by simpa using hq
    have hl:t.size=fromM t+1:=by
     have:=congrArg List.length e1
     rw [ext_list] at this
     simp at this
     have hsz:t.data.size=t.size:=rfl
     omega
    rw [hl] at hq
    rw [sig1 (s:=t) (p:=fromM t) 48 (by omega)] at hq
    have:=hz (by simpa using hq)
    rw [hn] at this
    cases this.2
 rw [h1,h2];rfl
theorem numberR_neg (t:ByteArray)(w:World)(hs:t.size≤600)(hn:negM t=true):Calls Tryz.prog 98 #[.string t] w fun e w'=>DPost (nsM t) w e w':=by
 have HB0:=hide fun o:Obj=>(Below.refl w.heap.size w).alloc (Nat.le_refl _) o
 have hf:fromM t=1:=by unfold fromM;rw [hn];rfl
 have hpk:(pk t 0 false==45)=true:=hn
 have hlt0:=(pk_lt (s:=t) (a:=0) (d:=false) (fun e=>by rw [e] at hpk;cases hpk)).2
 have h45:((t[0].toNat:Int)==45)=true:=by simpa [pk,hlt0] using hpk
 have hne:(t.toList==([]:List UInt8))=false:=by
  rw [ByteArray.toList_eq]
  cases hq:(t.data.toList==([]:List UInt8)) with
  |false=>rfl
  |true=>simp at hq;exact absurd (show t.size=0 by simp [ByteArray.size,hq]) (by omega)
 have hnl: ¬t.toList=[]:=by simpa using hne
 have HU:Hid ((t.extract 1 t.size).size=t.size - 1∧ ∀i (h:i<(t.extract 1 t.size).size),((t.extract 1 t.size)[i].toNat:Int)=pk t (1+i) false):=hide (by
  have hsz:(t.extract 1 t.size).size=t.size - 1:=by simp
  refine⟨hsz,fun i h=> ?_⟩
  have h1:1+i<t.size:=by omega
  have:pk t (1+i) false=(t[1+i].toNat:Int):=by simp [pk,h1]
  rw [this]
  simp [ByteArray.getElem_extract])
 have HEX:Hid ((t.extract (fromM t) t.size).toList=(t.extract 1 t.size).toList):=hide (by rw [hf])
 have hz0:(w.alloc (.cells #[.int .u8 0,.bool false,.int .i64 0,.string ⟨#[]⟩] 102)).heap.size=w.heap.size+1:=by simp
 have HBX:=hide (HB0.out (.cells #[.int .u8 0,.bool false,.int .i64 0,.string ⟨#[]⟩] 102))
 have HX:=hide (heap_alloc_new w (.cells #[.int .u8 0,.bool false,.int .i64 0,.string ⟨#[]⟩] 102))
 have H0:=hide hz0
 clear hz0
 go_enter Tryz.func98,Tryz.ntmps98
 go_wp2_with fail
 have hz0:=H0.out
 generalize (w.alloc (.cells #[.int .u8 0,.bool false,.int .i64 0,.string ⟨#[]⟩] 102))=W1 at*
 generalize t.extract 1 t.size=u at*
 have hus1:u.size+1≤t.size:=by have:=HU.out.1;omega
 have hus2:t.size≤u.size+1:=by have:=HU.out.1;omega
 have hul:u.size≤600:=by omega
 obtain⟨y0,y1,y2,y3,g0,g1,g2,g3⟩:=boxw HX.out
 go_loopg [5,6] (u.size+1) (fun k nv iv wr=> ∃i:Nat,k+i=u.size+1∧i≤u.size∧i≤9∧iv= .int .i64 i∧nv= .int .i64 (decM (u.toList.take i))∧wr=W1∧Hid (Digs (u.toList.take i)))
 case atStart=>exact⟨0,rfl,Nat.zero_le _,by omega,rfl,rfl,rfl,hide (fun c hc=>by simp at hc)⟩
 case round=>
  obtain⟨i,hk,hil,hi9,rfl,rfl,rfl,hdg⟩:=hrel
  have HK:=hide hk
  clear hk
  by_cases hlt:i<u.size
  ·have hlt':(i:Int)<u.size:=by omega
   have hpi:Hid ((u[i].toNat:Int)=pk t (1+i) false):=hide (HU.out.2 i hlt)
   have hrng:0≤(u[i].toNat:Int)∧(u[i].toNat:Int)≤255:=by have:=u[i].toNat_lt;omega
   cases hdd:isDigit (u[i].toNat:Int)
   case false=>
    have hres:Hid (nsM t=wErr):=hide (ns_err (i:=i) (by rw [hf];omega) (.inl (by rw [hf,←hpi.out];exact hdd)))
    go_wp2_with (go_at_call 142;refine(digit_any _ _ hrng).mono ?_;rintro e w2 ⟨rfl,rfl⟩)
    obtain⟨z0,z1,z2,z3⟩:=stored4 HX.out (.int .u8 101) (.bool false) (.int .i64 0) (.string ⟨#[]⟩)
    refine bodyPost_ret (v:= .agg #[.int .u8 101,.bool false,.int .i64 0,.string ⟨#[]⟩]) (by simp [results,Tryz.results98,go_sem,z0,z1,z2,z3]) rfl ?_
    exact⟨by rw [hres.out];rfl,below4 HBX.out (Nat.le_refl _) _ _ _ _⟩
   case true=>
   by_cases h9:9≤i
   ·have h9':(9:Int)≤i:=by omega
    have hres:Hid (nsM t=wErr):=hide (ns_err (i:=i) (by rw [hf];omega) (.inr h9))
    go_wp2_with (go_at_call 142;refine(digit_any _ _ hrng).mono ?_;rintro e w2 ⟨rfl,rfl⟩)
    obtain⟨z0,z1,z2,z3⟩:=stored4 HX.out (.int .u8 101) (.bool false) (.int .i64 0) (.string ⟨#[]⟩)
    refine bodyPost_ret (v:= .agg #[.int .u8 101,.bool false,.int .i64 0,.string ⟨#[]⟩]) (by simp [results,Tryz.results98,go_sem,z0,z1,z2,z3]) rfl ?_
    exact⟨by rw [hres.out];rfl,below4 HBX.out (Nat.le_refl _) _ _ _ _⟩
   ·have h9': ¬(9:Int)≤i:=by omega
    have hget:u.toList[i]?=some u[i]:=by rw [ByteArray.toList_eq,List.getElem?_eq_getElem (show i<u.data.toList.length from hlt)];rfl
    have hc:48≤u[i].toNat∧u[i].toNat≤57:=by simp [isDigit] at hdd;omega
    have hdg':Hid (Digs (u.toList.take (i+1))):=hide (by
     rw [List.take_add_one,hget]
     intro c hcm
     rcases List.mem_append.1 hcm with q|q
     ·exact hdg.out c q
     ·simp at q;subst q;exact hc)
    have hr1:=decM_le (u.toList.take i) hdg.out (by rw [List.length_take];omega)
    have hst:Hid (decM (u.toList.take (i+1))=decM (u.toList.take i)*10+((u[i].toNat:Int)- 48)):=hide (by rw [List.take_add_one,hget];exact decM_snoc _ _)
    have hr2:=decM_le (u.toList.take (i+1)) hdg'.out (by rw [List.length_take];omega)
    rw [hst.out] at hr2
    generalize decM (u.toList.take i)=n at*
    have hc1:48≤(u[i].toNat:Int):=by omega
    have hc2:(u[i].toNat:Int)≤57:=by omega
    go_wp2_with (go_at_call 142;refine(digit_any _ _ hrng).mono ?_;rintro e w2 ⟨rfl,rfl⟩)
    have hk:=HK.out
    go_roundg (u.size - i)
    case measure=>omega
    case rel=>exact⟨i+1,by omega,by omega,by omega,by go_num,by rw [hst.out];go_num,rfl,hdg'⟩
  ·have hlt': ¬(i:Int)<u.size:=by omega
   have hiu:i=u.size:=by omega
   have hall:u.toList.take i=u.toList:=List.take_of_length_le (by rw [ByteArray.toList_eq];show u.size≤i;omega)
   rw [hall] at hdg ⊢
   have hu9:u.size≤9:=by omega
   clear hiu hall
   have hr1:=decM_le u.toList hdg.out (by rw [ByteArray.toList_eq];show u.size≤9;omega)
   by_cases hz:u.size=0
   ·have hu0:u=⟨#[]⟩:=ba_empty hz
    have hres:Hid (nsM t=wErr):=hide (ns_empty (by rw [hf];omega))
    subst hu0
    generalize decM (ByteArray.mk #[]).toList=n at*
    go_wp2_with fail
    obtain⟨z0,z1,z2,z3⟩:=stored4 HX.out (.int .u8 101) (.bool false) (.int .i64 0) (.string ⟨#[]⟩)
    refine bodyPost_ret (v:= .agg #[.int .u8 101,.bool false,.int .i64 0,.string ⟨#[]⟩]) (by simp [results,Tryz.results98,go_sem,z0,z1,z2,z3]) rfl ?_
    exact⟨by rw [hres.out];rfl,below4 HBX.out (Nat.le_refl _) _ _ _ _⟩
   ·have hz':0<u.size:=by omega
    have hune:(u.toList==([]:List UInt8))=false:=by
     rw [ByteArray.toList_eq]
     cases hq:(u.data.toList==([]:List UInt8)) with
     |false=>rfl
     |true=>simp at hq;exact absurd (show u.size=0 by simp [ByteArray.size,hq]) hz
    have hp0:=hide (HU.out.2 0 hz')
    cases h48:((u[0].toNat:Int)==48)
    case true=>
     have hpz:pk t (fromM t) false=48:=by rw [hf];have:=hp0.out;simp at h48 this;omega
     have hres:Hid (nsM t=wErr):=hide (ns_zero hpz (.inr hn))
     by_cases hu1:1<u.size
     ·have hu1':(1:Int)<u.size:=by omega
      generalize decM u.toList=n at*
      go_wp2_with fail
      obtain⟨z0,z1,z2,z3⟩:=stored4 HX.out (.int .u8 101) (.bool false) (.int .i64 0) (.string ⟨#[]⟩)
      refine bodyPost_ret (v:= .agg #[.int .u8 101,.bool false,.int .i64 0,.string ⟨#[]⟩]) (by simp [results,Tryz.results98,go_sem,z0,z1,z2,z3]) rfl ?_
      exact⟨by rw [hres.out];rfl,below4 HBX.out (Nat.le_refl _) _ _ _ _⟩
     ·have hu1': ¬(1:Int)<u.size:=by omega
      generalize decM u.toList=n at*
      go_wp2_with fail
      obtain⟨z0,z1,z2,z3⟩:=stored4 HX.out (.int .u8 101) (.bool false) (.int .i64 0) (.string ⟨#[]⟩)
      refine bodyPost_ret (v:= .agg #[.int .u8 101,.bool false,.int .i64 0,.string ⟨#[]⟩]) (by simp [results,Tryz.results98,go_sem,z0,z1,z2,z3]) rfl ?_
      exact⟨by rw [hres.out];rfl,below4 HBX.out (Nat.le_refl _) _ _ _ _⟩
    case false=>
     have hres:Hid (nsM t=wNum (- decM u.toList)):=hide (by
      have q:=ns_ok (t:=t) (by rw [hf];omega) (by rw [hf];omega) (fun j hj=>by
       rw [hf] at hj ⊢
       have hj':j<u.size:=by omega
       rw [←HU.out.2 j hj']
       have:=hdg.out u[j] (List.mem_of_getElem? (i:=j) (by rw [ByteArray.toList_eq,List.getElem?_eq_getElem (show j<u.data.toList.length from hj')];rfl))
       simp [isDigit];omega) (fun e=>by rw [hf] at e;have:=hp0.out;simp at h48 this;omega)
      rw [hn,HEX.out] at q
      exact q)
     generalize decM u.toList=n at*
     have hwn:Hid (wNum (-n)=⟨2,false,(-n),⟨#[]⟩⟩):=hide (by unfold wNum;rw [if_neg (by omega)])
     go_wp2_with fail
     obtain⟨z0,z1,z2,z3⟩:=stored4 HX.out (.int .u8 110) (.bool false) (.int .i64 (-n)) (.string ⟨#[]⟩)
     refine bodyPost_ret (v:= .agg #[.int .u8 110,.bool false,.int .i64 (-n),.string ⟨#[]⟩]) (by simp [results,Tryz.results98,go_sem,z0,z1,z2,z3]) rfl ?_
     exact⟨by rw [hres.out,hwn.out];rfl,below4 HBX.out (Nat.le_refl _) _ _ _ _⟩
theorem numberR_pos (t:ByteArray)(w:World)(hs:t.size≤600)(hn:negM t=false)(hlt0:0<t.size):Calls Tryz.prog 98 #[.string t] w fun e w'=>DPost (nsM t) w e w':=by
 have HB0:=hide fun o:Obj=>(Below.refl w.heap.size w).alloc (Nat.le_refl _) o
 have hf:fromM t=0:=by unfold fromM;rw [hn];rfl
 have hpk:(pk t 0 false==45)=false:=hn
 have HU:Hid (t.size=t.size - 0∧ ∀i (h:i<t.size),(t[i].toNat:Int)=pk t (0+i) false):=hide ⟨by omega,fun i h=>by simp [pk,h]⟩
 have HEX:Hid ((t.extract (fromM t) t.size).toList=t.toList):=hide (by rw [hf,ext_list,ByteArray.toList_eq];exact List.take_of_length_le (Nat.le_refl _))
 have hz0:(w.alloc (.cells #[.int .u8 0,.bool false,.int .i64 0,.string ⟨#[]⟩] 102)).heap.size=w.heap.size+1:=by simp
 have HBX:=hide (HB0.out (.cells #[.int .u8 0,.bool false,.int .i64 0,.string ⟨#[]⟩] 102))
 have HX:=hide (heap_alloc_new w (.cells #[.int .u8 0,.bool false,.int .i64 0,.string ⟨#[]⟩] 102))
 have H0:=hide hz0
 clear hz0
 have h45:((t[0].toNat:Int)==45)=false:=by simpa [pk,hlt0] using hpk
 have hne:(t.toList==([]:List UInt8))=false:=by
  rw [ByteArray.toList_eq]
  cases hq:(t.data.toList==([]:List UInt8)) with
  |false=>rfl
  |true=>simp at hq;exact absurd (show t.size=0 by simp [ByteArray.size,hq]) (by omega)
 have hnl: ¬t.toList=[]:=by simpa using hne
 go_enter Tryz.func98,Tryz.ntmps98
 go_wp2_with fail
 have hz0:=H0.out
 generalize (w.alloc (.cells #[.int .u8 0,.bool false,.int .i64 0,.string ⟨#[]⟩] 102))=W1 at*
 clear h45 hne hnl
 have hus1:t.size+0≤t.size:=by have:=HU.out.1;omega
 have hus2:t.size≤t.size+0:=by have:=HU.out.1;omega
 have hul:t.size≤600:=by omega
 obtain⟨y0,y1,y2,y3,g0,g1,g2,g3⟩:=boxw HX.out
 go_loopg [5,6] (t.size+1) (fun k nv iv wr=> ∃i:Nat,k+i=t.size+1∧i≤t.size∧i≤9∧iv= .int .i64 i∧nv= .int .i64 (decM (t.toList.take i))∧wr=W1∧Hid (Digs (t.toList.take i)))
 case atStart=>exact⟨0,rfl,Nat.zero_le _,by omega,rfl,rfl,rfl,hide (fun c hc=>by simp at hc)⟩
 case round=>
  obtain⟨i,hk,hil,hi9,rfl,rfl,rfl,hdg⟩:=hrel
  have HK:=hide hk
  clear hk
  by_cases hlt:i<t.size
  ·have hlt':(i:Int)<t.size:=by omega
   have hpi:Hid ((t[i].toNat:Int)=pk t (0+i) false):=hide (HU.out.2 i hlt)
   have hrng:0≤(t[i].toNat:Int)∧(t[i].toNat:Int)≤255:=by have:=t[i].toNat_lt;omega
   cases hdd:isDigit (t[i].toNat:Int)
   case false=>
    have hres:Hid (nsM t=wErr):=hide (ns_err (i:=i) (by rw [hf];omega) (.inl (by rw [hf,←hpi.out];exact hdd)))
    go_wp2_with (go_at_call 142;refine(digit_any _ _ hrng).mono ?_;rintro e w2 ⟨rfl,rfl⟩)
    obtain⟨z0,z1,z2,z3⟩:=stored4 HX.out (.int .u8 101) (.bool false) (.int .i64 0) (.string ⟨#[]⟩)
    refine bodyPost_ret (v:= .agg #[.int .u8 101,.bool false,.int .i64 0,.string ⟨#[]⟩]) (by simp [results,Tryz.results98,go_sem,z0,z1,z2,z3]) rfl ?_
    exact⟨by rw [hres.out];rfl,below4 HBX.out (Nat.le_refl _) _ _ _ _⟩
   case true=>
   by_cases h9:9≤i
   ·have h9':(9:Int)≤i:=by omega
    have hres:Hid (nsM t=wErr):=hide (ns_err (i:=i) (by rw [hf];omega) (.inr h9))
    go_wp2_with (go_at_call 142;refine(digit_any _ _ hrng).mono ?_;rintro e w2 ⟨rfl,rfl⟩)
    obtain⟨z0,z1,z2,z3⟩:=stored4 HX.out (.int .u8 101) (.bool false) (.int .i64 0) (.string ⟨#[]⟩)
    refine bodyPost_ret (v:= .agg #[.int .u8 101,.bool false,.int .i64 0,.string ⟨#[]⟩]) (by simp [results,Tryz.results98,go_sem,z0,z1,z2,z3]) rfl ?_
    exact⟨by rw [hres.out];rfl,below4 HBX.out (Nat.le_refl _) _ _ _ _⟩
   ·have h9': ¬(9:Int)≤i:=by omega
    have hget:t.toList[i]?=some t[i]:=by rw [ByteArray.toList_eq,List.getElem?_eq_getElem (show i<t.data.toList.length from hlt)];rfl
    have hc:48≤t[i].toNat∧t[i].toNat≤57:=by simp [isDigit] at hdd;omega
    have hdg':Hid (Digs (t.toList.take (i+1))):=hide (by
     rw [List.take_add_one,hget]
     intro c hcm
     rcases List.mem_append.1 hcm with q|q
     ·exact hdg.out c q
     ·simp at q;subst q;exact hc)
    have hr1:=decM_le (t.toList.take i) hdg.out (by rw [List.length_take];omega)
    have hst:Hid (decM (t.toList.take (i+1))=decM (t.toList.take i)*10+((t[i].toNat:Int)- 48)):=hide (by rw [List.take_add_one,hget];exact decM_snoc _ _)
    have hr2:=decM_le (t.toList.take (i+1)) hdg'.out (by rw [List.length_take];omega)
    rw [hst.out] at hr2
    generalize decM (t.toList.take i)=n at*
    have hc1:48≤(t[i].toNat:Int):=by omega
    have hc2:(t[i].toNat:Int)≤57:=by omega
    go_wp2_with (go_at_call 142;refine(digit_any _ _ hrng).mono ?_;rintro e w2 ⟨rfl,rfl⟩)
    have hk:=HK.out
    go_roundg (t.size - i)
    case measure=>omega
    case rel=>exact⟨i+1,by omega,by omega,by omega,by go_num,by rw [hst.out];go_num,rfl,hdg'⟩
  ·have hlt': ¬(i:Int)<t.size:=by omega
   have hiu:i=t.size:=by omega
   have hall:t.toList.take i=t.toList:=List.take_of_length_le (by rw [ByteArray.toList_eq];show t.size≤i;omega)
   rw [hall] at hdg ⊢
   have hu9:t.size≤9:=by omega
   clear hiu hall
   have hr1:=decM_le t.toList hdg.out (by rw [ByteArray.toList_eq];show t.size≤9;omega)
   by_cases hz:t.size=0
   ·exact absurd hz (by omega)
   ·have hz':0<t.size:=by omega
    have hune:(t.toList==([]:List UInt8))=false:=by
     rw [ByteArray.toList_eq]
     cases hq:(t.data.toList==([]:List UInt8)) with
     |false=>rfl
     |true=>simp at hq;exact absurd (show t.size=0 by simp [ByteArray.size,hq]) hz
    have hp0:=hide (HU.out.2 0 hz')
    cases h48:((t[0].toNat:Int)==48)
    case true=>
     have hpz:pk t (fromM t) false=48:=by rw [hf];have:=hp0.out;simp at h48 this;omega
     by_cases hu1:1<t.size
     ·have hu1':(1:Int)<t.size:=by omega
      have hres:Hid (nsM t=wErr):=hide (ns_zero hpz (.inl (by rw [hf];omega)))
      generalize decM t.toList=n at*
      go_wp2_with fail
      obtain⟨z0,z1,z2,z3⟩:=stored4 HX.out (.int .u8 101) (.bool false) (.int .i64 0) (.string ⟨#[]⟩)
      refine bodyPost_ret (v:= .agg #[.int .u8 101,.bool false,.int .i64 0,.string ⟨#[]⟩]) (by simp [results,Tryz.results98,go_sem,z0,z1,z2,z3]) rfl ?_
      exact⟨by rw [hres.out];rfl,below4 HBX.out (Nat.le_refl _) _ _ _ _⟩
     ·have hu1': ¬(1:Int)<t.size:=by omega
      have hres:Hid (nsM t=wNum (decM t.toList)):=hide (by
       have q:=ns_ok (t:=t) (by rw [hf];omega) (by rw [hf];omega) (fun j hj=>by
        rw [hf] at hj ⊢
        have hj':j<t.size:=by omega
        rw [←HU.out.2 j hj']
        have:=hdg.out t[j] (List.mem_of_getElem? (i:=j) (by rw [ByteArray.toList_eq,List.getElem?_eq_getElem (show j<t.data.toList.length from hj')];rfl))
        simp [isDigit];omega) (fun _=>⟨by rw [hf];omega,hn⟩)
       rw [hn,HEX.out] at q
       exact q)
      generalize decM t.toList=n at*
      have hwn:Hid (wNum n=⟨2,false,n,⟨#[]⟩⟩):=hide (by unfold wNum;rw [if_neg (by omega)])
      go_wp2_with fail
      obtain⟨z0,z1,z2,z3⟩:=stored4 HX.out (.int .u8 110) (.bool false) (.int .i64 n) (.string ⟨#[]⟩)
      refine bodyPost_ret (v:= .agg #[.int .u8 110,.bool false,.int .i64 n,.string ⟨#[]⟩]) (by simp [results,Tryz.results98,go_sem,z0,z1,z2,z3]) rfl ?_
      exact⟨by rw [hres.out,hwn.out];rfl,below4 HBX.out (Nat.le_refl _) _ _ _ _⟩
    case false=>
     have hres:Hid (nsM t=wNum (decM t.toList)):=hide (by
      have q:=ns_ok (t:=t) (by rw [hf];omega) (by rw [hf];omega) (fun j hj=>by
       rw [hf] at hj ⊢
       have hj':j<t.size:=by omega
       rw [←HU.out.2 j hj']
       have:=hdg.out t[j] (List.mem_of_getElem? (i:=j) (by rw [ByteArray.toList_eq,List.getElem?_eq_getElem (show j<t.data.toList.length from hj')];rfl))
       simp [isDigit];omega) (fun e=>by rw [hf] at e;have:=hp0.out;simp at h48 this;omega)
      rw [hn,HEX.out] at q
      exact q)
     generalize decM t.toList=n at*
     have hwn:Hid (wNum n=⟨2,false,n,⟨#[]⟩⟩):=hide (by unfold wNum;rw [if_neg (by omega)])
     go_wp2_with fail
     obtain⟨z0,z1,z2,z3⟩:=stored4 HX.out (.int .u8 110) (.bool false) (.int .i64 n) (.string ⟨#[]⟩)
     refine bodyPost_ret (v:= .agg #[.int .u8 110,.bool false,.int .i64 n,.string ⟨#[]⟩]) (by simp [results,Tryz.results98,go_sem,z0,z1,z2,z3]) rfl ?_
     exact⟨by rw [hres.out,hwn.out];rfl,below4 HBX.out (Nat.le_refl _) _ _ _ _⟩
theorem numberR_empty (w:World):Calls Tryz.prog 98 #[.string ⟨#[]⟩] w fun e w'=>DPost (nsM ⟨#[]⟩) w e w':=by
 have HB0:=hide ((Below.refl w.heap.size w).alloc (Nat.le_refl _) (.cells #[.int .u8 0,.bool false,.int .i64 0,.string ⟨#[]⟩] 102))
 have hres:Hid (nsM ⟨#[]⟩=wErr):=hide (ns_empty rfl)
 have HX:=hide (heap_alloc_new w (.cells #[.int .u8 0,.bool false,.int .i64 0,.string ⟨#[]⟩] 102))
 obtain⟨y0,y1,y2,y3,g0,g1,g2,g3⟩:=boxw HX.out
 go_enter Tryz.func98,Tryz.ntmps98
 go_wp2_with fail
 go_loopg [5,6] 1 (fun k nv iv wr=>iv= .int .i64 0∧nv= .int .i64 0∧wr=(w.alloc (.cells #[.int .u8 0,.bool false,.int .i64 0,.string ⟨#[]⟩] 102)))
 case atStart=>exact⟨rfl,rfl,rfl⟩
 case round=>
  obtain⟨rfl,rfl,rfl⟩:=hrel
  go_wp2_with fail
  refine bodyPost_ret (v:= .agg #[.int .u8 101,.bool false,.int .i64 0,.string ⟨#[]⟩]) (by simp [results,Tryz.results98,go_sem]) rfl ?_
  refine⟨by rw [hres.out];rfl,?_⟩
  exact(Below.refl w.heap.size w).alloc (Nat.le_refl _) _
theorem numberR_any (t:ByteArray)(w:World)(hs:t.size≤600):Calls Tryz.prog 98 #[.string t] w fun e w'=>DPost (nsM t) w e w':=by
 cases hn:negM t with
 |true=>exact numberR_neg t w hs hn
 |false=>
  by_cases h0:0<t.size
  ·exact numberR_pos t w hs hn h0
  ·rw [ba_empty (u:=t) (by omega)];exact numberR_empty w
end Go.Proofs.YtkoohcilbpdgeaaGreatDoor
