import Derived.Laws.OwnMore
import Derived.Test.YtkoohcilbpdgeaaGreatDoorC43
set_option linter.all false
set_option linter.unusedVariables false
set_option linter.unusedSimpArgs false
set_option linter.unnecessarySimpa false
set_option linter.constructorNameAsVariable false
set_option linter.deprecated false
set_option maxRecDepth 100000
set_option maxHeartbeats 6400000
namespace Go.Proofs.YtkoohcilbpdgeaaGreatDoor
open Go Go.RowKit
attribute [local go_sem] wrap64_byte
theorem longerRows_any (gb base lb vb:Nat)(st:St)(V:Nat→Value)(iv cv:List Value)(l:List (ByteArray×ByteArray))(av:Value)(vals:List ByteArray)(vv:Value)(qs:List ByteArray)(qv:Value)(ib gg:Nat)(lens:List Int)(lv:Value)(given:List Int)(gv:Value)(w:World)(h:Gd w gb base lb vb st V iv cv l av vals vv qs qv)(hl:w.ownsRow ib 3 1 lv lens.length (lens.map (Value.int .i64)))(hll:lens.length≤100000)(hg:w.ownsRow gg 3 1 gv given.length (given.map (Value.int .i64)))(hgl:given.length≤100000)(hA:st.A.length≤100000)(hL:st.L.length≤100000)(hto:Tos st.A st.L)(hql:qs.length≤100000)(hb: ∀j,0≤typeAtM lens j∧typeAtM lens j≤100000):
  Calls Tryz.prog 110 #[.pointer (some ⟨gb,0,none⟩),gv,lv] w fun e w'=>LvPost (lgM st.A (lnM st.A st.L) qs given lens) w e w':=by
 obtain⟨en,hbx⟩:=h.box
 obtain⟨a3,k3,e3⟩:=ownsRow_slice (h.tree.own 3 (by omega) (by omega))
 obtain⟨ag0,kg0,rfl⟩:=ownsRow_slice hg
 obtain⟨al,kl,rfl⟩:=ownsRow_slice hl
 have hgb:=lt_of_get hbx
 have b1:=(box8 hbx).2.1
 rw [e3] at b1
 have HG:=hide h
 have HGV:=hide (And.intro hg hl)
 obtain⟨i0,hi,hz0,hz1,hz2⟩:=info_parts info3
 have HM:=hide (World.ownsRow_made (base:=w.heap.size) (e:=3) (size:=1) w #[] 0 (Nat.le_refl _) (by decide) (by simp))
 have HB0:Hid (Below w.heap.size w (w.alloc (.cells #[] 3))):=hide ((Below.refl _ _).alloc (Nat.le_refl _) _)
 have hlg:Hid (lgM st.A (lnM st.A st.L) qs given lens=(List.range st.A.length).map (fun(j:Nat)=>if 0<typeAtM given (j:Int) then rlnM st.A (lnM st.A st.L) qs lens j else 0)):=hide rfl
 obtain⟨F,hF⟩: ∃F:Nat→Int,F=(fun(j:Nat)=>if 0<typeAtM given (j:Int) then rlnM st.A (lnM st.A st.L) qs lens j else 0):=⟨_,rfl⟩
 rw [←hF] at hlg
 have HF:=hide hF
 clear h hbx hg hl e3 hF
 go_enter Tryz.func110,Tryz.ntmps110
 go_wp2_with fail
 go_loopg [7,8] (st.A.length+1) (fun k tv jv wr=> ∃(i:Nat),k+i=st.A.length+1∧i≤st.A.length∧jv= .int .i64 i∧Hid (wr.ownsRow w.heap.size 3 1 tv i (((List.range i).map F).map (Value.int .i64)))∧Hid (Below w.heap.size w wr))
 case atStart=>exact⟨0,rfl,Nat.zero_le _,rfl,hide HM.out,HB0⟩
 case round=>
  obtain⟨i,hk,hiC,rfl,HOW,HB⟩:=hrel
  have hHK:=hide hk
  clear hk
  obtain⟨ag,kg,rfl⟩:=ownsRow_slice HOW.out
  have d1:wr.cell? ⟨gb,1,none⟩=some (.slice a3 (nOf st 3) k3):=(HB.out.cell (p:=⟨gb,1,none⟩) hgb).trans b1
  have hn3:nOf st 3=st.A.length:=rfl
  rw [hn3] at d1
  have hz0':w.heap.size≤wr.heap.size:=HB.out.size
  by_cases hlt:i<st.A.length
  ·have hlt':(i:Int)<st.A.length:=by omega
   have hg2:=ownsRow_same HGV.out.1 fun k e=>HB.out.block k (HGV.out.1.lt k e).2
   have hl2:=ownsRow_same HGV.out.2 fun k e=>HB.out.block k (HGV.out.2.lt k e).2
   have HLE:=hide (fun N=>levelAt_any gg given _ i (wr.drewN N) (ownsRow_same (w':=wr.drewN N) hg2 fun k e=>rfl) hgl)
   have HRL:=hide (rowLength_any gb base lb vb st V iv cv l av vals vv qs qv ib lens _ i wr (HG.out.keep HB.out) hl2 hll hA hL hto hql hb)
   have hFi:Hid (F i=if 0<typeAtM given (i:Int) then rlnM st.A (lnM st.A st.L) qs lens i else 0):=hide (by rw [HF.out])
   clear hg2 hl2
   generalize typeAtM given (i:Int)=t at*
   by_cases ht:0<t
   ·obtain⟨z,hz⟩: ∃z,rlnM st.A (lnM st.A st.L) qs lens i=z:=⟨_,rfl⟩
    have HZ:Hid (F i=z):=hide (by rw [hFi.out,if_pos ht,hz])
    rw [hz] at HRL
    clear hz hFi
    go_wp2_with (go_at_call 48;refine(HLE.out 0).mono ?_;rintro e w2 ⟨rfl,rfl⟩)
    refine HRL.out.mono ?_
    rintro e w2 ⟨rfl,hB2⟩
    have HO2:=hide (ownsRow_same HOW.out fun k e=>hB2.block k (HOW.out.lt k e).2)
    have HB2:=hide (HB.out.trans (hB2.mono hz0'))
    have hw2:w.heap.size≤w2.heap.size:=HB2.out.size
    clear hB2 HRL
    go_wp2_with (at_builtin;go_must (refine wpList_append_lies _ rfl (.tmp 29) (.tmp 31) 60 rfl w.heap.size 3 i0 _ 1 8 Tryz.underlying60 hi hz0 hz1 hz2 rfl (by omega) _ i _ rfl (HO2.out.alloc _) ⟨w2.heap.size,0,none⟩ 1 1 [.int .i64 z] rfl rfl ?news ?one (by omega) ?mm ?bys ?base (w2.heap.size+1) (by simp) ?rest))
    case news=>exact World.news_of_block (heap_alloc_new w2 _)
    case one=>intro u hu;simp at hu;subst hu;rfl
    case mm=>unfold maxLen;omega
    case bys=>omega
    case base=>simp;omega
    case rest=>
     intro gb2 cap2 w3 hown3 hgrow hat hlt2
     have hB3:=hide (Below.grown (HB2.out.alloc hw2 _) hgrow (by simp;omega) fun k e=>(HO2.out.lt k e).1)
     have hown4:Hid (w3.ownsRow w.heap.size 3 1 (.slice (some ⟨gb2,0,none⟩) (i+1) cap2) (i+1) (((List.range (i+1)).map F).map (Value.int .i64))):=hide (by rw [List.range_succ,List.map_append,List.map_append];simpa [HZ.out] using hown3)
     clear hown3 hgrow hat
     go_wp2_with fail
     have hk:=hHK.out
     go_roundg (st.A.length - i)
     case measure=>omega
     case rel=>exact⟨i+1,by omega,by omega,by go_num,hown4,hB3⟩
   ·have HZ:Hid (F i=0):=hide (by rw [hFi.out,if_neg ht])
    have HO2:=hide HOW.out
    have HB2:=hide HB.out
    have hw2:=hz0'
    clear hFi HRL
    go_wp2_with (first|(go_at_call 48;refine(HLE.out 0).mono ?_;rintro e w2 ⟨rfl,rfl⟩)|(at_builtin;go_must (refine wpList_append_lies _ rfl (.tmp 29) (.tmp 31) 60 rfl w.heap.size 3 i0 _ 1 8 Tryz.underlying60 hi hz0 hz1 hz2 rfl (by omega) _ i _ rfl (HO2.out.alloc _) ⟨wr.heap.size,0,none⟩ 1 1 [.int .i64 0] rfl rfl ?news ?one (by omega) ?mm ?bys ?base (wr.heap.size+1) (by simp) ?rest)))
    case news=>exact World.news_of_block (heap_alloc_new wr _)
    case one=>intro u hu;simp at hu;subst hu;rfl
    case mm=>unfold maxLen;omega
    case bys=>omega
    case base=>simp;omega
    case rest=>
     intro gb2 cap2 w3 hown3 hgrow hat hlt2
     have hB3:=hide (Below.grown (HB2.out.alloc hw2 _) hgrow (by simp;omega) fun k e=>(HO2.out.lt k e).1)
     have hown4:Hid (w3.ownsRow w.heap.size 3 1 (.slice (some ⟨gb2,0,none⟩) (i+1) cap2) (i+1) (((List.range (i+1)).map F).map (Value.int .i64))):=hide (by rw [List.range_succ,List.map_append,List.map_append];simpa [HZ.out] using hown3)
     clear hown3 hgrow hat
     go_wp2_with fail
     have hk:=hHK.out
     go_roundg (st.A.length - i)
     case measure=>omega
     case rel=>exact⟨i+1,by omega,by omega,by go_num,hown4,hB3⟩
  ·have hlt': ¬(i:Int)<st.A.length:=by omega
   have hiC':i=st.A.length:=by omega
   have hfin:wr.ownsRow w.heap.size 3 1 (.slice ag i kg) (lgM st.A (lnM st.A st.L) qs given lens).length ((lgM st.A (lnM st.A st.L) qs given lens).map (Value.int .i64)):=by
    have hq:=HOW.out
    rw [hlg.out,List.length_map,List.length_range]
    rw [hiC'] at hq ⊢
    exact hq
   have HFI:=hide hfin
   clear hfin hiC'
   go_wp2_with fail
   go_ret
   exact⟨_,rfl,HFI.out,HB.out⟩
theorem rw_all {A:List As}{ln:Nat→List ByteArray}{qs:List ByteArray}{g:List Int}{r:Nat}(hr:r≤100000)(j:Int):0≤typeAtM (rwM A ln qs g r) j∧typeAtM (rwM A ln qs g r) j≤100000:=by
 by_cases h:j<0
 ·rw [tA_neg h];omega
 ·obtain⟨k,rfl⟩:=Int.eq_ofNat_of_zero_le (show 0≤j by omega)
  have:=rw_bound (A:=A) (ln:=ln) (qs:=qs) (g:=g) r k
  omega
theorem rowLengths_any (gb base lb vb:Nat)(st:St)(V:Nat→Value)(iv cv:List Value)(l:List (ByteArray×ByteArray))(av:Value)(vals:List ByteArray)(vv:Value)(qs:List ByteArray)(qv:Value)(given:List Int)(w:World)(h:Gd w gb base lb vb st V iv cv l av vals vv qs qv)(hgv:Calls Tryz.prog 35 #[.pointer (some ⟨gb,0,none⟩)] w fun e w'=>LvPost given w e w')(hgl:given.length≤100000)(hA:st.A.length≤100000)(hL:st.L.length≤100000)(hto:Tos st.A st.L)(hql:qs.length≤100000):
  Calls Tryz.prog 68 #[.pointer (some ⟨gb,0,none⟩)] w fun e w'=>LvPost (rwM st.A (lnM st.A st.L) qs given st.A.length) w e w':=by
 have HGVC:=hide hgv
 obtain⟨en,hbx⟩:=h.box
 obtain⟨a3,k3,e3⟩:=ownsRow_slice (h.tree.own 3 (by omega) (by omega))
 have hgb:=lt_of_get hbx
 have b1:=(box8 hbx).2.1
 rw [e3] at b1
 have HG:=hide h
 clear h hbx hgv e3
 go_enter Tryz.func68,Tryz.ntmps68
 go_wp2_with fail
 refine HGVC.out.mono ?_
 rintro e wc ⟨gv,rfl,hgo,hlb⟩
 obtain⟨al,kl,rfl⟩:=ownsRow_slice hgo
 have hzc:w.heap.size≤wc.heap.size:=hlb.size
 have hgc:gb<wc.heap.size:=by omega
 have d1:wc.cell? ⟨gb,1,none⟩=some (.slice a3 (nOf st 3) k3):=(hlb.cell (p:=⟨gb,1,none⟩) hgb).trans b1
 have HG1:=hide (HG.out.keep hlb)
 have HB:=hide hlb
 have HGO:=hide hgo
 have HM:=hide (World.ownsRow_made (base:=wc.heap.size) (e:=3) (size:=1) wc #[] 0 (Nat.le_refl _) (by decide) (by simp))
 have HB0:Hid (Below wc.heap.size wc (wc.alloc (.cells #[] 3))):=hide ((Below.refl _ _).alloc (Nat.le_refl _) _)
 clear hlb hgo HGVC HG b1
 go_wp2_with fail
 go_loopg [4,5] (st.A.length+1) (fun k tv jv wr=> ∃(i:Nat),k+i=st.A.length+1∧i≤st.A.length∧jv= .int .i64 i∧Hid (wr.ownsRow wc.heap.size 3 1 tv (rwM st.A (lnM st.A st.L) qs given i).length ((rwM st.A (lnM st.A st.L) qs given i).map (Value.int .i64)))∧Below wc.heap.size wc wr)
 case atStart=>exact⟨0,rfl,Nat.zero_le _,rfl,hide HM.out,HB0.out⟩
 case round=>
  obtain⟨i,hk,hiC,rfl,HOW,hbel⟩:=hrel
  have hHK:=hide hk
  clear hk
  obtain⟨ag,kg,rfl⟩:=ownsRow_slice HOW.out
  have d1':wr.cell? ⟨gb,1,none⟩=some (.slice a3 (nOf st 3) k3):=(hbel.cell (p:=⟨gb,1,none⟩) hgc).trans d1
  have hn3:nOf st 3=st.A.length:=rfl
  rw [hn3] at d1'
  have HBL:=hide hbel
  by_cases hlt:i<st.A.length
  ·have hrl:(rwM st.A (lnM st.A st.L) qs given i).length≤100000:=by
    cases i with
    |zero=>exact Nat.zero_le _
    |succ r=>rw [rw_len];exact hA
   have HLI:=hide (longerRows_any gb base lb vb st V iv cv l av vals vv qs qv wc.heap.size w.heap.size (rwM st.A (lnM st.A st.L) qs given i) _ given _ wr (HG1.out.keep hbel) HOW.out hrl (ownsRow_same HGO.out fun k e=>hbel.block k (HGO.out.lt k e).2) hgl hA hL hto hql (rw_all (by omega)))
   have hst:Hid (lgM st.A (lnM st.A st.L) qs given (rwM st.A (lnM st.A st.L) qs given i)=rwM st.A (lnM st.A st.L) qs given (i+1)):=hide rfl
   rw [hst.out] at HLI
   have hlt':(i:Int)<st.A.length:=by omega
   clear hbel hst
   generalize rwM st.A (lnM st.A st.L) qs given i=G0 at*
   generalize hG1:rwM st.A (lnM st.A st.L) qs given (i+1)=G1 at*
   have HG1':=hide hG1
   clear hG1
   go_wp2_with fail
   refine HLI.out.mono ?_
   rintro e w2 ⟨v2,rfl,ho2,hB2⟩
   obtain⟨a2,k2,rfl⟩:=ownsRow_slice ho2
   have HO2:=hide (ownsRow_base ho2 HBL.out.size)
   have HB2:=hide (HBL.out.trans (hB2.mono HBL.out.size))
   clear ho2 hB2 HLI
   go_wp2_with fail
   have hk:=hHK.out
   go_roundg (st.A.length - i)
   case measure=>omega
   case rel=>exact⟨i+1,by omega,by omega,by go_num,by rw [HG1'.out];exact HO2,HB2.out⟩
  ·have hlt': ¬(i:Int)<st.A.length:=by omega
   have hiC':i=st.A.length:=by omega
   have HF:Hid (wr.ownsRow w.heap.size 3 1 (.slice ag (rwM st.A (lnM st.A st.L) qs given i).length kg) (rwM st.A (lnM st.A st.L) qs given st.A.length).length ((rwM st.A (lnM st.A st.L) qs given st.A.length).map (Value.int .i64))):=hide (by
    have hq:=HOW.out
    rw [hiC'] at hq ⊢
    exact ownsRow_base hq hzc)
   have HBE:=hide (HB.out.trans (hbel.mono HB.out.size))
   clear hiC' hbel
   go_wp2_with fail
   go_ret
   exact⟨_,rfl,HF.out,HBE.out⟩
def dig (k:Int):UInt8:=UInt8.ofNat (48+k.toNat)
def digs (ks:List Int):ByteArray:=⟨(ks.map dig).toArray⟩
theorem dig_nat {k:Int}(h0:0≤k)(h9:k≤9):48≤(dig k).toNat∧(dig k).toNat≤57∧((dig k).toNat:Int)- 48=k:=by
 unfold dig
 rw [UInt8.toNat_ofNat']
 omega
theorem digs_size (ks:List Int):(digs ks).size=ks.length:=by simp [digs,ByteArray.size]
theorem digs_snoc (ks:List Int)(k:Int):digs (ks++[k])=digs ks++⟨#[dig k]⟩:=by
 apply ByteArray.ext
 rw [ByteArray.data_append]
 simp [digs]
theorem rowS_len (A:List As)(ln:Nat→List ByteArray)(ls:List Int): ∀(k:Nat) (nx:Int),(rowS A ln ls k nx).length=k:=by
 intro k
 induction k with
 |zero=>intro nx;rfl
 |succ k ih=>intro nx;show(_::rowS A ln ls k _).length=_;rw [List.length_cons,ih]
def rowM (A:List As)(ln:Nat→List ByteArray)(ls:List Int):List Int:=rowS A ln ls (typeAtM ls (neM [pol] ls A 0 (-1))).toNat (neM [pol] ls A 0 (-1))
theorem row_any (gb base lb vb:Nat)(st:St)(V:Nat→Value)(iv cv:List Value)(l:List (ByteArray×ByteArray))(av:Value)(vals:List ByteArray)(vv:Value)(qs:List ByteArray)(qv:Value)(lens:List Int)(w:World)(h:Gd w gb base lb vb st V iv cv l av vals vv qs qv)(hrl:Calls Tryz.prog 68 #[.pointer (some ⟨gb,0,none⟩)] w fun e w'=>LvPost lens w e w')(hll:lens.length≤100000)(hA:st.A.length≤100000)(hL:st.L.length≤100000)(hto:Tos st.A st.L)(hb: ∀j,0≤typeAtM lens j∧typeAtM lens j≤1000)(hd: ∀x∈rowM st.A (lnM st.A st.L) lens,0≤x∧x≤9):
  Calls Tryz.prog 38 #[.pointer (some ⟨gb,0,none⟩)] w fun e w'=>e= .returned (.string (digs (rowM st.A (lnM st.A st.L) lens)))∧Below w.heap.size w w':=by
 have HRL:=hide hrl
 obtain⟨en,hbx⟩:=h.box
 obtain⟨b0,b1,b2,b3,b4,b5,b6,b7,bf⟩:=box8 hbx
 have hgb:=lt_of_get hbx
 have HG:=hide h
 have HC:=hide (And.intro b1 b2)
 have hrm:Hid (rowM st.A (lnM st.A st.L) lens=rowS st.A (lnM st.A st.L) lens (typeAtM lens (neM [pol] lens st.A 0 (-1))).toNat (neM [pol] lens st.A 0 (-1))):=hide rfl
 have HD:=hide hd
 clear h hbx hrl bf b0 b1 b2 b3 b4 b5 b6 b7 hd
 generalize rowM st.A (lnM st.A st.L) lens=R at*
 go_enter Tryz.func38,Tryz.ntmps38
 go_wp2_with fail
 refine HRL.out.mono ?_
 rintro e w1 ⟨lv,rfl,hlo,hB1⟩
 obtain⟨al,kl,rfl⟩:=ownsRow_slice hlo
 have hz1:w.heap.size≤w1.heap.size:=hB1.size
 have hgc:gb<w1.heap.size:=by omega
 have hG1:=HG.out.keep hB1
 have hBA:Below w1.heap.size w1 (w1.alloc (.cells #[.string pol] 9)):=(Below.refl _ _).alloc (Nat.le_refl _) _
 have hlit:(w1.alloc (.cells #[.string pol] 9)).ownsRow w1.heap.size 9 1 (.slice (some ⟨w1.heap.size,0,none⟩) 1 1) 1 [.string pol]:=World.ownsRow_lit w1 #[.string pol] 1 (Nat.le_refl _) (by unfold maxLen;omega) rfl
 have HNE:=hide (fun n=>nearest_any gb base lb vb st V iv cv l av vals vv qs qv w1.heap.size w.heap.size [pol] (.slice (some ⟨w1.heap.size,0,none⟩) 1 1) lens _ ((w1.alloc (.cells #[.string pol] 9)).drewN n) ((hG1.keep hBA).drewN n) (ownsRow_same (w':=(w1.alloc (.cells #[.string pol] 9)).drewN n) hlit fun k e=>rfl) (by simp) (ownsRow_same (w':=(w1.alloc (.cells #[.string pol] 9)).drewN n) (hlo.alloc _) fun k e=>rfl) hll hA)
 have HLE:=hide (fun(j:Int) (n:Nat)=>levelAt_any w.heap.size lens _ j ((w1.alloc (.cells #[.string pol] 9)).drewN n) (ownsRow_same (w':=(w1.alloc (.cells #[.string pol] 9)).drewN n) (hlo.alloc _) fun k e=>rfl) hll)
 have HLO:=hide hlo
 have HB1:=hide hB1
 have HG1:=hide hG1
 have HBA:=hide hBA
 have hbn:=hb (neM [pol] lens st.A 0 (-1))
 clear hlo hB1 hG1 hBA hlit HRL HG
 generalize neM [pol] lens st.A 0 (-1)=nx0 at*
 unfold pol at HNE HLE HBA
 go_wp2_with fail
 refine(HNE.out 0).mono ?_
 rintro e w2 ⟨rfl,n2,rfl⟩
 have HLX:=hide (HLE.out nx0)
 generalize typeAtM lens nx0=t0 at*
 obtain⟨k0,rfl⟩:=Int.eq_ofNat_of_zero_le hbn.1
 clear HNE HLE
 go_wp2_with fail
 refine(HLX.out n2).mono ?_
 rintro e w2 ⟨rfl,rfl⟩
 rw [Int.toNat_natCast] at hrm
 have HBS:Hid (Below w1.heap.size w1 ((w1.alloc (.cells #[.string ⟨#[80,79,76,73,67,89]⟩] 9)).drewN n2)):=hide ⟨HBA.out.os,HBA.out.tape,HBA.out.output,HBA.out.size,HBA.out.block⟩
 clear HLX HBA
 go_wp2_with fail
 go_loopg [4,5,6] (k0+1) (fun n nv rv kv wr=> ∃(k:Nat) (nx:Int) (ds:List Int),n=k+1∧nv= .int .i64 nx∧rv= .string (digs ds)∧kv= .int .i64 k∧Hid (Below w1.heap.size w1 wr)∧k+ds.length≤1000∧Hid (ds++rowS st.A (lnM st.A st.L) lens k nx=R))
 case atStart=>exact⟨k0,nx0,[],rfl,rfl,rfl,rfl,HBS,by simp;omega,hide (by rw [hrm.out];rfl)⟩
 case round=>
  obtain⟨k,nx,ds,hk,rfl,rfl,rfl,HB,hlen,hfin⟩:=hrel
  have hHK:=hide hk
  clear hk
  have hz2:w1.heap.size≤wr.heap.size:=HB.out.size
  cases k with
  |zero=>
   have hres:Hid (digs R=digs ds):=hide (by rw [←hfin.out];show digs (ds++[])=_;rw [List.append_nil])
   have HBE:=hide (HB1.out.trans (HB.out.mono hz1))
   go_wp2_with fail
   go_ret
   exact⟨by rw [hres.out];rfl,HBE.out⟩
  |succ m=>
   have hpos:(0:Int)<((m+1:Nat):Int):=by omega
   have hmem:nx∈R:=by rw [←hfin.out];exact List.mem_append_right _ List.mem_cons_self
   obtain⟨hn0,hn9⟩:=HD.out nx hmem
   obtain⟨hc1,hc2,hc3⟩:=dig_nat hn0 hn9
   have HIT:=hide (itoa_any (dig nx) wr hc1 hc2)
   rw [hc3] at HIT
   have hnx: ¬nx<0:=by omega
   have hst:Hid (ds++rowS st.A (lnM st.A st.L) lens (m+1) nx=(ds++[nx])++rowS st.A (lnM st.A st.L) lens m (neM (lnM st.A st.L nx.toNat) lens st.A 0 (-1))):=hide (by
    show ds++(nx::rowS st.A (lnM st.A st.L) lens m (neM (if nx<0 then [] else lnM st.A st.L nx.toNat) lens st.A 0 (-1)))=_
    rw [if_neg hnx,List.append_assoc]
    rfl)
   have hsn:Hid (digs (ds++[nx])=digs ds++⟨#[dig nx]⟩):=hide (digs_snoc ds nx)
   have hsz:(digs ds).size≤1000:=by rw [digs_size];omega
   have hs1:(ByteArray.mk #[dig nx]).size=1:=rfl
   have hLN:=licNames_any gb 1 base st V iv cv nx wr ((HB.out.cell (p:=⟨gb,1,none⟩) hgc).trans ((HB1.out.cell (p:=⟨gb,1,none⟩) hgb).trans HC.out.1)) ((HB.out.cell (p:=⟨gb,2,none⟩) hgc).trans ((HB1.out.cell (p:=⟨gb,2,none⟩) hgb).trans HC.out.2)) ((HG1.out.keep HB.out).tree) hL hA hto
   rw [if_neg hnx] at hLN
   have HLN:=hide hLN
   have hnl:=lnM_len st.A st.L nx.toNat hto hL
   clear hLN hmem hc1 hc2 hc3 hnx
   generalize lnM st.A st.L nx.toNat=nms at*
   generalize digs ds=rs at*
   go_wp2_with (go_at_call 70;refine HIT.out.mono ?_;rintro e w3 ⟨rfl,rfl⟩)
   refine HLN.out.mono ?_
   rintro e w4 ⟨nv,rfl,hn,hB4⟩
   obtain⟨an,kn,rfl⟩:=ownsRow_slice hn
   have hB5:=HB.out.trans (hB4.mono hz2)
   have HNE:=hide (fun N=>nearest_any gb base lb vb st V iv cv l av vals vv qs qv w3.heap.size w.heap.size nms _ lens _ (w4.drewN N) ((HG1.out.keep hB5).drewN N) (ownsRow_same (w':=w4.drewN N) hn fun k e=>rfl) hnl (ownsRow_same (w':=w4.drewN N) (ownsRow_same HLO.out fun k e=>hB5.block k (HLO.out.lt k e).2) fun k e=>rfl) hll hA)
   have HB5:=hide hB5
   clear hn hB4 hB5 HLN
   generalize neM nms lens st.A 0 (-1)=nx2 at*
   go_wp2_with fail
   refine(HNE.out 0).mono ?_
   rintro e w5 ⟨rfl,n5,rfl⟩
   have HB6:Hid (Below w1.heap.size w1 ((w4.drewN 0).drewN n5)):=hide ⟨HB5.out.os,HB5.out.tape,HB5.out.output,HB5.out.size,HB5.out.block⟩
   go_wp2_with fail
   have hk:=hHK.out
   go_roundg (m+1)
   case measure=>omega
   case rel=>exact⟨m,nx2,ds++[nx],rfl,rfl,by rw [hsn.out],by go_num,HB6,by simp;omega,hide (by rw [←hfin.out,hst.out])⟩
def chM (s a v q:ByteArray)(st:St):ByteArray×Int:=
 if grM s a v q st !=0 then(⟨#[]⟩,grM s a v q st) else
 (digs (rowM st.A (lnM st.A st.L) (rwM st.A (lnM st.A st.L) (rqM q).1 (gvM st.A st.L (rqM q).1 ((vlM v).1.length - 1) (lvsM (vlM v).1 (worthsM (raM a).1 st.E []) st.C []) st.A.length) st.A.length)),0)
theorem chain_of (s a v q:ByteArray)(st:St)(w:World)(h:Calls Tryz.prog 34 #[.string s,.string a,.string v,.string q] w fun e w'=>GrPost s a v q st w e w')(hE:st.E.length≤100000)(hA:st.A.length≤100000)(hC:st.C.length≤100000)(hCl: ∀c∈st.C,c.length≤100000)(hvl:(vlM v).1.length≤100000)(hll:(raM a).1.length≤100000)(hls: ∀p∈(raM a).1,p.2.size≤600)(hEs: ∀x∈st.E,x.text.size≤600)(hL:LOk st)
  (hW:grM s a v q st=0→ ∀x∈worthsM (raM a).1 st.E [],x.text.size≤100000000) (hv2:grM s a v q st=0→1≤(vlM v).1.length) (hto:grM s a v q st=0→Tos st.A st.L) (hA8:grM s a v q st=0→st.A.length≤8)
  (hd:grM s a v q st=0→ ∀x∈rowM st.A (lnM st.A st.L) (rwM st.A (lnM st.A st.L) (rqM q).1 (gvM st.A st.L (rqM q).1 ((vlM v).1.length - 1) (lvsM (vlM v).1 (worthsM (raM a).1 st.E []) st.C []) st.A.length) st.A.length),0≤x∧x≤9):
  Calls Tryz.prog 20 #[.string s,.string a,.string v,.string q] w fun e w'=>WoPost (chM s a v q st).1 (chM s a v q st).2 w e w':=by
 have HC:=hide h
 have hql:(rqM q).1.length≤100000:=by have:=rqM_len q;omega
 clear h
 go_enter Tryz.func20,Tryz.ntmps20
 go_wp2_with fail
 refine HC.out.mono ?_
 rintro e w1 ⟨x1,x2,x3,x4,x5,x6,x7,rfl,hB1,⟨a1,n1,k1,rfl⟩,⟨a2,n2,k2,rfl⟩,⟨a3,n3,k3,rfl⟩,⟨a4,n4,k4,rfl⟩,⟨a5,n5,k5,rfl⟩,⟨a6,n6,k6,rfl⟩,⟨a7,n7,k7,rfl⟩,hG⟩
 have hco:Hid (chM s a v q st=if grM s a v q st !=0 then(⟨#[]⟩,grM s a v q st) else
  (digs (rowM st.A (lnM st.A st.L) (rwM st.A (lnM st.A st.L) (rqM q).1 (gvM st.A st.L (rqM q).1 ((vlM v).1.length - 1) (lvsM (vlM v).1 (worthsM (raM a).1 st.E []) st.C []) st.A.length) st.A.length)),0)):=hide rfl
 generalize grM s a v q st=E at*
 have hB2:=hB1.alloc hB1.size (.cells #[.int .i64 E,.slice a1 n1 k1,.slice a2 n2 k2,.slice a3 n3 k3,.slice a4 n4 k4,.slice a5 n5 k5,.slice a6 n6 k6,.slice a7 n7 k7] 58)
 have hX2:=heap_alloc_new w1 (.cells #[.int .i64 E,.slice a1 n1 k1,.slice a2 n2 k2,.slice a3 n3 k3,.slice a4 n4 k4,.slice a5 n5 k5,.slice a6 n6 k6,.slice a7 n7 k7] 58)
 have HB2:=hide hB2
 cases hEz:(E !=0)
 case true=>
  have hres:Hid (chM s a v q st=(⟨#[]⟩,E)):=hide (by rw [hco.out,hEz];rfl)
  clear hG hB1 hX2 hB2
  go_wp2_with fail
  go_quiet (fail)
  go_wp2_with fail
  go_ret2
  exact⟨by rw [hres.out];rfl,⟨HB2.out.os,HB2.out.tape,HB2.out.output,HB2.out.size,HB2.out.block⟩⟩
 have hE0:E=0:=by simpa using hEz
 subst hE0
 obtain⟨V,iv,cv,e1,e2,e3,e4,hT,hl,hvv,hqq⟩:=hG rfl
 have hGd:Gd (w1.alloc (.cells #[.int .i64 0,.slice a1 n1 k1,.slice a2 n2 k2,.slice a3 n3 k3,.slice a4 n4 k4,.slice a5 n5 k5,.slice a6 n6 k6,.slice a7 n7 k7] 58)) w1.heap.size w.heap.size w.heap.size w.heap.size st V iv cv (raM a).1 (.slice a5 n5 k5) (vlM v).1 (.slice a6 n6 k6) (rqM q).1 (.slice a7 n7 k7):=
  ⟨⟨0,by rw [←e1,←e2,←e3,←e4];exact hX2⟩,hT.same fun k _ hk=>Below.heap_alloc _ _ _ hk,hl.alloc _,hvv.alloc _,hqq.alloc _⟩
 have hGL:=givenLevels_any _ _ _ _ st V iv cv (raM a).1 _ (vlM v).1 _ (rqM q).1 _ _ hGd hE hC hCl hvl hll hls hEs (hW rfl) hA (hv2 rfl) hql hL
 have hgl:(gvM st.A st.L (rqM q).1 ((vlM v).1.length - 1) (lvsM (vlM v).1 (worthsM (raM a).1 st.E []) st.C []) st.A.length).length≤100000:=by
  cases st.A.length with
  |zero=>exact Nat.zero_le _
  |succ r=>rw [gv_len];exact hA
 have hres:Hid (chM s a v q st=(digs (rowM st.A (lnM st.A st.L) (rwM st.A (lnM st.A st.L) (rqM q).1 (gvM st.A st.L (rqM q).1 ((vlM v).1.length - 1) (lvsM (vlM v).1 (worthsM (raM a).1 st.E []) st.C []) st.A.length) st.A.length)),0)):=hide (by rw [hco.out];rfl)
 have hd':=hd rfl
 generalize gvM st.A st.L (rqM q).1 ((vlM v).1.length - 1) (lvsM (vlM v).1 (worthsM (raM a).1 st.E []) st.C []) st.A.length=GV at*
 have hrl:=rowLengths_any _ _ _ _ st V iv cv (raM a).1 _ (vlM v).1 _ (rqM q).1 _ GV _ hGd hGL hgl hA hL.1 (hto rfl) hql
 have hrn:(rwM st.A (lnM st.A st.L) (rqM q).1 GV st.A.length).length≤100000:=by
  cases st.A.length with
  |zero=>exact Nat.zero_le _
  |succ r=>rw [rw_len];exact hA
 have hA8':=hA8 rfl
 have HRW:=hide (row_any _ _ _ _ st V iv cv (raM a).1 _ (vlM v).1 _ (rqM q).1 _ _ _ hGd hrl hrn hA hL.1 (hto rfl) (fun j=>by
  by_cases hj:j<0
  ·rw [tA_neg hj];omega
  ·obtain⟨k,rfl⟩:=Int.eq_ofNat_of_zero_le (show 0≤j by omega)
   have:=rw_bound (A:=st.A) (ln:=lnM st.A st.L) (qs:=(rqM q).1) (g:=GV) st.A.length k
   omega) hd')
 clear hco hG hEz hB1 hB2 hT hl hvv hqq e1 e2 e3 e4 hGd hX2 hW hv2 hto hA8 hd hd' hGL hrl
 generalize digs (rowM st.A (lnM st.A st.L) (rwM st.A (lnM st.A st.L) (rqM q).1 GV st.A.length))=D at*
 go_wp2_with fail
 refine HRW.out.mono ?_
 rintro e w2 ⟨rfl,hB3⟩
 have HB3:=hide (HB2.out.trans (hB3.mono HB2.out.size))
 clear hB3
 go_wp2_with fail
 go_ret2
 exact⟨by rw [hres.out];rfl,HB3.out⟩
end Go.Proofs.YtkoohcilbpdgeaaGreatDoor
