import Derived.Laws.OwnMore
import Derived.Deep.RegionHeld3
import Derived.Test.YtkoohcilbpdgeaaGreatDoorCards
import Derived.Test.YtkoohcilbpdgeaaGreatDoorTie
import Derived.Stop.LaidErr
import Derived.Test.YtkoohcilbpdgeaaGreatDoorC11
set_option linter.all false
set_option linter.unusedVariables false
set_option linter.unusedSimpArgs false
set_option linter.unnecessarySimpa false
set_option linter.constructorNameAsVariable false
set_option linter.deprecated false
set_option maxRecDepth 100000
set_option maxHeartbeats 6400000
namespace Go.Proofs.YtkoohcilbpdgeaaGreatDoor
open Go Go.RowKit
attribute [local go_sem] wrap64_byte
theorem z8T (A:List As)(L:List Lc)(i:Nat)(h:Tos A L)(hL:L.length≤100000):(lnM A L i).length≤100000:=by
 cases hx:A[i]? with
 |none=>unfold lnM;rw [hx];exact zeR _
 |some x=>
  obtain⟨a,t,h1,h2,h3,h4⟩:=h i x hx
  rw [z5d hx h1 h2]
  have:=z7s L a (t+1)
  omega
theorem z4H (gb base lb vb:Nat)(st:St)(V:Nat→Value)(iv cv:List Value)(l:List (zeV×zeV))(av:Value)(vals:List zeV)(vv:Value)(qs:List zeV)(qv:Value)(ib:Nat)(lens:List Int)(lv:Value)(i:Nat)(w:World)(h:Gd w gb base lb vb st V iv cv l av vals vv qs qv)(hl:w.ownsRow ib 3 1 lv lens.length (lens.map (Value.int .i64)))(hll:lens.length≤100000)(hA:st.A.length≤100000)(hL:st.L.length≤100000)(hto:Tos st.A st.L)(hql:qs.length≤100000)(hb: ∀j,0≤zc lens j∧zc lens j≤100000):
  Calls Tryz.prog 146 #[.pointer (some ⟨gb,0,none⟩),.int .i64 i,lv] w fun e w'=>e= .returned (.int .i64 (z4z st.A (lnM st.A st.L) qs lens i))∧Below w.heap.size w w':=by
 obtain⟨en,hbx⟩:=h.box
 obtain⟨b0,b1,b2,b3,b4,b5,b6,b7,bf⟩:=z39 hbx
 have HLN:=z8 (fun n=>z3b gb 1 base st V iv cv i (w.drewN n) b1 b2 (h.tree.same fun q _ hq=>rfl) hL hA hto)
 have hin: ¬(i:Int)<0:=by omega
 rw [if_neg hin,Int.toNat_natCast] at HLN
 have hnl:=z8T st.A st.L i hto hL
 obtain⟨al,kl,rfl⟩:=za hl
 obtain⟨aq,kq,eq⟩:=za h.reqs
 rw [eq] at b7
 have hgb:=zj hbx
 have hst:Hid (z4z st.A (lnM st.A st.L) qs lens i=if(lnM st.A st.L i).any fun nm=>plM nm qs 0 != -1 then 1 else if neM (lnM st.A st.L i) lens st.A 0 (-1)== -1 then 0 else 1+zc lens (neM (lnM st.A st.L i) lens st.A 0 (-1))):=z8 rfl
 have HG:=z8 h
 have HL:=z8 hl
 have HEQ:=z8 eq
 clear h hl hbx bf b0 b1 b2 b3 b4 b5 b6 eq hin
 generalize lnM st.A st.L i=nms at*
 go_enter Tryz.func146,Tryz.ntmps146
 go_wp2_with fail
 refine(HLN.out 0).mono ?_
 rintro e w1 ⟨nv,rfl,hn,hB⟩
 have hB:Below w.heap.size w w1:=⟨hB.os,hB.tape,hB.output,hB.size,hB.block⟩
 have hn:w1.ownsRow w.heap.size 9 1 nv nms.length (nms.map Value.string):=hn
 obtain⟨an,kn,rfl⟩:=za hn
 have hG1:=HG.out.keep hB
 have hl1:=zb HL.out fun k e=>hB.block k (HL.out.lt k e).2
 have d7:w1.cell? ⟨gb,7,none⟩=some (.slice aq qs.length kq):=(hB.cell (p:=⟨gb,7,none⟩) hgb).trans b7
 have hrq:w1.ownsRow vb 9 1 (.slice aq qs.length kq) qs.length (qs.map Value.string):=by have q:=hG1.reqs;rw [HEQ.out] at q;exact q
 have HPL:=z8 (fun(nm:zeV) (W':World) (hk: ∀k,W'.heap[k]?=w1.heap[k]?)=>jZ vb qs _ nm W' (zb hrq fun k e=>hk k) hql)
 have HNE:=z8 (fun n=>z27 gb base lb vb st V iv cv l av vals vv qs qv _ ib nms _ lens _ (w1.drewN n) (hG1.drewN n) (zb (w':=w1.drewN n) hn fun k e=>rfl) hnl (zb (w':=w1.drewN n) hl1 fun k e=>rfl) hll hA)
 have HLA:=z8 (fun(j:Int) (n:Nat)=>ji ib lens _ j (w1.drewN n) (zb (w':=w1.drewN n) hl1 fun k e=>rfl) hll)
 have HN:=z8 hn
 have HB:=z8 hB
 clear hG1 hl1 hrq hn hB HLN HG HL HEQ b7
 go_wp2_with fail
 go_loopg [8] (nms.length+1) (fun k iv wr=> ∃(j m:Nat),k+j=nms.length+1∧j≤nms.length∧iv= .int .i64 j∧wr=w1.drewN m∧Hid ((nms.drop j).any (fun nm=>plM nm qs 0 != -1)=nms.any fun nm=>plM nm qs 0 != -1))
 case atStart=>exact⟨0,0,rfl,zeR _,rfl,rfl,z8 rfl⟩
 case round=>
  obtain⟨j,m,hk,hjl,rfl,rfl,hfin⟩:=hrel
  have hHK:=z8 hk
  clear hk
  by_cases hlt:j<nms.length
  ·obtain⟨g,cap,hvv,hbb,hgg⟩:=HN.out.form (by omega)
   injection hvv with u1 u2 u3
   subst u1 u3
   obtain⟨x,hx⟩: ∃x,nms[j]?=some x:=⟨nms[j],zeH hlt⟩
   have q0:w1.cell? ⟨g,j,none⟩=some (.string x):=zf HN.out _ _ (by simp [hx])
   have hsj:Hid ((nms.drop j).any (fun nm=>plM nm qs 0 != -1)=(plM x qs 0 != -1||(nms.drop (j+1)).any fun nm=>plM nm qs 0 != -1)):=z8 (by
    obtain⟨hl,hx'⟩:=zeI.1 hx
    rw [zeO hl,hx']
    rfl)
   have hlt':(j:Int)<nms.length:=by omega
   have HPX:=z8 (fun N=>HPL.out x (w1.drewN N) (fun _=>rfl))
   clear hx
   generalize plM x qs 0=p at*
   cases hp:(p != -1)
   ·go_wp2_with fail
    go_quiet ((go_at_call 66;exact(HPX.out _).mono fun e w' ⟨q1,q2⟩=>⟨q1,_,q2⟩))
    go_wp2_with fail
    have hk:=hHK.out
    go_roundg (nms.length - j)
    case measure=>omega
    case rel=>exact⟨j+1,_,by omega,by omega,by go_num,rfl,z8 (by rw [←hfin.out,hsj.out,hp];rfl)⟩
   ·have hres:Hid (z4z st.A (lnM st.A st.L) qs lens i=1):=z8 (by rw [hst.out,←hfin.out,hsj.out,hp];rfl)
    go_wp2_with fail
    go_quiet ((go_at_call 66;exact(HPX.out _).mono fun e w' ⟨q1,q2⟩=>⟨q1,_,q2⟩))
    go_wp2_with fail
    go_ret
    exact⟨by rw [hres.out];rfl,⟨HB.out.os,HB.out.tape,HB.out.output,HB.out.size,HB.out.block⟩⟩
  ·have hlt': ¬(j:Int)<nms.length:=by omega
   have hno:Hid ((nms.any fun nm=>plM nm qs 0 != -1)=false):=z8 (by rw [←hfin.out,zeN (by omega)];rfl)
   have hst2:Hid (z4z st.A (lnM st.A st.L) qs lens i=if neM nms lens st.A 0 (-1)== -1 then 0 else 1+zc lens (neM nms lens st.A 0 (-1))):=z8 (by rw [hst.out,hno.out];rfl)
   clear hst hfin hno
   have HNM:=z8 (HNE.out m)
   generalize neM nms lens st.A 0 (-1)=f at*
   go_wp2_with fail
   refine HNM.out.mono ?_
   rintro e w2 ⟨rfl,n2,rfl⟩
   have HLF:=z8 (HLA.out f)
   have hbf:=hb f
   generalize zc lens f=t at*
   cases hf:(f== -1)
   ·have hres:Hid (z4z st.A (lnM st.A st.L) qs lens i=1+t):=z8 (by rw [hst2.out,hf];rfl)
    go_wp2_with (go_at_call 48;refine(HLF.out (m+n2)).mono ?_;rintro e w2 ⟨rfl,rfl⟩)
    go_ret
    exact⟨by rw [hres.out];go_num,⟨HB.out.os,HB.out.tape,HB.out.output,HB.out.size,HB.out.block⟩⟩
   ·have hres:Hid (z4z st.A (lnM st.A st.L) qs lens i=0):=z8 (by rw [hst2.out,hf];rfl)
    go_wp2_with fail
    go_ret
    exact⟨by rw [hres.out];rfl,⟨HB.out.os,HB.out.tape,HB.out.output,HB.out.size,HB.out.block⟩⟩
theorem z47 (gb base lb vb:Nat)(st:St)(V:Nat→Value)(iv cv:List Value)(l:List (zeV×zeV))(av:Value)(vals:List zeV)(vv:Value)(qs:List zeV)(qv:Value)(ib gg:Nat)(lens:List Int)(lv:Value)(given:List Int)(gv:Value)(w:World)(h:Gd w gb base lb vb st V iv cv l av vals vv qs qv)(hl:w.ownsRow ib 3 1 lv lens.length (lens.map (Value.int .i64)))(hll:lens.length≤100000)(hg:w.ownsRow gg 3 1 gv given.length (given.map (Value.int .i64)))(hgl:given.length≤100000)(hA:st.A.length≤100000)(hL:st.L.length≤100000)(hto:Tos st.A st.L)(hql:qs.length≤100000)(hb: ∀j,0≤zc lens j∧zc lens j≤100000):
  Calls Tryz.prog 110 #[.pointer (some ⟨gb,0,none⟩),gv,lv] w fun e w'=>z3a (lgM st.A (lnM st.A st.L) qs given lens) w e w':=by
 obtain⟨en,hbx⟩:=h.box
 obtain⟨a3,k3,e3⟩:=za (h.tree.own 3 (by omega) (by omega))
 obtain⟨ag0,kg0,rfl⟩:=za hg
 obtain⟨al,kl,rfl⟩:=za hl
 have hgb:=zj hbx
 have b1:=(z39 hbx).2.1
 rw [e3] at b1
 have HG:=z8 h
 have HGV:=z8 (zeL hg hl)
 obtain⟨i0,hi,hz0,hz1,hz2⟩:=info_parts info3
 have HM:=z8 (World.ownsRow_made (base:=w.heap.size) (e:=3) (size:=1) w #[] 0 (zeK _) (by decide) (by simp))
 have HB0:Hid (Below w.heap.size w (w.alloc (.cells #[] 3))):=z8 ((zeU _ _).alloc (zeK _) _)
 have hlg:Hid (lgM st.A (lnM st.A st.L) qs given lens=(List.range st.A.length).map (fun(j:Nat)=>if 0<zc given (j:Int) then z4z st.A (lnM st.A st.L) qs lens j else 0)):=z8 rfl
 obtain⟨F,hF⟩: ∃F:Nat→Int,F=(fun(j:Nat)=>if 0<zc given (j:Int) then z4z st.A (lnM st.A st.L) qs lens j else 0):=⟨_,rfl⟩
 rw [←hF] at hlg
 have HF:=z8 hF
 clear h hbx hg hl e3 hF
 go_enter Tryz.func110,Tryz.ntmps110
 go_wp2_with fail
 go_loopg [7,8] (st.A.length+1) (fun k tv jv wr=> ∃(i:Nat),k+i=st.A.length+1∧i≤st.A.length∧jv= .int .i64 i∧Hid (wr.ownsRow w.heap.size 3 1 tv i (((List.range i).map F).map (Value.int .i64)))∧Hid (Below w.heap.size w wr))
 case atStart=>exact⟨0,rfl,zeR _,rfl,z8 HM.out,HB0⟩
 case round=>
  obtain⟨i,hk,hiC,rfl,HOW,HB⟩:=hrel
  have hHK:=z8 hk
  clear hk
  obtain⟨ag,kg,rfl⟩:=za HOW.out
  have d1:wr.cell? ⟨gb,1,none⟩=some (.slice a3 (nOf st 3) k3):=(HB.out.cell (p:=⟨gb,1,none⟩) hgb).trans b1
  have hn3:nOf st 3=st.A.length:=rfl
  rw [hn3] at d1
  have hz0':w.heap.size≤wr.heap.size:=HB.out.size
  by_cases hlt:i<st.A.length
  ·have hlt':(i:Int)<st.A.length:=by omega
   have hg2:=zb HGV.out.1 fun k e=>HB.out.block k (HGV.out.1.lt k e).2
   have hl2:=zb HGV.out.2 fun k e=>HB.out.block k (HGV.out.2.lt k e).2
   have HLE:=z8 (fun N=>ji gg given _ i (wr.drewN N) (zb (w':=wr.drewN N) hg2 fun k e=>rfl) hgl)
   have HRL:=z8 (z4H gb base lb vb st V iv cv l av vals vv qs qv ib lens _ i wr (HG.out.keep HB.out) hl2 hll hA hL hto hql hb)
   have hFi:Hid (F i=if 0<zc given (i:Int) then z4z st.A (lnM st.A st.L) qs lens i else 0):=z8 (by rw [HF.out])
   clear hg2 hl2
   generalize zc given (i:Int)=t at*
   by_cases ht:0<t
   ·obtain⟨z,hz⟩: ∃z,z4z st.A (lnM st.A st.L) qs lens i=z:=⟨_,rfl⟩
    have HZ:Hid (F i=z):=z8 (by rw [hFi.out,if_pos ht,hz])
    rw [hz] at HRL
    clear hz hFi
    go_wp2_with (go_at_call 48;refine(HLE.out 0).mono ?_;rintro e w2 ⟨rfl,rfl⟩)
    refine HRL.out.mono ?_
    rintro e w2 ⟨rfl,hB2⟩
    have HO2:=z8 (zb HOW.out fun k e=>hB2.block k (HOW.out.lt k e).2)
    have HB2:=z8 (HB.out.trans (hB2.mono hz0'))
    have hw2:w.heap.size≤w2.heap.size:=HB2.out.size
    clear hB2 HRL
    go_wp2_with (at_builtin;go_must (refine wpList_append_lies _ rfl (.tmp 29) (.tmp 31) 60 rfl w.heap.size 3 i0 _ 1 8 Tryz.underlying60 hi hz0 hz1 hz2 rfl (by omega) _ i _ rfl (HO2.out.alloc _) ⟨w2.heap.size,0,none⟩ 1 1 [.int .i64 z] rfl rfl ?news ?one (by omega) ?mm ?bys ?base (w2.heap.size+1) (by simp) ?rest))
    case news=>exact World.news_of_block (heap_alloc_new w2 _)
    case one=>intro u hu;simp at hu;subst hu;rfl
    case mm=>unfold maxLen;omega
    case bys=>omega
    case base=>simp;omega
    case rest=>
     intro gb2 cap2 w3 hown3 hgrow hat hlt2
     have hB3:=z8 (Below.grown (HB2.out.alloc hw2 _) hgrow (by simp;omega) fun k e=>(HO2.out.lt k e).1)
     have hown4:Hid (w3.ownsRow w.heap.size 3 1 (.slice (some ⟨gb2,0,none⟩) (i+1) cap2) (i+1) (((List.range (i+1)).map F).map (Value.int .i64))):=z8 (by rw [List.range_succ,List.map_append,List.map_append];simpa [HZ.out] using hown3)
     clear hown3 hgrow hat
     go_wp2_with fail
     have hk:=hHK.out
     go_roundg (st.A.length - i)
     case measure=>omega
     case rel=>exact⟨i+1,by omega,by omega,by go_num,hown4,hB3⟩
   ·have HZ:Hid (F i=0):=z8 (by rw [hFi.out,if_neg ht])
    have HO2:=z8 HOW.out
    have HB2:=z8 HB.out
    have hw2:=hz0'
    clear hFi HRL
    go_wp2_with (first|(go_at_call 48;refine(HLE.out 0).mono ?_;rintro e w2 ⟨rfl,rfl⟩)|(at_builtin;go_must (refine wpList_append_lies _ rfl (.tmp 29) (.tmp 31) 60 rfl w.heap.size 3 i0 _ 1 8 Tryz.underlying60 hi hz0 hz1 hz2 rfl (by omega) _ i _ rfl (HO2.out.alloc _) ⟨wr.heap.size,0,none⟩ 1 1 [.int .i64 0] rfl rfl ?news ?one (by omega) ?mm ?bys ?base (wr.heap.size+1) (by simp) ?rest)))
    case news=>exact World.news_of_block (heap_alloc_new wr _)
    case one=>intro u hu;simp at hu;subst hu;rfl
    case mm=>unfold maxLen;omega
    case bys=>omega
    case base=>simp;omega
    case rest=>
     intro gb2 cap2 w3 hown3 hgrow hat hlt2
     have hB3:=z8 (Below.grown (HB2.out.alloc hw2 _) hgrow (by simp;omega) fun k e=>(HO2.out.lt k e).1)
     have hown4:Hid (w3.ownsRow w.heap.size 3 1 (.slice (some ⟨gb2,0,none⟩) (i+1) cap2) (i+1) (((List.range (i+1)).map F).map (Value.int .i64))):=z8 (by rw [List.range_succ,List.map_append,List.map_append];simpa [HZ.out] using hown3)
     clear hown3 hgrow hat
     go_wp2_with fail
     have hk:=hHK.out
     go_roundg (st.A.length - i)
     case measure=>omega
     case rel=>exact⟨i+1,by omega,by omega,by go_num,hown4,hB3⟩
  ·have hlt': ¬(i:Int)<st.A.length:=by omega
   have hiC':i=st.A.length:=by omega
   have hfin:wr.ownsRow w.heap.size 3 1 (.slice ag i kg) (lgM st.A (lnM st.A st.L) qs given lens).length ((lgM st.A (lnM st.A st.L) qs given lens).map (Value.int .i64)):=by
    have hq:=HOW.out
    rw [hlg.out,List.length_map,List.length_range]
    rw [hiC'] at hq ⊢
    exact hq
   have HFI:=z8 hfin
   clear hfin hiC'
   go_wp2_with fail
   go_ret
   exact⟨_,rfl,HFI.out,HB.out⟩
theorem zcM {A:List As}{ln:Nat→List zeV}{qs:List zeV}{g:List Int}{r:Nat}(hr:r≤100000)(j:Int):0≤zc (rwM A ln qs g r) j∧zc (rwM A ln qs g r) j≤100000:=by
 by_cases h:j<0
 ·rw [z4n h];omega
 ·obtain⟨k,rfl⟩:=Int.eq_ofNat_of_zero_le (show 0≤j by omega)
  have:=z0P (A:=A) (ln:=ln) (qs:=qs) (g:=g) r k
  omega
theorem z4h (gb base lb vb:Nat)(st:St)(V:Nat→Value)(iv cv:List Value)(l:List (zeV×zeV))(av:Value)(vals:List zeV)(vv:Value)(qs:List zeV)(qv:Value)(given:List Int)(w:World)(h:Gd w gb base lb vb st V iv cv l av vals vv qs qv)(hgv:Calls Tryz.prog 35 #[.pointer (some ⟨gb,0,none⟩)] w fun e w'=>z3a given w e w')(hgl:given.length≤100000)(hA:st.A.length≤100000)(hL:st.L.length≤100000)(hto:Tos st.A st.L)(hql:qs.length≤100000):
  Calls Tryz.prog 68 #[.pointer (some ⟨gb,0,none⟩)] w fun e w'=>z3a (rwM st.A (lnM st.A st.L) qs given st.A.length) w e w':=by
 have HGVC:=z8 hgv
 obtain⟨en,hbx⟩:=h.box
 obtain⟨a3,k3,e3⟩:=za (h.tree.own 3 (by omega) (by omega))
 have hgb:=zj hbx
 have b1:=(z39 hbx).2.1
 rw [e3] at b1
 have HG:=z8 h
 clear h hbx hgv e3
 go_enter Tryz.func68,Tryz.ntmps68
 go_wp2_with fail
 refine HGVC.out.mono ?_
 rintro e wc ⟨gv,rfl,hgo,hlb⟩
 obtain⟨al,kl,rfl⟩:=za hgo
 have hzc:w.heap.size≤wc.heap.size:=hlb.size
 have hgc:gb<wc.heap.size:=by omega
 have d1:wc.cell? ⟨gb,1,none⟩=some (.slice a3 (nOf st 3) k3):=(hlb.cell (p:=⟨gb,1,none⟩) hgb).trans b1
 have HG1:=z8 (HG.out.keep hlb)
 have HB:=z8 hlb
 have HGO:=z8 hgo
 have HM:=z8 (World.ownsRow_made (base:=wc.heap.size) (e:=3) (size:=1) wc #[] 0 (zeK _) (by decide) (by simp))
 have HB0:Hid (Below wc.heap.size wc (wc.alloc (.cells #[] 3))):=z8 ((zeU _ _).alloc (zeK _) _)
 clear hlb hgo HGVC HG b1
 go_wp2_with fail
 go_loopg [4,5] (st.A.length+1) (fun k tv jv wr=> ∃(i:Nat),k+i=st.A.length+1∧i≤st.A.length∧jv= .int .i64 i∧Hid (wr.ownsRow wc.heap.size 3 1 tv (rwM st.A (lnM st.A st.L) qs given i).length ((rwM st.A (lnM st.A st.L) qs given i).map (Value.int .i64)))∧Below wc.heap.size wc wr)
 case atStart=>exact⟨0,rfl,zeR _,rfl,z8 HM.out,HB0.out⟩
 case round=>
  obtain⟨i,hk,hiC,rfl,HOW,hbel⟩:=hrel
  have hHK:=z8 hk
  clear hk
  obtain⟨ag,kg,rfl⟩:=za HOW.out
  have d1':wr.cell? ⟨gb,1,none⟩=some (.slice a3 (nOf st 3) k3):=(hbel.cell (p:=⟨gb,1,none⟩) hgc).trans d1
  have hn3:nOf st 3=st.A.length:=rfl
  rw [hn3] at d1'
  have HBL:=z8 hbel
  by_cases hlt:i<st.A.length
  ·have hrl:(rwM st.A (lnM st.A st.L) qs given i).length≤100000:=by
    cases i with
    |zero=>exact zeR _
    |succ r=>rw [zbI];exact hA
   have HLI:=z8 (z47 gb base lb vb st V iv cv l av vals vv qs qv wc.heap.size w.heap.size (rwM st.A (lnM st.A st.L) qs given i) _ given _ wr (HG1.out.keep hbel) HOW.out hrl (zb HGO.out fun k e=>hbel.block k (HGO.out.lt k e).2) hgl hA hL hto hql (zcM (by omega)))
   have hst:Hid (lgM st.A (lnM st.A st.L) qs given (rwM st.A (lnM st.A st.L) qs given i)=rwM st.A (lnM st.A st.L) qs given (i+1)):=z8 rfl
   rw [hst.out] at HLI
   have hlt':(i:Int)<st.A.length:=by omega
   clear hbel hst
   generalize rwM st.A (lnM st.A st.L) qs given i=G0 at*
   generalize hG1:rwM st.A (lnM st.A st.L) qs given (i+1)=G1 at*
   have HG1':=z8 hG1
   clear hG1
   go_wp2_with fail
   refine HLI.out.mono ?_
   rintro e w2 ⟨v2,rfl,ho2,hB2⟩
   obtain⟨a2,k2,rfl⟩:=za ho2
   have HO2:=z8 (zq ho2 HBL.out.size)
   have HB2:=z8 (HBL.out.trans (hB2.mono HBL.out.size))
   clear ho2 hB2 HLI
   go_wp2_with fail
   have hk:=hHK.out
   go_roundg (st.A.length - i)
   case measure=>omega
   case rel=>exact⟨i+1,by omega,by omega,by go_num,by rw [HG1'.out];exact HO2,HB2.out⟩
  ·have hlt': ¬(i:Int)<st.A.length:=by omega
   have hiC':i=st.A.length:=by omega
   have HF:Hid (wr.ownsRow w.heap.size 3 1 (.slice ag (rwM st.A (lnM st.A st.L) qs given i).length kg) (rwM st.A (lnM st.A st.L) qs given st.A.length).length ((rwM st.A (lnM st.A st.L) qs given st.A.length).map (Value.int .i64))):=z8 (by
    have hq:=HOW.out
    rw [hiC'] at hq ⊢
    exact zq hq hzc)
   have HBE:=z8 (HB.out.trans (hbel.mono HB.out.size))
   clear hiC' hbel
   go_wp2_with fail
   go_ret
   exact⟨_,rfl,HF.out,HBE.out⟩
def dig (k:Int):UInt8:=UInt8.ofNat (48+k.toNat)
def z3n (ks:List Int):zeV:=⟨(ks.map dig).toArray⟩
theorem z8N {k:Int}(h0:0≤k)(h9:k≤9):48≤(dig k).toNat∧(dig k).toNat≤57∧((dig k).toNat:Int)- 48=k:=by
 unfold dig
 rw [UInt8.toNat_ofNat']
 omega
theorem z5U (ks:List Int):(z3n ks).size=ks.length:=by simp [z3n,ByteArray.size]
theorem z8R (ks:List Int)(k:Int):z3n (ks++[k])=z3n ks++⟨#[dig k]⟩:=by
 apply ByteArray.ext
 rw [ByteArray.data_append]
 simp [z3n]
theorem zba (A:List As)(ln:Nat→List zeV)(ls:List Int): ∀(k:Nat) (nx:Int),(z6n A ln ls k nx).length=k:=by
 intro k
 induction k with
 |zero=>intro nx;rfl
 |succ k ih=>intro nx;show(_::z6n A ln ls k _).length=_;rw [List.length_cons,ih]
def z6l (A:List As)(ln:Nat→List zeV)(ls:List Int):List Int:=z6n A ln ls (zc ls (neM [pol] ls A 0 (-1))).toNat (neM [pol] ls A 0 (-1))
theorem zcG (gb base lb vb:Nat)(st:St)(V:Nat→Value)(iv cv:List Value)(l:List (zeV×zeV))(av:Value)(vals:List zeV)(vv:Value)(qs:List zeV)(qv:Value)(lens:List Int)(w:World)(h:Gd w gb base lb vb st V iv cv l av vals vv qs qv)(hrl:Calls Tryz.prog 68 #[.pointer (some ⟨gb,0,none⟩)] w fun e w'=>z3a lens w e w')(hll:lens.length≤100000)(hA:st.A.length≤100000)(hL:st.L.length≤100000)(hto:Tos st.A st.L)(hb: ∀j,0≤zc lens j∧zc lens j≤1000)(hd: ∀x∈z6l st.A (lnM st.A st.L) lens,0≤x∧x≤9):
  Calls Tryz.prog 38 #[.pointer (some ⟨gb,0,none⟩)] w fun e w'=>e= .returned (.string (z3n (z6l st.A (lnM st.A st.L) lens)))∧Below w.heap.size w w':=by
 have HRL:=z8 hrl
 obtain⟨en,hbx⟩:=h.box
 obtain⟨b0,b1,b2,b3,b4,b5,b6,b7,bf⟩:=z39 hbx
 have hgb:=zj hbx
 have HG:=z8 h
 have HC:=z8 (zeL b1 b2)
 have hrm:Hid (z6l st.A (lnM st.A st.L) lens=z6n st.A (lnM st.A st.L) lens (zc lens (neM [pol] lens st.A 0 (-1))).toNat (neM [pol] lens st.A 0 (-1))):=z8 rfl
 have HD:=z8 hd
 clear h hbx hrl bf b0 b1 b2 b3 b4 b5 b6 b7 hd
 generalize z6l st.A (lnM st.A st.L) lens=R at*
 go_enter Tryz.func38,Tryz.ntmps38
 go_wp2_with fail
 refine HRL.out.mono ?_
 rintro e w1 ⟨lv,rfl,hlo,hB1⟩
 obtain⟨al,kl,rfl⟩:=za hlo
 have hz1:w.heap.size≤w1.heap.size:=hB1.size
 have hgc:gb<w1.heap.size:=by omega
 have hG1:=HG.out.keep hB1
 have hBA:Below w1.heap.size w1 (w1.alloc (.cells #[.string pol] 9)):=(zeU _ _).alloc (zeK _) _
 have hlit:(w1.alloc (.cells #[.string pol] 9)).ownsRow w1.heap.size 9 1 (.slice (some ⟨w1.heap.size,0,none⟩) 1 1) 1 [.string pol]:=World.ownsRow_lit w1 #[.string pol] 1 (zeK _) (by unfold maxLen;omega) rfl
 have HNE:=z8 (fun n=>z27 gb base lb vb st V iv cv l av vals vv qs qv w1.heap.size w.heap.size [pol] (.slice (some ⟨w1.heap.size,0,none⟩) 1 1) lens _ ((w1.alloc (.cells #[.string pol] 9)).drewN n) ((hG1.keep hBA).drewN n) (zb (w':=(w1.alloc (.cells #[.string pol] 9)).drewN n) hlit fun k e=>rfl) (by simp) (zb (w':=(w1.alloc (.cells #[.string pol] 9)).drewN n) (hlo.alloc _) fun k e=>rfl) hll hA)
 have HLE:=z8 (fun(j:Int) (n:Nat)=>ji w.heap.size lens _ j ((w1.alloc (.cells #[.string pol] 9)).drewN n) (zb (w':=(w1.alloc (.cells #[.string pol] 9)).drewN n) (hlo.alloc _) fun k e=>rfl) hll)
 have HLO:=z8 hlo
 have HB1:=z8 hB1
 have HG1:=z8 hG1
 have HBA:=z8 hBA
 have hbn:=hb (neM [pol] lens st.A 0 (-1))
 clear hlo hB1 hG1 hBA hlit HRL HG
 generalize neM [pol] lens st.A 0 (-1)=nx0 at*
 unfold pol at HNE HLE HBA
 go_wp2_with fail
 refine(HNE.out 0).mono ?_
 rintro e w2 ⟨rfl,n2,rfl⟩
 have HLX:=z8 (HLE.out nx0)
 generalize zc lens nx0=t0 at*
 obtain⟨k0,rfl⟩:=Int.eq_ofNat_of_zero_le hbn.1
 clear HNE HLE
 go_wp2_with fail
 refine(HLX.out n2).mono ?_
 rintro e w2 ⟨rfl,rfl⟩
 rw [Int.toNat_natCast] at hrm
 have HBS:Hid (Below w1.heap.size w1 ((w1.alloc (.cells #[.string ⟨#[80,79,76,73,67,89]⟩] 9)).drewN n2)):=z8 ⟨HBA.out.os,HBA.out.tape,HBA.out.output,HBA.out.size,HBA.out.block⟩
 clear HLX HBA
 go_wp2_with fail
 go_loopg [4,5,6] (k0+1) (fun n nv rv kv wr=> ∃(k:Nat) (nx:Int) (ds:List Int),n=k+1∧nv= .int .i64 nx∧rv= .string (z3n ds)∧kv= .int .i64 k∧Hid (Below w1.heap.size w1 wr)∧k+ds.length≤1000∧Hid (ds++z6n st.A (lnM st.A st.L) lens k nx=R))
 case atStart=>exact⟨k0,nx0,[],rfl,rfl,rfl,rfl,HBS,by simp;omega,z8 (by rw [hrm.out];rfl)⟩
 case round=>
  obtain⟨k,nx,ds,hk,rfl,rfl,rfl,HB,hlen,hfin⟩:=hrel
  have hHK:=z8 hk
  clear hk
  have hz2:w1.heap.size≤wr.heap.size:=HB.out.size
  cases k with
  |zero=>
   have hres:Hid (z3n R=z3n ds):=z8 (by rw [←hfin.out];show z3n (ds++[])=_;rw [List.append_nil])
   have HBE:=z8 (HB1.out.trans (HB.out.mono hz1))
   go_wp2_with fail
   go_ret
   exact⟨by rw [hres.out];rfl,HBE.out⟩
  |succ m=>
   have hpos:(0:Int)<((m+1:Nat):Int):=by omega
   have hmem:nx∈R:=by rw [←hfin.out];exact List.mem_append_right _ List.mem_cons_self
   obtain⟨hn0,hn9⟩:=HD.out nx hmem
   obtain⟨hc1,hc2,hc3⟩:=z8N hn0 hn9
   have HIT:=z8 (z7x (dig nx) wr hc1 hc2)
   rw [hc3] at HIT
   have hnx: ¬nx<0:=by omega
   have hst:Hid (ds++z6n st.A (lnM st.A st.L) lens (m+1) nx=(ds++[nx])++z6n st.A (lnM st.A st.L) lens m (neM (lnM st.A st.L nx.toNat) lens st.A 0 (-1))):=z8 (by
    show ds++(nx::z6n st.A (lnM st.A st.L) lens m (neM (if nx<0 then [] else lnM st.A st.L nx.toNat) lens st.A 0 (-1)))=_
    rw [if_neg hnx,List.append_assoc]
    rfl)
   have hsn:Hid (z3n (ds++[nx])=z3n ds++⟨#[dig nx]⟩):=z8 (z8R ds nx)
   have hsz:(z3n ds).size≤1000:=by rw [z5U];omega
   have hs1:(ByteArray.mk #[dig nx]).size=1:=rfl
   have hLN:=z3b gb 1 base st V iv cv nx wr ((HB.out.cell (p:=⟨gb,1,none⟩) hgc).trans ((HB1.out.cell (p:=⟨gb,1,none⟩) hgb).trans HC.out.1)) ((HB.out.cell (p:=⟨gb,2,none⟩) hgc).trans ((HB1.out.cell (p:=⟨gb,2,none⟩) hgb).trans HC.out.2)) ((HG1.out.keep HB.out).tree) hL hA hto
   rw [if_neg hnx] at hLN
   have HLN:=z8 hLN
   have hnl:=z8T st.A st.L nx.toNat hto hL
   clear hLN hmem hc1 hc2 hc3 hnx
   generalize lnM st.A st.L nx.toNat=nms at*
   generalize z3n ds=rs at*
   go_wp2_with (go_at_call 70;refine HIT.out.mono ?_;rintro e w3 ⟨rfl,rfl⟩)
   refine HLN.out.mono ?_
   rintro e w4 ⟨nv,rfl,hn,hB4⟩
   obtain⟨an,kn,rfl⟩:=za hn
   have hB5:=HB.out.trans (hB4.mono hz2)
   have HNE:=z8 (fun N=>z27 gb base lb vb st V iv cv l av vals vv qs qv w3.heap.size w.heap.size nms _ lens _ (w4.drewN N) ((HG1.out.keep hB5).drewN N) (zb (w':=w4.drewN N) hn fun k e=>rfl) hnl (zb (w':=w4.drewN N) (zb HLO.out fun k e=>hB5.block k (HLO.out.lt k e).2) fun k e=>rfl) hll hA)
   have HB5:=z8 hB5
   clear hn hB4 hB5 HLN
   generalize neM nms lens st.A 0 (-1)=nx2 at*
   go_wp2_with fail
   refine(HNE.out 0).mono ?_
   rintro e w5 ⟨rfl,n5,rfl⟩
   have HB6:Hid (Below w1.heap.size w1 ((w4.drewN 0).drewN n5)):=z8 ⟨HB5.out.os,HB5.out.tape,HB5.out.output,HB5.out.size,HB5.out.block⟩
   go_wp2_with fail
   have hk:=hHK.out
   go_roundg (m+1)
   case measure=>omega
   case rel=>exact⟨m,nx2,ds++[nx],rfl,rfl,by rw [hsn.out],by go_num,HB6,by simp;omega,z8 (by rw [←hfin.out,hst.out])⟩
def chM (s a v q:zeV)(st:St):zeV×Int:=
 if grM s a v q st !=0 then(⟨#[]⟩,grM s a v q st) else
 (z3n (z6l st.A (lnM st.A st.L) (rwM st.A (lnM st.A st.L) (rqM q).1 (gvM st.A st.L (rqM q).1 ((vlM v).1.length - 1) (jE (vlM v).1 (ze (raM a).1 st.E []) st.C []) st.A.length) st.A.length)),0)
theorem zam (s a v q:zeV)(st:St)(w:World)(h:Calls Tryz.prog 34 #[.string s,.string a,.string v,.string q] w fun e w'=>z1O s a v q st w e w')(hE:st.E.length≤100000)(hA:st.A.length≤100000)(hC:st.C.length≤100000)(hCl: ∀c∈st.C,c.length≤100000)(hvl:(vlM v).1.length≤100000)(hll:(raM a).1.length≤100000)(hls: ∀p∈(raM a).1,p.2.size≤600)(hEs: ∀x∈st.E,x.text.size≤600)(hL:LOk st)
  (hW:grM s a v q st=0→ ∀x∈ze (raM a).1 st.E [],x.text.size≤100000000) (hv2:grM s a v q st=0→1≤(vlM v).1.length) (hto:grM s a v q st=0→Tos st.A st.L) (hA8:grM s a v q st=0→st.A.length≤8)
  (hd:grM s a v q st=0→ ∀x∈z6l st.A (lnM st.A st.L) (rwM st.A (lnM st.A st.L) (rqM q).1 (gvM st.A st.L (rqM q).1 ((vlM v).1.length - 1) (jE (vlM v).1 (ze (raM a).1 st.E []) st.C []) st.A.length) st.A.length),0≤x∧x≤9):
  Calls Tryz.prog 20 #[.string s,.string a,.string v,.string q] w fun e w'=>jF (chM s a v q st).1 (chM s a v q st).2 w e w':=by
 have HC:=z8 h
 have hql:(rqM q).1.length≤100000:=by have:=z2O q;omega
 clear h
 go_enter Tryz.func20,Tryz.ntmps20
 go_wp2_with fail
 refine HC.out.mono ?_
 rintro e w1 ⟨x1,x2,x3,x4,x5,x6,x7,rfl,hB1,⟨a1,n1,k1,rfl⟩,⟨a2,n2,k2,rfl⟩,⟨a3,n3,k3,rfl⟩,⟨a4,n4,k4,rfl⟩,⟨a5,n5,k5,rfl⟩,⟨a6,n6,k6,rfl⟩,⟨a7,n7,k7,rfl⟩,hG⟩
 have hco:Hid (chM s a v q st=if grM s a v q st !=0 then(⟨#[]⟩,grM s a v q st) else
  (z3n (z6l st.A (lnM st.A st.L) (rwM st.A (lnM st.A st.L) (rqM q).1 (gvM st.A st.L (rqM q).1 ((vlM v).1.length - 1) (jE (vlM v).1 (ze (raM a).1 st.E []) st.C []) st.A.length) st.A.length)),0)):=z8 rfl
 generalize grM s a v q st=E at*
 have hB2:=hB1.alloc hB1.size (.cells #[.int .i64 E,.slice a1 n1 k1,.slice a2 n2 k2,.slice a3 n3 k3,.slice a4 n4 k4,.slice a5 n5 k5,.slice a6 n6 k6,.slice a7 n7 k7] 58)
 have hX2:=heap_alloc_new w1 (.cells #[.int .i64 E,.slice a1 n1 k1,.slice a2 n2 k2,.slice a3 n3 k3,.slice a4 n4 k4,.slice a5 n5 k5,.slice a6 n6 k6,.slice a7 n7 k7] 58)
 have HB2:=z8 hB2
 cases hEz:(E !=0)
 case true=>
  have hres:Hid (chM s a v q st=(⟨#[]⟩,E)):=z8 (by rw [hco.out,hEz];rfl)
  clear hG hB1 hX2 hB2
  go_wp2_with fail
  go_quiet (fail)
  go_wp2_with fail
  go_ret2
  exact⟨by rw [hres.out];rfl,⟨HB2.out.os,HB2.out.tape,HB2.out.output,HB2.out.size,HB2.out.block⟩⟩
 have hE0:E=0:=by simpa using hEz
 subst hE0
 obtain⟨V,iv,cv,e1,e2,e3,e4,hT,hl,hvv,hqq⟩:=hG rfl
 have hGd:Gd (w1.alloc (.cells #[.int .i64 0,.slice a1 n1 k1,.slice a2 n2 k2,.slice a3 n3 k3,.slice a4 n4 k4,.slice a5 n5 k5,.slice a6 n6 k6,.slice a7 n7 k7] 58)) w1.heap.size w.heap.size w.heap.size w.heap.size st V iv cv (raM a).1 (.slice a5 n5 k5) (vlM v).1 (.slice a6 n6 k6) (rqM q).1 (.slice a7 n7 k7):=
  ⟨⟨0,by rw [←e1,←e2,←e3,←e4];exact hX2⟩,hT.same fun k _ hk=>zeM _ _ _ hk,hl.alloc _,hvv.alloc _,hqq.alloc _⟩
 have hGL:=z1u _ _ _ _ st V iv cv (raM a).1 _ (vlM v).1 _ (rqM q).1 _ _ hGd hE hC hCl hvl hll hls hEs (hW rfl) hA (hv2 rfl) hql hL
 have hgl:(gvM st.A st.L (rqM q).1 ((vlM v).1.length - 1) (jE (vlM v).1 (ze (raM a).1 st.E []) st.C []) st.A.length).length≤100000:=by
  cases st.A.length with
  |zero=>exact zeR _
  |succ r=>rw [z7F];exact hA
 have hres:Hid (chM s a v q st=(z3n (z6l st.A (lnM st.A st.L) (rwM st.A (lnM st.A st.L) (rqM q).1 (gvM st.A st.L (rqM q).1 ((vlM v).1.length - 1) (jE (vlM v).1 (ze (raM a).1 st.E []) st.C []) st.A.length) st.A.length)),0)):=z8 (by rw [hco.out];rfl)
 have hd':=hd rfl
 generalize gvM st.A st.L (rqM q).1 ((vlM v).1.length - 1) (jE (vlM v).1 (ze (raM a).1 st.E []) st.C []) st.A.length=GV at*
 have hrl:=z4h _ _ _ _ st V iv cv (raM a).1 _ (vlM v).1 _ (rqM q).1 _ GV _ hGd hGL hgl hA hL.1 (hto rfl) hql
 have hrn:(rwM st.A (lnM st.A st.L) (rqM q).1 GV st.A.length).length≤100000:=by
  cases st.A.length with
  |zero=>exact zeR _
  |succ r=>rw [zbI];exact hA
 have hA8':=hA8 rfl
 have HRW:=z8 (zcG _ _ _ _ st V iv cv (raM a).1 _ (vlM v).1 _ (rqM q).1 _ _ _ hGd hrl hrn hA hL.1 (hto rfl) (fun j=>by
  by_cases hj:j<0
  ·rw [z4n hj];omega
  ·obtain⟨k,rfl⟩:=Int.eq_ofNat_of_zero_le (show 0≤j by omega)
   have:=z0P (A:=st.A) (ln:=lnM st.A st.L) (qs:=(rqM q).1) (g:=GV) st.A.length k
   omega) hd')
 clear hco hG hEz hB1 hB2 hT hl hvv hqq e1 e2 e3 e4 hGd hX2 hW hv2 hto hA8 hd hd' hGL hrl
 generalize z3n (z6l st.A (lnM st.A st.L) (rwM st.A (lnM st.A st.L) (rqM q).1 GV st.A.length))=D at*
 go_wp2_with fail
 refine HRW.out.mono ?_
 rintro e w2 ⟨rfl,hB3⟩
 have HB3:=z8 (HB2.out.trans (hB3.mono HB2.out.size))
 clear hB3
 go_wp2_with fail
 go_ret2
 exact⟨by rw [hres.out];rfl,HB3.out⟩
theorem z4s {X:Nat→Prop}{w:World}{v:Value}{op tx:zeV}{p:Int}{vs:List Value}(h:NodeX X w v op tx p vs)(hlen:vs.length≤100000)(nm:zeV)(bs:List Bool)(hbs:bs.length=vs.length)(hop:(op.toList==[110,97,109,101])=false)
  (hsub: ∀(i:Nat) (u:Value) (b:Bool),vs[i]?=some u→bs[i]?=some b→(∃g,u= .pointer (some ⟨g,0,none⟩))∧ ∀W,Below w.heap.size w W→Calls Tryz.prog 61 #[u,.string nm] W fun e w'=>e= .returned (.bool b)∧ ∃n,w'=W.drewN n):
  Calls Tryz.prog 61 #[v,.string nm] w fun e w'=>e= .returned (.bool (bs.any id))∧ ∃n,w'=w.drewN n:=by
 obtain⟨g,kv0,rfl,hh,hg,hkv⟩:=zL h
 obtain⟨ak,kk,rfl⟩:=za hkv
 obtain⟨c0,c1,c2,c3,cf⟩:=zR hh
 have HC:=z8 hsub
 have HK:=z8 hkv
 clear h hh hsub hkv cf c1 c2
 go_enter Tryz.func61,Tryz.ntmps61
 go_wp2_with fail
 go_loopg [5] (vs.length+1) (fun k iv wr=> ∃(i m:Nat),k+i=vs.length+1∧i≤vs.length∧iv= .int .i64 i∧wr=w.drewN m∧Hid ((bs.drop i).any id=bs.any id))
 case atStart=>exact⟨0,0,rfl,zeR _,rfl,rfl,z8 rfl⟩
 case round=>
  obtain⟨i,m,hki,hil,rfl,rfl,hfin⟩:=hrel
  have hHK:=z8 hki
  clear hki
  by_cases hlt:i<vs.length
  ·obtain⟨u,hu⟩: ∃u,vs[i]?=some u:=⟨vs[i],zeH hlt⟩
   obtain⟨b,hb⟩: ∃b,bs[i]?=some b:=⟨bs[i]'(by omega),zeH (by omega)⟩
   have hkr:=HK.out
   obtain⟨gr,cap,hvv,hbb,hgg⟩:=hkr.form (by omega)
   injection hvv with e1 e2 e3
   subst e1 e3
   have r0:w.cell? ⟨gr,i,none⟩=some u:=zf hkr _ _ hu
   obtain⟨⟨gu,rfl⟩,hcall⟩:=HC.out i u b hu hb
   have HCA:=z8 (hcall (w.drewN m) ⟨rfl,rfl,rfl,zeK _,fun _ _=>rfl⟩)
   have hst:Hid ((bs.drop i).any id=(b||(bs.drop (i+1)).any id)):=z8 (by
    obtain⟨hl,hx'⟩:=zeI.1 hb
    rw [zeO hl,hx']
    rfl)
   have hlt':(i:Int)<vs.length:=by omega
   clear hu hb hkr hcall
   cases b
   ·go_wp2_with fail
    refine HCA.out.mono ?_
    rintro e w2 ⟨rfl,n2,rfl⟩
    clear HCA
    go_wp2_with fail
    have hk:=hHK.out
    go_roundg (vs.length - i)
    case measure=>omega
    case rel=>exact⟨i+1,_,by omega,by omega,by go_num,rfl,z8 (by rw [←hfin.out,hst.out];rfl)⟩
   ·have hres:Hid (bs.any id=true):=z8 (by rw [←hfin.out,hst.out];rfl)
    go_wp2_with fail
    refine HCA.out.mono ?_
    rintro e w2 ⟨rfl,n2,rfl⟩
    clear HCA
    go_wp2_with fail
    go_ret
    exact⟨by rw [hres.out];rfl,_,rfl⟩
  ·have hlt': ¬(i:Int)<vs.length:=by omega
   have hres:Hid (bs.any id=false):=z8 (by rw [←hfin.out,zeN (by omega)];rfl)
   go_wp2_with fail
   go_ret
   exact⟨by rw [hres.out];rfl,m,rfl⟩
theorem z8C {X:Nat→Prop}{w:World}{v:Value}{tx:zeV}{p:Int}{vs:List Value}(h:NodeX X w v z1g tx p vs)(nm:zeV):
  Calls Tryz.prog 61 #[v,.string nm] w fun e w'=>e= .returned (.bool (tx.toList==nm.toList))∧ ∃n,w'=w.drewN n:=by
 obtain⟨g,kv0,rfl,hh,hg,hkv⟩:=zL h
 obtain⟨c0,c1,c2,c3,cf⟩:=zR hh
 unfold z1g at c0
 clear h hh hkv cf c2 c3
 go_enter Tryz.func61,Tryz.ntmps61
 go_wp2_with fail
 go_ret
 exact⟨rfl,0,rfl⟩
theorem z2f {L:List Lc}{a m e:Nat}(h1:a≤m)(h2:m≤e)(nm:zeV):nm∈z1U L a e↔nm∈z1U L a m∨nm∈z1U L m e:=by
 rw [z0q,z0q,z0q]
 constructor
 ·rintro⟨j,x,q1,q2,q3⟩
  by_cases h:j<m
  ·exact .inl ⟨j,x,q1,h,q3⟩
  ·exact .inr ⟨j,x,by omega,q2,q3⟩
 ·rintro(⟨j,x,q1,q2,q3⟩|⟨j,x,q1,q2,q3⟩)
  ·exact⟨j,x,q1,by omega,q3⟩
  ·exact⟨j,x,by omega,q2,q3⟩
theorem z7p {L:List Lc}{i:Nat}{x:Lc}(hx:L[i]?=some x)(hf:x.form≠0)(nm:zeV):nm∉z1U L i (i+1):=by
 rw [z0q]
 rintro⟨j,y,q1,q2,q3,q4,_⟩
 have e:j=i:=by omega
 rw [e,hx] at q3
 injection q3 with e
 exact hf (e▸q4)
theorem zas {X:Nat→Prop}{L:List Lc}(hit: ∀x∈L,x.items.length≤100000)(nm:zeV):
  ∀(f:Nat) (v:Value) (a i:Nat) (w:World),RefLX X w L f v a i→ ∃b,(b=true↔nm∈z1U L a (i+1))∧ ∀W,Below w.heap.size w W→Calls Tryz.prog 61 #[v,.string nm] W fun e w'=>e= .returned (.bool b)∧ ∃n,w'=W.drewN n:=by
 intro f
 induction f with
 |zero=>intro v a i w h;exact absurd h id
 |succ f ih=>
  intro v a i w ⟨x,hx,h⟩
  rcases h with⟨h1,h2,p,h3⟩|⟨h1,v1,v2,j,k,p,h2,h3,h4,h8,h5,h6,h7⟩|⟨h1,vs,c,h2,h3,h4,h5,h6⟩
  ·refine⟨x.text.toList==nm.toList,?_,fun W hB=>z8C (h3.keepX (zi hB)) nm⟩
   rw [z0q]
   constructor
   ·intro h
    exact⟨i,x,by omega,by omega,hx,h1,jH (by simpa using h)⟩
   ·rintro⟨j,y,q1,q2,q3,q4,q5⟩
    have e:j=i:=by omega
    rw [e,hx] at q3
    injection q3 with e
    rw [e,q5];simp
  ·have hj:=z0X h6
   have hk:=z0X h7
   obtain⟨b1,e1,c1⟩:=ih v1 a j w h6
   obtain⟨b2,e2,c2⟩:=ih v2 (j+1) k w h7
   refine⟨[b1,b2].any id,?_,fun W hB=>z4s (h5.keepX (zi hB)) (by simp) nm [b1,b2] rfl ?_ ?_⟩
   ·rw [z2f (a:=a) (m:=j+1) (e:=i+1) (by omega) (by omega),z2f (a:=j+1) (m:=k+1) (e:=i+1) (by omega) (by omega),←e1,←e2]
    have:=z7p hx (by rw [h1];omega) nm
    rw [h2] at this ⊢
    simp [this]
   ·rcases h8 with e|e<;>rw [e,zeJ]<;>decide
   ·intro n u b hu hb
    match n,hu,hb with
    |0,hu,hb=>
     have q1:v1=u:=by simpa using hu
     have q2:b1=b:=by simpa using hb
     subst q1 q2
     exact⟨z1F h6,fun W' hB'=>c1 W' (hB.trans (hB'.mono hB.size))⟩
    |1,hu,hb=>
     have q1:v2=u:=by simpa using hu
     have q2:b2=b:=by simpa using hb
     subst q1 q2
     exact⟨z1F h7,fun W' hB'=>c2 W' (hB.trans (hB'.mono hB.size))⟩
    |n+2,hu,hb=>simp at hu
  ·have hlen:=SegV.length _ _ _ _ h6
   have hxm:=zeP hx
   have gen: ∀(vs:List Value) (is:List Int) (a e:Nat),SegV (fun v a i=>RefLX X w L f v a i) vs is a e→a≤e∧ ∃bs:List Bool,bs.length=vs.length∧(bs.any id=true↔nm∈z1U L a e)∧ ∀(n:Nat) (u:Value) (b:Bool),vs[n]?=some u→bs[n]?=some b→(∃g,u= .pointer (some ⟨g,0,none⟩))∧ ∀W,Below w.heap.size w W→Calls Tryz.prog 61 #[u,.string nm] W fun e w'=>e= .returned (.bool b)∧ ∃n,w'=W.drewN n:=by
    intro vs
    induction vs with
    |nil=>
     intro is a e h
     cases is with
     |nil=>
      have h:a=e:=h
      subst h
      refine⟨zeK _,[],rfl,?_,fun n u b h=>by simp at h⟩
      rw [z0q]
      constructor
      ·intro h;simp at h
      ·rintro⟨j,y,q1,q2,_⟩;omega
     |cons i is=>exact absurd h id
    |cons u vs ih2=>
     intro is a e h
     cases is with
     |nil=>exact absurd h id
     |cons it is=>
      obtain⟨j,q1,q2,q3⟩:=h
      have hle:=z0X q2
      obtain⟨r1,bs,r2,r3,r4⟩:=ih2 is _ _ q3
      obtain⟨b,e1,c1⟩:=ih u a j w q2
      refine⟨by omega,b::bs,by simp [r2],?_,fun n u' b' hu hb=> ?_⟩
      ·rw [z2f (a:=a) (m:=j+1) (e:=e) (by omega) r1,←e1,←r3]
       simp
      ·cases n with
       |zero=>
        have z1:u=u':=by simpa using hu
        have z2:b=b':=by simpa using hb
        subst z1 z2
        exact⟨z1F q2,c1⟩
       |succ n=>exact r4 n u' b' (by simpa using hu) (by simpa using hb)
   obtain⟨r1,bs,r2,r3,r4⟩:=gen _ _ _ _ h6
   refine⟨bs.any id,?_,fun W hB=>z4s (h5.keepX (zi hB)) (by rw [hlen];exact hit x hxm) nm bs r2 (by unfold sOf;rw [zeJ];decide) fun n u b hu hb=>⟨(r4 n u b hu hb).1,fun W' hB'=>(r4 n u b hu hb).2 W' (hB.trans (hB'.mono hB.size))⟩⟩
   rw [z2f (a:=a) (m:=i) (e:=i+1) r1 (by omega),r3]
   have:=z7p hx (by rw [h1];omega) nm
   simp [this]
theorem z5C (s a v q:zeV)(st:St)(w:World)(h:Calls Tryz.prog 57 #[.string s,.string a,.string v,.string q,.bool true] w fun e w'=>z0Q s a v q st w e w')(E:Int)(hE:grM s a v q st=E)(hn:(E !=0)=true):
  Calls Tryz.prog 33 #[.string s,.string a,.string v,.string q,.string ⟨#[]⟩,.int .i64 E] w fun e w'=>e= .returned (.bool true)∧Below w.heap.size w w':=by
 have HC:=z8 h
 have HE:=z8 hE
 clear h hE
 go_enter Tryz.func33,Tryz.ntmps33
 go_wp2_with fail
 refine HC.out.mono ?_
 rintro e w1 ⟨x1,x2,x3,x4,rfl,hB1,⟨a1,n1,k1,rfl⟩,⟨a2,n2,k2,rfl⟩,⟨a3,n3,k3,rfl⟩,⟨a4,n4,k4,rfl⟩,hQ⟩
 rw [HE.out] at*
 have HB1:=z8 hB1
 clear hB1 hQ HC HE
 go_wp2_with fail
 go_ret
 exact⟨by simp,HB1.out⟩
structure Jd (st:St)(f:Nat)(ps:List PP)(X:Nat→Prop)(w:World)(lb ab vb:Nat)(lv av vv qv:Value)(al:List (zeV×zeV))(vals qs:List zeV):Prop where
 l:w.ownsRow lb 91 3 lv st.A.length (zab ps st.A)
 seg:SegA (fun p x a b e g=>AsX X w st.L st.E st.C f p x a b e g) ps st.A 0 0 st.L.length st.E.length
 a:w.ownsRow ab 144 2 av al.length ((al.map zu).flatten)
 v:w.ownsRow vb 9 1 vv vals.length (vals.map Value.string)
 q:w.ownsRow vb 9 1 qv qs.length (qs.map Value.string)
theorem Jd.at_ {st:St}{f:Nat}{ps:List PP}{X:Nat→Prop}{w:World}{lb ab vb g k0:Nat}{av:Value}{a2:Option Addr}{k2:Nat}{qv:Value}{al:List (zeV×zeV)}{vals qs:List zeV}(h:Jd st f ps X w lb ab vb (.slice (some ⟨g,0,none⟩) st.A.length k0) av (.slice a2 vals.length k2) qv al vals qs)
  (hg:jh st.E) (hcov:z7E st) (hCl: ∀c∈st.C,c.length≤100000) (hvl:vals.length≤100000) (hll:al.length≤100000) (hls: ∀p∈al,p.2.size≤600) (hEs: ∀x∈st.E,x.text.size≤600) (hit: ∀x∈st.L,x.items.length≤100000)
  (hW: ∀x∈ze al st.E [],x.text.size≤100000000∧ -999999999≤x.num∧x.num≤999999999) {i:Nat} {x:As} (hx:st.A[i]?=some x): ∃(p1 p2:Option Addr),w.cell? ⟨g,i*3,none⟩=some (.string x.by_)∧w.cell? ⟨g,i*3+1,none⟩=some (.pointer p1)∧w.cell? ⟨g,i*3+2,none⟩=some (.pointer p2)∧
   (∀W,Below w.heap.size w W→Calls Tryz.prog 58 #[.pointer p2,av,.slice a2 vals.length k2] W fun e w'=>e= .returned (.int .i64 (zc (jE vals (ze al st.E []) st.C []) x.conds))∧Below W.heap.size W w')∧
   (∀nm,∃b,(b=true↔nm∈lnM st.A st.L i)∧ ∀W,Below w.heap.size w W→Calls Tryz.prog 61 #[.pointer p1,.string nm] W fun e w'=>e= .returned (.bool b)∧ ∃n,w'=W.drewN n):=by
 have hpl:=SegA.len _ _ _ _ _ _ h.seg
 have hi:=(zeI.1 hx).1
 obtain⟨pp,hpp⟩: ∃pp,ps[i]?=some pp:=⟨ps[i]'(by omega),zeH _⟩
 obtain⟨a',t,z1,z2,z3,z4,z5⟩:=(z7T ps st.A 0 0 _ _ h.seg).2 i x pp hx hpp
 obtain⟨y,a1,b1,e1,g1,hy,li,ci,r1,r2,r3,r4,r5⟩:=SegA.get _ _ _ _ _ _ i pp h.seg hpp
 have hxy:x=y:=by rw [hx] at hy;injection hy
 subst hxy
 obtain⟨fk,hcv⟩:=hcov
 obtain⟨AA,_,_,AP⟩:=SegB.parts _ _ _ hcv
 obtain⟨kx,y1,y2,_⟩:=AP i x hx
 have hkc:kx=ci:=by rw [r2] at y1;omega
 subst hkc
 refine⟨pp.1,pp.2,zf h.l _ _ ((z0b hpp hx (j:=0) (by omega)).trans rfl),zf h.l _ _ ((z0b hpp hx (by omega)).trans rfl),zf h.l _ _ ((z0b hpp hx (by omega)).trans rfl),fun W hB=> ?_,fun nm=> ?_⟩
 ·rw [r2]
  exact z7f hg al av ab hll hls hEs hW vals vb a2 k2 hvl hCl f _ kx b1 g1 fk (AA i) W (r5.keepX (zi hB)) y2 (zb h.a fun k e=>hB.block k (h.a.lt k e).2) (zb h.v fun k e=>hB.block k (h.v.lt k e).2)
 ·obtain⟨b,q1,q2⟩:=zas hit nm f _ a' t w z5
  refine⟨b,?_,q2⟩
  rw [z5d hx z1 z2]
  exact q1
theorem z82 (s a v q:zeV)(st:St)(w:World)(h:Calls Tryz.prog 57 #[.string s,.string a,.string v,.string q,.bool true] w fun e w'=>z0Q s a v q st w e w')(hg:jh st.E)(hcov:z7E st)(hCl: ∀c∈st.C,c.length≤100000)(hll:(raM a).1.length≤100000)(hls: ∀p∈(raM a).1,p.2.size≤600)(hEs: ∀x∈st.E,x.text.size≤600)(hit: ∀x∈st.L,x.items.length≤100000)
  (hW: ∀x∈ze (raM a).1 st.E [],x.text.size≤100000000∧ -999999999≤x.num∧x.num≤999999999) (hcnt: ∀x∈st.L,x.form=2→1≤x.count) (h0:grM s a v q st=0) (hst:stM st.A (rqM q).1 ((vlM v).1.length - 1) (gvM st.A st.L (rqM q).1 ((vlM v).1.length - 1) (jE (vlM v).1 (ze (raM a).1 st.E []) st.C []) st.A.length) pol=0):
  Calls Tryz.prog 33 #[.string s,.string a,.string v,.string q,.string ⟨#[]⟩,.int .i64 0] w fun e w'=>e= .returned (.bool true)∧Below w.heap.size w w':=by
 have HST:=z8 hst
 clear hst
 have HC:=z8 h
 have hzz:=z03 h0
 obtain⟨hvz,_,hck,_,_,_⟩:=hzz
 have hv2:=z3q hvz
 have hA8:=(z1e hck).2.2.1
 have HG:=z8 (zeL hg (zeL hcov (zeL hCl (zeL hls (zeL hEs (zeL hit (zeL hW hcnt)))))))
 have H0:=z8 h0
 clear h h0 hg hcov hCl hls hEs hit hW hcnt hck
 go_enter Tryz.func33,Tryz.ntmps33
 go_wp2_with fail
 refine HC.out.mono ?_
 rintro e w1 ⟨x1,x2,x3,x4,rfl,hB1,⟨a1,n1,k1,rfl⟩,⟨a2,n2,k2,rfl⟩,⟨a3,n3,k3,rfl⟩,⟨a4,n4,k4,rfl⟩,hQ⟩
 have HB1:=z8 hB1
 obtain⟨f,ps,how,hseg,hO2,hO3,hO4⟩:=hQ H0.out
 rw [H0.out]
 have HSN:Hid _:=z8 (by
  obtain⟨hg,hcov,hCl,hls,hEs,hit,hW,hcnt⟩:=HG.out
  exact z2F st f ps _ _ _ _ _ (raM a).1 (vlM v).1 (rqM q).1 _ _ w1 how hseg hO2 hO3 hO4 hg hcov hA8 hCl z4J (by omega) (z2O q) hll hls hEs hW hcnt hit)
 have hn1:n1=st.A.length:=by
  obtain⟨qa,qk,q⟩:=zO how
  injection q
 have hn3:n3=(vlM v).1.length:=by
  obtain⟨qa,qk,q⟩:=za hO3
  injection q with _ q _
 have hn4:n4=(rqM q).1.length:=by
  obtain⟨qa,qk,q⟩:=za hO4
  injection q with _ q _
 subst hn1 hn3 hn4
 have HJ:Hid (Jd st f ps (fun k=>k<w.heap.size) w1 w.heap.size w.heap.size w.heap.size (.slice a1 st.A.length k1) (.slice a2 n2 k2) (.slice a3 (vlM v).1.length k3) (.slice a4 (rqM q).1.length k4) (raM a).1 (vlM v).1 (rqM q).1):=z8 ⟨how,hseg,hO2,hO3,hO4⟩
 clear how hseg hO2 hO3 hO4 hQ HC hB1
 go_wp2_with fail
 refine HSN.out.mono ?_
 rintro e w2 ⟨sl,v5,rfl,hsd,hat,hsl,hB2⟩
 obtain⟨b5,k5,rfl⟩:=hsd.slice
 have hat5:=hat pol
 have HAT:=z8 (fun N=>z54 _ sl _ pol (w2.drewN N) (hsd.same fun k e=>rfl) (by omega))
 have HB2:=z8 hB2
 have hz2:w1.heap.size≤w2.heap.size:=hB2.size
 have hzw:w.heap.size≤w1.heap.size:=HB1.out.size
 rw [hat5] at HAT
 unfold pol at HAT HST
 clear hat hat5 hsd hB2 HSN hsl
 generalize stM st.A (rqM q).1 ((vlM v).1.length - 1) (gvM st.A st.L (rqM q).1 ((vlM v).1.length - 1) (jE (vlM v).1 (ze (raM a).1 st.E []) st.C []) st.A.length) ⟨#[80,79,76,73,67,89]⟩=lev at*
 go_wp2_with fail
 refine(HAT.out 0).mono ?_
 rintro e w3 ⟨rfl,rfl⟩
 clear HAT
 have hlev:=HST.out
 subst hlev
 have HBE:=z8 (HB1.out.trans (HB2.out.mono hzw))
 clear HB2 HST HJ HG
 go_wp2_with fail
 go_loopg [20,21] 1 (fun k bv iv wr=>bv= .string ⟨#[]⟩∧iv= .int .i64 0∧Hid (Below w.heap.size w wr))
 case atStart=>exact⟨rfl,rfl,z8 ⟨HBE.out.os,HBE.out.tape,HBE.out.output,HBE.out.size,HBE.out.block⟩⟩
 case round=>
  obtain⟨rfl,rfl,HB⟩:=hrel
  go_wp2_with fail
  go_ret
  exact⟨rfl,HB.out⟩
theorem zb6 (R:List Int)(t:Nat)(h:t<(z3n R).size)(k:Int)(hk:R[t]?=some k):(z3n R)[t]'h=dig k:=by
 obtain⟨hl,e⟩:=zeI.1 hk
 have h2:t<(R.map dig).toArray.size:=h
 show((R.map dig).toArray)[t]'h2=_
 rw [List.getElem_toArray,List.getElem_map,e]
structure zei (A:List As)(ln:Nat→List zeV)(qs:List zeV)(LV:List Int)(c:zeV)(K:Nat→Nat):Prop where
 pos:0<c.size
 le:c.size≤1000
 dg: ∀(t:Nat) (h:t<c.size),((c[t]'h).toNat:Int)- 48=(K t:Int)∧(c[t]'h).toNat=K t+48
 ok: ∀t,t<c.size→ ∃x,A[K t]?=some x∧(zc LV x.conds==0)=false∧(t=0→(x.by_.toList==[80,79,76,73,67,89])=true)∧(0<t→x.by_∈ln (K (t - 1)))
 two: ∀t t',t'<t→t<c.size→K t'≠K t
 req: ∃nm∈ln (K (c.size - 1)),nm∈qs
theorem z9Q (s a v q:zeV)(st:St)(w:World)(h:Calls Tryz.prog 57 #[.string s,.string a,.string v,.string q,.bool true] w fun e w'=>z0Q s a v q st w e w')(hg:jh st.E)(hcov:z7E st)(hCl: ∀c∈st.C,c.length≤100000)(hll:(raM a).1.length≤100000)(hls: ∀p∈(raM a).1,p.2.size≤600)(hEs: ∀x∈st.E,x.text.size≤600)(hit: ∀x∈st.L,x.items.length≤100000)
  (hW: ∀x∈ze (raM a).1 st.E [],x.text.size≤100000000∧ -999999999≤x.num∧x.num≤999999999) (hcnt: ∀x∈st.L,x.form=2→1≤x.count) (h0:grM s a v q st=0) (hst:0<stM st.A (rqM q).1 ((vlM v).1.length - 1) (gvM st.A st.L (rqM q).1 ((vlM v).1.length - 1) (jE (vlM v).1 (ze (raM a).1 st.E []) st.C []) st.A.length) pol) (c:zeV) (K:Nat→Nat) (hR:zei st.A (lnM st.A st.L) (rqM q).1 (jE (vlM v).1 (ze (raM a).1 st.E []) st.C []) c K):
  Calls Tryz.prog 33 #[.string s,.string a,.string v,.string q,.string c,.int .i64 0] w fun e w'=>e= .returned (.bool true)∧Below w.heap.size w w':=by
 have HST:=z8 hst
 have HRW:=z8 hR
 have hcp:=hR.pos
 have hcl:=hR.le
 have hce:(c.toList==([]:List UInt8))=false:=by
  rw [zeJ]
  cases hq:(c.data.toList==([]:List UInt8)) with
  |false=>rfl
  |true=>simp at hq;exact absurd (show c.size=0 by simp [ByteArray.size,hq]) (by omega)
 have hcn: ¬c.toList=[]:=by simpa using hce
 clear hst hR
 have HC:=z8 h
 have hzz:=z03 h0
 obtain⟨hvz,_,hck,_,_,_⟩:=hzz
 have hv2:=z3q hvz
 have hA8:=(z1e hck).2.2.1
 have HG:=z8 (zeL hg (zeL hcov (zeL hCl (zeL hls (zeL hEs (zeL hit (zeL hW hcnt)))))))
 have H0:=z8 h0
 clear h h0 hg hcov hCl hls hEs hit hW hcnt hck
 go_enter Tryz.func33,Tryz.ntmps33
 go_wp2_with fail
 refine HC.out.mono ?_
 rintro e w1 ⟨x1,x2,x3,x4,rfl,hB1,⟨a1,n1,k1,rfl⟩,⟨a2,n2,k2,rfl⟩,⟨a3,n3,k3,rfl⟩,⟨a4,n4,k4,rfl⟩,hQ⟩
 have HB1:=z8 hB1
 obtain⟨f,ps,how,hseg,hO2,hO3,hO4⟩:=hQ H0.out
 rw [H0.out]
 have HSN:Hid _:=z8 (by
  obtain⟨hg,hcov,hCl,hls,hEs,hit,hW,hcnt⟩:=HG.out
  exact z2F st f ps _ _ _ _ _ (raM a).1 (vlM v).1 (rqM q).1 _ _ w1 how hseg hO2 hO3 hO4 hg hcov hA8 hCl z4J (by omega) (z2O q) hll hls hEs hW hcnt hit)
 have hn1:n1=st.A.length:=by
  obtain⟨qa,qk,q⟩:=zO how
  injection q
 have hn3:n3=(vlM v).1.length:=by
  obtain⟨qa,qk,q⟩:=za hO3
  injection q with _ q _
 have hn4:n4=(rqM q).1.length:=by
  obtain⟨qa,qk,q⟩:=za hO4
  injection q with _ q _
 subst hn1 hn3 hn4
 have HJ:Hid (Jd st f ps (fun k=>k<w.heap.size) w1 w.heap.size w.heap.size w.heap.size (.slice a1 st.A.length k1) (.slice a2 n2 k2) (.slice a3 (vlM v).1.length k3) (.slice a4 (rqM q).1.length k4) (raM a).1 (vlM v).1 (rqM q).1):=z8 ⟨how,hseg,hO2,hO3,hO4⟩
 clear how hseg hO2 hO3 hO4 hQ HC hB1
 go_wp2_with fail
 refine HSN.out.mono ?_
 rintro e w2 ⟨sl,v5,rfl,hsd,hat,hsl,hB2⟩
 obtain⟨b5,k5,rfl⟩:=hsd.slice
 have hat5:=hat pol
 have HAT:=z8 (fun N=>z54 _ sl _ pol (w2.drewN N) (hsd.same fun k e=>rfl) (by omega))
 have HB2:=z8 hB2
 have hz2:w1.heap.size≤w2.heap.size:=hB2.size
 have hzw:w.heap.size≤w1.heap.size:=HB1.out.size
 rw [hat5] at HAT
 unfold pol at HAT HST
 clear hat hat5 hsd hB2 HSN hsl
 generalize stM st.A (rqM q).1 ((vlM v).1.length - 1) (gvM st.A st.L (rqM q).1 ((vlM v).1.length - 1) (jE (vlM v).1 (ze (raM a).1 st.E []) st.C []) st.A.length) ⟨#[80,79,76,73,67,89]⟩=lev at*
 go_wp2_with fail
 refine(HAT.out 0).mono ?_
 rintro e w3 ⟨rfl,rfl⟩
 clear HAT
 have hlev:=HST.out
 have hlz:(lev==0)=false:=by
  cases hq:(lev==0) with
  |false=>rfl
  |true=>simp at hq;omega
 have hlz': ¬lev=0:=by omega
 have hAp:0<st.A.length:=by
  obtain⟨x0,hx0,_⟩:=HRW.out.ok 0 hcp
  have:=(zeI.1 hx0).1
  omega
 obtain⟨g,cap,hvx,hbb,hgl⟩:=HJ.out.l.form hAp
 injection hvx with u1 u2 u3
 subst u1 u3
 have HAT:Hid _:=z8 fun(i:Nat) (x:As) (hx:st.A[i]?=some x)=>(by
  obtain⟨hg,hcov,hCl,hls,hEs,hit,hW,hcnt⟩:=HG.out
  exact HJ.out.at_ hg hcov hCl (z3Z v) hll hls hEs hit hW hx)
 have HQ:=z8 HJ.out.q
 clear hlev HST HJ HG
 generalize jE (vlM v).1 (ze (raM a).1 st.E []) st.C []=LV at*
 have HB3:Hid (Below w1.heap.size w1 (w2.drewN 0)):=z8 ⟨HB2.out.os,HB2.out.tape,HB2.out.output,HB2.out.size,HB2.out.block⟩
 go_wp2_with fail
 go_loopg [20,21] (c.size+1) (fun n bv iv wr=> ∃(i:Nat) (B:zeV),n+i=c.size+1∧i≤c.size∧bv= .string B∧iv= .int .i64 i∧Hid (Below w1.heap.size w1 wr)∧Hid ((i=0∧B=⟨#[]⟩)∨(0<i∧B=c.extract (i - 1) i)))
 case atStart=>exact⟨0,⟨#[]⟩,rfl,zeR _,rfl,rfl,HB3,z8 (.inl ⟨rfl,rfl⟩)⟩
 case round=>
  obtain⟨i,B,hk,hil,rfl,rfl,HB,HBY⟩:=hrel
  have hHK:=z8 hk
  clear hk
  by_cases hlt:i<c.size
  ·have hlt':(i:Int)<c.size:=by omega
   obtain⟨hd1,hd2⟩:=HRW.out.dg i hlt
   obtain⟨x,hx,hxw,hx0,hxn⟩:=HRW.out.ok i hlt
   have hkA:=(zeI.1 hx).1
   have hkA':((K i:Nat):Int)<st.A.length:=by omega
   obtain⟨p1,p2,y0,y1,y2,yc,yn⟩:=HAT.out (K i) x hx
   obtain⟨gk0,hgk0⟩: ∃gk0,gk0=gk:=⟨_,rfl⟩
   have HGK0:=z8 hgk0
   have HYC:=z8 yc
   have HXX:=z8 (zeL hxw (zeL hx0 hxn))
   clear hgk0 yc yn hxw hx0 hxn hx hd2
   go_wp2_with fail
   go_loopg [23] (i+1) (fun n jv wr2=> ∃(j m:Nat),n+j=i+1∧j≤i∧jv= .int .i64 j∧wr2=wr.drewN m)
   case atStart=>exact⟨0,0,rfl,zeR _,rfl,rfl⟩
   case round=>
    obtain⟨j,m,hkj,hji,rfl,rfl⟩:=hrel
    have hHKJ:=z8 hkj
    clear hkj
    by_cases hjl:j<i
    ·have hjl':(j:Int)<i:=by omega
     have hjc:(j:Int)<c.size:=by omega
     have hjc':j<c.size:=by omega
     have hne: ¬((c[j]'hjc').toNat:Int)=((c[i]'hlt).toNat:Int):=by
      have e1:=(HRW.out.dg j hjc').2
      have e2:=(HRW.out.dg i hlt).2
      have:=HRW.out.two i j hjl hlt
      omega
     go_wp2_with fail
     go_quiet (fail)
     go_wp2_with fail
     have hk:=hHKJ.out
     go_roundg (i - j)
     case measure=>omega
     case rel=>exact⟨j+1,_,by omega,by omega,by go_num,rfl⟩
    ·have hjl': ¬(j:Int)<i:=by omega
     have z0:wr.cell? ⟨g,K i*3,none⟩=some (.string x.by_):=(HB.out.cell (p:=⟨g,K i*3,none⟩) hgl).trans y0
     have z2:wr.cell? ⟨g,K i*3+2,none⟩=some (.pointer p2):=(HB.out.cell (p:=⟨g,K i*3+2,none⟩) hgl).trans y2
     have HYW:=z8 (HYC.out (wr.drewN m) ⟨HB.out.os,HB.out.tape,HB.out.output,HB.out.size,HB.out.block⟩)
     obtain⟨hxw,hx0,hxn⟩:=HXX.out
     generalize zc LV x.conds=cx at*
     have hxw': ¬cx=0:=by simpa using hxw
     have hz3:w1.heap.size≤wr.heap.size:=HB.out.size
     clear y1 y2 HXX HYC
     go_wp2_with fail
     refine HYW.out.mono ?_
     rintro e w4 ⟨rfl,hB4⟩
     have hB4:Below wr.heap.size wr w4:=⟨hB4.os,hB4.tape,hB4.output,hB4.size,hB4.block⟩
     have hB5:=HB.out.trans (hB4.mono hz3)
     have HB5:=z8 hB5
     have v0:w4.cell? ⟨g,K i*3,none⟩=some (.string x.by_):=(hB5.cell (p:=⟨g,K i*3,none⟩) hgl).trans y0
     clear hB4 hB5 HYW z0 z2
     by_cases hi0:i=0
     ·have hxb:=hx0 hi0
      have hi0': ¬(0:Int)<(i:Int):=by omega
      have HI0:=z8 hi0
      clear hi0 hx0 hxn
      go_wp2_with fail
      have hk:=hHK.out
      have hg0:=HGK0.out
      go_roundg (gk0 - 1)
      case measure=>omega
      case rel=>exact⟨i+1,c.extract i (i+1),by omega,by omega,rfl,by go_num,HB5,z8 (.inr ⟨by omega,rfl⟩)⟩
     ·have hi0':(0:Int)<(i:Int):=by omega
      have hxb:=hxn (by omega)
      obtain⟨xp,hxp,_⟩:=HRW.out.ok (i - 1) (by omega)
      obtain⟨r1,r2,w0,t1,t2,_,tn⟩:=HAT.out (K (i - 1)) xp hxp
      obtain⟨b,hb,hcall⟩:=tn x.by_
      have hbt:b=true:=hb.2 hxb
      subst hbt
      have hkp:=(zeI.1 hxp).1
      have hkp':((K (i - 1):Nat):Int)<st.A.length:=by omega
      obtain⟨hp1,_⟩:=HRW.out.dg (i - 1) (by omega)
      have hip:(i:Int)- 1<c.size:=by omega
      have s1:w4.cell? ⟨g,K (i - 1)*3+1,none⟩=some (.pointer r1):=(HB5.out.cell (p:=⟨g,K (i - 1)*3+1,none⟩) hgl).trans t1
      have HCN:=z8 (fun N=>hcall (w4.drewN N) ⟨HB5.out.os,HB5.out.tape,HB5.out.output,HB5.out.size,HB5.out.block⟩)
      have HI0:=z8 hi0
      clear hcall tn hb hxp hxn t1 t2 w0 hi0 hx0 hxb
      go_wp2_with fail
      go_quiet ((go_at_call 61;exact Calls.quiet_of (HCN.out _)))
      go_wp2_with fail
      have hk:=hHK.out
      have hg0:=HGK0.out
      go_roundg (gk0 - 1)
      case measure=>omega
      case rel=>exact⟨i+1,c.extract i (i+1),by omega,by omega,rfl,by go_num,z8 ⟨HB5.out.os,HB5.out.tape,HB5.out.output,HB5.out.size,HB5.out.block⟩,z8 (.inr ⟨by omega,rfl⟩)⟩
  ·have hlt': ¬(i:Int)<c.size:=by omega
   have hic:i=c.size:=by omega
   have hB:B=c.extract (c.size - 1) c.size:=by
    rcases HBY.out with⟨e,_⟩|⟨_,e⟩
    ·omega
    ·rw [e,hic]
   have hBs:B.size=1:=by rw [hB,ByteArray.size_extract];omega
   have hBe:(B.toList==([]:List UInt8))=false:=by
    rw [zeJ]
    cases hq:(B.data.toList==([]:List UInt8)) with
    |false=>rfl
    |true=>simp at hq;exact absurd (show B.size=0 by simp [ByteArray.size,hq]) (by omega)
   have hBn: ¬B.toList=[]:=by simpa using hBe
   have hB0: ∀h0:0<B.size,(((B[0]'h0).toNat:Int)- 48)=(K (c.size - 1):Int):=fun h0=>by
    have e:B[0]'h0=c[c.size - 1]'(by omega):=by
     subst hB
     rw [ByteArray.getElem_extract]
     simp
    rw [e]
    exact(HRW.out.dg (c.size - 1) (by omega)).1
   obtain⟨x,hx,_⟩:=HRW.out.ok (c.size - 1) (by omega)
   obtain⟨p1,p2,_,y1,_,_,yn⟩:=HAT.out (K (c.size - 1)) x hx
   have hkA:=(zeI.1 hx).1
   obtain⟨kl,hkl⟩: ∃kl,kl=K (c.size - 1):=⟨_,rfl⟩
   rw [←hkl] at hB0 y1 yn hkA
   have hkA':((kl:Nat):Int)<st.A.length:=by omega
   have z1:wr.cell? ⟨g,kl*3+1,none⟩=some (.pointer p1):=(HB.out.cell (p:=⟨g,kl*3+1,none⟩) hgl).trans y1
   have HRQ:Hid (∃nm∈lnM st.A st.L kl,nm∈(rqM q).1):=z8 (by rw [hkl];exact HRW.out.req)
   have HYN:=z8 yn
   have hB1':(0:Int)<B.size:=by omega
   have hq4:=z2O q
   clear hic hB HBY hx hkl yn y1 HAT HRW hHK
   go_wp2_with fail
   go_loopg [27] ((rqM q).1.length+1) (fun n jv wr2=> ∃(j m:Nat),n+j=(rqM q).1.length+1∧j≤(rqM q).1.length∧jv= .int .i64 j∧wr2=wr.drewN m∧Hid (∀(t:Nat) (nm:zeV),t<j→(rqM q).1[t]?=some nm→nm∉lnM st.A st.L kl))
   case atStart=>exact⟨0,0,rfl,zeR _,rfl,rfl,z8 fun t nm ht=>by omega⟩
   case round=>
    obtain⟨j,m,hkj,hjl,rfl,rfl,HNO⟩:=hrel
    have hHKJ:=z8 hkj
    clear hkj
    by_cases hjq:j<(rqM q).1.length
    ·obtain⟨gq,cq,hvq,hbq,hgq⟩:=HQ.out.form (by omega)
     injection hvq with u1 u2 u3
     subst u1 u3
     obtain⟨nm,hnm⟩: ∃nm,(rqM q).1[j]?=some nm:=⟨(rqM q).1[j],zeH hjq⟩
     have q0:wr.cell? ⟨gq,j,none⟩=some (.string nm):=(HB.out.cell (p:=⟨gq,j,none⟩) hgq).trans (zf HQ.out _ _ (by rw [List.getElem?_map,hnm];rfl))
     obtain⟨b,hb,hcall⟩:=HYN.out nm
     have HCN:=z8 (fun N=>hcall (wr.drewN N) ⟨HB.out.os,HB.out.tape,HB.out.output,HB.out.size,HB.out.block⟩)
     have hjq':(j:Int)<(rqM q).1.length:=by omega
     have HNM:=z8 (zeL hnm hb)
     clear hcall hnm hb
     cases b
     ·go_wp2_with fail
      refine(HCN.out _).mono ?_
      rintro e w5 ⟨rfl,n5,rfl⟩
      go_wp2_with fail
      have hk:=hHKJ.out
      go_roundg ((rqM q).1.length - j)
      case measure=>omega
      case rel=>
       refine⟨j+1,_,by omega,by omega,by go_num,rfl,z8 fun t nm' ht hnm' hin=> ?_⟩
       by_cases e:t=j
       ·subst e
        rw [HNM.out.1] at hnm'
        injection hnm' with e
        have:=HNM.out.2.2 (e▸hin)
        cases this
       ·exact HNO.out t nm' (by omega) hnm' hin
     ·have HBE:=z8 (HB1.out.trans (HB.out.mono hzw))
      go_wp2_with fail
      refine(HCN.out _).mono ?_
      rintro e w5 ⟨rfl,n5,rfl⟩
      go_wp2_with fail
      go_ret
      exact⟨rfl,⟨HBE.out.os,HBE.out.tape,HBE.out.output,HBE.out.size,HBE.out.block⟩⟩
    ·exfalso
     obtain⟨nm,h1,h2⟩:=HRQ.out
     obtain⟨t,ht⟩:=List.mem_iff_getElem?.1 h2
     exact HNO.out t nm (by have:=(zeI.1 ht).1;omega) ht h1
theorem zbF (q:zeV):plM pol (rqM q).1 0= -1:=by
 unfold rqM
 split
 ·rfl
 ·split
  ·rfl
  ·rename_i h
   simp only [Bool.or_eq_true,not_or,bne_iff_ne,ne_eq] at h
   exact Classical.not_not.1 h.2
theorem zaZ:pol.toList=[80,79,76,73,67,89]:=by rw [zeJ];rfl
theorem zaL {A:List As}{L:List Lc}{qs:List zeV}{top:Nat}{W:List Int}{i:Nat}{x:As}(hx:A[i]?=some x)(h:0<zc (gvM A L qs top W A.length) (i:Int)):1≤zc W x.conds:=by
 have hi:=(zeI.1 hx).1
 obtain⟨m,hm⟩: ∃m,A.length=m+1:=⟨A.length - 1,by omega⟩
 rw [hm] at h
 have h:0<zc (ltM A W (jB (stM A qs top (gvM A L qs top W m)) top L [])) (i:Int):=h
 unfold ltM at h
 rw [z6i,hx] at h
 exact(z0A.1 (show 1≤z3j _ _ from h)).1
section
variable {A:List As} {L:List Lc} {qs:List zeV} {top:Nat} {W:List Int}
theorem z3Q (hW:Lvr top W)(hp:zdM A L top)(hq:plM pol qs 0= -1)(hA8:A.length≤8):
  (stM A qs top (gvM A L qs top W A.length) pol=0∧z6l A (lnM A L) (rwM A (lnM A L) qs (gvM A L qs top W A.length) A.length)=[])∨
  (0<stM A qs top (gvM A L qs top W A.length) pol∧(∀x∈z6l A (lnM A L) (rwM A (lnM A L) qs (gvM A L qs top W A.length) A.length),0≤x∧x≤9)∧ ∃K,zei A (lnM A L) qs W (z3n (z6l A (lnM A L) (rwM A (lnM A L) qs (gvM A L qs top W A.length) A.length))) K):=by
 have hr:=z2L (A:=A) (qs:=qs) (z6c (A:=A) (L:=L) (qs:=qs) hW A.length) pol
 by_cases h0:stM A qs top (gvM A L qs top W A.length) pol=0
 ·refine .inl ⟨h0,?_⟩
  rcases z21 [pol] (rwM A (lnM A L) qs (gvM A L qs top W A.length) A.length) A with⟨e,_⟩|⟨f,x,hx,_,⟨c1,c2⟩,_⟩
  ·unfold z6l
   rw [e,z4n (by omega)]
   rfl
  ·exfalso
   have hg:=(z3o c1).2
   have hb:x.by_=pol:=by simpa using z58 _ _ c2
   have:=(z1s (A:=A) (qs:=qs) (top:=top) (g:=gvM A L qs top W A.length) (nm:=pol) (Int.le_refl 1)).2 (.inr ⟨hq,f,x,hx,by rw [hb],by omega⟩)
   omega
 ·refine .inr ⟨by omega,?_⟩
  rcases(z1s (A:=A) (qs:=qs) (top:=top) (g:=gvM A L qs top W A.length) (nm:=pol) (Int.le_refl 1)).1 (by omega) with⟨q1,_⟩|⟨_,j,y,hy,hyb,hyg⟩
  ·exact absurd hq q1
  ·have hl:=zeg (W:=W) (qs:=qs) hp A.length (zeK _) j y hy hyg
   have hyb:=jH hyb
   rcases z21 [pol] (rwM A (lnM A L) qs (gvM A L qs top W A.length) A.length) A with⟨_,hno⟩|⟨f,x,hx,e,⟨c1,c2⟩,_⟩
   ·exact absurd ⟨hl,z9q _ _ (by rw [hyb];exact List.mem_cons_self)⟩ (hno j y hy)
   ·have hxb:x.by_=pol:=by simpa using z58 _ _ c2
    have hbd:=z0P (A:=A) (ln:=lnM A L) (qs:=qs) (g:=gvM A L qs top W A.length) A.length f
    obtain⟨k,hk⟩: ∃k:Nat,zc (rwM A (lnM A L) qs (gvM A L qs top W A.length) A.length) (f:Int)=((k+1:Nat):Int):=⟨(zc (rwM A (lnM A L) qs (gvM A L qs top W A.length) A.length) (f:Int)).toNat - 1,by omega⟩
    have hrow:=zdv k f hk
    have eR:z6l A (lnM A L) (rwM A (lnM A L) qs (gvM A L qs top W A.length) A.length)=z6n A (lnM A L) (rwM A (lnM A L) qs (gvM A L qs top W A.length) A.length) (k+1) f:=by
     unfold z6l
     rw [e,hk,Int.toNat_natCast]
    rw [eR]
    have hlen:=zba A (lnM A L) (rwM A (lnM A L) qs (gvM A L qs top W A.length) A.length) (k+1) f
    obtain⟨rs,hrs⟩: ∃rs,z6n A (lnM A L) (rwM A (lnM A L) qs (gvM A L qs top W A.length) A.length) (k+1) f=(f:Int)::rs:=⟨_,rfl⟩
    rw [hrs] at hrow hlen ⊢
    generalize hR:(f:Int)::rs=R at*
    generalize rwM A (lnM A L) qs (gvM A L qs top W A.length) A.length=ls at*
    have hmem:=z9K R _ hrow
    have h9: ∀x∈R,0≤x∧x≤9:=fun x hx=>by
     obtain⟨i,z,rfl,h1,_,_⟩:=hmem x hx
     have:=(zeI.1 h1).1
     omega
    refine⟨h9,fun t=>(R.getD t 0).toNat,?_⟩
    have hget: ∀t,t<R.length→ ∃(i:Nat) (z:As),R[t]?=some (i:Int)∧(R.getD t 0).toNat=i∧A[i]?=some z∧0<zc (gvM A L qs top W A.length) (i:Int):=fun t ht=>by
     obtain⟨i,z,h1,h2,h3,_⟩:=hmem (R[t]'ht) (List.getElem_mem ht)
     have e:R[t]?=some (i:Int):=by rw [zeH ht,h1]
     exact⟨i,z,e,by simp [List.getD,e],h2,h3⟩
    have hsz:=z5U R
    refine⟨by omega,by omega,fun t ht=> ?_,fun t ht=> ?_,fun t t' htt ht=> ?_,?_⟩
    ·obtain⟨i,z,h1,h2,h3,_⟩:=hget t (by omega)
     have hd:=zb6 R t ht i h1
     obtain⟨q1,q2⟩:=h9 (i:Int) (zeP h1)
     obtain⟨d1,d2,d3⟩:=z8N q1 q2
     rw [hd]
     show _=(((R.getD t 0).toNat:Nat):Int)∧_=(R.getD t 0).toNat+48
     rw [h2]
     omega
    ·obtain⟨i,z,h1,h2,h3,h4⟩:=hget t (by omega)
     show ∃x,A[(R.getD t 0).toNat]?=some x∧_∧_∧(0<t→x.by_∈lnM A L (R.getD (t - 1) 0).toNat)
     rw [h2]
     have hw:=zaL h3 h4
     refine⟨z,h3,?_,fun e=> ?_,fun e=> ?_⟩
     ·cases hq:(zc W z.conds==0) with
      |false=>rfl
      |true=>simp at hq;omega
     ·subst e
      rw [←hR] at h1
      have e0:(f:Int)=(i:Int):=by simpa using h1
      have e:f=i:=by omega
      rw [←e,hx] at h3
      injection h3 with e
      rw [←e,hxb,zaZ]
      rfl
     ·obtain⟨i',z',g1,g2,g3,g4⟩:=hget (t - 1) (by omega)
      rw [g2]
      obtain⟨ia,ja,ya,e1,e2,e3,e4⟩:=zcs R _ hrow (t - 1) i' i g1 (by rw [show t - 1+1=t by omega];exact h1)
      have ea:ia=i':=by omega
      have eb:ja=i:=by omega
      subst ea eb
      rw [h3] at e3
      injection e3 with e
      rw [e]
      exact z58 _ _ e4
    ·obtain⟨i,z,h1,h2,_⟩:=hget t (by omega)
     obtain⟨i',z',g1,g2,_⟩:=hget t' (by omega)
     show(R.getD t' 0).toNat≠(R.getD t 0).toNat
     rw [h2,g2]
     intro e
     exact zcv R _ hrow t t' i htt h1 (by rw [g1,e])
    ·obtain⟨i,z,h1,h2,_⟩:=hget ((z3n R).size - 1) (by omega)
     show ∃nm∈lnM A L (R.getD ((z3n R).size - 1) 0).toNat,nm∈qs
     rw [h2]
     obtain⟨i',e1,e2⟩:=zak R _ hrow i (by rw [List.getLast?_eq_getElem?];rw [hsz] at h1;exact h1)
     have e:i'=i:=by omega
     subst e
     obtain⟨nm,n1,n2⟩:=List.any_eq_true.1 e2
     exact⟨nm,n1,z58 _ _ (by simpa using n2)⟩
end
theorem zaU (s a v q:zeV)(st:St)(w:World)(h:Calls Tryz.prog 34 #[.string s,.string a,.string v,.string q] w fun e w'=>z1O s a v q st w e w')(E:Int)(hE:grM s a v q st=E)(hn:(E !=0)=true):
  Calls Tryz.prog 20 #[.string s,.string a,.string v,.string q] w fun e w'=>jF ⟨#[]⟩ E w e w':=by
 have HC:=z8 h
 have HE:=z8 hE
 clear h hE
 go_enter Tryz.func20,Tryz.ntmps20
 go_wp2_with fail
 refine HC.out.mono ?_
 rintro e w1 ⟨x1,x2,x3,x4,x5,x6,x7,rfl,hB1,⟨a1,n1,k1,rfl⟩,⟨a2,n2,k2,rfl⟩,⟨a3,n3,k3,rfl⟩,⟨a4,n4,k4,rfl⟩,⟨a5,n5,k5,rfl⟩,⟨a6,n6,k6,rfl⟩,⟨a7,n7,k7,rfl⟩,hG⟩
 rw [HE.out] at*
 have HB2:=z8 (hB1.alloc hB1.size (.cells #[.int .i64 E,.slice a1 n1 k1,.slice a2 n2 k2,.slice a3 n3 k3,.slice a4 n4 k4,.slice a5 n5 k5,.slice a6 n6 k6,.slice a7 n7 k7] 58))
 clear hG hB1 HC HE
 go_wp2_with fail
 go_quiet (fail)
 go_wp2_with fail
 go_ret2
 exact⟨rfl,⟨HB2.out.os,HB2.out.tape,HB2.out.output,HB2.out.size,HB2.out.block⟩⟩
theorem Ask.pos {s a v q:zeV}{st:St}(h:Ask s a v q st)(h0:grM s a v q st=0)(top:Nat):zdM st.A st.L top∧Tos st.A st.L:=by
 obtain⟨n,hM⟩:=h.mr
 obtain⟨_,_,hck,hs,_,_⟩:=z03 h0
 obtain⟨e,w',fr,⟨lv,_,_,_,hq⟩,_⟩:=z02 s n st (World.holding Tryz.prog default ⟨#[],#[],[]⟩) hM hs []
 obtain⟨f,ps,_,hq⟩:=hq hck
 exact zaC (h.cnt h0) top hq
theorem Ask.lvr {s a v q:zeV}{st:St}(h0:grM s a v q st=0):Lvr ((vlM v).1.length - 1) (jE (vlM v).1 (ze (raM a).1 st.E []) st.C []):=z4m fun x hx=>by
 have h2:=Ask.two h0
 have:=z1D (vlM v).1 (ze (raM a).1 st.E []) (by omega) st.C [] (fun x h=>by cases h) x hx
 omega
theorem Ask.chain {s a v q:zeV}{st:St}(h:Ask s a v q st)(w:World):Calls Tryz.prog 20 #[.string s,.string a,.string v,.string q] w fun e w'=>jF (chM s a v q st).1 (chM s a v q st).2 w e w':=
 zam s a v q st w (h.gr w) (by have:=h.ee;omega) (by have:=h.ea;omega) (by have:=h.ec;omega) h.cl (z3Z v) h.ra.2 h.ra.1 h.es h.lok (fun h0 x hx=>(h.w h0 x hx).1) (fun h0=>by have:=Ask.two h0;omega) (fun h0=>(h.pos h0 1).2) (fun h0=>(z1e (z03 h0).2.2.1).2.2.1) (fun h0=>by
  rcases z3Q (qs:=(rqM q).1) (Ask.lvr h0) (h.pos h0 ((vlM v).1.length - 1)).1 (zbF q) (z1e (z03 h0).2.2.1).2.2.1 with⟨_,e⟩|⟨_,e,_⟩
  ·rw [e];exact fun x hx=>by cases hx
  ·exact e)
theorem Ask.judge {s a v q:zeV}{st:St}(h:Ask s a v q st)(w:World):Calls Tryz.prog 33 #[.string s,.string a,.string v,.string q,.string (chM s a v q st).1,.int .i64 (chM s a v q st).2] w fun e w'=>e= .returned (.bool true)∧Below w.heap.size w w':=by
 by_cases h0:grM s a v q st=0
 ·have e:chM s a v q st=(z3n (z6l st.A (lnM st.A st.L) (rwM st.A (lnM st.A st.L) (rqM q).1 (gvM st.A st.L (rqM q).1 ((vlM v).1.length - 1) (jE (vlM v).1 (ze (raM a).1 st.E []) st.C []) st.A.length) st.A.length)),0):=by unfold chM;rw [h0];rfl
  rw [e]
  rcases z3Q (qs:=(rqM q).1) (Ask.lvr h0) (h.pos h0 ((vlM v).1.length - 1)).1 (zbF q) (z1e (z03 h0).2.2.1).2.2.1 with⟨h1,h2⟩|⟨h1,_,K,h3⟩
  ·rw [h2]
   exact z82 s a v q st w (h.ak w) h.gd.e h.cov h.cl h.ra.2 h.ra.1 h.es (fun x hx=>(h.gd.l x hx).1) (h.w h0) (h.cnt h0) h0 h1
  ·exact z9Q s a v q st w (h.ak w) h.gd.e h.cov h.cl h.ra.2 h.ra.1 h.es (fun x hx=>(h.gd.l x hx).1) (h.w h0) (h.cnt h0) h0 h1 _ K h3
 ·have hn:(grM s a v q st !=0)=true:=by simpa using h0
  have e:chM s a v q st=(⟨#[]⟩,grM s a v q st):=by unfold chM;rw [hn];rfl
  rw [e]
  exact z5C s a v q st w (h.ak w) _ rfl hn
theorem z8b (s a v q:zeV)(hs:s.size≤maxLen)(ha:a.size≤maxLen)(hv:v.size≤maxLen)(hq:q.size≤maxLen): ∃(t:zeV) (r:Int),(∀w,Calls Tryz.prog 20 #[.string s,.string a,.string v,.string q] w fun e w'=>jF t r w e w')∧(∀w,Calls Tryz.prog 33 #[.string s,.string a,.string v,.string q,.string t,.int .i64 r] w fun e w'=>e= .returned (.bool true)∧Below w.heap.size w w'):=by
 by_cases h:s.size≤600∧a.size≤100∧v.size≤60∧q.size≤60
 ·obtain⟨st,hA⟩:=z5v s a v q h.1 h.2.1 h.2.2.1 h.2.2.2
  exact⟨_,_,hA.chain,hA.judge⟩
 ·have h1:=z7S h st0
  exact⟨⟨#[]⟩,1,fun w=>zaU s a v q st0 w (z25 s a v q st0 w hs ha hv hq (by omega)) 1 h1 rfl,fun w=>z5C s a v q st0 w (z3w s a v q st0 w hs ha hv hq (by omega)) 1 h1 rfl⟩
theorem z71 (n:Int)(S A V Q:zeV)(hS:S.size≤maxLen)(hA:A.size≤maxLen)(hV:V.size≤maxLen)(hQ:Q.size≤maxLen)(w:World):
  Calls Tryz.prog 18 #[.agg #[.int .i64 6,.int .i64 n,.string S,.string A,.string V,.string Q]] w fun e w'=>e= .returned (.bool true)∧Below w.heap.size w w':=by
 obtain⟨t,k,h7,h8⟩:=z8b S A V Q hS hA hV hQ
 have H:=z8 (zeL h7 h8)
 clear h7 h8 hS hA hV hQ
 have hB0:Below w.heap.size w (w.alloc (.cells #[.int .i64 6,.int .i64 n,.string S,.string A,.string V,.string Q] 27)):=(zeU _ _).alloc (zeK _) _
 have hg0:=heap_alloc_new w (.cells #[.int .i64 6,.int .i64 n,.string S,.string A,.string V,.string Q] 27)
 have hz0:w.heap.size<(w.alloc (.cells #[.int .i64 6,.int .i64 n,.string S,.string A,.string V,.string Q] 27)).heap.size:=by simp
 have H0:=z8 (zeL hB0 (zeL hg0 hz0))
 clear hB0 hg0 hz0
 go_enter Tryz.func18,Tryz.ntmps18
 go_wp2_with fail
 obtain⟨hB0,hg0,hz0⟩:=H0.out
 clear H0
 generalize (w.alloc (.cells #[.int .i64 6,.int .i64 n,.string S,.string A,.string V,.string Q] 27))=W0 at*
 refine(H.out.1 W0).mono ?_
 rintro e w1 ⟨rfl,hB1⟩
 have hg1:=(hB1.block _ hz0).trans hg0
 have hB01:=hB0.trans (hB1.mono (Nat.le_of_lt hz0))
 obtain⟨y0,y1,y2,y3,y4,y5⟩:=z88 hg1
 have HB1:=z8 hB01
 have hz1:w.heap.size≤w1.heap.size:=hB01.size
 have hzl:Hid (w.heap.size<w1.heap.size):=z8 (zeQ hz0 hB1.size)
 clear hB1 hB01 hg1 hg0 hB0 hz0
 have hzz:w.heap.size<w1.heap.size:=hzl.out
 go_wp2_with fail
 go_region_held3 (fun w'=>w'.cell? ⟨w.heap.size,2,none⟩=some (.string S)∧w'.cell? ⟨w.heap.size,3,none⟩=some (.string A)∧w'.cell? ⟨w.heap.size,4,none⟩=some (.string V)∧w'.cell? ⟨w.heap.size,5,none⟩=some (.string Q)) (go_keep) (first|(go_at_call 23;refine(z2N _ _).mono ?_;rintro e w3 ⟨rfl,rfl⟩)|(go_at_call 33;refine(H.out.2 _).mono ?_;rintro e w5 ⟨rfl,hB5⟩;(have c2:=(hB5.cell (p:=⟨w.heap.size,2,none⟩) hzz).trans y2);(have c3:=(hB5.cell (p:=⟨w.heap.size,3,none⟩) hzz).trans y3);(have c4:=(hB5.cell (p:=⟨w.heap.size,4,none⟩) hzz).trans y4);(have c5:=(hB5.cell (p:=⟨w.heap.size,5,none⟩) hzz).trans y5)))
 have HB5:=z8 (HB1.out.trans (show Below w.heap.size w1 _ from⟨hB5.os,hB5.tape,hB5.output,hB5.size,fun k hk=>hB5.block k (zeQ hk hz1)⟩))
 clear hB5 c2 c3 c4 c5
 go_wp2_with fail
 go_ret
 exact⟨rfl,HB5.out⟩
theorem zbd (b off len cap:Nat)(K N:Nat→Int)(S A V Q:Nat→zeV)(w:World)(h:Ops w b off len K N S A V Q)(hlen:len≤maxLen)
  (hp: ∀i wr,i<len→1≤K i→K i≤6→Below w.heap.size w wr→Calls Tryz.prog 18 #[.agg #[.int .i64 (K i),.int .i64 (N i),.string (S i),.string (A i),.string (V i),.string (Q i)]] wr fun e w'=>e= .returned (.bool true)∧Below wr.heap.size wr w'):
  Calls Tryz.prog 13 #[.slice (some ⟨b,off,none⟩) len cap,.int .i64 1,.int .i64 6] w fun e w'=>e= .returned (.int .i64 (-1))∧Below w.heap.size w w':=by
 have HO:=z8 h
 have HP:=z8 hp
 clear h hp
 have hl63:len≤9223372036854775807:=by unfold maxLen at hlen;omega
 clear hlen
 go_enter Tryz.func13,Tryz.ntmps13
 go_wp2_with fail
 go_loopg [7,8,9] (1152921504606846976+1) (fun g iv _ _ wr=> ∃i:Nat,g+i=1152921504606846976+1∧i≤1152921504606846976∧i≤len∧iv= .int .i64 i∧Below w.heap.size w wr)
 case atStart=>exact⟨0,rfl,zeR _,zeR _,rfl,zeU _ _⟩
 case round=>
  obtain⟨i,hgk,hi60,hil,rfl,hB⟩:=hrel
  have HGK:=z8 hgk
  have HB:=z8 hB
  clear hgk
  by_cases hlt:i<len
  ·by_cases h60:i<1152921504606846976
   ·have hb:=HO.out.lt (by omega)
    have c0:=(hB.cell (p:=⟨b,off+i*6,none⟩) hb).trans (HO.out.c0 i hlt)
    have c1:=(hB.cell (p:=⟨b,off+i*6+1,none⟩) hb).trans (HO.out.c1 i hlt)
    have c2:=(hB.cell (p:=⟨b,off+i*6+2,none⟩) hb).trans (HO.out.c2 i hlt)
    have c3:=(hB.cell (p:=⟨b,off+i*6+3,none⟩) hb).trans (HO.out.c3 i hlt)
    have c4:=(hB.cell (p:=⟨b,off+i*6+4,none⟩) hb).trans (HO.out.c4 i hlt)
    have c5:=(hB.cell (p:=⟨b,off+i*6+5,none⟩) hb).trans (HO.out.c5 i hlt)
    have hli:(i:Int)<len:=by omega
    have h60i:(i:Int)<1152921504606846976:=by omega
    have hPi:=z8 (HP.out i)
    have hB1:=z8 (hB.alloc hB.size (.cells #[.int .i64 (K i),.int .i64 (N i),.string (S i),.string (A i),.string (V i),.string (Q i)] 27))
    have hz1:w.heap.size≤wr.heap.size:=hB.size
    clear hB
    generalize K i=ki at*
    generalize N i=ni at*
    generalize S i=si at*
    generalize A i=ai at*
    generalize V i=vi at*
    generalize Q i=qi at*
    by_cases hk:1≤ki∧ki≤6
    ·obtain⟨hk1,hk6⟩:=hk
     have HC:=z8 (hPi.out (wr.alloc (.cells #[.int .i64 ki,.int .i64 ni,.string si,.string ai,.string vi,.string qi] 27)) hlt hk1 hk6 hB1.out)
     go_wp2_with fail
     refine HC.out.mono ?_
     rintro e w1 ⟨rfl,hb1⟩
     have HB2:=z8 (hB1.out.trans (hb1.mono (by simp;omega)))
     clear hb1
     go_wp2_with fail
     go_roundg (1152921504606846976 - i)
     case measure=>have:=HGK.out;omega
     case rel=>exact⟨i+1,by have:=HGK.out;omega,by omega,by omega,by go_num,HB2.out⟩
    ·by_cases hge:1≤ki
     ·have hle: ¬ki≤6:=by omega
      go_wp2_with fail
      go_roundg (1152921504606846976 - i)
      case measure=>have:=HGK.out;omega
      case rel=>exact⟨i+1,by have:=HGK.out;omega,by omega,by omega,by go_num,hB1.out⟩
     ·go_wp2_with fail
      go_roundg (1152921504606846976 - i)
      case measure=>have:=HGK.out;omega
      case rel=>exact⟨i+1,by have:=HGK.out;omega,by omega,by omega,by go_num,hB1.out⟩
   ·have hli:(i:Int)<len:=by omega
    have h60i: ¬(i:Int)<1152921504606846976:=by omega
    go_wp2_with fail
    go_ret
    exact⟨by simp,HB.out⟩
  ·have hli: ¬(i:Int)<len:=by omega
   go_wp2_with fail
   go_ret
   exact⟨by simp,HB.out⟩
theorem z9b (k n:Int)(h1:1≤k)(h6:k≤6)(S A V Q:zeV)(hS:S.size≤maxLen)(hA:A.size≤maxLen)(hV:V.size≤maxLen)(hQ:Q.size≤maxLen)(w:World)(ht:Tab w):
  Calls Tryz.prog 18 #[.agg #[.int .i64 k,.int .i64 n,.string S,.string A,.string V,.string Q]] w fun e w'=>e= .returned (.bool true)∧Below w.heap.size w w':=by
 have hc:k=1∨k=2∨k=3∨k=4∨k=5∨k=6:=by omega
 rcases hc with rfl|rfl|rfl|rfl|rfl|rfl
 ·exact z6E n S A V Q hS w
 ·exact z6z n S A V Q hS w
 ·exact z6w n S A V Q hS hA w ht
 ·exact z8e n S A V Q hS hA hV w
 ·exact z6J n S A V Q hS hA hV hQ w
 ·exact z71 n S A V Q hS hA hV hQ w
theorem z5H (a:Option Addr)(cap:Nat)(w:World):Calls Tryz.prog 13 #[.slice a 0 cap,.int .i64 1,.int .i64 6] w fun e w'=>e= .returned (.int .i64 (-1))∧Below w.heap.size w w':=by
 go_enter Tryz.func13,Tryz.ntmps13
 go_wp2_with fail
 go_loopg [7,8,9] 1 (fun g iv _ _ wr=>iv= .int .i64 0∧wr=w)
 case atStart=>exact⟨rfl,rfl⟩
 case round=>
  obtain⟨rfl,rfl⟩:=hrel
  go_wp2_with fail
  go_ret
  exact⟨by simp,zeU _ _⟩
theorem zdE (v:Value)(w:World)(h:Calls Tryz.prog 13 #[v,.int .i64 1,.int .i64 6] w fun e w'=>e= .returned (.int .i64 (-1))∧Below w.heap.size w w'):
  Calls Tryz.prog 12 #[v] w fun e w'=>e= .returned (.bool true)∧Below w.heap.size w w':=by
 have H:=z8 h
 clear h
 go_enter Tryz.func12,Tryz.ntmps12
 go_wp2_with fail
 refine H.out.mono ?_
 rintro e w1 ⟨rfl,hB⟩
 go_wp2_with fail
 go_ret
 exact⟨by simp,hB⟩
end Go.Proofs.YtkoohcilbpdgeaaGreatDoor
namespace Go.Proofs.YtkoohcilbpdgeaaGreatDoor
open Go Go.ChangeShapes Go.WideShapes Go.ChangeAt Go.RowKit Go.Deep
theorem zdp {W:World}(h:laidMetH Tryz.prog Rows.allRow.laid W):Tab W:=by
 have h1:laidMet Tryz.prog Rows.allRow.laid W:=h
 have h2:=h1.tail.tail
 exact Lib.tabIs_of_head (g:=0) (t:=195) (e:=186) (n:=20) (by kernel_rfl) (by kernel_rfl) (by kernel_rfl) (by kernel_rfl) (by kernel_rfl) (by kernel_rfl) h2
theorem z5x {H:Type}{enc:TypeId×Value→H}{W:World}{base:Nat}{v:Value}{d:DataW H}{p:List MemPlace}(hval:Value.okWide Tryz.prog W .any base 22 v)(h:DataW.Trod enc Tryz.prog W 0 (fun _=>true) true 22 v d p)(hlt: ∀x∈p,x.block<W.heap.size)(ht:Tab W):
  Calls Tryz.prog 13 #[v,.int .i64 1,.int .i64 6] W fun e w'=>e= .returned (.int .i64 (-1))∧Below W.heap.size W w':=by
 rcases z6C hval h hlt with rfl|⟨b,off,len,cap,K,N,S,A,V,Q,rfl,hl,ho,hs⟩|⟨a,cap,rfl⟩
 ·exact z5H none 0 W
 ·refine zbd b off len cap K N S A V Q W ho hl fun i wr hi h1 h6 hb=> ?_
  obtain⟨q1,q2,q3,q4⟩:=hs i hi
  exact z9b _ _ h1 h6 _ _ _ _ q1 q2 q3 q4 wr (ht.below hb)
 ·exact z5H _ cap W
theorem z5y (H:Type)(enc:TypeId×Value→H)(W:World)(base:Nat)(args:Array Value)(ds gs:List (DataW H))(before:List MemPlace)
  (hval: ∀(j:Nat) t v,Tryz.f12.params[j]?=some t→args[j]?=some v→Value.okWide Tryz.prog W .any base t v)
  (hW:DataW.Whole enc Tryz.prog Tryz.f12.params.toList Rows.allSpec.vars false W args.toList ds gs before) (hT:Tab W):
  Calls Tryz.prog 12 args W fun e W'=> ∃v,e= .returned v∧Rows.allSpec.post enc Tryz.prog Tryz.f12 false true false false W args v W':=by
 have hW':=hW
 obtain⟨p,q,hA0,hV,rfl,_,_⟩:=hW
 have hA:DataW.TrodAll enc Tryz.prog W 0 (fun _=>true) true Tryz.f12.params.toList args.toList ds p:=hA0
 rw [Tryz.params12] at hA hval
 obtain⟨v0,d0,rfl,rfl,h0⟩:=trodAll_one hA
 obtain⟨rfl,rfl⟩:=trodVars_none hV
 clear hA0
 simp only [List.append_nil] at hW'
 have hlt: ∀x∈p,x.block<W.heap.size:=fun x hx=>by simpa using hW'.lt x hx
 have hcall:=zdE v0 W (z5x (hval 0 22 v0 rfl rfl) h0 hlt hT)
 refine hcall.mono fun e W' ⟨he,hb⟩=> ?_
 subst he
 exact⟨_,rfl,⟨_,_,_,[],_,[],hW',trodAll_mk1 (shut_bool Tryz.underlying4 true),trodAll_mk1 (Below.trod zcd (by kernel_rfl) (of_decide_eq_true (by kernel_rfl)) h0 hb hlt),rfl,hb.frame _,fun h=>by cases h⟩⟩
theorem z6f (os:Os):laidMet Tryz.prog Rows.allRow.laid (({World.holding Tryz.prog os ⟨#[],#[],[]⟩ with heap:=(((World.holding Tryz.prog os ⟨#[],#[],[]⟩).heap.modify 0 (z2m #[.int .u64 1,.int .u64 10,.int .u64 100,.int .u64 1000,.int .u64 10000,.int .u64 100000,.int .u64 1000000,.int .u64 10000000,.int .u64 100000000,.int .u64 1000000000,.int .u64 10000000000,.int .u64 100000000000,.int .u64 1000000000000,.int .u64 10000000000000,.int .u64 100000000000000,.int .u64 1000000000000000,.int .u64 10000000000000000,.int .u64 100000000000000000,.int .u64 1000000000000000000,.int .u64 10000000000000000000])).modify 1 (z2m #[.int .u8 0,.int .u8 1,.int .u8 28,.int .u8 2,.int .u8 29,.int .u8 14,.int .u8 24,.int .u8 3,.int .u8 30,.int .u8 22,.int .u8 20,.int .u8 15,.int .u8 25,.int .u8 17,.int .u8 4,.int .u8 8,.int .u8 31,.int .u8 27,.int .u8 13,.int .u8 23,.int .u8 21,.int .u8 19,.int .u8 16,.int .u8 7,.int .u8 26,.int .u8 12,.int .u8 18,.int .u8 6,.int .u8 11,.int .u8 5,.int .u8 10,.int .u8 9])).modify 2 (z2m #[.int .u8 0,.int .u8 1,.int .u8 56,.int .u8 2,.int .u8 57,.int .u8 49,.int .u8 28,.int .u8 3,.int .u8 61,.int .u8 58,.int .u8 42,.int .u8 50,.int .u8 38,.int .u8 29,.int .u8 17,.int .u8 4,.int .u8 62,.int .u8 47,.int .u8 59,.int .u8 36,.int .u8 45,.int .u8 43,.int .u8 51,.int .u8 22,.int .u8 53,.int .u8 39,.int .u8 33,.int .u8 30,.int .u8 24,.int .u8 18,.int .u8 12,.int .u8 5,.int .u8 63,.int .u8 55,.int .u8 48,.int .u8 27,.int .u8 60,.int .u8 41,.int .u8 37,.int .u8 16,.int .u8 46,.int .u8 35,.int .u8 44,.int .u8 21,.int .u8 52,.int .u8 32,.int .u8 23,.int .u8 11,.int .u8 54,.int .u8 26,.int .u8 40,.int .u8 15,.int .u8 34,.int .u8 20,.int .u8 31,.int .u8 10,.int .u8 25,.int .u8 14,.int .u8 19,.int .u8 9,.int .u8 13,.int .u8 8,.int .u8 7,.int .u8 6])}:World).forCall (fun _ _=>0) ⟨#[],#[.slice none 0 0],[]⟩).memory:=
 laidMet_of_run' 8 (by kernel_rfl) (by kernel_rfl)
theorem z9U (os:Os){H:Type}(enc:TypeId×Value→H): ∃places,DataW.whole enc Tryz.prog (({World.holding Tryz.prog os ⟨#[],#[],[]⟩ with heap:=(((World.holding Tryz.prog os ⟨#[],#[],[]⟩).heap.modify 0 (z2m #[.int .u64 1,.int .u64 10,.int .u64 100,.int .u64 1000,.int .u64 10000,.int .u64 100000,.int .u64 1000000,.int .u64 10000000,.int .u64 100000000,.int .u64 1000000000,.int .u64 10000000000,.int .u64 100000000000,.int .u64 1000000000000,.int .u64 10000000000000,.int .u64 100000000000000,.int .u64 1000000000000000,.int .u64 10000000000000000,.int .u64 100000000000000000,.int .u64 1000000000000000000,.int .u64 10000000000000000000])).modify 1 (z2m #[.int .u8 0,.int .u8 1,.int .u8 28,.int .u8 2,.int .u8 29,.int .u8 14,.int .u8 24,.int .u8 3,.int .u8 30,.int .u8 22,.int .u8 20,.int .u8 15,.int .u8 25,.int .u8 17,.int .u8 4,.int .u8 8,.int .u8 31,.int .u8 27,.int .u8 13,.int .u8 23,.int .u8 21,.int .u8 19,.int .u8 16,.int .u8 7,.int .u8 26,.int .u8 12,.int .u8 18,.int .u8 6,.int .u8 11,.int .u8 5,.int .u8 10,.int .u8 9])).modify 2 (z2m #[.int .u8 0,.int .u8 1,.int .u8 56,.int .u8 2,.int .u8 57,.int .u8 49,.int .u8 28,.int .u8 3,.int .u8 61,.int .u8 58,.int .u8 42,.int .u8 50,.int .u8 38,.int .u8 29,.int .u8 17,.int .u8 4,.int .u8 62,.int .u8 47,.int .u8 59,.int .u8 36,.int .u8 45,.int .u8 43,.int .u8 51,.int .u8 22,.int .u8 53,.int .u8 39,.int .u8 33,.int .u8 30,.int .u8 24,.int .u8 18,.int .u8 12,.int .u8 5,.int .u8 63,.int .u8 55,.int .u8 48,.int .u8 27,.int .u8 60,.int .u8 41,.int .u8 37,.int .u8 16,.int .u8 46,.int .u8 35,.int .u8 44,.int .u8 21,.int .u8 52,.int .u8 32,.int .u8 23,.int .u8 11,.int .u8 54,.int .u8 26,.int .u8 40,.int .u8 15,.int .u8 34,.int .u8 20,.int .u8 31,.int .u8 10,.int .u8 25,.int .u8 14,.int .u8 19,.int .u8 9,.int .u8 13,.int .u8 8,.int .u8 7,.int .u8 6])}:World).forCall (fun _ _=>0) ⟨#[],#[.slice none 0 0],[]⟩).memory Tryz.f12.params.toList Rows.allSpec.vars false #[Value.slice none 0 0].toList 8=some ([.nil],[],places):=
 ⟨[],by kernel_rfl⟩
theorem z80 (os:Os)(started:os.Started)(H:Type)(enc:TypeId×Value→H)(F:Stop.Interp):
  ReturnsInHanded {} Tryz.checked os 12 .any ((OpenSpec.ofChange Rows.allSpec).preRow enc Tryz.prog Tryz.f12 Rows.allRow.domain false Rows.allRow.laid) (((OpenSpec.ofChange Rows.allSpec).at F).post enc Tryz.prog Tryz.f12 false true false false):=by
 obtain⟨places,hx⟩:=z9U os enc
 refine returnsInHanded_of_row (C:=Tryz.checked) (s:=OpenSpec.ofChange Rows.allSpec) own started (by kernel_rfl) Tryz.func12
  (witness_row_at (enc:=enc) (C:=Tryz.checked) false ({World.holding Tryz.prog os ⟨#[],#[],[]⟩ with heap:=(((World.holding Tryz.prog os ⟨#[],#[],[]⟩).heap.modify 0 (z2m #[.int .u64 1,.int .u64 10,.int .u64 100,.int .u64 1000,.int .u64 10000,.int .u64 100000,.int .u64 1000000,.int .u64 10000000,.int .u64 100000000,.int .u64 1000000000,.int .u64 10000000000,.int .u64 100000000000,.int .u64 1000000000000,.int .u64 10000000000000,.int .u64 100000000000000,.int .u64 1000000000000000,.int .u64 10000000000000000,.int .u64 100000000000000000,.int .u64 1000000000000000000,.int .u64 10000000000000000000])).modify 1 (z2m #[.int .u8 0,.int .u8 1,.int .u8 28,.int .u8 2,.int .u8 29,.int .u8 14,.int .u8 24,.int .u8 3,.int .u8 30,.int .u8 22,.int .u8 20,.int .u8 15,.int .u8 25,.int .u8 17,.int .u8 4,.int .u8 8,.int .u8 31,.int .u8 27,.int .u8 13,.int .u8 23,.int .u8 21,.int .u8 19,.int .u8 16,.int .u8 7,.int .u8 26,.int .u8 12,.int .u8 18,.int .u8 6,.int .u8 11,.int .u8 5,.int .u8 10,.int .u8 9])).modify 2 (z2m #[.int .u8 0,.int .u8 1,.int .u8 56,.int .u8 2,.int .u8 57,.int .u8 49,.int .u8 28,.int .u8 3,.int .u8 61,.int .u8 58,.int .u8 42,.int .u8 50,.int .u8 38,.int .u8 29,.int .u8 17,.int .u8 4,.int .u8 62,.int .u8 47,.int .u8 59,.int .u8 36,.int .u8 45,.int .u8 43,.int .u8 51,.int .u8 22,.int .u8 53,.int .u8 39,.int .u8 33,.int .u8 30,.int .u8 24,.int .u8 18,.int .u8 12,.int .u8 5,.int .u8 63,.int .u8 55,.int .u8 48,.int .u8 27,.int .u8 60,.int .u8 41,.int .u8 37,.int .u8 16,.int .u8 46,.int .u8 35,.int .u8 44,.int .u8 21,.int .u8 52,.int .u8 32,.int .u8 23,.int .u8 11,.int .u8 54,.int .u8 26,.int .u8 40,.int .u8 15,.int .u8 34,.int .u8 20,.int .u8 31,.int .u8 10,.int .u8 25,.int .u8 14,.int .u8 19,.int .u8 9,.int .u8 13,.int .u8 8,.int .u8 7,.int .u8 6])}:World) #[.slice none 0 0] rfl (by kernel_rfl) (by kernel_rfl) (by kernel_rfl)
   (OpenSpec.preRow_of_cond 8 hx (by kernel_rfl) (fun k hk=>by cases hk) (by kernel_rfl) (z6f os))) ?_
 intro W base args ds gs before hval hW _ _ _ hL _ _
 exact z5y H enc W base args ds gs before hval hW (zdp hL)
theorem zaj:Rows.AllSaid:=
 OpenClaim.holds_of_cond 12 Tryz.f12 rfl rfl rfl rfl rfl rfl rfl ⟨rfl,rfl,rfl,rfl,rfl⟩ rfl rfl rfl rfl rfl (by kernel_rfl) Tryz.func12 (by kernel_rfl)
  (of_decide_eq_true (by kernel_rfl)) (by unfold Func.isWrapper;first|(rw [if_pos (by decide+kernel)];kernel_rfl)|(rw [if_neg (by decide+kernel)];exact⟨rfl,rfl⟩))
  (fun os started H enc _ F=>by rw [OpenClaim.pre_eq_preRow];exact z80 os started H enc F)
theorem z9A (f:FuncId)(fn:Func)(hf:Tryz.pinned.checked.prog.funcNamed "trustquery/trustquerylaw.All" =some f)(hfn:Tryz.pinned.checked.prog.funcs[f]?=some fn):
  false=Tryz.pinned.checked.prog.looks []∧ ∀(j:Nat) t,fn.params[j]?=some t→Tryz.pinned.checked.prog.wantsStandIn t=false:=by
 obtain rfl:f=12:=Option.some.inj ((show Tryz.prog.funcNamed "trustquery/trustquerylaw.All" =some 12 by kernel_rfl).symm.trans hf)|>.symm
 obtain rfl:fn=Tryz.f12:=(Option.some.inj (Tryz.func12.symm.trans hfn)).symm
 refine⟨by kernel_rfl,fun j t ht=> ?_⟩
 rw [Tryz.params12] at ht
 obtain rfl:t=22:=by simpa using Array.mem_of_getElem? ht
 exact(show Tryz.prog.wantsStandIn 22=false by kernel_rfl)
theorem all_card:Rows.AllCardSaid:=
 Claim7.holds_tied_plain_at .later [] _ _ _ _ zaj (fun _ h=>by cases h) (by kernel_rfl) (fun _ h=>by cases h) all_row_tie rfl ⟨rfl,rfl⟩ (by kernel_rfl) rfl z9A (by kernel_rfl)
end Go.Proofs.YtkoohcilbpdgeaaGreatDoor
