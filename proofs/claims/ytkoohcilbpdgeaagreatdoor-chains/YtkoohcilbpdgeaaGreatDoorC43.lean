import Derived.Test.YtkoohcilbpdgeaaGreatDoorProg
import Derived.Test.YtkoohcilbpdgeaaGreatDoorC42
set_option linter.all false
set_option linter.unusedVariables false
set_option linter.unusedSimpArgs false
set_option linter.unnecessarySimpa false
set_option linter.constructorNameAsVariable false
set_option linter.deprecated false
set_option maxRecDepth 100000
set_option maxHeartbeats 6400000
namespace Go.Proofs.YtkoohcilbpdgeaaGreatDoor
open Go Go.RowKit
attribute [local go_sem] wrap64_byte
theorem digit_of: ∀k:Fin 10,(⟨#[48,49,50,51,52,53,54,55,56,57,97,98,99,100,101,102,103,104,105,106,107,108,109,110,111,112,113,114,115,116,117,118,119,120,121,122]⟩:ByteArray).extract k.val (k.val+1)=⟨#[(k.val+48).toUInt8]⟩:=by decide
theorem small_any (c:UInt8)(w:World)(h1:48≤c.toNat)(h2:c.toNat≤57):
  Calls Tryz.prog 155 #[.int .i64 ((c.toNat:Int)- 48)] w fun e w'=>e= .returned (.string ⟨#[c]⟩)∧w'=w:=by
 obtain⟨k,hk⟩: ∃k:Nat,c.toNat=k+48:=⟨c.toNat - 48,by omega⟩
 have hc:c=(k+48).toUInt8:=by rw [←hk];simp
 have he:(c.toNat:Int)- 48=(k:Int):=by omega
 rw [he]
 have hk9:k<10:=by omega
 have hfin:Hid (c=(k+48).toUInt8):=hide hc
 clear hk hc he h1 h2
 go_enter Tryz.func155,Tryz.ntmps155
 go_wp2_with fail
 go_ret
 exact⟨by rw [hfin.out];exact congrArg _ (congrArg _ (digit_of ⟨k,hk9⟩)),rfl⟩
theorem formatInt_any (c:UInt8)(w:World)(h1:48≤c.toNat)(h2:c.toNat≤57):
  Calls Tryz.prog 126 #[.int .i64 ((c.toNat:Int)- 48),.int .i64 10] w fun e w'=>e= .returned (.string ⟨#[c]⟩)∧w'=w:=by
 have H:=hide (small_any c w h1 h2)
 have e1:0≤(c.toNat:Int)- 48:=by omega
 have e2:(c.toNat:Int)- 48<100:=by omega
 generalize (c.toNat:Int)- 48=z at*
 go_enter Tryz.func126,Tryz.ntmps126
 go_wp2_with fail
 refine H.out.mono ?_
 rintro e w1 ⟨rfl,rfl⟩
 go_wp2_with fail
 go_ret
 exact⟨rfl,rfl⟩
theorem itoaI_any (c:UInt8)(w:World)(h1:48≤c.toNat)(h2:c.toNat≤57):
  Calls Tryz.prog 111 #[.int .i64 ((c.toNat:Int)- 48)] w fun e w'=>e= .returned (.string ⟨#[c]⟩)∧w'=w:=by
 have H:=hide (formatInt_any c w h1 h2)
 have e1:0≤(c.toNat:Int)- 48:=by omega
 have e2:(c.toNat:Int)- 48<100:=by omega
 generalize (c.toNat:Int)- 48=z at*
 go_enter Tryz.func111,Tryz.ntmps111
 go_wp2_with fail
 refine H.out.mono ?_
 rintro e w1 ⟨rfl,rfl⟩
 go_wp2_with fail
 go_ret
 exact⟨rfl,rfl⟩
theorem itoa_any (c:UInt8)(w:World)(h1:48≤c.toNat)(h2:c.toNat≤57):
  Calls Tryz.prog 70 #[.int .i64 ((c.toNat:Int)- 48)] w fun e w'=>e= .returned (.string ⟨#[c]⟩)∧w'=w:=by
 have H:=hide (itoaI_any c w h1 h2)
 have e1:0≤(c.toNat:Int)- 48:=by omega
 have e2:(c.toNat:Int)- 48<100:=by omega
 generalize (c.toNat:Int)- 48=z at*
 go_enter Tryz.func70,Tryz.ntmps70
 go_wp2_with fail
 refine H.out.mono ?_
 rintro e w1 ⟨rfl,rfl⟩
 go_wp2_with fail
 go_ret
 exact⟨rfl,rfl⟩
def LGPost (x:Lc)(w:World)(e:Ending)(w':World):Prop:= ∃a k,e= .returned (.agg #[.int .i64 x.form,.string x.text,.int .i64 x.left,.int .i64 x.right,.int .i64 x.place,.int .i64 x.count,.slice a x.items.length k])∧Below w.heap.size w w'
theorem licAt_g (tb o base:Nat)(st:St)(V:Nat→Value)(iv cv:List Value)(i:Nat)(x:Lc)(w:World)(hc:w.cell? ⟨tb,o+1,none⟩=some (V 4))(ht:TreeV w base st V iv cv)(hel:st.L.length≤100000)(hx:st.L[i]?=some x):
  Calls Tryz.prog 112 #[.pointer (some ⟨tb,o,none⟩),.int .i64 i] w fun e w'=>LGPost x w e w':=by
 have HB:=hide (Below.refl w.heap.size w)
 have hblt:=block_lt_of_cell hc
 have how:=ht.own 4 (by omega) (by omega)
 have hlt:i<st.L.length:=(List.getElem?_eq_some_iff.1 hx).1
 obtain⟨u,hu⟩: ∃u,iv[i]?=some u:=⟨iv[i]'(by have:=ht.il;omega),List.getElem?_eq_getElem (by have:=ht.il;omega)⟩
 have hit:=ht.items i x u hx hu
 obtain⟨a6,k6,rfl⟩:=ownsRow_slice hit
 obtain⟨a5,k5,e5⟩: ∃a k,V 4= .slice a st.L.length k:=ownsRow_slice how
 have how:w.ownsRow base 160 7 (.slice a5 st.L.length k5) st.L.length ((List.zipWith Lc.cells st.L iv).flatten):=e5▸how
 rw [e5] at hc
 obtain⟨g,cap,hv,hb,hg⟩:=how.form (by omega)
 injection hv with e1 e2 e3
 subst e1 e3
 have hcell: ∀j z,(x.cells (.slice a6 x.items.length k6))[j]?=some z→j<7→w.cell? ⟨g,i*7+j,none⟩=some z:=fun j z hz hj=>
  row_cell how _ _ ((zip_get st.L iv i j x _ hx hu hj).trans hz)
 have q0:w.cell? ⟨g,i*7,none⟩=some (.int .i64 x.form):=hcell 0 _ rfl (by omega)
 have q1:=hcell 1 _ rfl (by omega)
 have q2:=hcell 2 _ rfl (by omega)
 have q3:=hcell 3 _ rfl (by omega)
 have q4:=hcell 4 _ rfl (by omega)
 have q5:=hcell 5 _ rfl (by omega)
 have q6:=hcell 6 _ rfl (by omega)
 have hlt':(i:Int)<st.L.length:=by omega
 clear hcell how hx ht e5 hit hu
 go_enter Tryz.func112,Tryz.ntmps112
 go_wp2_with fail
 exact bodyPost_ret (v:= .agg #[.int .i64 x.form,.string x.text,.int .i64 x.left,.int .i64 x.right,.int .i64 x.place,.int .i64 x.count,.slice a6 x.items.length k6]) (by simp [results,Tryz.results112,go_sem]) rfl ⟨a6,k6,rfl,HB.out.alloc (Nat.le_refl _) _⟩
def LnPost (l:List ByteArray)(w:World)(e:Ending)(w':World):Prop:= ∃v,e= .returned v∧w'.ownsRow w.heap.size 9 1 v l.length (l.map Value.string)∧Below w.heap.size w w'
theorem nmsR_nil (L:List Lc)(a:Nat):nmsR L a a=[]:=by
 unfold nmsR
 rw [List.drop_of_length_le (by rw [List.length_take];omega)]
 rfl
theorem nmsR_len (L:List Lc)(a e:Nat):(nmsR L a e).length≤e - a:=by
 unfold nmsR
 refine Nat.le_trans (List.length_filterMap_le _ _) ?_
 rw [List.length_drop,List.length_take]
 omega
theorem licNames_in (tb o base:Nat)(st:St)(V:Nat→Value)(iv cv:List Value)(i:Nat)(w:World)(hc0:w.cell? ⟨tb,o,none⟩=some (V 3))(hc:w.cell? ⟨tb,o+1,none⟩=some (V 4))(ht:TreeV w base st V iv cv)(hel:st.L.length≤100000)(hal:st.A.length≤100000)(hto:Tos st.A st.L)(hi:i<st.A.length):
  Calls Tryz.prog 71 #[.pointer (some ⟨tb,o,none⟩),.int .i64 i] w fun e w'=>LnPost (lnM st.A st.L i) w e w':=by
 obtain⟨x,hx⟩: ∃x,st.A[i]?=some x:=⟨st.A[i],List.getElem?_eq_getElem hi⟩
 obtain⟨a,t,hfa,htt,hat,htl⟩:=hto i x hx
 have hln:=hide (lnM_mem (L:=st.L) hx hfa htt)
 have hrow0:=ht.own 3 (by omega) (by omega)
 obtain⟨a3,k3,e3⟩:=ownsRow_slice hrow0
 have hn3:nOf st 3=st.A.length:=rfl
 have hrow:w.ownsRow base 84 3 (.slice a3 st.A.length k3) st.A.length ((st.A.map As.cells).flatten):=by rw [e3] at hrow0;exact hrow0
 have hblt:=block_lt_of_cell hc
 have HC4:=hide hc
 rw [e3,hn3] at hc0
 obtain⟨g,cap,hv,hb,hg⟩:=hrow.form (by omega)
 injection hv with u1 u2 u3
 subst u1 u3
 have c1:w.cell? ⟨g,i*3+1,none⟩=some (.int .i64 t):=by
  rw [←htt]
  exact row_cell hrow _ _ (flat_get As.cells 3 As.cells3 st.A i 1 x hx (by omega))
 have HT:=hide ht
 have hi':(i:Int)<st.A.length:=by omega
 have hfr:Hid (0<i→ ∃z:Int,w.cell? ⟨g,(i - 1)*3+1,none⟩=some (.int .i64 z)∧z+1=(a:Int)):=hide fun h0=>by
  obtain⟨y,hy⟩: ∃y,st.A[i - 1]?=some y:=⟨st.A[i - 1],List.getElem?_eq_getElem (by omega)⟩
  refine⟨y.to_,row_cell hrow _ _ (flat_get As.cells 3 As.cells3 st.A (i - 1) 1 y hy (by omega)),?_⟩
  unfold licFrom at hfa
  rw [if_neg (by omega)] at hfa
  simpa [List.getD,hy] using hfa
 have hf0:Hid (i=0→a=0):=hide fun h0=>by
  unfold licFrom at hfa
  rw [if_pos h0] at hfa
  omega
 obtain⟨i0,hii,hz0,hz1,hz2⟩:=info_parts info9
 have HM:=hide (World.ownsRow_made (base:=w.heap.size) (e:=9) (size:=1) w #[] 0 (Nat.le_refl _) (by decide) (by simp))
 have HB0:Hid (Below w.heap.size w (w.alloc (.cells #[] 9))):=hide ((Below.refl _ _).alloc (Nat.le_refl _) _)
 clear hc hrow hrow0 ht hx hfa htt e3 hn3 hto
 go_enter Tryz.func71,Tryz.ntmps71
 go_upto_if 23 with fail
 go_cut [6] (fun fv wx=>fv= .int .i64 a∧wx=w.alloc (.cells #[] 9))
 case first=>
  by_cases h0:i=0
  ·have ha0:=hf0.out h0
   subst h0 ha0
   go_wp2_with fail
   go_meet
   exact⟨rfl,rfl⟩
  ·obtain⟨z,hz,hza⟩:=hfr.out (by omega)
   have hpos:(0:Int)<(i:Int):=by omega
   have hza':Hid (z+1=(a:Int)):=hide hza
   have hzb:z+1≤100000:=by omega
   have hzc:0≤z+1:=by omega
   clear hza
   go_wp2_with fail
   go_meet
   exact⟨by rw [←hza'.out],rfl⟩
 case rest=>
  obtain⟨rfl,rfl⟩:=hcut
  clear hfr hf0
  go_wp2_with fail
  go_loopg [5,7] (t+2 - a) (fun n nv kv wr=> ∃k:Nat,n+k=t+2∧a≤k∧k≤t+1∧kv= .int .i64 k∧Hid (wr.ownsRow w.heap.size 9 1 nv (nmsR st.L a k).length ((nmsR st.L a k).map Value.string))∧Hid (Below w.heap.size w wr))
  case atStart=>exact⟨a,by omega,Nat.le_refl _,by omega,rfl,hide (by rw [nmsR_nil];exact HM.out),HB0⟩
  case round=>
   obtain⟨k,hk,hak,hkt,rfl,HOW,HB⟩:=hrel
   have hHK:=hide hk
   clear hk
   obtain⟨ag,kg,rfl⟩:=ownsRow_slice HOW.out
   have hz0':w.heap.size≤wr.heap.size:=HB.out.size
   have d0:wr.cell? ⟨tb,o,none⟩=some (.slice (some ⟨g,0,none⟩) st.A.length k3):=(HB.out.cell (p:=⟨tb,o,none⟩) hblt).trans hc0
   have d1:wr.cell? ⟨g,i*3+1,none⟩=some (.int .i64 t):=(HB.out.cell (p:=⟨g,i*3+1,none⟩) hg).trans c1
   by_cases hlt:k≤t
   ·obtain⟨y,hy⟩: ∃y,st.L[k]?=some y:=⟨st.L[k]'(by omega),List.getElem?_eq_getElem _⟩
    have HLA:=hide (fun n=>licAt_g tb o base st V iv cv k y (wr.drewN n) ((HB.out.cell (p:=⟨tb,o+1,none⟩) hblt).trans HC4.out) ((HT.out.same fun q _ hq=>HB.out.block q hq).same fun q _ hq=>rfl) hel hy)
    have hst:=hide (nmsR_snoc hy hak)
    have hnl:=nmsR_len st.L a k
    have hlt':(k:Int)≤t:=by omega
    clear hy
    go_wp2_with fail
    refine(HLA.out 0).mono ?_
    rintro e w2 ⟨a6,k6,rfl,hB2⟩
    have hBw:Below wr.heap.size wr w2:=⟨hB2.os,hB2.tape,hB2.output,hB2.size,hB2.block⟩
    clear hB2
    have hB2:=HB.out.trans (hBw.mono hz0')
    have hown2:=ownsRow_same HOW.out fun q e=>hBw.block q (HOW.out.lt q e).2
    have hB3:=hB2.alloc hB2.size (.cells #[.int .i64 y.form,.string y.text,.int .i64 y.left,.int .i64 y.right,.int .i64 y.place,.int .i64 y.count,.slice a6 y.items.length k6] 160)
    have HOWN:=hide (hown2.alloc (.cells #[.int .i64 y.form,.string y.text,.int .i64 y.left,.int .i64 y.right,.int .i64 y.place,.int .i64 y.count,.slice a6 y.items.length k6] 160))
    have HB3:=hide hB3
    have hw3:w.heap.size≤(w2.alloc (.cells #[.int .i64 y.form,.string y.text,.int .i64 y.left,.int .i64 y.right,.int .i64 y.place,.int .i64 y.count,.slice a6 y.items.length k6] 160)).heap.size:=hB3.size
    have hw2:w.heap.size≤w2.heap.size:=hB2.size
    clear hown2 hB2 hB3 HLA hBw
    cases hf:(y.form==0)
    ·have hst2:Hid (nmsR st.L a (k+1)=nmsR st.L a k):=hide (by rw [hst.out];unfold nameOf;rw [hf];simp)
     go_wp2_with fail
     have hk:=hHK.out
     go_roundg (t+1 - k)
     case measure=>omega
     case rel=>exact⟨k+1,by omega,by omega,by omega,by go_num,by rw [hst2.out];exact HOWN,HB3⟩
    ·have hst2:Hid (nmsR st.L a (k+1)=nmsR st.L a k++[y.text]):=hide (by rw [hst.out];unfold nameOf;rw [hf];rfl)
     have hna:=hide (World.news_of_block (heap_alloc_new (w2.alloc (.cells #[.int .i64 y.form,.string y.text,.int .i64 y.left,.int .i64 y.right,.int .i64 y.place,.int .i64 y.count,.slice a6 y.items.length k6] 160)) (.cells #[.string y.text] 9)))
     go_wp2_with (at_builtin;go_must (refine wpList_append_lies _ rfl (.tmp 53) (.tmp 56) 56 rfl w.heap.size 9 i0 _ 1 16 Tryz.underlying56 hii hz0 hz1 hz2 rfl (by omega) _ (nmsR st.L a k).length _ rfl (HOWN.out.alloc _) ⟨w2.heap.size+1,0,none⟩ 1 1 [.string y.text] rfl rfl ?news ?one (by omega) ?mm ?bys ?base (w2.heap.size+1+1) (by simp) ?rest))
     case news=>simpa using hna.out
     case one=>intro u hu;simp at hu;subst hu;rfl
     case mm=>unfold maxLen;omega
     case bys=>omega
     case base=>simp;omega
     case rest=>
      intro gb2 cap2 w3 hown3 hgrow hat hlt2
      have hB4:=hide (Below.grown (HB3.out.alloc hw3 _) hgrow (by simp;omega) fun q e=>(HOWN.out.lt q e).1)
      have hown4:Hid (w3.ownsRow w.heap.size 9 1 (.slice (some ⟨gb2,0,none⟩) ((nmsR st.L a k).length+1) cap2) (nmsR st.L a (k+1)).length ((nmsR st.L a (k+1)).map Value.string)):=hide (by rw [hst2.out];simpa using hown3)
      clear hown3 hgrow hat
      go_wp2_with fail
      have hk:=hHK.out
      go_roundg (t+1 - k)
      case measure=>omega
      case rel=>exact⟨k+1,by omega,by omega,by omega,by go_num,hown4,hB4⟩
   ·have hlt': ¬(k:Int)≤t:=by omega
    have hkk:k=t+1:=by omega
    have HF:Hid (lnM st.A st.L i=nmsR st.L a k):=hide (by rw [hln.out,hkk])
    clear hkk
    go_wp2_with fail
    go_ret
    exact⟨_,rfl,by rw [HF.out];exact HOW.out,HB.out⟩
theorem licNames_any (tb o base:Nat)(st:St)(V:Nat→Value)(iv cv:List Value)(i:Int)(w:World)(hc0:w.cell? ⟨tb,o,none⟩=some (V 3))(hc:w.cell? ⟨tb,o+1,none⟩=some (V 4))(ht:TreeV w base st V iv cv)(hel:st.L.length≤100000)(hal:st.A.length≤100000)(hto:Tos st.A st.L):
  Calls Tryz.prog 71 #[.pointer (some ⟨tb,o,none⟩),.int .i64 i] w fun e w'=>LnPost (if i<0 then [] else lnM st.A st.L i.toNat) w e w':=by
 have HM:=hide (World.ownsRow_made (base:=w.heap.size) (e:=9) (size:=1) w #[] 0 (Nat.le_refl _) (by decide) (by simp))
 have HB0:Hid (Below w.heap.size w (w.alloc (.cells #[] 9))):=hide ((Below.refl _ _).alloc (Nat.le_refl _) _)
 by_cases h0:i<0
 ·rw [if_pos h0]
  clear hc hc0 ht
  go_enter Tryz.func71,Tryz.ntmps71
  go_wp2_with fail
  go_ret
  exact⟨_,rfl,HM.out,HB0.out⟩
 ·obtain⟨j,rfl⟩:=Int.eq_ofNat_of_zero_le (show 0≤i by omega)
  rw [if_neg h0,Int.toNat_natCast]
  by_cases h1:j<st.A.length
  ·exact licNames_in tb o base st V iv cv j w hc0 hc ht hel hal hto h1
  ·have hr:Hid (lnM st.A st.L j=[]):=hide (by unfold lnM;rw [List.getElem?_eq_none (by omega)])
   obtain⟨a3,k3,e3⟩:=ownsRow_slice (ht.own 3 (by omega) (by omega))
   have hn3:nOf st 3=st.A.length:=rfl
   rw [e3,hn3] at hc0
   have h1':(st.A.length:Int)≤(j:Int):=by omega
   have hblt:=block_lt_of_cell hc
   rw [hr.out]
   clear hc ht hr
   go_enter Tryz.func71,Tryz.ntmps71
   go_wp2_with fail
   go_ret
   exact⟨_,rfl,HM.out,HB0.out⟩
theorem nearest_any (gb base lb vb:Nat)(st:St)(V:Nat→Value)(iv cv:List Value)(l:List (ByteArray×ByteArray))(av:Value)(vals:List ByteArray)(vv:Value)(qs:List ByteArray)(qv:Value)(nb ib:Nat)(names:List ByteArray)(nv:Value)(lens:List Int)(lv:Value)(w:World)(h:Gd w gb base lb vb st V iv cv l av vals vv qs qv)(hn:w.ownsRow nb 9 1 nv names.length (names.map Value.string))(hnl:names.length≤100000)(hl:w.ownsRow ib 3 1 lv lens.length (lens.map (Value.int .i64)))(hll:lens.length≤100000)(hA:st.A.length≤100000):
  Calls Tryz.prog 69 #[.pointer (some ⟨gb,0,none⟩),nv,lv] w fun e w'=>e= .returned (.int .i64 (neM names lens st.A 0 (-1)))∧ ∃n,w'=w.drewN n:=by
 obtain⟨en,hbx⟩:=h.box
 have hrow:=h.tree.own 3 (by omega) (by omega)
 obtain⟨a3,k3,e3⟩:=ownsRow_slice hrow
 obtain⟨an,kn,rfl⟩:=ownsRow_slice hn
 obtain⟨al,kl,rfl⟩:=ownsRow_slice hl
 have hn3:nOf st 3=st.A.length:=rfl
 have hrow:w.ownsRow base 84 3 (.slice a3 st.A.length k3) st.A.length ((st.A.map As.cells).flatten):=by rw [e3] at hrow;exact hrow
 have b1:=(box8 hbx).2.1
 rw [e3,hn3] at b1
 have HP:=hide (fun(nm:ByteArray) (n:Nat)=>placeOf_any nb names _ nm (w.drewN n) (ownsRow_same (w':=w.drewN n) hn fun k e=>rfl) hnl)
 have HL:=hide (fun(i:Int) (n:Nat)=>levelAt_any ib lens _ i (w.drewN n) (ownsRow_same (w':=w.drewN n) hl fun k e=>rfl) hll)
 have HR:=hide hrow
 clear h hn hl hrow hbx e3 hn3
 go_enter Tryz.func69,Tryz.ntmps69
 go_wp2_with fail
 go_loopg [7,8] (st.A.length+1) (fun k bv iv wr=> ∃(i m:Nat) (b:Int),k+i=st.A.length+1∧i≤st.A.length∧iv= .int .i64 i∧bv= .int .i64 b∧wr=w.drewN m∧b<i∧Hid (neM names lens (st.A.drop i) i b=neM names lens st.A 0 (-1)))
 case atStart=>exact⟨0,0,-1,rfl,Nat.zero_le _,rfl,rfl,rfl,by omega,hide rfl⟩
 case round=>
  obtain⟨i,m,b,hk,hil,rfl,rfl,rfl,hbi,hfin⟩:=hrel
  have hHK:=hide hk
  clear hk
  by_cases hlt:i<st.A.length
  ·obtain⟨g,cap,hvv,hbb,hgg⟩:=HR.out.form (by omega)
   injection hvv with u1 u2 u3
   subst u1 u3
   obtain⟨x,hx⟩: ∃x,st.A[i]?=some x:=⟨st.A[i],List.getElem?_eq_getElem hlt⟩
   have q0:w.cell? ⟨g,i*3,none⟩=some (.string x.by_):=row_cell HR.out _ _ (flat_get As.cells 3 As.cells3 st.A i 0 x hx (by omega))
   have hst:Hid (neM names lens (st.A.drop i) i b=neM names lens (st.A.drop (i+1)) (i+1) (if typeAtM lens i==0||plM x.by_ names 0== -1 then b else if b== -1||decide (typeAtM lens i<typeAtM lens b) then(i:Int) else b)):=hide (by
    obtain⟨hl,hx'⟩:=List.getElem?_eq_some_iff.1 hx
    rw [List.drop_eq_getElem_cons hl,hx']
    rfl)
   have hlt':(i:Int)<st.A.length:=by omega
   have HLI:=hide (HL.out i m)
   have HPI:=hide (HP.out x.by_)
   have HLB:=hide (HL.out b)
   clear hx
   generalize typeAtM lens i=t at*
   generalize plM x.by_ names 0=p at*
   generalize typeAtM lens b=tb at*
   go_wp2_with fail
   refine HLI.out.mono ?_
   rintro e w2 ⟨rfl,rfl⟩
   clear HLI
   have fin: ∀z:Int,(if t==0||p== -1 then b else if b== -1||decide (t<tb) then(i:Int) else b)=z→Hid (neM names lens (st.A.drop (i+1)) (i+1) z=neM names lens st.A 0 (-1)):=fun z hz=>hide (by rw [←hfin.out,hst.out,hz])
   have FIN:=hide fin
   clear fin hst hfin
   cases ht:(t==0)
   case true=>
    go_wp2_with fail
    have hk:=hHK.out
    go_roundg (st.A.length - i)
    case measure=>omega
    case rel=>exact⟨i+1,_,b,by omega,by omega,by go_num,rfl,rfl,by omega,FIN.out b (by rw [ht];rfl)⟩
   case false=>
   cases hp:(p== -1)
   case true=>
    go_wp2_with (go_at_call 66;refine(HPI.out _).mono ?_;rintro e w2 ⟨rfl,rfl⟩)
    have hk:=hHK.out
    go_roundg (st.A.length - i)
    case measure=>omega
    case rel=>exact⟨i+1,_,b,by omega,by omega,by go_num,rfl,rfl,by omega,FIN.out b (by rw [ht,hp];rfl)⟩
   case false=>
   cases hb:(b== -1)
   case true=>
    go_wp2_with (go_at_call 66;refine(HPI.out _).mono ?_;rintro e w2 ⟨rfl,rfl⟩)
    have hk:=hHK.out
    go_roundg (st.A.length - i)
    case measure=>omega
    case rel=>exact⟨i+1,_,i,by omega,by omega,by go_num,rfl,rfl,by omega,FIN.out i (by rw [ht,hp,hb];rfl)⟩
   case false=>
   by_cases htb:t<tb
   ·go_wp2_with (first|(go_at_call 66;refine(HPI.out _).mono ?_;rintro e w2 ⟨rfl,rfl⟩)|(go_at_call 48;refine(HLB.out _).mono ?_;rintro e w2 ⟨rfl,rfl⟩))
    have hk:=hHK.out
    go_roundg (st.A.length - i)
    case measure=>omega
    case rel=>exact⟨i+1,_,i,by omega,by omega,by go_num,rfl,rfl,by omega,FIN.out i (by rw [ht,hp,hb,decide_eq_true htb];rfl)⟩
   ·go_wp2_with (first|(go_at_call 66;refine(HPI.out _).mono ?_;rintro e w2 ⟨rfl,rfl⟩)|(go_at_call 48;refine(HLB.out _).mono ?_;rintro e w2 ⟨rfl,rfl⟩))
    have hk:=hHK.out
    go_roundg (st.A.length - i)
    case measure=>omega
    case rel=>exact⟨i+1,_,b,by omega,by omega,by go_num,rfl,rfl,by omega,FIN.out b (by rw [ht,hp,hb,decide_eq_false (by omega)];rfl)⟩
  ·have hlt': ¬(i:Int)<st.A.length:=by omega
   have hres:Hid (neM names lens st.A 0 (-1)=b):=hide (by rw [←hfin.out,List.drop_of_length_le (by omega)];rfl)
   go_wp2_with fail
   go_ret
   exact⟨by rw [hres.out];rfl,m,rfl⟩
theorem lnM_len (A:List As)(L:List Lc)(i:Nat)(h:Tos A L)(hL:L.length≤100000):(lnM A L i).length≤100000:=by
 cases hx:A[i]? with
 |none=>unfold lnM;rw [hx];exact Nat.zero_le _
 |some x=>
  obtain⟨a,t,h1,h2,h3,h4⟩:=h i x hx
  rw [lnM_mem hx h1 h2]
  have:=nmsR_len L a (t+1)
  omega
theorem rowLength_any (gb base lb vb:Nat)(st:St)(V:Nat→Value)(iv cv:List Value)(l:List (ByteArray×ByteArray))(av:Value)(vals:List ByteArray)(vv:Value)(qs:List ByteArray)(qv:Value)(ib:Nat)(lens:List Int)(lv:Value)(i:Nat)(w:World)(h:Gd w gb base lb vb st V iv cv l av vals vv qs qv)(hl:w.ownsRow ib 3 1 lv lens.length (lens.map (Value.int .i64)))(hll:lens.length≤100000)(hA:st.A.length≤100000)(hL:st.L.length≤100000)(hto:Tos st.A st.L)(hql:qs.length≤100000)(hb: ∀j,0≤typeAtM lens j∧typeAtM lens j≤100000):
  Calls Tryz.prog 146 #[.pointer (some ⟨gb,0,none⟩),.int .i64 i,lv] w fun e w'=>e= .returned (.int .i64 (rlnM st.A (lnM st.A st.L) qs lens i))∧Below w.heap.size w w':=by
 obtain⟨en,hbx⟩:=h.box
 obtain⟨b0,b1,b2,b3,b4,b5,b6,b7,bf⟩:=box8 hbx
 have HLN:=hide (fun n=>licNames_any gb 1 base st V iv cv i (w.drewN n) b1 b2 (h.tree.same fun q _ hq=>rfl) hL hA hto)
 have hin: ¬(i:Int)<0:=by omega
 rw [if_neg hin,Int.toNat_natCast] at HLN
 have hnl:=lnM_len st.A st.L i hto hL
 obtain⟨al,kl,rfl⟩:=ownsRow_slice hl
 obtain⟨aq,kq,eq⟩:=ownsRow_slice h.reqs
 rw [eq] at b7
 have hgb:=lt_of_get hbx
 have hst:Hid (rlnM st.A (lnM st.A st.L) qs lens i=if(lnM st.A st.L i).any fun nm=>plM nm qs 0 != -1 then 1 else if neM (lnM st.A st.L i) lens st.A 0 (-1)== -1 then 0 else 1+typeAtM lens (neM (lnM st.A st.L i) lens st.A 0 (-1))):=hide rfl
 have HG:=hide h
 have HL:=hide hl
 have HEQ:=hide eq
 clear h hl hbx bf b0 b1 b2 b3 b4 b5 b6 eq hin
 generalize lnM st.A st.L i=nms at*
 go_enter Tryz.func146,Tryz.ntmps146
 go_wp2_with fail
 refine(HLN.out 0).mono ?_
 rintro e w1 ⟨nv,rfl,hn,hB⟩
 have hB:Below w.heap.size w w1:=⟨hB.os,hB.tape,hB.output,hB.size,hB.block⟩
 have hn:w1.ownsRow w.heap.size 9 1 nv nms.length (nms.map Value.string):=hn
 obtain⟨an,kn,rfl⟩:=ownsRow_slice hn
 have hG1:=HG.out.keep hB
 have hl1:=ownsRow_same HL.out fun k e=>hB.block k (HL.out.lt k e).2
 have d7:w1.cell? ⟨gb,7,none⟩=some (.slice aq qs.length kq):=(hB.cell (p:=⟨gb,7,none⟩) hgb).trans b7
 have hrq:w1.ownsRow vb 9 1 (.slice aq qs.length kq) qs.length (qs.map Value.string):=by have q:=hG1.reqs;rw [HEQ.out] at q;exact q
 have HPL:=hide (fun(nm:ByteArray) (W':World) (hk: ∀k,W'.heap[k]?=w1.heap[k]?)=>placeOf_any vb qs _ nm W' (ownsRow_same hrq fun k e=>hk k) hql)
 have HNE:=hide (fun n=>nearest_any gb base lb vb st V iv cv l av vals vv qs qv _ ib nms _ lens _ (w1.drewN n) (hG1.drewN n) (ownsRow_same (w':=w1.drewN n) hn fun k e=>rfl) hnl (ownsRow_same (w':=w1.drewN n) hl1 fun k e=>rfl) hll hA)
 have HLA:=hide (fun(j:Int) (n:Nat)=>levelAt_any ib lens _ j (w1.drewN n) (ownsRow_same (w':=w1.drewN n) hl1 fun k e=>rfl) hll)
 have HN:=hide hn
 have HB:=hide hB
 clear hG1 hl1 hrq hn hB HLN HG HL HEQ b7
 go_wp2_with fail
 go_loopg [8] (nms.length+1) (fun k iv wr=> ∃(j m:Nat),k+j=nms.length+1∧j≤nms.length∧iv= .int .i64 j∧wr=w1.drewN m∧Hid ((nms.drop j).any (fun nm=>plM nm qs 0 != -1)=nms.any fun nm=>plM nm qs 0 != -1))
 case atStart=>exact⟨0,0,rfl,Nat.zero_le _,rfl,rfl,hide rfl⟩
 case round=>
  obtain⟨j,m,hk,hjl,rfl,rfl,hfin⟩:=hrel
  have hHK:=hide hk
  clear hk
  by_cases hlt:j<nms.length
  ·obtain⟨g,cap,hvv,hbb,hgg⟩:=HN.out.form (by omega)
   injection hvv with u1 u2 u3
   subst u1 u3
   obtain⟨x,hx⟩: ∃x,nms[j]?=some x:=⟨nms[j],List.getElem?_eq_getElem hlt⟩
   have q0:w1.cell? ⟨g,j,none⟩=some (.string x):=row_cell HN.out _ _ (by simp [hx])
   have hsj:Hid ((nms.drop j).any (fun nm=>plM nm qs 0 != -1)=(plM x qs 0 != -1||(nms.drop (j+1)).any fun nm=>plM nm qs 0 != -1)):=hide (by
    obtain⟨hl,hx'⟩:=List.getElem?_eq_some_iff.1 hx
    rw [List.drop_eq_getElem_cons hl,hx']
    rfl)
   have hlt':(j:Int)<nms.length:=by omega
   have HPX:=hide (fun N=>HPL.out x (w1.drewN N) (fun _=>rfl))
   clear hx
   generalize plM x qs 0=p at*
   cases hp:(p != -1)
   ·go_wp2_with fail
    go_quiet ((go_at_call 66;exact(HPX.out _).mono fun e w' ⟨q1,q2⟩=>⟨q1,_,q2⟩))
    go_wp2_with fail
    have hk:=hHK.out
    go_roundg (nms.length - j)
    case measure=>omega
    case rel=>exact⟨j+1,_,by omega,by omega,by go_num,rfl,hide (by rw [←hfin.out,hsj.out,hp];rfl)⟩
   ·have hres:Hid (rlnM st.A (lnM st.A st.L) qs lens i=1):=hide (by rw [hst.out,←hfin.out,hsj.out,hp];rfl)
    go_wp2_with fail
    go_quiet ((go_at_call 66;exact(HPX.out _).mono fun e w' ⟨q1,q2⟩=>⟨q1,_,q2⟩))
    go_wp2_with fail
    go_ret
    exact⟨by rw [hres.out];rfl,⟨HB.out.os,HB.out.tape,HB.out.output,HB.out.size,HB.out.block⟩⟩
  ·have hlt': ¬(j:Int)<nms.length:=by omega
   have hno:Hid ((nms.any fun nm=>plM nm qs 0 != -1)=false):=hide (by rw [←hfin.out,List.drop_of_length_le (by omega)];rfl)
   have hst2:Hid (rlnM st.A (lnM st.A st.L) qs lens i=if neM nms lens st.A 0 (-1)== -1 then 0 else 1+typeAtM lens (neM nms lens st.A 0 (-1))):=hide (by rw [hst.out,hno.out];rfl)
   clear hst hfin hno
   have HNM:=hide (HNE.out m)
   generalize neM nms lens st.A 0 (-1)=f at*
   go_wp2_with fail
   refine HNM.out.mono ?_
   rintro e w2 ⟨rfl,n2,rfl⟩
   have HLF:=hide (HLA.out f)
   have hbf:=hb f
   generalize typeAtM lens f=t at*
   cases hf:(f== -1)
   ·have hres:Hid (rlnM st.A (lnM st.A st.L) qs lens i=1+t):=hide (by rw [hst2.out,hf];rfl)
    go_wp2_with (go_at_call 48;refine(HLF.out (m+n2)).mono ?_;rintro e w2 ⟨rfl,rfl⟩)
    go_ret
    exact⟨by rw [hres.out];go_num,⟨HB.out.os,HB.out.tape,HB.out.output,HB.out.size,HB.out.block⟩⟩
   ·have hres:Hid (rlnM st.A (lnM st.A st.L) qs lens i=0):=hide (by rw [hst2.out,hf];rfl)
    go_wp2_with fail
    go_ret
    exact⟨by rw [hres.out];rfl,⟨HB.out.os,HB.out.tape,HB.out.output,HB.out.size,HB.out.block⟩⟩
end Go.Proofs.YtkoohcilbpdgeaaGreatDoor
