import Derived.Deep.RegionHeld3
import Derived.Test.YtkoohcilbpdgeaaGreatDoorC45
set_option linter.all false
set_option linter.unusedVariables false
set_option linter.unusedSimpArgs false
set_option linter.unnecessarySimpa false
set_option linter.constructorNameAsVariable false
set_option linter.deprecated false
set_option maxRecDepth 100000
set_option maxHeartbeats 6400000
namespace Go.Proofs.YtkoohcilbpdgeaaGreatDoor
open Go Go.RowKit
theorem rq_pol (q:ByteArray):plM pol (rqM q).1 0= -1:=by
 unfold rqM
 split
 ·rfl
 ·split
  ·rfl
  ·rename_i h
   simp only [Bool.or_eq_true,not_or,bne_iff_ne,ne_eq] at h
   exact Classical.not_not.1 h.2
theorem pol_list:pol.toList=[80,79,76,73,67,89]:=by rw [ByteArray.toList_eq];rfl
theorem gv_worth {A:List As}{L:List Lc}{qs:List ByteArray}{top:Nat}{W:List Int}{i:Nat}{x:As}(hx:A[i]?=some x)(h:0<typeAtM (gvM A L qs top W A.length) (i:Int)):1≤typeAtM W x.conds:=by
 have hi:=(List.getElem?_eq_some_iff.1 hx).1
 obtain⟨m,hm⟩: ∃m,A.length=m+1:=⟨A.length - 1,by omega⟩
 rw [hm] at h
 have h:0<typeAtM (ltM A W (lcsM (stM A qs top (gvM A L qs top W m)) top L [])) (i:Int):=h
 unfold ltM at h
 rw [tA_map,hx] at h
 exact(lowM_ge.1 (show 1≤lowM _ _ from h)).1
section
variable {A:List As} {L:List Lc} {qs:List ByteArray} {top:Nat} {W:List Int}
theorem chain_facts (hW:Lvr top W)(hp:PosL A L top)(hq:plM pol qs 0= -1)(hA8:A.length≤8):
  (stM A qs top (gvM A L qs top W A.length) pol=0∧rowM A (lnM A L) (rwM A (lnM A L) qs (gvM A L qs top W A.length) A.length)=[])∨
  (0<stM A qs top (gvM A L qs top W A.length) pol∧(∀x∈rowM A (lnM A L) (rwM A (lnM A L) qs (gvM A L qs top W A.length) A.length),0≤x∧x≤9)∧ ∃K,RowJ A (lnM A L) qs W (digs (rowM A (lnM A L) (rwM A (lnM A L) qs (gvM A L qs top W A.length) A.length))) K):=by
 have hr:=stM_rng (A:=A) (qs:=qs) (gv_rng (A:=A) (L:=L) (qs:=qs) hW A.length) pol
 by_cases h0:stM A qs top (gvM A L qs top W A.length) pol=0
 ·refine .inl ⟨h0,?_⟩
  rcases ne_spec [pol] (rwM A (lnM A L) qs (gvM A L qs top W A.length) A.length) A with⟨e,_⟩|⟨f,x,hx,_,⟨c1,c2⟩,_⟩
  ·unfold rowM
   rw [e,tA_neg (by omega)]
   rfl
  ·exfalso
   have hg:=(rw_given c1).2
   have hb:x.by_=pol:=by simpa using mem_plM _ _ c2
   have:=(stM_pos (A:=A) (qs:=qs) (top:=top) (g:=gvM A L qs top W A.length) (nm:=pol) (Int.le_refl 1)).2 (.inr ⟨hq,f,x,hx,by rw [hb],by omega⟩)
   omega
 ·refine .inr ⟨by omega,?_⟩
  rcases(stM_pos (A:=A) (qs:=qs) (top:=top) (g:=gvM A L qs top W A.length) (nm:=pol) (Int.le_refl 1)).1 (by omega) with⟨q1,_⟩|⟨_,j,y,hy,hyb,hyg⟩
  ·exact absurd hq q1
  ·have hl:=gv_rw (W:=W) (qs:=qs) hp A.length (Nat.le_refl _) j y hy hyg
   have hyb:=toList_inj hyb
   rcases ne_spec [pol] (rwM A (lnM A L) qs (gvM A L qs top W A.length) A.length) A with⟨_,hno⟩|⟨f,x,hx,e,⟨c1,c2⟩,_⟩
   ·exact absurd ⟨hl,plM_mem _ _ (by rw [hyb];exact List.mem_cons_self)⟩ (hno j y hy)
   ·have hxb:x.by_=pol:=by simpa using mem_plM _ _ c2
    have hbd:=rw_bound (A:=A) (ln:=lnM A L) (qs:=qs) (g:=gvM A L qs top W A.length) A.length f
    obtain⟨k,hk⟩: ∃k:Nat,typeAtM (rwM A (lnM A L) qs (gvM A L qs top W A.length) A.length) (f:Int)=((k+1:Nat):Int):=⟨(typeAtM (rwM A (lnM A L) qs (gvM A L qs top W A.length) A.length) (f:Int)).toNat - 1,by omega⟩
    have hrow:=row_is k f hk
    have eR:rowM A (lnM A L) (rwM A (lnM A L) qs (gvM A L qs top W A.length) A.length)=rowS A (lnM A L) (rwM A (lnM A L) qs (gvM A L qs top W A.length) A.length) (k+1) f:=by
     unfold rowM
     rw [e,hk,Int.toNat_natCast]
    rw [eR]
    have hlen:=rowS_len A (lnM A L) (rwM A (lnM A L) qs (gvM A L qs top W A.length) A.length) (k+1) f
    obtain⟨rs,hrs⟩: ∃rs,rowS A (lnM A L) (rwM A (lnM A L) qs (gvM A L qs top W A.length) A.length) (k+1) f=(f:Int)::rs:=⟨_,rfl⟩
    rw [hrs] at hrow hlen ⊢
    generalize hR:(f:Int)::rs=R at*
    generalize rwM A (lnM A L) qs (gvM A L qs top W A.length) A.length=ls at*
    have hmem:=row_mem R _ hrow
    have h9: ∀x∈R,0≤x∧x≤9:=fun x hx=>by
     obtain⟨i,z,rfl,h1,_,_⟩:=hmem x hx
     have:=(List.getElem?_eq_some_iff.1 h1).1
     omega
    refine⟨h9,fun t=>(R.getD t 0).toNat,?_⟩
    have hget: ∀t,t<R.length→ ∃(i:Nat) (z:As),R[t]?=some (i:Int)∧(R.getD t 0).toNat=i∧A[i]?=some z∧0<typeAtM (gvM A L qs top W A.length) (i:Int):=fun t ht=>by
     obtain⟨i,z,h1,h2,h3,_⟩:=hmem (R[t]'ht) (List.getElem_mem ht)
     have e:R[t]?=some (i:Int):=by rw [List.getElem?_eq_getElem ht,h1]
     exact⟨i,z,e,by simp [List.getD,e],h2,h3⟩
    have hsz:=digs_size R
    refine⟨by omega,by omega,fun t ht=> ?_,fun t ht=> ?_,fun t t' htt ht=> ?_,?_⟩
    ·obtain⟨i,z,h1,h2,h3,_⟩:=hget t (by omega)
     have hd:=digs_get R t ht i h1
     obtain⟨q1,q2⟩:=h9 (i:Int) (List.mem_of_getElem? h1)
     obtain⟨d1,d2,d3⟩:=dig_nat q1 q2
     rw [hd]
     show _=(((R.getD t 0).toNat:Nat):Int)∧_=(R.getD t 0).toNat+48
     rw [h2]
     omega
    ·obtain⟨i,z,h1,h2,h3,h4⟩:=hget t (by omega)
     show ∃x,A[(R.getD t 0).toNat]?=some x∧_∧_∧(0<t→x.by_∈lnM A L (R.getD (t - 1) 0).toNat)
     rw [h2]
     have hw:=gv_worth h3 h4
     refine⟨z,h3,?_,fun e=> ?_,fun e=> ?_⟩
     ·cases hq:(typeAtM W z.conds==0) with
      |false=>rfl
      |true=>simp at hq;omega
     ·subst e
      rw [←hR] at h1
      have e0:(f:Int)=(i:Int):=by simpa using h1
      have e:f=i:=by omega
      rw [←e,hx] at h3
      injection h3 with e
      rw [←e,hxb,pol_list]
      rfl
     ·obtain⟨i',z',g1,g2,g3,g4⟩:=hget (t - 1) (by omega)
      rw [g2]
      obtain⟨ia,ja,ya,e1,e2,e3,e4⟩:=row_adj R _ hrow (t - 1) i' i g1 (by rw [show t - 1+1=t by omega];exact h1)
      have ea:ia=i':=by omega
      have eb:ja=i:=by omega
      subst ea eb
      rw [h3] at e3
      injection e3 with e
      rw [e]
      exact mem_plM _ _ e4
    ·obtain⟨i,z,h1,h2,_⟩:=hget t (by omega)
     obtain⟨i',z',g1,g2,_⟩:=hget t' (by omega)
     show(R.getD t' 0).toNat≠(R.getD t 0).toNat
     rw [h2,g2]
     intro e
     exact row_two R _ hrow t t' i htt h1 (by rw [g1,e])
    ·obtain⟨i,z,h1,h2,_⟩:=hget ((digs R).size - 1) (by omega)
     show ∃nm∈lnM A L (R.getD ((digs R).size - 1) 0).toNat,nm∈qs
     rw [h2]
     obtain⟨i',e1,e2⟩:=row_last R _ hrow i (by rw [List.getLast?_eq_getElem?];rw [hsz] at h1;exact h1)
     have e:i'=i:=by omega
     subst e
     obtain⟨nm,n1,n2⟩:=List.any_eq_true.1 e2
     exact⟨nm,n1,mem_plM _ _ (by simpa using n2)⟩
end
attribute [local go_sem] wrap64_byte
theorem chain_nz (s a v q:ByteArray)(st:St)(w:World)(h:Calls Tryz.prog 34 #[.string s,.string a,.string v,.string q] w fun e w'=>GrPost s a v q st w e w')(E:Int)(hE:grM s a v q st=E)(hn:(E !=0)=true):
  Calls Tryz.prog 20 #[.string s,.string a,.string v,.string q] w fun e w'=>WoPost ⟨#[]⟩ E w e w':=by
 have HC:=hide h
 have HE:=hide hE
 clear h hE
 go_enter Tryz.func20,Tryz.ntmps20
 go_wp2_with fail
 refine HC.out.mono ?_
 rintro e w1 ⟨x1,x2,x3,x4,x5,x6,x7,rfl,hB1,⟨a1,n1,k1,rfl⟩,⟨a2,n2,k2,rfl⟩,⟨a3,n3,k3,rfl⟩,⟨a4,n4,k4,rfl⟩,⟨a5,n5,k5,rfl⟩,⟨a6,n6,k6,rfl⟩,⟨a7,n7,k7,rfl⟩,hG⟩
 rw [HE.out] at*
 have HB2:=hide (hB1.alloc hB1.size (.cells #[.int .i64 E,.slice a1 n1 k1,.slice a2 n2 k2,.slice a3 n3 k3,.slice a4 n4 k4,.slice a5 n5 k5,.slice a6 n6 k6,.slice a7 n7 k7] 58))
 clear hG hB1 HC HE
 go_wp2_with fail
 go_quiet (fail)
 go_wp2_with fail
 go_ret2
 exact⟨rfl,⟨HB2.out.os,HB2.out.tape,HB2.out.output,HB2.out.size,HB2.out.block⟩⟩
theorem Ask.pos {s a v q:ByteArray}{st:St}(h:Ask s a v q st)(h0:grM s a v q st=0)(top:Nat):PosL st.A st.L top∧Tos st.A st.L:=by
 obtain⟨n,hM⟩:=h.mr
 obtain⟨_,_,hck,hs,_,_⟩:=grM_zero h0
 obtain⟨e,w',fr,⟨lv,_,_,_,hq⟩,_⟩:=read_short s n st (World.holding Tryz.prog default ⟨#[],#[],[]⟩) hM hs []
 obtain⟨f,ps,_,hq⟩:=hq hck
 exact segA_pos (h.cnt h0) top hq
theorem Ask.lvr {s a v q:ByteArray}{st:St}(h0:grM s a v q st=0):Lvr ((vlM v).1.length - 1) (lvsM (vlM v).1 (worthsM (raM a).1 st.E []) st.C []):=rng_of fun x hx=>by
 have h2:=Ask.two h0
 have:=lvsM_range (vlM v).1 (worthsM (raM a).1 st.E []) (by omega) st.C [] (fun x h=>by cases h) x hx
 omega
theorem Ask.chain {s a v q:ByteArray}{st:St}(h:Ask s a v q st)(w:World):Calls Tryz.prog 20 #[.string s,.string a,.string v,.string q] w fun e w'=>WoPost (chM s a v q st).1 (chM s a v q st).2 w e w':=
 chain_of s a v q st w (h.gr w) (by have:=h.ee;omega) (by have:=h.ea;omega) (by have:=h.ec;omega) h.cl (vlM_len v) h.ra.2 h.ra.1 h.es h.lok (fun h0 x hx=>(h.w h0 x hx).1) (fun h0=>by have:=Ask.two h0;omega) (fun h0=>(h.pos h0 1).2) (fun h0=>(ckM_zero (grM_zero h0).2.2.1).2.2.1) (fun h0=>by
  rcases chain_facts (qs:=(rqM q).1) (Ask.lvr h0) (h.pos h0 ((vlM v).1.length - 1)).1 (rq_pol q) (ckM_zero (grM_zero h0).2.2.1).2.2.1 with⟨_,e⟩|⟨_,e,_⟩
  ·rw [e];exact fun x hx=>by cases hx
  ·exact e)
theorem Ask.judge {s a v q:ByteArray}{st:St}(h:Ask s a v q st)(w:World):Calls Tryz.prog 33 #[.string s,.string a,.string v,.string q,.string (chM s a v q st).1,.int .i64 (chM s a v q st).2] w fun e w'=>e= .returned (.bool true)∧Below w.heap.size w w':=by
 by_cases h0:grM s a v q st=0
 ·have e:chM s a v q st=(digs (rowM st.A (lnM st.A st.L) (rwM st.A (lnM st.A st.L) (rqM q).1 (gvM st.A st.L (rqM q).1 ((vlM v).1.length - 1) (lvsM (vlM v).1 (worthsM (raM a).1 st.E []) st.C []) st.A.length) st.A.length)),0):=by unfold chM;rw [h0];rfl
  rw [e]
  rcases chain_facts (qs:=(rqM q).1) (Ask.lvr h0) (h.pos h0 ((vlM v).1.length - 1)).1 (rq_pol q) (ckM_zero (grM_zero h0).2.2.1).2.2.1 with⟨h1,h2⟩|⟨h1,_,K,h3⟩
  ·rw [h2]
   exact judge_none s a v q st w (h.ak w) h.gd.e h.cov h.cl h.ra.2 h.ra.1 h.es (fun x hx=>(h.gd.l x hx).1) (h.w h0) (h.cnt h0) h0 h1
  ·exact judge_row s a v q st w (h.ak w) h.gd.e h.cov h.cl h.ra.2 h.ra.1 h.es (fun x hx=>(h.gd.l x hx).1) (h.w h0) (h.cnt h0) h0 h1 _ K h3
 ·have hn:(grM s a v q st !=0)=true:=by simpa using h0
  have e:chM s a v q st=(⟨#[]⟩,grM s a v q st):=by unfold chM;rw [hn];rfl
  rw [e]
  exact judge_err s a v q st w (h.ak w) _ rfl hn
theorem chain_both (s a v q:ByteArray)(hs:s.size≤maxLen)(ha:a.size≤maxLen)(hv:v.size≤maxLen)(hq:q.size≤maxLen): ∃(t:ByteArray) (r:Int),(∀w,Calls Tryz.prog 20 #[.string s,.string a,.string v,.string q] w fun e w'=>WoPost t r w e w')∧(∀w,Calls Tryz.prog 33 #[.string s,.string a,.string v,.string q,.string t,.int .i64 r] w fun e w'=>e= .returned (.bool true)∧Below w.heap.size w w'):=by
 by_cases h:s.size≤600∧a.size≤100∧v.size≤60∧q.size≤60
 ·obtain⟨st,hA⟩:=ask_short s a v q h.1 h.2.1 h.2.2.1 h.2.2.2
  exact⟨_,_,hA.chain,hA.judge⟩
 ·have h1:=grM_long h st0
  exact⟨⟨#[]⟩,1,fun w=>chain_nz s a v q st0 w (ground_long s a v q st0 w hs ha hv hq (by omega)) 1 h1 rfl,fun w=>judge_err s a v q st0 w (asked1_long s a v q st0 w hs ha hv hq (by omega)) 1 h1 rfl⟩
theorem plays_chain (n:Int)(S A V Q:ByteArray)(hS:S.size≤maxLen)(hA:A.size≤maxLen)(hV:V.size≤maxLen)(hQ:Q.size≤maxLen)(w:World):
  Calls Tryz.prog 18 #[.agg #[.int .i64 6,.int .i64 n,.string S,.string A,.string V,.string Q]] w fun e w'=>e= .returned (.bool true)∧Below w.heap.size w w':=by
 obtain⟨t,k,h7,h8⟩:=chain_both S A V Q hS hA hV hQ
 have H:=hide (And.intro h7 h8)
 clear h7 h8 hS hA hV hQ
 have hB0:Below w.heap.size w (w.alloc (.cells #[.int .i64 6,.int .i64 n,.string S,.string A,.string V,.string Q] 27)):=(Below.refl _ _).alloc (Nat.le_refl _) _
 have hg0:=heap_alloc_new w (.cells #[.int .i64 6,.int .i64 n,.string S,.string A,.string V,.string Q] 27)
 have hz0:w.heap.size<(w.alloc (.cells #[.int .i64 6,.int .i64 n,.string S,.string A,.string V,.string Q] 27)).heap.size:=by simp
 have H0:=hide (And.intro hB0 (And.intro hg0 hz0))
 clear hB0 hg0 hz0
 go_enter Tryz.func18,Tryz.ntmps18
 go_wp2_with fail
 obtain⟨hB0,hg0,hz0⟩:=H0.out
 clear H0
 generalize (w.alloc (.cells #[.int .i64 6,.int .i64 n,.string S,.string A,.string V,.string Q] 27))=W0 at*
 refine(H.out.1 W0).mono ?_
 rintro e w1 ⟨rfl,hB1⟩
 have hg1:=(hB1.block _ hz0).trans hg0
 have hB01:=hB0.trans (hB1.mono (Nat.le_of_lt hz0))
 obtain⟨y0,y1,y2,y3,y4,y5⟩:=box6' hg1
 have HB1:=hide hB01
 have hz1:w.heap.size≤w1.heap.size:=hB01.size
 have hzl:Hid (w.heap.size<w1.heap.size):=hide (Nat.lt_of_lt_of_le hz0 hB1.size)
 clear hB1 hB01 hg1 hg0 hB0 hz0
 have hzz:w.heap.size<w1.heap.size:=hzl.out
 go_wp2_with fail
 go_region_held3 (fun w'=>w'.cell? ⟨w.heap.size,2,none⟩=some (.string S)∧w'.cell? ⟨w.heap.size,3,none⟩=some (.string A)∧w'.cell? ⟨w.heap.size,4,none⟩=some (.string V)∧w'.cell? ⟨w.heap.size,5,none⟩=some (.string Q)) (go_keep) (first|(go_at_call 23;refine(num_any _ _).mono ?_;rintro e w3 ⟨rfl,rfl⟩)|(go_at_call 33;refine(H.out.2 _).mono ?_;rintro e w5 ⟨rfl,hB5⟩;(have c2:=(hB5.cell (p:=⟨w.heap.size,2,none⟩) hzz).trans y2);(have c3:=(hB5.cell (p:=⟨w.heap.size,3,none⟩) hzz).trans y3);(have c4:=(hB5.cell (p:=⟨w.heap.size,4,none⟩) hzz).trans y4);(have c5:=(hB5.cell (p:=⟨w.heap.size,5,none⟩) hzz).trans y5)))
 have HB5:=hide (HB1.out.trans (show Below w.heap.size w1 _ from⟨hB5.os,hB5.tape,hB5.output,hB5.size,fun k hk=>hB5.block k (Nat.lt_of_lt_of_le hk hz1)⟩))
 clear hB5 c2 c3 c4 c5
 go_wp2_with fail
 go_ret
 exact⟨rfl,HB5.out⟩
theorem chains_of (v:Value)(w:World)(h:Calls Tryz.prog 13 #[v,.int .i64 6,.int .i64 6] w fun e w'=>e= .returned (.int .i64 (-1))∧Below w.heap.size w w'):
  Calls Tryz.prog 8 #[v] w fun e w'=>e= .returned (.bool true)∧Below w.heap.size w w':=by
 have H:=hide h
 clear h
 go_enter Tryz.func8,Tryz.ntmps8
 go_wp2_with fail
 refine H.out.mono ?_
 rintro e w1 ⟨rfl,hB⟩
 go_wp2_with fail
 go_ret
 exact⟨by simp,hB⟩
end Go.Proofs.YtkoohcilbpdgeaaGreatDoor
