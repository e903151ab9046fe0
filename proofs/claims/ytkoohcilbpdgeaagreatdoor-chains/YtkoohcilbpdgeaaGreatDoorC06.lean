import Derived.Test.YtkoohcilbpdgeaaGreatDoorC05
set_option linter.all false
set_option linter.unusedVariables false
set_option linter.unusedSimpArgs false
set_option linter.unnecessarySimpa false
set_option linter.constructorNameAsVariable false
set_option linter.deprecated false
set_option maxRecDepth 100000
set_option maxHeartbeats 6400000
namespace Go.Proofs.YtkoohcilbpdgeaaGreatDoor
open Go Go.RowKit
attribute [local go_sem] wrap64_byte
theorem conv1 (W:World)(g:Nat)(n:Int)(h:W.cell? ⟨g,0,none⟩=some (.int .u8 n)):Sem.run Tryz.prog (convert 142 9 (.slice (some ⟨g,0,none⟩) 1 1)) W= .ok (.string ⟨#[UInt8.ofNat n.toNat]⟩) W:=by
 rw [run_convert_bytes_string W 142 9 5 _ _ _ Tryz.underlying142 Tryz.underlying5 Tryz.underlying9]
 rw [run_bytesToString W ⟨g,0,none⟩ 1 1 [n] (by simp [loadCells,loadCellsFrom,go_sem,h])]
 rfl
theorem conv2 (W:World)(A:Obj)(c:UInt8)(n:Int)(hn:n=(c.toNat:Int)):Sem.run Tryz.prog (convert 142 9 (.slice (some ⟨W.heap.size+1,0,none⟩) 1 1)) ((W.alloc A).alloc (.cells #[.int .u8 n] 5))= .ok (.string ⟨#[c]⟩) ((W.alloc A).alloc (.cells #[.int .u8 n] 5)):=by
 have h:=heap_alloc_new (W.alloc A) (.cells #[.int .u8 n] 5)
 rw [show(W.alloc A).heap.size=W.heap.size+1 by simp] at h
 rw [conv1 _ _ n ((cell_of_row _ _ 0 _ _ _ h).trans rfl),hn]
 simp
theorem Rf.setB {b:Nat}{u w:World}(h:Rf b u w)(o:Nat)(v:Value):Rf b u (w.setCell ⟨b,o,none⟩ v):=
 ⟨h.os,h.tape,h.output,by simpa [World.setCell] using h.size,fun k hk hn=>(Below.heap_setCell _ _ _ _ hn).trans (h.block k hk hn)⟩
theorem set0 {w:World}{g:Nat}{a b c d:Value}{t:TypeId}(h:w.heap[g]?=some (.cells #[a,b,c,d] t))(v:Value):(w.setCell ⟨g,0,none⟩ v).heap[g]?=some (.cells #[v,b,c,d] t):=by
 simp only [World.setCell,Array.getElem?_modify,if_true]
 rw [h]
 rfl
theorem pk_good {s:ByteArray}{a:Nat}{d:Bool}{c:Int}(h:(pk s a d==c)=true)(hc:0<c):d=false∧a<s.size:=
 pk_lt (by
   have:pk s a d=c:=by simpa using h
   omega)
theorem compared_not (s:ByteArray)(n:Nat)(ihs:OKRf s 92 2 n)(b:Nat)(st:St)(w:World)(p:Nat)(r:Int)(st':St)(hM:M s (n+1) 2 0 st=some (r,st'))(hR:Rd w b s p st.bad)(hp:skip s p st.bad=st.at_)(hc:(pkS s st !=33)=false):
  Calls Tryz.prog 92 #[.pointer (some ⟨b,0,none⟩)] w fun e w'=>RPost b s st st' r w e w':=by
 rw [M_2] at hM
 have hs1:=sign1_any b p s 33 st.bad w hR
 rw [hp] at hs1
 have HS1:=hide hs1
 have hple:=hR.le
 have hidem:Hid (skip s st.at_ st.bad=st.at_):=hide (by have h:=skip_idem s p st.bad hple;rw [hp] at h;exact h)
 clear hs1 hp hR
 rw [hc,if_neg (by decide)] at hM
 have hc2:(pk s st.at_ st.bad==((33:UInt8).toNat:Int))=true:=by simpa [pkS] using hc
 obtain⟨⟨r2,st2⟩,h2,h3⟩:=Option.bind_eq_some_iff.1 hM
 obtain⟨hl,h6⟩:=addE_some h3
 cases h6
 have HH:=hide h2
 clear hM h2 h3
 obtain⟨i0,hi,hz0,hz1,hz2⟩:=info_parts info89
 go_enter Tryz.func92,Tryz.ntmps92
 go_wp2_with fail
 refine HS1.out.mono ?_
 rintro e w1 ⟨rfl,hR1,hsc1⟩
 rw [hc2]
 obtain⟨c0,c1,c2,f1,f2,_,_⟩:=id hR1
 have hbl:b<w1.heap.size:=block_lt_of_cell hR1.c0
 have hRa:Rd (w1.alloc (.cells #[.string ⟨#[33]⟩,.string ⟨#[]⟩,.int .i64 st.at_,.slice none 0 0] 138)) b s st.at_ st.bad:=hR1.other (Below.heap_alloc _ _ _ hbl)
 go_wp2_with fail
 refine(eat_any b st.at_ s _ st.bad _ hRa (by decide)).mono ?_
 rintro e w3 ⟨rfl,hR3,hs3⟩
 have hz3:w3.heap.size=w1.heap.size+1:=by have:=hs3.size;simpa using this
 go_wp2_with fail
 refine(ihs b (sgn s [33] st) _ _ r2 st2 HH.out hR3 rfl).mono ?_
 rintro e w4 ⟨ao4,p4,rfl,hR4,hF4,hp4,ht4⟩
 rw [hz3] at ht4
 have hF34:=hs3.rf.trans hF4
 have hg4:w4.heap[w1.heap.size]?=some (.cells #[.string ⟨#[33]⟩,.string ⟨#[]⟩,.int .i64 st.at_,.slice none 0 0] 138):=(hF34.block w1.heap.size (by simp) (by omega)).trans (heap_alloc_new w1 _)
 obtain⟨d0,d1,d2,d3,df⟩:=box4' hg4
 have hz4:=hF34.size
 simp at hz4
 have HX:=hide (And.intro hsc1.rf (And.intro hF34 (And.intro hR4 (And.intro hp4 ht4))))
 clear hp4 ht4 hF4 hs3 hR3 hRa hF34 hsc1 hR4
 go_wp2_with (at_builtin;go_must (refine wpList_append_lies _ rfl (.tmp 28) (.tmp 30) 136 rfl (w1.heap.size+1) 89 i0 _ 1 8 Tryz.underlying136 hi hz0 hz1 hz2 rfl (by omega) (.slice none 0 0) 0 [] rfl (World.ownsRow_nil _ _ _ _) ⟨w4.heap.size,0,none⟩ 1 1 [.pointer ao4] rfl rfl ?news ?one (by omega) ?mm ?bys ?base (w4.heap.size+1) (by simp) ?rest))
 case news=>exact World.news_of_block (heap_alloc_new w4 _)
 case one=>intro u hu;simp at hu;subst hu;rfl
 case mm=>unfold maxLen;omega
 case bys=>omega
 case base=>simp;omega
 case rest=>
  intro gb cap w5 hown hgrow hat hlt2
  have hat:gb=w4.heap.size+1:=by
   rcases hat with q|q
   ·simp [Value.ownBlock] at q
   ·exact q
  have hgrow:(w4.alloc (.cells #[.pointer ao4] 89)).grownBy w5 none:=hgrow
  have hfin:=prefix_fin (tx:=⟨#[33]⟩) (op:=sNot) (st:=st) (.inl ⟨rfl,rfl⟩) HX.out.1 hbl HX.out.2.1 HX.out.2.2.1 HX.out.2.2.2.1 HX.out.2.2.2.2 hown hgrow hat
  have HF:=hide hfin
  have hcell5:w5.cell? ⟨w1.heap.size,3,none⟩=some (.slice none 0 0)∧w5.frozen? ⟨w1.heap.size,3,none⟩=false:=by
   have e1:w5.heap[w1.heap.size]?=w4.heap[w1.heap.size]?:=(hgrow.block _ (by simp;omega) (by simp)).trans (Below.heap_alloc _ _ _ (by omega))
   exact⟨(World.cell?_of_block (w:=w4) e1).trans d3,(World.frozen?_of_block (w:=w4) e1).trans (df 3)⟩
  obtain⟨z1,z2⟩:=hcell5
  clear hfin hgrow hown hat d0 d1 d2 d3 df
  go_wp2_with fail
  go_ret
  exact HF.out
theorem compared_sum (s:ByteArray)(n:Nat)(ih:OKR s 3 4 n)(b:Nat)(st:St)(w:World)(p:Nat)(r:Int)(st':St)(hM:M s (n+1) 3 0 st=some (r,st'))(hR:Rd w b s p st.bad)(hp:skip s p st.bad=st.at_)(hc:(pkS s st !=33)=true):
  Calls Tryz.prog 92 #[.pointer (some ⟨b,0,none⟩)] w fun e w'=>RPost b s st st' r w e w':=by
 rw [M_3] at hM
 obtain⟨⟨l1,st1⟩,h1,h2⟩:=Option.bind_eq_some_iff.1 hM
 simp only at h2
 have hs1:=sign1_any b p s 33 st.bad w hR
 rw [hp] at hs1
 have HS1:=hide hs1
 have hple:=hR.le
 have hidem:Hid (skip s st.at_ st.bad=st.at_):=hide (by have h:=skip_idem s p st.bad hple;rw [hp] at h;exact h)
 have hc2:(pk s st.at_ st.bad==((33:UInt8).toNat:Int))=false:=by simpa [pkS] using hc
 have H1:=hide h1
 have H2:=hide h2
 clear hM h1 h2 hs1 hp hR
 go_enter Tryz.func92,Tryz.ntmps92
 go_wp2_with fail
 refine HS1.out.mono ?_
 rintro e w0 ⟨rfl,hR0,hsc0⟩
 rw [hc2]
 go_wp2_with fail
 refine(ih b st w0 st.at_ l1 st1 H1.out hR0 hidem.out).mono ?_
 rintro e w1 ⟨ao1,p1,rfl,hR1,hF1,hp1,ht1⟩
 rw [hsc0.size] at ht1
 have hbl:=blanksR_any b p1 s st1.bad w1 hR1
 rw [hp1] at hbl
 have hle1:=hR1.le
 have hid1:Hid (skip s st1.at_ st1.bad=st1.at_):=hide (by have h:=skip_idem s p1 st1.bad hle1;rw [hp1] at h;exact h)
 have HBL:=hide hbl
 have HT1:=hide ht1
 have hF01:=hsc0.rf.trans hF1
 clear hbl ht1 hF1 hsc0 hR0
 go_wp2_with fail
 refine HBL.out.mono ?_
 rintro e w2 ⟨rfl,hR2,hs2⟩
 obtain⟨c0,c1,c2,f1,f2,hle2,hsz2⟩:=id hR2
 have hF12:Rf b w1 w2:=hs2.rf
 go_wp2_with fail
 refine(here_any b st1.at_ s st1.bad w2 hR2).mono ?_
 rintro e w3 ⟨rfl,n3,rfl⟩
 have h2:=H2.out
 clear H2
 have hb2:b<w2.heap.size:=block_lt_of_cell hR2.c0
 have hn1:w2.heap.size≠b:=by omega
 have hn2:w2.heap.size+1≠b:=by omega
 have hcz: ∀o q:Obj,(((w2.drewN n3).alloc o).alloc q).cell? ⟨b,1,none⟩=some (.int .i64 st1.at_):=fun o q=>(World.cell?_of_block (w:=w2.drewN n3) ((Below.heap_alloc _ _ _ (by simp [World.drewN];omega)).trans (Below.heap_alloc _ _ _ (by simpa [World.drewN] using hb2)))).trans c1
 have hfz: ∀o q:Obj,(((w2.drewN n3).alloc o).alloc q).frozen? ⟨b,1,none⟩=false:=fun o q=>(World.frozen?_of_block (w:=w2.drewN n3) ((Below.heap_alloc _ _ _ (by simp [World.drewN];omega)).trans (Below.heap_alloc _ _ _ (by simpa [World.drewN] using hb2)))).trans f1
 cases e1:(pk s st1.at_ st1.bad==61)
 all_goals cases e2:(pk s st1.at_ st1.bad==33)
 all_goals cases e3:(pk s st1.at_ st1.bad==60)
 all_goals cases e4:(pk s st1.at_ st1.bad==62)
 all_goals try(simp at e1 e2 e3 e4;omega)
 ·rw [comparingM_none e1 e2 e3 e4,if_pos (show(((st1.at_,st1.bad,(⟨#[]⟩:ByteArray)).2.2.size==0)=true) from rfl)] at h2
  have h2:=Option.some.inj h2
  cases h2
  have t1:(hereM s st1.at_ st1.bad !=61)=true:=by simp only [bne];rw [hereM_eq (by omega),e1];rfl
  have t2:(hereM s st1.at_ st1.bad !=33)=true:=by simp only [bne];rw [hereM_eq (by omega),e2];rfl
  have t3:(hereM s st1.at_ st1.bad !=60)=true:=by simp only [bne];rw [hereM_eq (by omega),e3];rfl
  have t4:(hereM s st1.at_ st1.bad !=62)=true:=by simp only [bne];rw [hereM_eq (by omega),e4];rfl
  go_wp2_with fail
  go_ret
  refine⟨ao1,st1.at_,rfl,hR2.drewN _,(hF01.trans hF12).drewN _,hid1.out,fun hb=> ?_⟩
  obtain⟨f,i,q1,q2,q3⟩:=HT1.out hb
  exact⟨f,i,q1,q2,q3.keep (hF12.drewN _)⟩
 ·obtain⟨hbd,hat⟩:=pk_good e4 (by omega)
  have hv:hereM s st1.at_ st1.bad=62:=by have h:=(hereM_eq (s:=s) (a:=st1.at_) (d:=st1.bad) (c:=62) (by omega)).trans e4;simpa using h
  rw [hv]
  have hch:s[st1.at_]=62:=by
   have h:pk s st1.at_ st1.bad=62:=by simpa using e4
   rw [hbd] at h
   have h2:(s[st1.at_].toNat:Int)=62:=by simpa [pk,hat] using h
   exact UInt8.toNat_inj.1 (by simpa using (by omega:s[st1.at_].toNat=62))
  have hconv: ∀A:Obj,Sem.run Tryz.prog (convert 142 9 (.slice (some ⟨w2.heap.size+1,0,none⟩) 1 1)) (((w2.drewN n3).alloc A).alloc (.cells #[.int .u8 62] 5))= .ok (.string ⟨#[62]⟩) (((w2.drewN n3).alloc A).alloc (.cells #[.int .u8 62] 5)):=fun A=>conv2 (w2.drewN n3) A 62 62 rfl
  have hRa:Rd ((w2.drewN n3).alloc (.cells #[.string ⟨#[]⟩,.string ⟨#[]⟩,.int .i64 st1.at_,.slice none 0 0] 138)) b s st1.at_ st1.bad:=(hR2.drewN n3).other (Below.heap_alloc _ _ _ (by simpa [World.drewN] using hb2))
  have hRs:=(hRa.setAt' (st1.at_+1) (st1.at_+1) (by omega) hat).other (w':=(((w2.drewN n3).alloc (.cells #[.string ⟨#[]⟩,.string ⟨#[]⟩,.int .i64 st1.at_,.slice none 0 0] 138)).setCell ⟨b,1,none⟩ (.int .i64 (st1.at_+1))).alloc (.cells #[.int .u8 62] 5)) (Below.heap_alloc _ _ _ (by simp [World.drewN,World.setCell];omega))
  have hgW:((((w2.drewN n3).alloc (.cells #[.string ⟨#[]⟩,.string ⟨#[]⟩,.int .i64 st1.at_,.slice none 0 0] 138)).setCell ⟨b,1,none⟩ (.int .i64 (st1.at_+1))).alloc (.cells #[.int .u8 62] 5)).heap[w2.heap.size]?=some (.cells #[.string ⟨#[]⟩,.string ⟨#[]⟩,.int .i64 st1.at_,.slice none 0 0] 138):=by
   rw [Below.heap_alloc _ _ _ (by simp [World.drewN,World.setCell]),Below.heap_setCell _ _ _ _ hn1]
   exact heap_alloc_new (w2.drewN n3) _
  have hFW:Rf b w2 ((((w2.drewN n3).alloc (.cells #[.string ⟨#[]⟩,.string ⟨#[]⟩,.int .i64 st1.at_,.slice none 0 0] 138)).setCell ⟨b,1,none⟩ (.int .i64 (st1.at_+1))).alloc (.cells #[.int .u8 62] 5)):=(((((Rf.refl b w2).drewN n3).alloc _).setB 1 _).alloc _)
  have hzW:((((w2.drewN n3).alloc (.cells #[.string ⟨#[]⟩,.string ⟨#[]⟩,.int .i64 st1.at_,.slice none 0 0] 138)).setCell ⟨b,1,none⟩ (.int .i64 (st1.at_+1))).alloc (.cells #[.int .u8 62] 5)).heap.size=w2.heap.size+2:=by simp [World.drewN,World.setCell]
  have hcm:=comparingM_eq hat (by rw [←hbd];simp only [e4];simp)
  rw [hch] at hcm
  rw [hbd] at h2 hRs e1 e2 e3 e4
  rw [hcm,e1,e2] at h2
  have HW:=hide (And.intro hRs (And.intro hgW (And.intro hFW hzW)))
  have HBD:=hide hbd
  clear hcm hRs hgW hFW hzW hbd hch hRa hv
  cases e5:(pk s (st1.at_+1) false==61)
  ·rw [e5] at h2
   simp only [Bool.or_false,Bool.false_eq_true,if_false] at h2
   rw [if_neg (by decide)] at h2
   have e6:(hereM s (st1.at_+1) false==61)=false:=by rw [hereM_eq (by omega),e5]
   obtain⟨⟨r2,st2⟩,h3,h4⟩:=Option.bind_eq_some_iff.1 h2
   obtain⟨hl,h6⟩:=addE_some h4
   cases h6
   have HH:=hide h3
   have HEX:Hid (ExtE st1 st2):=hide (M_ext s _ _ _ _ _ h3)
   clear h2 h3 h4
   have hw4:=HW.out.2.1
   go_wp2_with fail
   refine(here_any b (st1.at_+1) s false _ (by exact HW.out.1)).mono ?_
   rintro e w4 ⟨rfl,n4,rfl⟩
   have hz5:(((((w2.drewN n3).alloc (.cells #[.string ⟨#[]⟩,.string ⟨#[]⟩,.int .i64 st1.at_,.slice none 0 0] 138)).setCell ⟨b,1,none⟩ (.int .i64 (st1.at_+1))).alloc (.cells #[.int .u8 62] 5)).drewN n4).heap.size=w2.heap.size+2:=HW.out.2.2.2
   have hg5:(((((w2.drewN n3).alloc (.cells #[.string ⟨#[]⟩,.string ⟨#[]⟩,.int .i64 st1.at_,.slice none 0 0] 138)).setCell ⟨b,1,none⟩ (.int .i64 (st1.at_+1))).alloc (.cells #[.int .u8 62] 5)).drewN n4).heap[w2.heap.size]?=some (.cells #[.string ⟨#[]⟩,.string ⟨#[]⟩,.int .i64 st1.at_,.slice none 0 0] 138):=HW.out.2.1
   obtain⟨y0,y1,y2,y3,yf⟩:=box4' hg5
   have hF26:Rf b w2 ((((((w2.drewN n3).alloc (.cells #[.string ⟨#[]⟩,.string ⟨#[]⟩,.int .i64 st1.at_,.slice none 0 0] 138)).setCell ⟨b,1,none⟩ (.int .i64 (st1.at_+1))).alloc (.cells #[.int .u8 62] 5)).drewN n4).setCell ⟨w2.heap.size,0,none⟩ (.string ⟨#[62]⟩)):=(HW.out.2.2.1.drewN n4).setCell (a:=⟨w2.heap.size,0,none⟩) (Nat.le_refl _) _
   have hg6:((((((w2.drewN n3).alloc (.cells #[.string ⟨#[]⟩,.string ⟨#[]⟩,.int .i64 st1.at_,.slice none 0 0] 138)).setCell ⟨b,1,none⟩ (.int .i64 (st1.at_+1))).alloc (.cells #[.int .u8 62] 5)).drewN n4).setCell ⟨w2.heap.size,0,none⟩ (.string ⟨#[62]⟩)).heap[w2.heap.size]?=some (.cells #[.string ⟨#[62]⟩,.string ⟨#[]⟩,.int .i64 st1.at_,.slice none 0 0] 138):=set0 hg5 _
   have hR6:=(HW.out.1.drewN n4).other (w':=(((((w2.drewN n3).alloc (.cells #[.string ⟨#[]⟩,.string ⟨#[]⟩,.int .i64 st1.at_,.slice none 0 0] 138)).setCell ⟨b,1,none⟩ (.int .i64 (st1.at_+1))).alloc (.cells #[.int .u8 62] 5)).drewN n4).setCell ⟨w2.heap.size,0,none⟩ (.string ⟨#[62]⟩)) (Below.heap_setCell _ _ _ _ (by simp;omega))
   have hz6:((((((w2.drewN n3).alloc (.cells #[.string ⟨#[]⟩,.string ⟨#[]⟩,.int .i64 st1.at_,.slice none 0 0] 138)).setCell ⟨b,1,none⟩ (.int .i64 (st1.at_+1))).alloc (.cells #[.int .u8 62] 5)).drewN n4).setCell ⟨w2.heap.size,0,none⟩ (.string ⟨#[62]⟩)).heap.size=w2.heap.size+2:=by simpa [World.setCell] using hz5
   have hB6:Hid (w2.heap.size<((((((w2.drewN n3).alloc (.cells #[.string ⟨#[]⟩,.string ⟨#[]⟩,.int .i64 st1.at_,.slice none 0 0] 138)).setCell ⟨b,1,none⟩ (.int .i64 (st1.at_+1))).alloc (.cells #[.int .u8 62] 5)).drewN n4).setCell ⟨w2.heap.size,0,none⟩ (.string ⟨#[62]⟩)).heap.size):=hide (by omega)
   clear hg5 hw4
   go_wp2_with fail
   refine(ih b _ _ _ r2 st2 HH.out hR6 rfl).mono ?_
   rintro e w7 ⟨ao7,p7,rfl,hR7,hF7,hp7,ht7⟩
   have hg7:w7.heap[w2.heap.size]?=some (.cells #[.string ⟨#[62]⟩,.string ⟨#[]⟩,.int .i64 st1.at_,.slice none 0 0] 138):=(hF7.block w2.heap.size (by omega) (by omega)).trans hg6
   obtain⟨d0,d1,d2,d3,df⟩:=box4' hg7
   have hb7:b<w7.heap.size:=block_lt_of_cell hR7.c0
   have hz7:=hF7.size
   have hlt7:w2.heap.size<w7.heap.size:=(Array.getElem?_eq_some_iff.1 hg7).1
   obtain⟨i0,hi,hz0,hz1,hz2⟩:=info_parts info89
   have HX:=hide (And.intro hF26 (And.intro hF7 (And.intro hR7 (And.intro hp7 ht7))))
   clear hp7 ht7 hF7 hR7 hR6 hF26 hg6 hcz hfz hconv
   go_wp2_with (at_builtin;go_must (refine wpList_append_lies _ rfl (.tmp 97) (.tmp 100) 136 rfl (w1.heap.size) 89 i0 _ 1 8 Tryz.underlying136 hi hz0 hz1 hz2 rfl (by omega) (.slice none 0 0) 0 [] rfl (World.ownsRow_nil _ _ _ _) ⟨w7.heap.size,0,none⟩ 2 2 [.pointer ao1,.pointer ao7] rfl rfl ?news ?one (by omega) ?mm ?bys ?base (w7.heap.size+1) (by simp) ?rest))
   case news=>exact World.news_of_block (heap_alloc_new w7 _)
   case one=>intro u hu;simp at hu;rcases hu with rfl|rfl<;>rfl
   case mm=>unfold maxLen;omega
   case bys=>omega
   case base=>have:=hs2.size;simp;omega
   case rest=>
    intro gb cap w8 hown hgrow hat8 hlt2
    have hat8:gb=w7.heap.size+1:=by
     rcases hat8 with q|q
     ·simp [Value.ownBlock] at q
     ·exact q
    have hgrow:(w7.alloc (.cells #[.pointer ao1,.pointer ao7] 89)).grownBy w8 none:=hgrow
    have hown:w8.ownsRow w1.heap.size 89 1 (.slice (some ⟨gb,0,none⟩) 2 cap) 2 [.pointer ao1,.pointer ao7]:=hown
    have hfin:=pair_fin (g:=w2.heap.size) (at_:=st1.at_) (op:=⟨#[62]⟩) (st:=st) (st1:=st1) hF01 HT1.out ((hF12.trans HX.out.1).trans HX.out.2.1) (Nat.le_of_eq hs2.size.symm) hn1 hg7 hb7 HX.out.2.2.1 HX.out.2.2.2.1 (fun _=>HBD.out) HEX.out HX.out.2.2.2.2 hB6.out hown hgrow hat8
    have HF:=hide hfin
    have e1':w8.heap[w2.heap.size]?=w7.heap[w2.heap.size]?:=(hgrow.block _ (by simp;omega) (by simp)).trans (Below.heap_alloc _ _ _ (by omega))
    have z1:=(World.cell?_of_block (w:=w7) (a:=⟨w2.heap.size,3,none⟩) e1').trans d3
    have z2:=(World.frozen?_of_block (w:=w7) (a:=⟨w2.heap.size,3,none⟩) e1').trans (df 3)
    clear hfin hgrow hown hat8 d0 d1 d2 d3 df e1'
    go_wp2_with fail
    go_ret
    exact HF.out
  ·rw [e5] at h2
   simp only [Bool.or_true,if_true] at h2
   rw [if_neg (by decide)] at h2
   have e6:(hereM s (st1.at_+1) false==61)=true:=by rw [hereM_eq (by omega),e5]
   obtain⟨⟨r2,st2⟩,h3,h4⟩:=Option.bind_eq_some_iff.1 h2
   obtain⟨hl,h6⟩:=addE_some h4
   cases h6
   have HH:=hide h3
   have HEX:Hid (ExtE st1 st2):=hide (M_ext s _ _ _ _ _ h3)
   clear h2 h3 h4
   go_wp2_with (go_at_call 96;refine(here_any b (st1.at_+1) s false _ (by exact HW.out.1)).mono ?_;rintro e w4 ⟨rfl,n4,rfl⟩)
   refine(eat_any b (st1.at_+1) s _ false _ (by first|exact HW.out.1|exact HW.out.1.drewN _) (by decide)).mono ?_
   rintro e w5 ⟨rfl,hR5,hs5⟩
   have hz5:(w5).heap.size=w2.heap.size+2:=hs5.size.trans HW.out.2.2.2
   have hg5:(w5).heap[w2.heap.size]?=some (.cells #[.string ⟨#[]⟩,.string ⟨#[]⟩,.int .i64 st1.at_,.slice none 0 0] 138):=(hs5.block w2.heap.size hn1).trans HW.out.2.1
   obtain⟨y0,y1,y2,y3,yf⟩:=box4' hg5
   have hF26:Rf b w2 ((w5).setCell ⟨w2.heap.size,0,none⟩ (.string ⟨#[62,61]⟩)):=((HW.out.2.2.1.drewN n4).trans hs5.rf).setCell (a:=⟨w2.heap.size,0,none⟩) (Nat.le_refl _) _
   have hg6:((w5).setCell ⟨w2.heap.size,0,none⟩ (.string ⟨#[62,61]⟩)).heap[w2.heap.size]?=some (.cells #[.string ⟨#[62,61]⟩,.string ⟨#[]⟩,.int .i64 st1.at_,.slice none 0 0] 138):=set0 hg5 _
   have hR6:=(hR5).other (w':=(w5).setCell ⟨w2.heap.size,0,none⟩ (.string ⟨#[62,61]⟩)) (Below.heap_setCell _ _ _ _ (by simp;omega))
   have hz6:((w5).setCell ⟨w2.heap.size,0,none⟩ (.string ⟨#[62,61]⟩)).heap.size=w2.heap.size+2:=by simpa [World.setCell] using hz5
   have hB6:Hid (w2.heap.size<((w5).setCell ⟨w2.heap.size,0,none⟩ (.string ⟨#[62,61]⟩)).heap.size):=hide (by omega)
   clear hs5 hR5 hg5
   go_wp2_with fail
   refine(ih b _ _ _ r2 st2 HH.out hR6 rfl).mono ?_
   rintro e w7 ⟨ao7,p7,rfl,hR7,hF7,hp7,ht7⟩
   have hg7:w7.heap[w2.heap.size]?=some (.cells #[.string ⟨#[62,61]⟩,.string ⟨#[]⟩,.int .i64 st1.at_,.slice none 0 0] 138):=(hF7.block w2.heap.size (by omega) (by omega)).trans hg6
   obtain⟨d0,d1,d2,d3,df⟩:=box4' hg7
   have hb7:b<w7.heap.size:=block_lt_of_cell hR7.c0
   have hz7:=hF7.size
   have hlt7:w2.heap.size<w7.heap.size:=(Array.getElem?_eq_some_iff.1 hg7).1
   obtain⟨i0,hi,hz0,hz1,hz2⟩:=info_parts info89
   have HX:=hide (And.intro hF26 (And.intro hF7 (And.intro hR7 (And.intro hp7 ht7))))
   clear hp7 ht7 hF7 hR7 hR6 hF26 hg6 hcz hfz hconv
   go_wp2_with (at_builtin;go_must (refine wpList_append_lies _ rfl (.tmp 97) (.tmp 100) 136 rfl (w1.heap.size) 89 i0 _ 1 8 Tryz.underlying136 hi hz0 hz1 hz2 rfl (by omega) (.slice none 0 0) 0 [] rfl (World.ownsRow_nil _ _ _ _) ⟨w7.heap.size,0,none⟩ 2 2 [.pointer ao1,.pointer ao7] rfl rfl ?news ?one (by omega) ?mm ?bys ?base (w7.heap.size+1) (by simp) ?rest))
   case news=>exact World.news_of_block (heap_alloc_new w7 _)
   case one=>intro u hu;simp at hu;rcases hu with rfl|rfl<;>rfl
   case mm=>unfold maxLen;omega
   case bys=>omega
   case base=>have:=hs2.size;simp;omega
   case rest=>
    intro gb cap w8 hown hgrow hat8 hlt2
    have hat8:gb=w7.heap.size+1:=by
     rcases hat8 with q|q
     ·simp [Value.ownBlock] at q
     ·exact q
    have hgrow:(w7.alloc (.cells #[.pointer ao1,.pointer ao7] 89)).grownBy w8 none:=hgrow
    have hown:w8.ownsRow w1.heap.size 89 1 (.slice (some ⟨gb,0,none⟩) 2 cap) 2 [.pointer ao1,.pointer ao7]:=hown
    have hfin:=pair_fin (g:=w2.heap.size) (at_:=st1.at_) (op:=⟨#[62,61]⟩) (st:=st) (st1:=st1) hF01 HT1.out ((hF12.trans HX.out.1).trans HX.out.2.1) (Nat.le_of_eq hs2.size.symm) hn1 hg7 hb7 HX.out.2.2.1 HX.out.2.2.2.1 (fun _=>HBD.out) HEX.out HX.out.2.2.2.2 hB6.out hown hgrow hat8
    have HF:=hide hfin
    have e1':w8.heap[w2.heap.size]?=w7.heap[w2.heap.size]?:=(hgrow.block _ (by simp;omega) (by simp)).trans (Below.heap_alloc _ _ _ (by omega))
    have z1:=(World.cell?_of_block (w:=w7) (a:=⟨w2.heap.size,3,none⟩) e1').trans d3
    have z2:=(World.frozen?_of_block (w:=w7) (a:=⟨w2.heap.size,3,none⟩) e1').trans (df 3)
    clear hfin hgrow hown hat8 d0 d1 d2 d3 df e1'
    go_wp2_with fail
    go_ret
    exact HF.out
 ·obtain⟨hbd,hat⟩:=pk_good e3 (by omega)
  have hv:hereM s st1.at_ st1.bad=60:=by have h:=(hereM_eq (s:=s) (a:=st1.at_) (d:=st1.bad) (c:=60) (by omega)).trans e3;simpa using h
  rw [hv]
  have hch:s[st1.at_]=60:=by
   have h:pk s st1.at_ st1.bad=60:=by simpa using e3
   rw [hbd] at h
   have h2:(s[st1.at_].toNat:Int)=60:=by simpa [pk,hat] using h
   exact UInt8.toNat_inj.1 (by simpa using (by omega:s[st1.at_].toNat=60))
  have hconv: ∀A:Obj,Sem.run Tryz.prog (convert 142 9 (.slice (some ⟨w2.heap.size+1,0,none⟩) 1 1)) (((w2.drewN n3).alloc A).alloc (.cells #[.int .u8 60] 5))= .ok (.string ⟨#[60]⟩) (((w2.drewN n3).alloc A).alloc (.cells #[.int .u8 60] 5)):=fun A=>conv2 (w2.drewN n3) A 60 60 rfl
  have hRa:Rd ((w2.drewN n3).alloc (.cells #[.string ⟨#[]⟩,.string ⟨#[]⟩,.int .i64 st1.at_,.slice none 0 0] 138)) b s st1.at_ st1.bad:=(hR2.drewN n3).other (Below.heap_alloc _ _ _ (by simpa [World.drewN] using hb2))
  have hRs:=(hRa.setAt' (st1.at_+1) (st1.at_+1) (by omega) hat).other (w':=(((w2.drewN n3).alloc (.cells #[.string ⟨#[]⟩,.string ⟨#[]⟩,.int .i64 st1.at_,.slice none 0 0] 138)).setCell ⟨b,1,none⟩ (.int .i64 (st1.at_+1))).alloc (.cells #[.int .u8 60] 5)) (Below.heap_alloc _ _ _ (by simp [World.drewN,World.setCell];omega))
  have hgW:((((w2.drewN n3).alloc (.cells #[.string ⟨#[]⟩,.string ⟨#[]⟩,.int .i64 st1.at_,.slice none 0 0] 138)).setCell ⟨b,1,none⟩ (.int .i64 (st1.at_+1))).alloc (.cells #[.int .u8 60] 5)).heap[w2.heap.size]?=some (.cells #[.string ⟨#[]⟩,.string ⟨#[]⟩,.int .i64 st1.at_,.slice none 0 0] 138):=by
   rw [Below.heap_alloc _ _ _ (by simp [World.drewN,World.setCell]),Below.heap_setCell _ _ _ _ hn1]
   exact heap_alloc_new (w2.drewN n3) _
  have hFW:Rf b w2 ((((w2.drewN n3).alloc (.cells #[.string ⟨#[]⟩,.string ⟨#[]⟩,.int .i64 st1.at_,.slice none 0 0] 138)).setCell ⟨b,1,none⟩ (.int .i64 (st1.at_+1))).alloc (.cells #[.int .u8 60] 5)):=(((((Rf.refl b w2).drewN n3).alloc _).setB 1 _).alloc _)
  have hzW:((((w2.drewN n3).alloc (.cells #[.string ⟨#[]⟩,.string ⟨#[]⟩,.int .i64 st1.at_,.slice none 0 0] 138)).setCell ⟨b,1,none⟩ (.int .i64 (st1.at_+1))).alloc (.cells #[.int .u8 60] 5)).heap.size=w2.heap.size+2:=by simp [World.drewN,World.setCell]
  have hcm:=comparingM_eq hat (by rw [←hbd];simp only [e3];simp)
  rw [hch] at hcm
  rw [hbd] at h2 hRs e1 e2 e3 e4
  rw [hcm,e1,e2] at h2
  have HW:=hide (And.intro hRs (And.intro hgW (And.intro hFW hzW)))
  have HBD:=hide hbd
  clear hcm hRs hgW hFW hzW hbd hch hRa hv
  cases e5:(pk s (st1.at_+1) false==61)
  ·rw [e5] at h2
   simp only [Bool.or_false,Bool.false_eq_true,if_false] at h2
   rw [if_neg (by decide)] at h2
   have e6:(hereM s (st1.at_+1) false==61)=false:=by rw [hereM_eq (by omega),e5]
   obtain⟨⟨r2,st2⟩,h3,h4⟩:=Option.bind_eq_some_iff.1 h2
   obtain⟨hl,h6⟩:=addE_some h4
   cases h6
   have HH:=hide h3
   have HEX:Hid (ExtE st1 st2):=hide (M_ext s _ _ _ _ _ h3)
   clear h2 h3 h4
   have hw4:=HW.out.2.1
   go_wp2_with fail
   refine(here_any b (st1.at_+1) s false _ (by exact HW.out.1)).mono ?_
   rintro e w4 ⟨rfl,n4,rfl⟩
   have hz5:(((((w2.drewN n3).alloc (.cells #[.string ⟨#[]⟩,.string ⟨#[]⟩,.int .i64 st1.at_,.slice none 0 0] 138)).setCell ⟨b,1,none⟩ (.int .i64 (st1.at_+1))).alloc (.cells #[.int .u8 60] 5)).drewN n4).heap.size=w2.heap.size+2:=HW.out.2.2.2
   have hg5:(((((w2.drewN n3).alloc (.cells #[.string ⟨#[]⟩,.string ⟨#[]⟩,.int .i64 st1.at_,.slice none 0 0] 138)).setCell ⟨b,1,none⟩ (.int .i64 (st1.at_+1))).alloc (.cells #[.int .u8 60] 5)).drewN n4).heap[w2.heap.size]?=some (.cells #[.string ⟨#[]⟩,.string ⟨#[]⟩,.int .i64 st1.at_,.slice none 0 0] 138):=HW.out.2.1
   obtain⟨y0,y1,y2,y3,yf⟩:=box4' hg5
   have hF26:Rf b w2 ((((((w2.drewN n3).alloc (.cells #[.string ⟨#[]⟩,.string ⟨#[]⟩,.int .i64 st1.at_,.slice none 0 0] 138)).setCell ⟨b,1,none⟩ (.int .i64 (st1.at_+1))).alloc (.cells #[.int .u8 60] 5)).drewN n4).setCell ⟨w2.heap.size,0,none⟩ (.string ⟨#[60]⟩)):=(HW.out.2.2.1.drewN n4).setCell (a:=⟨w2.heap.size,0,none⟩) (Nat.le_refl _) _
   have hg6:((((((w2.drewN n3).alloc (.cells #[.string ⟨#[]⟩,.string ⟨#[]⟩,.int .i64 st1.at_,.slice none 0 0] 138)).setCell ⟨b,1,none⟩ (.int .i64 (st1.at_+1))).alloc (.cells #[.int .u8 60] 5)).drewN n4).setCell ⟨w2.heap.size,0,none⟩ (.string ⟨#[60]⟩)).heap[w2.heap.size]?=some (.cells #[.string ⟨#[60]⟩,.string ⟨#[]⟩,.int .i64 st1.at_,.slice none 0 0] 138):=set0 hg5 _
   have hR6:=(HW.out.1.drewN n4).other (w':=(((((w2.drewN n3).alloc (.cells #[.string ⟨#[]⟩,.string ⟨#[]⟩,.int .i64 st1.at_,.slice none 0 0] 138)).setCell ⟨b,1,none⟩ (.int .i64 (st1.at_+1))).alloc (.cells #[.int .u8 60] 5)).drewN n4).setCell ⟨w2.heap.size,0,none⟩ (.string ⟨#[60]⟩)) (Below.heap_setCell _ _ _ _ (by simp;omega))
   have hz6:((((((w2.drewN n3).alloc (.cells #[.string ⟨#[]⟩,.string ⟨#[]⟩,.int .i64 st1.at_,.slice none 0 0] 138)).setCell ⟨b,1,none⟩ (.int .i64 (st1.at_+1))).alloc (.cells #[.int .u8 60] 5)).drewN n4).setCell ⟨w2.heap.size,0,none⟩ (.string ⟨#[60]⟩)).heap.size=w2.heap.size+2:=by simpa [World.setCell] using hz5
   have hB6:Hid (w2.heap.size<((((((w2.drewN n3).alloc (.cells #[.string ⟨#[]⟩,.string ⟨#[]⟩,.int .i64 st1.at_,.slice none 0 0] 138)).setCell ⟨b,1,none⟩ (.int .i64 (st1.at_+1))).alloc (.cells #[.int .u8 60] 5)).drewN n4).setCell ⟨w2.heap.size,0,none⟩ (.string ⟨#[60]⟩)).heap.size):=hide (by omega)
   clear hg5 hw4
   go_wp2_with fail
   refine(ih b _ _ _ r2 st2 HH.out hR6 rfl).mono ?_
   rintro e w7 ⟨ao7,p7,rfl,hR7,hF7,hp7,ht7⟩
   have hg7:w7.heap[w2.heap.size]?=some (.cells #[.string ⟨#[60]⟩,.string ⟨#[]⟩,.int .i64 st1.at_,.slice none 0 0] 138):=(hF7.block w2.heap.size (by omega) (by omega)).trans hg6
   obtain⟨d0,d1,d2,d3,df⟩:=box4' hg7
   have hb7:b<w7.heap.size:=block_lt_of_cell hR7.c0
   have hz7:=hF7.size
   have hlt7:w2.heap.size<w7.heap.size:=(Array.getElem?_eq_some_iff.1 hg7).1
   obtain⟨i0,hi,hz0,hz1,hz2⟩:=info_parts info89
   have HX:=hide (And.intro hF26 (And.intro hF7 (And.intro hR7 (And.intro hp7 ht7))))
   clear hp7 ht7 hF7 hR7 hR6 hF26 hg6 hcz hfz hconv
   go_wp2_with (at_builtin;go_must (refine wpList_append_lies _ rfl (.tmp 97) (.tmp 100) 136 rfl (w1.heap.size) 89 i0 _ 1 8 Tryz.underlying136 hi hz0 hz1 hz2 rfl (by omega) (.slice none 0 0) 0 [] rfl (World.ownsRow_nil _ _ _ _) ⟨w7.heap.size,0,none⟩ 2 2 [.pointer ao1,.pointer ao7] rfl rfl ?news ?one (by omega) ?mm ?bys ?base (w7.heap.size+1) (by simp) ?rest))
   case news=>exact World.news_of_block (heap_alloc_new w7 _)
   case one=>intro u hu;simp at hu;rcases hu with rfl|rfl<;>rfl
   case mm=>unfold maxLen;omega
   case bys=>omega
   case base=>have:=hs2.size;simp;omega
   case rest=>
    intro gb cap w8 hown hgrow hat8 hlt2
    have hat8:gb=w7.heap.size+1:=by
     rcases hat8 with q|q
     ·simp [Value.ownBlock] at q
     ·exact q
    have hgrow:(w7.alloc (.cells #[.pointer ao1,.pointer ao7] 89)).grownBy w8 none:=hgrow
    have hown:w8.ownsRow w1.heap.size 89 1 (.slice (some ⟨gb,0,none⟩) 2 cap) 2 [.pointer ao1,.pointer ao7]:=hown
    have hfin:=pair_fin (g:=w2.heap.size) (at_:=st1.at_) (op:=⟨#[60]⟩) (st:=st) (st1:=st1) hF01 HT1.out ((hF12.trans HX.out.1).trans HX.out.2.1) (Nat.le_of_eq hs2.size.symm) hn1 hg7 hb7 HX.out.2.2.1 HX.out.2.2.2.1 (fun _=>HBD.out) HEX.out HX.out.2.2.2.2 hB6.out hown hgrow hat8
    have HF:=hide hfin
    have e1':w8.heap[w2.heap.size]?=w7.heap[w2.heap.size]?:=(hgrow.block _ (by simp;omega) (by simp)).trans (Below.heap_alloc _ _ _ (by omega))
    have z1:=(World.cell?_of_block (w:=w7) (a:=⟨w2.heap.size,3,none⟩) e1').trans d3
    have z2:=(World.frozen?_of_block (w:=w7) (a:=⟨w2.heap.size,3,none⟩) e1').trans (df 3)
    clear hfin hgrow hown hat8 d0 d1 d2 d3 df e1'
    go_wp2_with fail
    go_ret
    exact HF.out
  ·rw [e5] at h2
   simp only [Bool.or_true,if_true] at h2
   rw [if_neg (by decide)] at h2
   have e6:(hereM s (st1.at_+1) false==61)=true:=by rw [hereM_eq (by omega),e5]
   obtain⟨⟨r2,st2⟩,h3,h4⟩:=Option.bind_eq_some_iff.1 h2
   obtain⟨hl,h6⟩:=addE_some h4
   cases h6
   have HH:=hide h3
   have HEX:Hid (ExtE st1 st2):=hide (M_ext s _ _ _ _ _ h3)
   clear h2 h3 h4
   go_wp2_with (go_at_call 96;refine(here_any b (st1.at_+1) s false _ (by exact HW.out.1)).mono ?_;rintro e w4 ⟨rfl,n4,rfl⟩)
   refine(eat_any b (st1.at_+1) s _ false _ (by first|exact HW.out.1|exact HW.out.1.drewN _) (by decide)).mono ?_
   rintro e w5 ⟨rfl,hR5,hs5⟩
   have hz5:(w5).heap.size=w2.heap.size+2:=hs5.size.trans HW.out.2.2.2
   have hg5:(w5).heap[w2.heap.size]?=some (.cells #[.string ⟨#[]⟩,.string ⟨#[]⟩,.int .i64 st1.at_,.slice none 0 0] 138):=(hs5.block w2.heap.size hn1).trans HW.out.2.1
   obtain⟨y0,y1,y2,y3,yf⟩:=box4' hg5
   have hF26:Rf b w2 ((w5).setCell ⟨w2.heap.size,0,none⟩ (.string ⟨#[60,61]⟩)):=((HW.out.2.2.1.drewN n4).trans hs5.rf).setCell (a:=⟨w2.heap.size,0,none⟩) (Nat.le_refl _) _
   have hg6:((w5).setCell ⟨w2.heap.size,0,none⟩ (.string ⟨#[60,61]⟩)).heap[w2.heap.size]?=some (.cells #[.string ⟨#[60,61]⟩,.string ⟨#[]⟩,.int .i64 st1.at_,.slice none 0 0] 138):=set0 hg5 _
   have hR6:=(hR5).other (w':=(w5).setCell ⟨w2.heap.size,0,none⟩ (.string ⟨#[60,61]⟩)) (Below.heap_setCell _ _ _ _ (by simp;omega))
   have hz6:((w5).setCell ⟨w2.heap.size,0,none⟩ (.string ⟨#[60,61]⟩)).heap.size=w2.heap.size+2:=by simpa [World.setCell] using hz5
   have hB6:Hid (w2.heap.size<((w5).setCell ⟨w2.heap.size,0,none⟩ (.string ⟨#[60,61]⟩)).heap.size):=hide (by omega)
   clear hs5 hR5 hg5
   go_wp2_with fail
   refine(ih b _ _ _ r2 st2 HH.out hR6 rfl).mono ?_
   rintro e w7 ⟨ao7,p7,rfl,hR7,hF7,hp7,ht7⟩
   have hg7:w7.heap[w2.heap.size]?=some (.cells #[.string ⟨#[60,61]⟩,.string ⟨#[]⟩,.int .i64 st1.at_,.slice none 0 0] 138):=(hF7.block w2.heap.size (by omega) (by omega)).trans hg6
   obtain⟨d0,d1,d2,d3,df⟩:=box4' hg7
   have hb7:b<w7.heap.size:=block_lt_of_cell hR7.c0
   have hz7:=hF7.size
   have hlt7:w2.heap.size<w7.heap.size:=(Array.getElem?_eq_some_iff.1 hg7).1
   obtain⟨i0,hi,hz0,hz1,hz2⟩:=info_parts info89
   have HX:=hide (And.intro hF26 (And.intro hF7 (And.intro hR7 (And.intro hp7 ht7))))
   clear hp7 ht7 hF7 hR7 hR6 hF26 hg6 hcz hfz hconv
   go_wp2_with (at_builtin;go_must (refine wpList_append_lies _ rfl (.tmp 97) (.tmp 100) 136 rfl (w1.heap.size) 89 i0 _ 1 8 Tryz.underlying136 hi hz0 hz1 hz2 rfl (by omega) (.slice none 0 0) 0 [] rfl (World.ownsRow_nil _ _ _ _) ⟨w7.heap.size,0,none⟩ 2 2 [.pointer ao1,.pointer ao7] rfl rfl ?news ?one (by omega) ?mm ?bys ?base (w7.heap.size+1) (by simp) ?rest))
   case news=>exact World.news_of_block (heap_alloc_new w7 _)
   case one=>intro u hu;simp at hu;rcases hu with rfl|rfl<;>rfl
   case mm=>unfold maxLen;omega
   case bys=>omega
   case base=>have:=hs2.size;simp;omega
   case rest=>
    intro gb cap w8 hown hgrow hat8 hlt2
    have hat8:gb=w7.heap.size+1:=by
     rcases hat8 with q|q
     ·simp [Value.ownBlock] at q
     ·exact q
    have hgrow:(w7.alloc (.cells #[.pointer ao1,.pointer ao7] 89)).grownBy w8 none:=hgrow
    have hown:w8.ownsRow w1.heap.size 89 1 (.slice (some ⟨gb,0,none⟩) 2 cap) 2 [.pointer ao1,.pointer ao7]:=hown
    have hfin:=pair_fin (g:=w2.heap.size) (at_:=st1.at_) (op:=⟨#[60,61]⟩) (st:=st) (st1:=st1) hF01 HT1.out ((hF12.trans HX.out.1).trans HX.out.2.1) (Nat.le_of_eq hs2.size.symm) hn1 hg7 hb7 HX.out.2.2.1 HX.out.2.2.2.1 (fun _=>HBD.out) HEX.out HX.out.2.2.2.2 hB6.out hown hgrow hat8
    have HF:=hide hfin
    have e1':w8.heap[w2.heap.size]?=w7.heap[w2.heap.size]?:=(hgrow.block _ (by simp;omega) (by simp)).trans (Below.heap_alloc _ _ _ (by omega))
    have z1:=(World.cell?_of_block (w:=w7) (a:=⟨w2.heap.size,3,none⟩) e1').trans d3
    have z2:=(World.frozen?_of_block (w:=w7) (a:=⟨w2.heap.size,3,none⟩) e1').trans (df 3)
    clear hfin hgrow hown hat8 d0 d1 d2 d3 df e1'
    go_wp2_with fail
    go_ret
    exact HF.out
 ·obtain⟨hbd,hat⟩:=pk_good e2 (by omega)
  have hv:hereM s st1.at_ st1.bad=33:=by have h:=(hereM_eq (s:=s) (a:=st1.at_) (d:=st1.bad) (c:=33) (by omega)).trans e2;simpa using h
  rw [hv]
  have hch:s[st1.at_]=33:=by
   have h:pk s st1.at_ st1.bad=33:=by simpa using e2
   rw [hbd] at h
   have h2:(s[st1.at_].toNat:Int)=33:=by simpa [pk,hat] using h
   exact UInt8.toNat_inj.1 (by simpa using (by omega:s[st1.at_].toNat=33))
  have hconv: ∀A:Obj,Sem.run Tryz.prog (convert 142 9 (.slice (some ⟨w2.heap.size+1,0,none⟩) 1 1)) (((w2.drewN n3).alloc A).alloc (.cells #[.int .u8 33] 5))= .ok (.string ⟨#[33]⟩) (((w2.drewN n3).alloc A).alloc (.cells #[.int .u8 33] 5)):=fun A=>conv2 (w2.drewN n3) A 33 33 rfl
  have hRa:Rd ((w2.drewN n3).alloc (.cells #[.string ⟨#[]⟩,.string ⟨#[]⟩,.int .i64 st1.at_,.slice none 0 0] 138)) b s st1.at_ st1.bad:=(hR2.drewN n3).other (Below.heap_alloc _ _ _ (by simpa [World.drewN] using hb2))
  have hRs:=(hRa.setAt' (st1.at_+1) (st1.at_+1) (by omega) hat).other (w':=(((w2.drewN n3).alloc (.cells #[.string ⟨#[]⟩,.string ⟨#[]⟩,.int .i64 st1.at_,.slice none 0 0] 138)).setCell ⟨b,1,none⟩ (.int .i64 (st1.at_+1))).alloc (.cells #[.int .u8 33] 5)) (Below.heap_alloc _ _ _ (by simp [World.drewN,World.setCell];omega))
  have hgW:((((w2.drewN n3).alloc (.cells #[.string ⟨#[]⟩,.string ⟨#[]⟩,.int .i64 st1.at_,.slice none 0 0] 138)).setCell ⟨b,1,none⟩ (.int .i64 (st1.at_+1))).alloc (.cells #[.int .u8 33] 5)).heap[w2.heap.size]?=some (.cells #[.string ⟨#[]⟩,.string ⟨#[]⟩,.int .i64 st1.at_,.slice none 0 0] 138):=by
   rw [Below.heap_alloc _ _ _ (by simp [World.drewN,World.setCell]),Below.heap_setCell _ _ _ _ hn1]
   exact heap_alloc_new (w2.drewN n3) _
  have hFW:Rf b w2 ((((w2.drewN n3).alloc (.cells #[.string ⟨#[]⟩,.string ⟨#[]⟩,.int .i64 st1.at_,.slice none 0 0] 138)).setCell ⟨b,1,none⟩ (.int .i64 (st1.at_+1))).alloc (.cells #[.int .u8 33] 5)):=(((((Rf.refl b w2).drewN n3).alloc _).setB 1 _).alloc _)
  have hzW:((((w2.drewN n3).alloc (.cells #[.string ⟨#[]⟩,.string ⟨#[]⟩,.int .i64 st1.at_,.slice none 0 0] 138)).setCell ⟨b,1,none⟩ (.int .i64 (st1.at_+1))).alloc (.cells #[.int .u8 33] 5)).heap.size=w2.heap.size+2:=by simp [World.drewN,World.setCell]
  have hcm:=comparingM_eq hat (by rw [←hbd];simp only [e2];simp)
  rw [hch] at hcm
  rw [hbd] at h2 hRs e1 e2 e3 e4
  rw [hcm,e1,e2] at h2
  have HW:=hide (And.intro hRs (And.intro hgW (And.intro hFW hzW)))
  have HBD:=hide hbd
  clear hcm hRs hgW hFW hzW hbd hch hRa hv
  simp only [Bool.true_or,Bool.or_true,Bool.false_or,if_true] at h2
  rw [if_neg (by decide)] at h2
  obtain⟨⟨r2,st2⟩,h3,h4⟩:=Option.bind_eq_some_iff.1 h2
  obtain⟨hl,h6⟩:=addE_some h4
  cases h6
  have HH:=hide h3
  have HEX:Hid (ExtE st1 st2):=hide (M_ext s _ _ _ _ _ h3)
  clear h2 h3 h4
  go_wp2_with fail
  refine(eat_any b (st1.at_+1) s _ false _ (by first|exact HW.out.1|exact HW.out.1.drewN _) (by decide)).mono ?_
  rintro e w5 ⟨rfl,hR5,hs5⟩
  have hz5:(w5).heap.size=w2.heap.size+2:=hs5.size.trans HW.out.2.2.2
  have hg5:(w5).heap[w2.heap.size]?=some (.cells #[.string ⟨#[]⟩,.string ⟨#[]⟩,.int .i64 st1.at_,.slice none 0 0] 138):=(hs5.block w2.heap.size hn1).trans HW.out.2.1
  obtain⟨y0,y1,y2,y3,yf⟩:=box4' hg5
  have hF26:Rf b w2 ((w5).setCell ⟨w2.heap.size,0,none⟩ (.string ⟨#[33,61]⟩)):=(HW.out.2.2.1.trans hs5.rf).setCell (a:=⟨w2.heap.size,0,none⟩) (Nat.le_refl _) _
  have hg6:((w5).setCell ⟨w2.heap.size,0,none⟩ (.string ⟨#[33,61]⟩)).heap[w2.heap.size]?=some (.cells #[.string ⟨#[33,61]⟩,.string ⟨#[]⟩,.int .i64 st1.at_,.slice none 0 0] 138):=set0 hg5 _
  have hR6:=(hR5).other (w':=(w5).setCell ⟨w2.heap.size,0,none⟩ (.string ⟨#[33,61]⟩)) (Below.heap_setCell _ _ _ _ (by simp;omega))
  have hz6:((w5).setCell ⟨w2.heap.size,0,none⟩ (.string ⟨#[33,61]⟩)).heap.size=w2.heap.size+2:=by simpa [World.setCell] using hz5
  have hB6:Hid (w2.heap.size<((w5).setCell ⟨w2.heap.size,0,none⟩ (.string ⟨#[33,61]⟩)).heap.size):=hide (by omega)
  clear hs5 hR5 hg5
  go_wp2_with fail
  refine(ih b _ _ _ r2 st2 HH.out hR6 rfl).mono ?_
  rintro e w7 ⟨ao7,p7,rfl,hR7,hF7,hp7,ht7⟩
  have hg7:w7.heap[w2.heap.size]?=some (.cells #[.string ⟨#[33,61]⟩,.string ⟨#[]⟩,.int .i64 st1.at_,.slice none 0 0] 138):=(hF7.block w2.heap.size (by omega) (by omega)).trans hg6
  obtain⟨d0,d1,d2,d3,df⟩:=box4' hg7
  have hb7:b<w7.heap.size:=block_lt_of_cell hR7.c0
  have hz7:=hF7.size
  have hlt7:w2.heap.size<w7.heap.size:=(Array.getElem?_eq_some_iff.1 hg7).1
  obtain⟨i0,hi,hz0,hz1,hz2⟩:=info_parts info89
  have HX:=hide (And.intro hF26 (And.intro hF7 (And.intro hR7 (And.intro hp7 ht7))))
  clear hp7 ht7 hF7 hR7 hR6 hF26 hg6 hcz hfz hconv
  go_wp2_with (at_builtin;go_must (refine wpList_append_lies _ rfl (.tmp 97) (.tmp 100) 136 rfl (w1.heap.size) 89 i0 _ 1 8 Tryz.underlying136 hi hz0 hz1 hz2 rfl (by omega) (.slice none 0 0) 0 [] rfl (World.ownsRow_nil _ _ _ _) ⟨w7.heap.size,0,none⟩ 2 2 [.pointer ao1,.pointer ao7] rfl rfl ?news ?one (by omega) ?mm ?bys ?base (w7.heap.size+1) (by simp) ?rest))
  case news=>exact World.news_of_block (heap_alloc_new w7 _)
  case one=>intro u hu;simp at hu;rcases hu with rfl|rfl<;>rfl
  case mm=>unfold maxLen;omega
  case bys=>omega
  case base=>have:=hs2.size;simp;omega
  case rest=>
   intro gb cap w8 hown hgrow hat8 hlt2
   have hat8:gb=w7.heap.size+1:=by
    rcases hat8 with q|q
    ·simp [Value.ownBlock] at q
    ·exact q
   have hgrow:(w7.alloc (.cells #[.pointer ao1,.pointer ao7] 89)).grownBy w8 none:=hgrow
   have hown:w8.ownsRow w1.heap.size 89 1 (.slice (some ⟨gb,0,none⟩) 2 cap) 2 [.pointer ao1,.pointer ao7]:=hown
   have hfin:=pair_fin (g:=w2.heap.size) (at_:=st1.at_) (op:=⟨#[33,61]⟩) (st:=st) (st1:=st1) hF01 HT1.out ((hF12.trans HX.out.1).trans HX.out.2.1) (Nat.le_of_eq hs2.size.symm) hn1 hg7 hb7 HX.out.2.2.1 HX.out.2.2.2.1 (fun _=>HBD.out) HEX.out HX.out.2.2.2.2 hB6.out hown hgrow hat8
   have HF:=hide hfin
   have e1':w8.heap[w2.heap.size]?=w7.heap[w2.heap.size]?:=(hgrow.block _ (by simp;omega) (by simp)).trans (Below.heap_alloc _ _ _ (by omega))
   have z1:=(World.cell?_of_block (w:=w7) (a:=⟨w2.heap.size,3,none⟩) e1').trans d3
   have z2:=(World.frozen?_of_block (w:=w7) (a:=⟨w2.heap.size,3,none⟩) e1').trans (df 3)
   clear hfin hgrow hown hat8 d0 d1 d2 d3 df e1'
   go_wp2_with fail
   go_ret
   exact HF.out
 ·obtain⟨hbd,hat⟩:=pk_good e1 (by omega)
  have hv:hereM s st1.at_ st1.bad=61:=by have h:=(hereM_eq (s:=s) (a:=st1.at_) (d:=st1.bad) (c:=61) (by omega)).trans e1;simpa using h
  rw [hv]
  have hch:s[st1.at_]=61:=by
   have h:pk s st1.at_ st1.bad=61:=by simpa using e1
   rw [hbd] at h
   have h2:(s[st1.at_].toNat:Int)=61:=by simpa [pk,hat] using h
   exact UInt8.toNat_inj.1 (by simpa using (by omega:s[st1.at_].toNat=61))
  have hconv: ∀A:Obj,Sem.run Tryz.prog (convert 142 9 (.slice (some ⟨w2.heap.size+1,0,none⟩) 1 1)) (((w2.drewN n3).alloc A).alloc (.cells #[.int .u8 61] 5))= .ok (.string ⟨#[61]⟩) (((w2.drewN n3).alloc A).alloc (.cells #[.int .u8 61] 5)):=fun A=>conv2 (w2.drewN n3) A 61 61 rfl
  have hRa:Rd ((w2.drewN n3).alloc (.cells #[.string ⟨#[]⟩,.string ⟨#[]⟩,.int .i64 st1.at_,.slice none 0 0] 138)) b s st1.at_ st1.bad:=(hR2.drewN n3).other (Below.heap_alloc _ _ _ (by simpa [World.drewN] using hb2))
  have hRs:=(hRa.setAt' (st1.at_+1) (st1.at_+1) (by omega) hat).other (w':=(((w2.drewN n3).alloc (.cells #[.string ⟨#[]⟩,.string ⟨#[]⟩,.int .i64 st1.at_,.slice none 0 0] 138)).setCell ⟨b,1,none⟩ (.int .i64 (st1.at_+1))).alloc (.cells #[.int .u8 61] 5)) (Below.heap_alloc _ _ _ (by simp [World.drewN,World.setCell];omega))
  have hgW:((((w2.drewN n3).alloc (.cells #[.string ⟨#[]⟩,.string ⟨#[]⟩,.int .i64 st1.at_,.slice none 0 0] 138)).setCell ⟨b,1,none⟩ (.int .i64 (st1.at_+1))).alloc (.cells #[.int .u8 61] 5)).heap[w2.heap.size]?=some (.cells #[.string ⟨#[]⟩,.string ⟨#[]⟩,.int .i64 st1.at_,.slice none 0 0] 138):=by
   rw [Below.heap_alloc _ _ _ (by simp [World.drewN,World.setCell]),Below.heap_setCell _ _ _ _ hn1]
   exact heap_alloc_new (w2.drewN n3) _
  have hFW:Rf b w2 ((((w2.drewN n3).alloc (.cells #[.string ⟨#[]⟩,.string ⟨#[]⟩,.int .i64 st1.at_,.slice none 0 0] 138)).setCell ⟨b,1,none⟩ (.int .i64 (st1.at_+1))).alloc (.cells #[.int .u8 61] 5)):=(((((Rf.refl b w2).drewN n3).alloc _).setB 1 _).alloc _)
  have hzW:((((w2.drewN n3).alloc (.cells #[.string ⟨#[]⟩,.string ⟨#[]⟩,.int .i64 st1.at_,.slice none 0 0] 138)).setCell ⟨b,1,none⟩ (.int .i64 (st1.at_+1))).alloc (.cells #[.int .u8 61] 5)).heap.size=w2.heap.size+2:=by simp [World.drewN,World.setCell]
  have hcm:=comparingM_eq hat (by rw [←hbd];simp only [e1];simp)
  rw [hch] at hcm
  rw [hbd] at h2 hRs e1 e2 e3 e4
  rw [hcm,e1,e2] at h2
  have HW:=hide (And.intro hRs (And.intro hgW (And.intro hFW hzW)))
  have HBD:=hide hbd
  clear hcm hRs hgW hFW hzW hbd hch hRa hv
  simp only [Bool.true_or,Bool.or_true,Bool.false_or,if_true] at h2
  rw [if_neg (by decide)] at h2
  obtain⟨⟨r2,st2⟩,h3,h4⟩:=Option.bind_eq_some_iff.1 h2
  obtain⟨hl,h6⟩:=addE_some h4
  cases h6
  have HH:=hide h3
  have HEX:Hid (ExtE st1 st2):=hide (M_ext s _ _ _ _ _ h3)
  clear h2 h3 h4
  go_wp2_with fail
  refine(eat_any b (st1.at_+1) s _ false _ (by first|exact HW.out.1|exact HW.out.1.drewN _) (by decide)).mono ?_
  rintro e w5 ⟨rfl,hR5,hs5⟩
  have hz5:(w5).heap.size=w2.heap.size+2:=hs5.size.trans HW.out.2.2.2
  have hg5:(w5).heap[w2.heap.size]?=some (.cells #[.string ⟨#[]⟩,.string ⟨#[]⟩,.int .i64 st1.at_,.slice none 0 0] 138):=(hs5.block w2.heap.size hn1).trans HW.out.2.1
  obtain⟨y0,y1,y2,y3,yf⟩:=box4' hg5
  have hF26:Rf b w2 ((w5).setCell ⟨w2.heap.size,0,none⟩ (.string ⟨#[61,61]⟩)):=(HW.out.2.2.1.trans hs5.rf).setCell (a:=⟨w2.heap.size,0,none⟩) (Nat.le_refl _) _
  have hg6:((w5).setCell ⟨w2.heap.size,0,none⟩ (.string ⟨#[61,61]⟩)).heap[w2.heap.size]?=some (.cells #[.string ⟨#[61,61]⟩,.string ⟨#[]⟩,.int .i64 st1.at_,.slice none 0 0] 138):=set0 hg5 _
  have hR6:=(hR5).other (w':=(w5).setCell ⟨w2.heap.size,0,none⟩ (.string ⟨#[61,61]⟩)) (Below.heap_setCell _ _ _ _ (by simp;omega))
  have hz6:((w5).setCell ⟨w2.heap.size,0,none⟩ (.string ⟨#[61,61]⟩)).heap.size=w2.heap.size+2:=by simpa [World.setCell] using hz5
  have hB6:Hid (w2.heap.size<((w5).setCell ⟨w2.heap.size,0,none⟩ (.string ⟨#[61,61]⟩)).heap.size):=hide (by omega)
  clear hs5 hR5 hg5
  go_wp2_with fail
  refine(ih b _ _ _ r2 st2 HH.out hR6 rfl).mono ?_
  rintro e w7 ⟨ao7,p7,rfl,hR7,hF7,hp7,ht7⟩
  have hg7:w7.heap[w2.heap.size]?=some (.cells #[.string ⟨#[61,61]⟩,.string ⟨#[]⟩,.int .i64 st1.at_,.slice none 0 0] 138):=(hF7.block w2.heap.size (by omega) (by omega)).trans hg6
  obtain⟨d0,d1,d2,d3,df⟩:=box4' hg7
  have hb7:b<w7.heap.size:=block_lt_of_cell hR7.c0
  have hz7:=hF7.size
  have hlt7:w2.heap.size<w7.heap.size:=(Array.getElem?_eq_some_iff.1 hg7).1
  obtain⟨i0,hi,hz0,hz1,hz2⟩:=info_parts info89
  have HX:=hide (And.intro hF26 (And.intro hF7 (And.intro hR7 (And.intro hp7 ht7))))
  clear hp7 ht7 hF7 hR7 hR6 hF26 hg6 hcz hfz hconv
  go_wp2_with (at_builtin;go_must (refine wpList_append_lies _ rfl (.tmp 97) (.tmp 100) 136 rfl (w1.heap.size) 89 i0 _ 1 8 Tryz.underlying136 hi hz0 hz1 hz2 rfl (by omega) (.slice none 0 0) 0 [] rfl (World.ownsRow_nil _ _ _ _) ⟨w7.heap.size,0,none⟩ 2 2 [.pointer ao1,.pointer ao7] rfl rfl ?news ?one (by omega) ?mm ?bys ?base (w7.heap.size+1) (by simp) ?rest))
  case news=>exact World.news_of_block (heap_alloc_new w7 _)
  case one=>intro u hu;simp at hu;rcases hu with rfl|rfl<;>rfl
  case mm=>unfold maxLen;omega
  case bys=>omega
  case base=>have:=hs2.size;simp;omega
  case rest=>
   intro gb cap w8 hown hgrow hat8 hlt2
   have hat8:gb=w7.heap.size+1:=by
    rcases hat8 with q|q
    ·simp [Value.ownBlock] at q
    ·exact q
   have hgrow:(w7.alloc (.cells #[.pointer ao1,.pointer ao7] 89)).grownBy w8 none:=hgrow
   have hown:w8.ownsRow w1.heap.size 89 1 (.slice (some ⟨gb,0,none⟩) 2 cap) 2 [.pointer ao1,.pointer ao7]:=hown
   have hfin:=pair_fin (g:=w2.heap.size) (at_:=st1.at_) (op:=⟨#[61,61]⟩) (st:=st) (st1:=st1) hF01 HT1.out ((hF12.trans HX.out.1).trans HX.out.2.1) (Nat.le_of_eq hs2.size.symm) hn1 hg7 hb7 HX.out.2.2.1 HX.out.2.2.2.1 (fun _=>HBD.out) HEX.out HX.out.2.2.2.2 hB6.out hown hgrow hat8
   have HF:=hide hfin
   have e1':w8.heap[w2.heap.size]?=w7.heap[w2.heap.size]?:=(hgrow.block _ (by simp;omega) (by simp)).trans (Below.heap_alloc _ _ _ (by omega))
   have z1:=(World.cell?_of_block (w:=w7) (a:=⟨w2.heap.size,3,none⟩) e1').trans d3
   have z2:=(World.frozen?_of_block (w:=w7) (a:=⟨w2.heap.size,3,none⟩) e1').trans (df 3)
   clear hfin hgrow hown hat8 d0 d1 d2 d3 df e1'
   go_wp2_with fail
   go_ret
   exact HF.out
theorem nameM_of (s:ByteArray)(a:Nat)(d:Bool):nameM s a d=(skip s (nameR s a d).1 (nameR s a d).2.1,(nameR s a d).2.1,(nameR s a d).2.2):=by
 unfold nameM tokM nameR
 simp only
 split
 ·simp [skip_bad]
 ·rfl
theorem leaf_fin {b g:Nat}{w W:World}{s:ByteArray}{st:St}{p:Nat}{c:Nat×Bool×ByteArray}{op tx:ByteArray}{form a:Int}
  (hF:Rf b w W) (hg:w.heap.size≤g) (hgb:g≠b) (hW:W.heap[g]?=some (.cells #[.string op,.string tx,.int .i64 a,.slice none 0 0] 138)) (hR:Rd W b s p c.2.1) (hp:skip s p c.2.1=c.1)
  (hf:c.2.1=false→(form=0∧op=sNum∨form=1∧op=sStr∨form=2∧(tx.data.toList=[116,114,117,101]∨tx.data.toList=[102,97,108,115,101])∧op=tx∨form=3∧op=sAttr∨form=4∧op=sAt)∧tx=c.2.2):
  RPost b s st {(st.put3 c) with E:=(st.put3 c).E++[⟨form,st.at_,c.2.2,-1,-1⟩]} (st.put3 c).E.length w (.returned (.pointer (some ⟨g,0,none⟩))) W:=by
 refine⟨_,p,rfl,hR,hF,hp,fun hb=> ?_⟩
 obtain⟨h1,h2⟩:=hf hb
 have hnode:Node b w.heap.size W (.pointer (some ⟨g,0,none⟩)) op tx a []:=⟨g,_,rfl,hgb,hg,hW,World.ownsRow_nil _ _ _ _,by simp [Value.ownBlock]⟩
 rw [h2] at hnode h1
 refine⟨1,st.E.length,rfl,by simp [St.put3],⟨form,st.at_,c.2.2,-1,-1⟩,by simp [St.put3],?_⟩
 rcases h1 with⟨e1,e2⟩|⟨e1,e2⟩|⟨e1,e3,e2⟩|⟨e1,e2⟩|⟨e1,e2⟩
 ·exact .inl ⟨e1,rfl,a,e2▸hnode⟩
 ·exact .inr (.inl ⟨e1,rfl,a,e2▸hnode⟩)
 ·exact .inr (.inr (.inl ⟨e1,rfl,e3,a,e2▸hnode⟩))
 ·exact .inr (.inr (.inr (.inl ⟨e1,rfl,a,e2▸hnode⟩)))
 ·exact .inr (.inr (.inr (.inr (.inl ⟨e1,rfl,a,e2▸hnode⟩))))
theorem set1 {w:World}{g:Nat}{a b c d:Value}{t:TypeId}(h:w.heap[g]?=some (.cells #[a,b,c,d] t))(v:Value):(w.setCell ⟨g,1,none⟩ v).heap[g]?=some (.cells #[a,v,c,d] t):=by
 simp only [World.setCell,Array.getElem?_modify,if_true]
 rw [h]
 rfl
theorem one_name (s:ByteArray)(n:Nat)(b:Nat)(st:St)(w:World)(p:Nat)(r:Int)(st':St)(hM:M s (n+1) 7 0 st=some (r,st'))(hR:Rd w b s p st.bad)(hp:skip s p st.bad=st.at_)
  (h1:isDigit (pkS s st)=false) (h2:(pkS s st==34)=false) (h3:(pkS s st==64)=false) (h4:(pkS s st==40)=false):
  Calls Tryz.prog 139 #[.pointer (some ⟨b,0,none⟩)] w fun e w'=>RPost b s st st' r w e w':=by
 rw [M_7,h1,if_neg (by decide),h2,if_neg (by decide),h3,if_neg (by decide),h4,if_neg (by decide)] at hM
 simp only at hM
 have hnm:=nameM_of s st.at_ st.bad
 have hbl:=blanksR_any b p s st.bad w hR
 rw [hp] at hbl
 have HBL:=hide hbl
 have t1:isDigit (hereM s st.at_ st.bad)=false:=(hereM_digit _ _ _).trans h1
 have t2:(hereM s st.at_ st.bad==34)=false:=(hereM_eq (by omega)).trans h2
 have t3:(hereM s st.at_ st.bad==64)=false:=(hereM_eq (by omega)).trans h3
 have t4:(hereM s st.at_ st.bad==40)=false:=(hereM_eq (by omega)).trans h4
 have HMh:=hide hM
 have HNM:=hide hnm
 clear hM hnm hbl hp h1 h2 h3 h4
 go_enter Tryz.func139,Tryz.ntmps139
 go_wp2_with fail
 refine HBL.out.mono ?_
 rintro e w1 ⟨rfl,hR1,hs1⟩
 obtain⟨c0,c1,c2,f1,f2,_,_⟩:=id hR1
 have hb1:b<w1.heap.size:=block_lt_of_cell hR1.c0
 have hRa:Rd (w1.alloc (.cells #[.string ⟨#[]⟩,.string ⟨#[]⟩,.int .i64 st.at_,.slice none 0 0] 138)) b s st.at_ st.bad:=hR1.other (Below.heap_alloc _ _ _ hb1)
 have hga:=heap_alloc_new w1 (.cells #[.string ⟨#[]⟩,.string ⟨#[]⟩,.int .i64 st.at_,.slice none 0 0] 138)
 have hFa:Rf b w (w1.alloc (.cells #[.string ⟨#[]⟩,.string ⟨#[]⟩,.int .i64 st.at_,.slice none 0 0] 138)):=hs1.rf.alloc _
 have hz1:w.heap.size=w1.heap.size:=hs1.size.symm
 have HA:=hide (And.intro hRa (And.intro hga (And.intro hFa hz1)))
 clear hRa hga hFa hz1 hs1 hR
 go_wp2_with fail
 refine(here_any b st.at_ s st.bad _ HA.out.1).mono ?_
 rintro e w2 ⟨rfl,n2,rfl⟩
 go_wp2_with fail
 refine(digit_any _ _ (hereM_range _ _ _)).mono ?_
 rintro e w2 ⟨rfl,rfl⟩
 rw [t1]
 go_wp2_with fail
 have hR2:Rd (((w1.alloc (.cells #[.string ⟨#[]⟩,.string ⟨#[]⟩,.int .i64 st.at_,.slice none 0 0] 138)).drewN n2).setCell ⟨w1.heap.size,0,none⟩ (.string ⟨#[97,116,116,114]⟩)) b s st.at_ st.bad:=(HA.out.1.drewN n2).other (Below.heap_setCell _ _ _ _ (by simp;omega))
 refine(nameR_any b st.at_ s st.bad _ hR2).mono ?_
 rintro e w3 ⟨rfl,hR3,hs3⟩
 have hg3:w3.heap[w1.heap.size]?=some (.cells #[.string ⟨#[97,116,116,114]⟩,.string ⟨#[]⟩,.int .i64 st.at_,.slice none 0 0] 138):=(hs3.block w1.heap.size (by omega)).trans (set0 HA.out.2.1 _)
 have hF3:Rf b w w3:=((HA.out.2.2.1.drewN n2).setCell (a:=⟨w1.heap.size,0,none⟩) (by rw [HA.out.2.2.2];exact Nat.le_refl _) _).trans hs3.rf
 obtain⟨y0,y1,y2,y3,yf⟩:=box4' hg3
 have hM:=HMh.out
 rw [HNM.out] at hM
 have hge:w.heap.size≤w1.heap.size:=Nat.le_of_eq HA.out.2.2.2
 clear HMh HNM HA HBL hR2 hs3 t1 t2 t3 t4 c0 c1 c2 f1 f2 hR1
 generalize nameR s st.at_ st.bad=q at*
 obtain⟨qp,qd,qt⟩:=q
 have hR3:Rd w3 b s qp qd:=hR3
 simp only at hM
 have hR4:=hR3.other (w':=w3.setCell ⟨w1.heap.size,1,none⟩ (.string qt)) (Below.heap_setCell _ _ _ _ (by simp;omega))
 have hg4:=set1 hg3 (.string qt)
 have hF4:=hF3.setCell (a:=⟨w1.heap.size,1,none⟩) hge (.string qt)
 cases ht:(qt.data.toList==[116,114,117,101])
 ·cases hf:(qt.data.toList==[102,97,108,115,101])
  ·rw [ht,hf,if_neg (by decide)] at hM
   obtain⟨hl,h6⟩:=addE_some hM
   cases h6
   obtain⟨m1,m1'⟩:=eqs_no ht
   obtain⟨m2,m2'⟩:=eqs_no hf
   have HF:=hide (leaf_fin (st:=st) (c:=(skip s qp qd,qd,qt)) (form:=3) hF4 hge (by omega) hg4 hR4 rfl (fun _=>⟨.inr (.inr (.inr (.inl ⟨rfl,rfl⟩))),rfl⟩))
   clear hM ht hf hF3 hF4 hR3 hR4 hg3 hg4
   go_wp2_with fail
   go_ret
   exact HF.out
  ·rw [ht,hf,if_pos (by decide)] at hM
   obtain⟨hl,h6⟩:=addE_some hM
   cases h6
   have m1:=eqs_yes hf
   have hg5:=set0 hg4 (.string qt)
   have hR5:=hR4.other (w':=(w3.setCell ⟨w1.heap.size,1,none⟩ (.string qt)).setCell ⟨w1.heap.size,0,none⟩ (.string qt)) (Below.heap_setCell _ _ _ _ (by simp;omega))
   have hF5:=hF4.setCell (a:=⟨w1.heap.size,0,none⟩) hge (.string qt)
   have HF:=hide (leaf_fin (st:=st) (c:=(skip s qp qd,qd,qt)) (form:=2) hF5 hge (by omega) hg5 hR5 rfl (fun _=>⟨.inr (.inr (.inl ⟨rfl,.inr (by simpa using hf),rfl⟩)),rfl⟩))
   clear hM ht hf hF3 hF4 hR3 hR4 hg3 hg4 hF5 hR5 hg5
   go_wp2_with fail
   go_ret
   exact HF.out
 ·rw [ht] at hM
  rw [if_pos (by simp)] at hM
  obtain⟨hl,h6⟩:=addE_some hM
  cases h6
  have m1:=eqs_yes ht
  have hg5:=set0 hg4 (.string qt)
  have hR5:=hR4.other (w':=(w3.setCell ⟨w1.heap.size,1,none⟩ (.string qt)).setCell ⟨w1.heap.size,0,none⟩ (.string qt)) (Below.heap_setCell _ _ _ _ (by simp;omega))
  have hF5:=hF4.setCell (a:=⟨w1.heap.size,0,none⟩) hge (.string qt)
  have HF:=hide (leaf_fin (st:=st) (c:=(skip s qp qd,qd,qt)) (form:=2) hF5 hge (by omega) hg5 hR5 rfl (fun _=>⟨.inr (.inr (.inl ⟨rfl,.inl (by simpa using ht),rfl⟩)),rfl⟩))
  clear hM ht hF3 hF4 hR3 hR4 hg3 hg4 hF5 hR5 hg5
  go_wp2_with fail
  go_ret
  exact HF.out
theorem one_paren (s:ByteArray)(n:Nat)(b:Nat)(st:St)(w:World)(p:Nat)(r:Int)(st':St)(hM:M s (n+1) 7 0 st=some (r,st'))(hR:Rd w b s p st.bad)(hp:skip s p st.bad=st.at_)
  (h1:isDigit (pkS s st)=false) (h4:(pkS s st==40)=true) (h2:(pkS s st==34)=false) (h3:(pkS s st==64)=false) (ih:OKR s 0 0 n):
  Calls Tryz.prog 139 #[.pointer (some ⟨b,0,none⟩)] w fun e w'=>RPost b s st st' r w e w':=by
 rw [M_7,h1,if_neg (by decide),h2,if_neg (by decide),h3,if_neg (by decide),h4,if_pos rfl] at hM
 obtain⟨⟨r2,st2⟩,hm2,hm3⟩:=Option.bind_eq_some_iff.1 hM
 simp only [Option.some.injEq,Prod.mk.injEq] at hm3
 obtain⟨rfl,rfl⟩:=hm3
 have hbl:=blanksR_any b p s st.bad w hR
 rw [hp] at hbl
 have HBL:=hide hbl
 have hv:hereM s st.at_ st.bad=40:=by simpa using (hereM_eq (s:=s) (a:=st.at_) (d:=st.bad) (c:=40) (by omega)).trans h4
 have HMh:=hide hm2
 clear hM hbl hp h1 h2 h3 h4 hm2
 go_enter Tryz.func139,Tryz.ntmps139
 go_wp2_with fail
 refine HBL.out.mono ?_
 rintro e w1 ⟨rfl,hR1,hs1⟩
 obtain⟨c0,c1,c2,f1,f2,_,_⟩:=id hR1
 have hb1:b<w1.heap.size:=block_lt_of_cell hR1.c0
 have hRa:Rd (w1.alloc (.cells #[.string ⟨#[]⟩,.string ⟨#[]⟩,.int .i64 st.at_,.slice none 0 0] 138)) b s st.at_ st.bad:=hR1.other (Below.heap_alloc _ _ _ hb1)
 have hga:=heap_alloc_new w1 (.cells #[.string ⟨#[]⟩,.string ⟨#[]⟩,.int .i64 st.at_,.slice none 0 0] 138)
 have hFa:Rf b w (w1.alloc (.cells #[.string ⟨#[]⟩,.string ⟨#[]⟩,.int .i64 st.at_,.slice none 0 0] 138)):=hs1.rf.alloc _
 have hz1:w.heap.size=w1.heap.size:=hs1.size.symm
 have HA:=hide (And.intro hRa (And.intro hga (And.intro hFa hz1)))
 clear hRa hga hFa hz1 hs1 hR
 go_wp2_with fail
 refine(here_any b st.at_ s st.bad _ HA.out.1).mono ?_
 rintro e w2 ⟨rfl,n2,rfl⟩
 rw [hv]
 go_wp2_with fail
 refine(eat_any b st.at_ s _ st.bad _ (by exact HA.out.1.drewN n2) (by decide)).mono ?_
 rintro e w3 ⟨rfl,hR3,hs3⟩
 have hF3:Rf b w w3:=(HA.out.2.2.1.drewN n2).trans hs3.rf
 go_wp2_with fail
 refine(ih b (sgn s [40] st) _ _ r2 st2 HMh.out hR3 rfl).mono ?_
 rintro e w4 ⟨ao4,p4,rfl,hR4,hF4,hp4,ht4⟩
 have HT4:=hide ht4
 have hb4:=blanksR_any b p4 s st2.bad w4 hR4
 rw [hp4] at hb4
 have HB4:=hide hb4
 clear ht4 hb4
 go_wp2_with fail
 refine HB4.out.mono ?_
 rintro e w5 ⟨rfl,hR5,hs5⟩
 go_wp2_with fail
 refine(eat_any b st2.at_ s _ st2.bad _ hR5 (by decide)).mono ?_
 rintro e w6 ⟨rfl,hR6,hs6⟩
 go_wp2_with fail
 go_ret
 refine⟨ao4,_,rfl,hR6,((hF3.trans hF4).trans hs5.rf).trans hs6.rf,rfl,fun hb=> ?_⟩
 have hb2:st2.bad=false:=by
  cases hq:st2.bad with
  |false=>rfl
  |true=>
   have h2:=(sgn_bad (s:=s) (c:=41) (cs:=[]) hq).1
   rw [h2] at hb
   cases hb
 obtain⟨f,i,q1,q2,q3⟩:=HT4.out hb2
 exact⟨f,i,q1,q2,((q3.low hF3.size).keep hs5.rf).keep hs6.rf⟩
theorem one_at (s:ByteArray)(n:Nat)(b:Nat)(st:St)(w:World)(p:Nat)(r:Int)(st':St)(hM:M s (n+1) 7 0 st=some (r,st'))(hR:Rd w b s p st.bad)(hp:skip s p st.bad=st.at_)
  (h1:isDigit (pkS s st)=false) (h2:(pkS s st==34)=false) (h3:(pkS s st==64)=true) (ih:OKR s 0 0 n):
  Calls Tryz.prog 139 #[.pointer (some ⟨b,0,none⟩)] w fun e w'=>RPost b s st st' r w e w':=by
 rw [M_7,h1,if_neg (by decide),h2,if_neg (by decide),h3,if_pos rfl] at hM
 simp only at hM
 obtain⟨hbd,hat⟩:=pk_good (s:=s) (a:=st.at_) (d:=st.bad) h3 (by omega)
 have hw:wrd s [64] st=st.put (st.at_+1,false):=by
  unfold wrd
  rw [hbd,wordM_cons_yes (by have h:=h3;unfold pkS at h;rw [hbd] at h;simpa using h)]
  rfl
 rw [hw] at hM
 have hbl:=blanksR_any b p s st.bad w hR
 rw [hp] at hbl
 have HBL:=hide hbl
 have hv:hereM s st.at_ st.bad=64:=by simpa using (hereM_eq (s:=s) (a:=st.at_) (d:=st.bad) (c:=64) (by omega)).trans h3
 have HMh:=hide hM
 have HNM:=hide (nameM_of s (st.at_+1) false)
 have HBD:=hide hbd
 clear hM hbl hp h1 h2 h3 hw hbd ih
 go_enter Tryz.func139,Tryz.ntmps139
 go_wp2_with fail
 refine HBL.out.mono ?_
 rintro e w1 ⟨rfl,hR1,hs1⟩
 obtain⟨c0,c1,c2,f1,f2,_,_⟩:=id hR1
 have hb1:b<w1.heap.size:=block_lt_of_cell hR1.c0
 have hRa:Rd (w1.alloc (.cells #[.string ⟨#[]⟩,.string ⟨#[]⟩,.int .i64 st.at_,.slice none 0 0] 138)) b s st.at_ st.bad:=hR1.other (Below.heap_alloc _ _ _ hb1)
 have hga:=heap_alloc_new w1 (.cells #[.string ⟨#[]⟩,.string ⟨#[]⟩,.int .i64 st.at_,.slice none 0 0] 138)
 have hFa:Rf b w (w1.alloc (.cells #[.string ⟨#[]⟩,.string ⟨#[]⟩,.int .i64 st.at_,.slice none 0 0] 138)):=hs1.rf.alloc _
 have hz1:w.heap.size=w1.heap.size:=hs1.size.symm
 have HA:=hide (And.intro hRa (And.intro hga (And.intro hFa hz1)))
 clear hRa hga hFa hz1 hs1 hR
 go_wp2_with fail
 refine(here_any b st.at_ s st.bad _ HA.out.1).mono ?_
 rintro e w2 ⟨rfl,n2,rfl⟩
 rw [hv]
 have hfz: ∀o:Obj,(w1.alloc o).frozen? ⟨b,1,none⟩=false:=fun o=>(World.frozen?_of_block (w:=w1) (Below.heap_alloc _ _ _ hb1)).trans f1
 have hcz: ∀o:Obj,(w1.alloc o).cell? ⟨b,1,none⟩=some (.int .i64 st.at_):=fun o=>(World.cell?_of_block (w:=w1) (Below.heap_alloc _ _ _ hb1)).trans c1
 have hnb:w1.heap.size≠b:=by omega
 go_wp2_with fail
 refine(digit_any _ _ (by omega)).mono ?_
 rintro e w2 ⟨rfl,rfl⟩
 rw [show isDigit 64=false by decide]
 go_wp2_with fail
 have hR2:Rd (((w1.alloc (.cells #[.string ⟨#[]⟩,.string ⟨#[]⟩,.int .i64 st.at_,.slice none 0 0] 138)).drewN n2).setCell ⟨w1.heap.size,0,none⟩ (.string ⟨#[97,116]⟩)) b s st.at_ st.bad:=(HA.out.1.drewN n2).other (Below.heap_setCell _ _ _ _ (by simp;omega))
 have hR2':=hR2.setAt' (st.at_+1) (st.at_+1) (by omega) hat
 rw [HBD.out] at hR2'
 refine(nameR_any b (st.at_+1) s false _ hR2').mono ?_
 rintro e w3 ⟨rfl,hR3,hs3⟩
 have hg3:w3.heap[w1.heap.size]?=some (.cells #[.string ⟨#[97,116]⟩,.string ⟨#[]⟩,.int .i64 st.at_,.slice none 0 0] 138):=(hs3.block w1.heap.size hnb).trans ((Below.heap_setCell _ _ _ _ hnb).trans (set0 HA.out.2.1 _))
 have hF3:Rf b w w3:=(((HA.out.2.2.1.drewN n2).setCell (a:=⟨w1.heap.size,0,none⟩) (by rw [HA.out.2.2.2];exact Nat.le_refl _) _).setB 1 _).trans hs3.rf
 obtain⟨y0,y1,y2,y3,yf⟩:=box4' hg3
 have hM:addE (st.put3 (nameM s (st.at_+1) false)) ⟨4,st.at_,(nameM s (st.at_+1) false).2.2,-1,-1⟩=some (r,st'):=HMh.out
 rw [HNM.out] at hM
 have hge:w.heap.size≤w1.heap.size:=Nat.le_of_eq HA.out.2.2.2
 clear HMh HNM HA HBL hR2 hR2' hs3 c0 c1 c2 f1 f2 hR1 hfz hcz
 generalize nameR s (st.at_+1) false=q at*
 obtain⟨qp,qd,qt⟩:=q
 have hR3:Rd w3 b s qp qd:=hR3
 obtain⟨hl,h6⟩:=addE_some hM
 cases h6
 have hR4:=hR3.other (w':=w3.setCell ⟨w1.heap.size,1,none⟩ (.string qt)) (Below.heap_setCell _ _ _ _ (by simp;omega))
 have hg4:=set1 hg3 (.string qt)
 have hF4:=hF3.setCell (a:=⟨w1.heap.size,1,none⟩) hge (.string qt)
 have HF:=hide (leaf_fin (st:=st) (c:=(skip s qp qd,qd,qt)) (form:=4) hF4 hge hnb hg4 hR4 rfl (fun _=>⟨.inr (.inr (.inr (.inr ⟨rfl,rfl⟩))),rfl⟩))
 clear hM hF3 hF4 hR3 hR4 hg3 hg4
 go_wp2_with fail
 go_ret
 exact HF.out
end Go.Proofs.YtkoohcilbpdgeaaGreatDoor
