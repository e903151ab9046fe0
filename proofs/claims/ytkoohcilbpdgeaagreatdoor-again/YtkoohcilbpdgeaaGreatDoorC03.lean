import Derived.BigRegion
import Derived.Test.YtkoohcilbpdgeaaGreatDoorC02
set_option linter.all false
set_option linter.unusedVariables false
set_option linter.unusedSimpArgs false
set_option linter.unnecessarySimpa false
set_option linter.constructorNameAsVariable false
set_option linter.deprecated false
set_option maxRecDepth 100000
set_option maxHeartbeats 6400000
namespace Go.Proofs.YtkoohcilbpdgeaaGreatDoor
open Go Go.RowKit
attribute [local go_sem] wrap64_byte
theorem zeB (W:World)(g:Nat)(n:Int)(h:W.cell? ⟨g,0,none⟩=some (.int .u8 n)):Sem.run Tryz.prog (convert 142 9 (.slice (some ⟨g,0,none⟩) 1 1)) W= .ok (.string ⟨#[UInt8.ofNat n.toNat]⟩) W:=by
 rw [run_convert_bytes_string W 142 9 5 _ _ _ Tryz.underlying142 Tryz.underlying5 Tryz.underlying9]
 rw [run_bytesToString W ⟨g,0,none⟩ 1 1 [n] (by simp [loadCells,loadCellsFrom,go_sem,h])]
 rfl
theorem zb5 (W:World)(A:Obj)(c:UInt8)(n:Int)(hn:n=(c.toNat:Int)):Sem.run Tryz.prog (convert 142 9 (.slice (some ⟨W.heap.size+1,0,none⟩) 1 1)) ((W.alloc A).alloc (.cells #[.int .u8 n] 5))= .ok (.string ⟨#[c]⟩) ((W.alloc A).alloc (.cells #[.int .u8 n] 5)):=by
 have h:=heap_alloc_new (W.alloc A) (.cells #[.int .u8 n] 5)
 rw [show(W.alloc A).heap.size=W.heap.size+1 by simp] at h
 rw [zeB _ _ n ((cell_of_row _ _ 0 _ _ _ h).trans rfl),hn]
 simp
theorem Rf.setB {b:Nat}{u w:World}(h:Rf b u w)(o:Nat)(v:Value):Rf b u (w.setCell ⟨b,o,none⟩ v):=
 ⟨h.os,h.tape,h.output,by simpa [World.setCell] using h.size,fun k hk hn=>(zgQ _ _ _ _ hn).trans (h.block k hk hn)⟩
theorem z7y {w:World}{g:Nat}{a b c d:Value}{t:TypeId}(h:w.heap[g]?=some (.cells #[a,b,c,d] t))(v:Value):(w.setCell ⟨g,0,none⟩ v).heap[g]?=some (.cells #[v,b,c,d] t):=by
 simp only [World.setCell,Array.getElem?_modify,if_true]
 rw [h]
 rfl
theorem z21 {s:zgS}{a:Nat}{d:Bool}{c:Int}(h:(pk s a d==c)=true)(hc:0<c):d=false∧a<s.size:=
 jT (by
   have:pk s a d=c:=by simpa using h
   omega)
theorem z5H (s:zgS)(n:Nat)(ihs:z8G s 92 2 n)(b:Nat)(st:St)(w:World)(p:Nat)(r:Int)(st':St)(hM:M s (n+1) 2 0 st=some (r,st'))(hR:Rd w b s p st.bad)(hp:skip s p st.bad=st.at_)(hc:(pkS s st !=33)=false):
  Calls Tryz.prog 92 #[.pointer (some ⟨b,0,none⟩)] w fun e w'=>z3i b s st st' r w e w':=by
 rw [M_2] at hM
 have hs1:=jH b p s 33 st.bad w hR
 rw [hp] at hs1
 have HS1:=z8 hs1
 have hple:=hR.le
 have hidem:Hid (skip s st.at_ st.bad=st.at_):=z8 (by have h:=jp s p st.bad hple;rw [hp] at h;exact h)
 clear hs1 hp hR
 rw [hc,if_neg (by decide)] at hM
 have hc2:(pk s st.at_ st.bad==((33:UInt8).toNat:Int))=true:=by simpa [pkS] using hc
 obtain⟨⟨r2,st2⟩,h2,h3⟩:=zgD.1 hM
 obtain⟨hl,h6⟩:=zj h3
 cases h6
 have HH:=z8 h2
 clear hM h2 h3
 obtain⟨i0,hi,hz0,hz1,hz2⟩:=info_parts info89
 go_enter Tryz.func92,Tryz.ntmps92
 go_wp2_with fail
 refine HS1.out.mono ?_
 rintro e w1 ⟨rfl,hR1,hsc1⟩
 rw [hc2]
 obtain⟨c0,c1,c2,f1,f2,_,_⟩:=id hR1
 have hbl:b<w1.heap.size:=zd hR1.c0
 have hRa:Rd (w1.alloc (.cells #[.string ⟨#[33]⟩,.string ⟨#[]⟩,.int .i64 st.at_,.slice none 0 0] 138)) b s st.at_ st.bad:=hR1.other (zgJ _ _ _ hbl)
 go_wp2_with fail
 refine(zN b st.at_ s _ st.bad _ hRa (by decide)).mono ?_
 rintro e w3 ⟨rfl,hR3,hs3⟩
 have hz3:w3.heap.size=w1.heap.size+1:=by have:=hs3.size;simpa using this
 go_wp2_with fail
 refine(ihs b (sgn s [33] st) _ _ r2 st2 HH.out hR3 rfl).mono ?_
 rintro e w4 ⟨ao4,p4,rfl,hR4,hF4,hp4,ht4⟩
 rw [hz3] at ht4
 have hF34:=hs3.rf.trans hF4
 have hg4:w4.heap[w1.heap.size]?=some (.cells #[.string ⟨#[33]⟩,.string ⟨#[]⟩,.int .i64 st.at_,.slice none 0 0] 138):=(hF34.block w1.heap.size (by simp) (by omega)).trans (heap_alloc_new w1 _)
 obtain⟨d0,d1,d2,d3,df⟩:=jN hg4
 have hz4:=hF34.size
 simp at hz4
 have HX:=z8 (zgI hsc1.rf (zgI hF34 (zgI hR4 (zgI hp4 ht4))))
 clear hp4 ht4 hF4 hs3 hR3 hRa hF34 hsc1 hR4
 go_wp2_with (at_builtin;go_must (refine wpList_append_lies _ rfl (.tmp 28) (.tmp 30) 136 rfl (w1.heap.size+1) 89 i0 _ 1 8 Tryz.underlying136 hi hz0 hz1 hz2 rfl (by omega) (.slice none 0 0) 0 [] rfl (World.ownsRow_nil _ _ _ _) ⟨w4.heap.size,0,none⟩ 1 1 [.pointer ao4] rfl rfl ?news ?one (by omega) ?mm ?bys ?base (w4.heap.size+1) (by simp) ?rest))
 case news=>exact World.news_of_block (heap_alloc_new w4 _)
 case one=>intro u hu;simp at hu;subst hu;rfl
 case mm=>unfold maxLen;omega
 case bys=>omega
 case base=>simp;omega
 case rest=>
  intro gb cap w5 hown hgrow hat hlt2
  have hat:gb=w4.heap.size+1:=by
   rcases hat with q|q
   ·simp [Value.ownBlock] at q
   ·exact q
  have hgrow:(w4.alloc (.cells #[.pointer ao4] 89)).grownBy w5 none:=hgrow
  have hfin:=z4r (tx:=⟨#[33]⟩) (op:=zct) (st:=st) (.inl ⟨rfl,rfl⟩) HX.out.1 hbl HX.out.2.1 HX.out.2.2.1 HX.out.2.2.2.1 HX.out.2.2.2.2 hown hgrow hat
  have HF:=z8 hfin
  have hcell5:w5.cell? ⟨w1.heap.size,3,none⟩=some (.slice none 0 0)∧w5.frozen? ⟨w1.heap.size,3,none⟩=false:=by
   have e1:w5.heap[w1.heap.size]?=w4.heap[w1.heap.size]?:=(hgrow.block _ (by simp;omega) (by simp)).trans (zgJ _ _ _ (by omega))
   exact⟨(World.cell?_of_block (w:=w4) e1).trans d3,(World.frozen?_of_block (w:=w4) e1).trans (df 3)⟩
  obtain⟨z1,z2⟩:=hcell5
  clear hfin hgrow hown hat d0 d1 d2 d3 df
  go_wp2_with fail
  go_ret
  exact HF.out
theorem z6e (s:zgS)(n:Nat)(ih:OKR s 3 4 n)(b:Nat)(st:St)(w:World)(p:Nat)(r:Int)(st':St)(hM:M s (n+1) 3 0 st=some (r,st'))(hR:Rd w b s p st.bad)(hp:skip s p st.bad=st.at_)(hc:(pkS s st !=33)=true):
  Calls Tryz.prog 92 #[.pointer (some ⟨b,0,none⟩)] w fun e w'=>z3i b s st st' r w e w':=by
 rw [M_3] at hM
 obtain⟨⟨l1,st1⟩,h1,h2⟩:=zgD.1 hM
 simp only at h2
 have hs1:=jH b p s 33 st.bad w hR
 rw [hp] at hs1
 have HS1:=z8 hs1
 have hple:=hR.le
 have hidem:Hid (skip s st.at_ st.bad=st.at_):=z8 (by have h:=jp s p st.bad hple;rw [hp] at h;exact h)
 have hc2:(pk s st.at_ st.bad==((33:UInt8).toNat:Int))=false:=by simpa [pkS] using hc
 have H1:=z8 h1
 have H2:=z8 h2
 clear hM h1 h2 hs1 hp hR
 go_enter Tryz.func92,Tryz.ntmps92
 go_wp2_with fail
 refine HS1.out.mono ?_
 rintro e w0 ⟨rfl,hR0,hsc0⟩
 rw [hc2]
 go_wp2_with fail
 refine(ih b st w0 st.at_ l1 st1 H1.out hR0 hidem.out).mono ?_
 rintro e w1 ⟨ao1,p1,rfl,hR1,hF1,hp1,ht1⟩
 rw [hsc0.size] at ht1
 have hbl:=zK b p1 s st1.bad w1 hR1
 rw [hp1] at hbl
 have hle1:=hR1.le
 have hid1:Hid (skip s st1.at_ st1.bad=st1.at_):=z8 (by have h:=jp s p1 st1.bad hle1;rw [hp1] at h;exact h)
 have HBL:=z8 hbl
 have HT1:=z8 ht1
 have hF01:=hsc0.rf.trans hF1
 clear hbl ht1 hF1 hsc0 hR0
 go_wp2_with fail
 refine HBL.out.mono ?_
 rintro e w2 ⟨rfl,hR2,hs2⟩
 obtain⟨c0,c1,c2,f1,f2,hle2,hsz2⟩:=id hR2
 have hF12:Rf b w1 w2:=hs2.rf
 go_wp2_with fail
 refine(zQ b st1.at_ s st1.bad w2 hR2).mono ?_
 rintro e w3 ⟨rfl,n3,rfl⟩
 have h2:=H2.out
 clear H2
 have hb2:b<w2.heap.size:=zd hR2.c0
 have hn1:w2.heap.size≠b:=by omega
 have hn2:w2.heap.size+1≠b:=by omega
 have hcz: ∀o q:Obj,(((w2.drewN n3).alloc o).alloc q).cell? ⟨b,1,none⟩=some (.int .i64 st1.at_):=fun o q=>(World.cell?_of_block (w:=w2.drewN n3) ((zgJ _ _ _ (by simp [World.drewN];omega)).trans (zgJ _ _ _ (by simpa [World.drewN] using hb2)))).trans c1
 have hfz: ∀o q:Obj,(((w2.drewN n3).alloc o).alloc q).frozen? ⟨b,1,none⟩=false:=fun o q=>(World.frozen?_of_block (w:=w2.drewN n3) ((zgJ _ _ _ (by simp [World.drewN];omega)).trans (zgJ _ _ _ (by simpa [World.drewN] using hb2)))).trans f1
 cases e1:(pk s st1.at_ st1.bad==61)
 all_goals cases e2:(pk s st1.at_ st1.bad==33)
 all_goals cases e3:(pk s st1.at_ st1.bad==60)
 all_goals cases e4:(pk s st1.at_ st1.bad==62)
 all_goals try(simp at e1 e2 e3 e4;omega)
 ·rw [z3y e1 e2 e3 e4,if_pos (show(((st1.at_,st1.bad,(⟨#[]⟩:zgS)).2.2.size==0)=true) from rfl)] at h2
  have h2:=Option.some.inj h2
  cases h2
  have t1:(jg s st1.at_ st1.bad !=61)=true:=by simp only [bne];rw [zV (by omega),e1];rfl
  have t2:(jg s st1.at_ st1.bad !=33)=true:=by simp only [bne];rw [zV (by omega),e2];rfl
  have t3:(jg s st1.at_ st1.bad !=60)=true:=by simp only [bne];rw [zV (by omega),e3];rfl
  have t4:(jg s st1.at_ st1.bad !=62)=true:=by simp only [bne];rw [zV (by omega),e4];rfl
  go_wp2_with fail
  go_ret
  refine⟨ao1,st1.at_,rfl,hR2.drewN _,(hF01.trans hF12).drewN _,hid1.out,fun hb=> ?_⟩
  obtain⟨f,i,q1,q2,q3⟩:=HT1.out hb
  exact⟨f,i,q1,q2,q3.keep (hF12.drewN _)⟩
 ·obtain⟨hbd,hat⟩:=z21 e4 (by omega)
  have hv:jg s st1.at_ st1.bad=62:=by have h:=(zV (s:=s) (a:=st1.at_) (d:=st1.bad) (c:=62) (by omega)).trans e4;simpa using h
  rw [hv]
  have hch:s[st1.at_]=62:=by
   have h:pk s st1.at_ st1.bad=62:=by simpa using e4
   rw [hbd] at h
   have h2:(s[st1.at_].toNat:Int)=62:=by simpa [pk,hat] using h
   exact UInt8.toNat_inj.1 (by simpa using (by omega:s[st1.at_].toNat=62))
  have hconv: ∀A:Obj,Sem.run Tryz.prog (convert 142 9 (.slice (some ⟨w2.heap.size+1,0,none⟩) 1 1)) (((w2.drewN n3).alloc A).alloc (.cells #[.int .u8 62] 5))= .ok (.string ⟨#[62]⟩) (((w2.drewN n3).alloc A).alloc (.cells #[.int .u8 62] 5)):=fun A=>zb5 (w2.drewN n3) A 62 62 rfl
  have hRa:Rd ((w2.drewN n3).alloc (.cells #[.string ⟨#[]⟩,.string ⟨#[]⟩,.int .i64 st1.at_,.slice none 0 0] 138)) b s st1.at_ st1.bad:=(hR2.drewN n3).other (zgJ _ _ _ (by simpa [World.drewN] using hb2))
  have hRs:=(hRa.setAt' (st1.at_+1) (st1.at_+1) (by omega) hat).other (w':=(((w2.drewN n3).alloc (.cells #[.string ⟨#[]⟩,.string ⟨#[]⟩,.int .i64 st1.at_,.slice none 0 0] 138)).setCell ⟨b,1,none⟩ (.int .i64 (st1.at_+1))).alloc (.cells #[.int .u8 62] 5)) (zgJ _ _ _ (by simp [World.drewN,World.setCell];omega))
  have hgW:((((w2.drewN n3).alloc (.cells #[.string ⟨#[]⟩,.string ⟨#[]⟩,.int .i64 st1.at_,.slice none 0 0] 138)).setCell ⟨b,1,none⟩ (.int .i64 (st1.at_+1))).alloc (.cells #[.int .u8 62] 5)).heap[w2.heap.size]?=some (.cells #[.string ⟨#[]⟩,.string ⟨#[]⟩,.int .i64 st1.at_,.slice none 0 0] 138):=by
   rw [zgJ _ _ _ (by simp [World.drewN,World.setCell]),zgQ _ _ _ _ hn1]
   exact heap_alloc_new (w2.drewN n3) _
  have hFW:Rf b w2 ((((w2.drewN n3).alloc (.cells #[.string ⟨#[]⟩,.string ⟨#[]⟩,.int .i64 st1.at_,.slice none 0 0] 138)).setCell ⟨b,1,none⟩ (.int .i64 (st1.at_+1))).alloc (.cells #[.int .u8 62] 5)):=(((((Rf.refl b w2).drewN n3).alloc _).setB 1 _).alloc _)
  have hzW:((((w2.drewN n3).alloc (.cells #[.string ⟨#[]⟩,.string ⟨#[]⟩,.int .i64 st1.at_,.slice none 0 0] 138)).setCell ⟨b,1,none⟩ (.int .i64 (st1.at_+1))).alloc (.cells #[.int .u8 62] 5)).heap.size=w2.heap.size+2:=by simp [World.drewN,World.setCell]
  have hcm:=z0r hat (by rw [←hbd];simp only [e4];simp)
  rw [hch] at hcm
  rw [hbd] at h2 hRs e1 e2 e3 e4
  rw [hcm,e1,e2] at h2
  have HW:=z8 (zgI hRs (zgI hgW (zgI hFW hzW)))
  have HBD:=z8 hbd
  clear hcm hRs hgW hFW hzW hbd hch hRa hv
  cases e5:(pk s (st1.at_+1) false==61)
  ·rw [e5] at h2
   simp only [Bool.or_false,Bool.false_eq_true,if_false] at h2
   rw [if_neg (by decide)] at h2
   have e6:(jg s (st1.at_+1) false==61)=false:=by rw [zV (by omega),e5]
   obtain⟨⟨r2,st2⟩,h3,h4⟩:=zgD.1 h2
   obtain⟨hl,h6⟩:=zj h4
   cases h6
   have HH:=z8 h3
   have HEX:Hid (ExtE st1 st2):=z8 (z1z s _ _ _ _ _ h3)
   clear h2 h3 h4
   have hw4:=HW.out.2.1
   go_wp2_with fail
   refine(zQ b (st1.at_+1) s false _ (by exact HW.out.1)).mono ?_
   rintro e w4 ⟨rfl,n4,rfl⟩
   have hz5:(((((w2.drewN n3).alloc (.cells #[.string ⟨#[]⟩,.string ⟨#[]⟩,.int .i64 st1.at_,.slice none 0 0] 138)).setCell ⟨b,1,none⟩ (.int .i64 (st1.at_+1))).alloc (.cells #[.int .u8 62] 5)).drewN n4).heap.size=w2.heap.size+2:=HW.out.2.2.2
   have hg5:(((((w2.drewN n3).alloc (.cells #[.string ⟨#[]⟩,.string ⟨#[]⟩,.int .i64 st1.at_,.slice none 0 0] 138)).setCell ⟨b,1,none⟩ (.int .i64 (st1.at_+1))).alloc (.cells #[.int .u8 62] 5)).drewN n4).heap[w2.heap.size]?=some (.cells #[.string ⟨#[]⟩,.string ⟨#[]⟩,.int .i64 st1.at_,.slice none 0 0] 138):=HW.out.2.1
   obtain⟨y0,y1,y2,y3,yf⟩:=jN hg5
   have hF26:Rf b w2 ((((((w2.drewN n3).alloc (.cells #[.string ⟨#[]⟩,.string ⟨#[]⟩,.int .i64 st1.at_,.slice none 0 0] 138)).setCell ⟨b,1,none⟩ (.int .i64 (st1.at_+1))).alloc (.cells #[.int .u8 62] 5)).drewN n4).setCell ⟨w2.heap.size,0,none⟩ (.string ⟨#[62]⟩)):=(HW.out.2.2.1.drewN n4).setCell (a:=⟨w2.heap.size,0,none⟩) (zgH _) _
   have hg6:((((((w2.drewN n3).alloc (.cells #[.string ⟨#[]⟩,.string ⟨#[]⟩,.int .i64 st1.at_,.slice none 0 0] 138)).setCell ⟨b,1,none⟩ (.int .i64 (st1.at_+1))).alloc (.cells #[.int .u8 62] 5)).drewN n4).setCell ⟨w2.heap.size,0,none⟩ (.string ⟨#[62]⟩)).heap[w2.heap.size]?=some (.cells #[.string ⟨#[62]⟩,.string ⟨#[]⟩,.int .i64 st1.at_,.slice none 0 0] 138):=z7y hg5 _
   have hR6:=(HW.out.1.drewN n4).other (w':=(((((w2.drewN n3).alloc (.cells #[.string ⟨#[]⟩,.string ⟨#[]⟩,.int .i64 st1.at_,.slice none 0 0] 138)).setCell ⟨b,1,none⟩ (.int .i64 (st1.at_+1))).alloc (.cells #[.int .u8 62] 5)).drewN n4).setCell ⟨w2.heap.size,0,none⟩ (.string ⟨#[62]⟩)) (zgQ _ _ _ _ (by simp;omega))
   have hz6:((((((w2.drewN n3).alloc (.cells #[.string ⟨#[]⟩,.string ⟨#[]⟩,.int .i64 st1.at_,.slice none 0 0] 138)).setCell ⟨b,1,none⟩ (.int .i64 (st1.at_+1))).alloc (.cells #[.int .u8 62] 5)).drewN n4).setCell ⟨w2.heap.size,0,none⟩ (.string ⟨#[62]⟩)).heap.size=w2.heap.size+2:=by simpa [World.setCell] using hz5
   have hB6:Hid (w2.heap.size<((((((w2.drewN n3).alloc (.cells #[.string ⟨#[]⟩,.string ⟨#[]⟩,.int .i64 st1.at_,.slice none 0 0] 138)).setCell ⟨b,1,none⟩ (.int .i64 (st1.at_+1))).alloc (.cells #[.int .u8 62] 5)).drewN n4).setCell ⟨w2.heap.size,0,none⟩ (.string ⟨#[62]⟩)).heap.size):=z8 (by omega)
   clear hg5 hw4
   go_wp2_with fail
   refine(ih b _ _ _ r2 st2 HH.out hR6 rfl).mono ?_
   rintro e w7 ⟨ao7,p7,rfl,hR7,hF7,hp7,ht7⟩
   have hg7:w7.heap[w2.heap.size]?=some (.cells #[.string ⟨#[62]⟩,.string ⟨#[]⟩,.int .i64 st1.at_,.slice none 0 0] 138):=(hF7.block w2.heap.size (by omega) (by omega)).trans hg6
   obtain⟨d0,d1,d2,d3,df⟩:=jN hg7
   have hb7:b<w7.heap.size:=zd hR7.c0
   have hz7:=hF7.size
   have hlt7:w2.heap.size<w7.heap.size:=(Array.getElem?_eq_some_iff.1 hg7).1
   obtain⟨i0,hi,hz0,hz1,hz2⟩:=info_parts info89
   have HX:=z8 (zgI hF26 (zgI hF7 (zgI hR7 (zgI hp7 ht7))))
   clear hp7 ht7 hF7 hR7 hR6 hF26 hg6 hcz hfz hconv
   go_wp2_with (at_builtin;go_must (refine wpList_append_lies _ rfl (.tmp 97) (.tmp 100) 136 rfl (w1.heap.size) 89 i0 _ 1 8 Tryz.underlying136 hi hz0 hz1 hz2 rfl (by omega) (.slice none 0 0) 0 [] rfl (World.ownsRow_nil _ _ _ _) ⟨w7.heap.size,0,none⟩ 2 2 [.pointer ao1,.pointer ao7] rfl rfl ?news ?one (by omega) ?mm ?bys ?base (w7.heap.size+1) (by simp) ?rest))
   case news=>exact World.news_of_block (heap_alloc_new w7 _)
   case one=>intro u hu;simp at hu;rcases hu with rfl|rfl<;>rfl
   case mm=>unfold maxLen;omega
   case bys=>omega
   case base=>have:=hs2.size;simp;omega
   case rest=>
    intro gb cap w8 hown hgrow hat8 hlt2
    have hat8:gb=w7.heap.size+1:=by
     rcases hat8 with q|q
     ·simp [Value.ownBlock] at q
     ·exact q
    have hgrow:(w7.alloc (.cells #[.pointer ao1,.pointer ao7] 89)).grownBy w8 none:=hgrow
    have hown:w8.ownsRow w1.heap.size 89 1 (.slice (some ⟨gb,0,none⟩) 2 cap) 2 [.pointer ao1,.pointer ao7]:=hown
    have hfin:=z1D (g:=w2.heap.size) (at_:=st1.at_) (op:=⟨#[62]⟩) (st:=st) (st1:=st1) hF01 HT1.out ((hF12.trans HX.out.1).trans HX.out.2.1) (Nat.le_of_eq hs2.size.symm) hn1 hg7 hb7 HX.out.2.2.1 HX.out.2.2.2.1 (fun _=>HBD.out) HEX.out HX.out.2.2.2.2 hB6.out hown hgrow hat8
    have HF:=z8 hfin
    have e1':w8.heap[w2.heap.size]?=w7.heap[w2.heap.size]?:=(hgrow.block _ (by simp;omega) (by simp)).trans (zgJ _ _ _ (by omega))
    have z1:=(World.cell?_of_block (w:=w7) (a:=⟨w2.heap.size,3,none⟩) e1').trans d3
    have z2:=(World.frozen?_of_block (w:=w7) (a:=⟨w2.heap.size,3,none⟩) e1').trans (df 3)
    clear hfin hgrow hown hat8 d0 d1 d2 d3 df e1'
    go_wp2_with fail
    go_ret
    exact HF.out
  ·rw [e5] at h2
   simp only [Bool.or_true,if_true] at h2
   rw [if_neg (by decide)] at h2
   have e6:(jg s (st1.at_+1) false==61)=true:=by rw [zV (by omega),e5]
   obtain⟨⟨r2,st2⟩,h3,h4⟩:=zgD.1 h2
   obtain⟨hl,h6⟩:=zj h4
   cases h6
   have HH:=z8 h3
   have HEX:Hid (ExtE st1 st2):=z8 (z1z s _ _ _ _ _ h3)
   clear h2 h3 h4
   go_wp2_with (go_at_call 96;refine(zQ b (st1.at_+1) s false _ (by exact HW.out.1)).mono ?_;rintro e w4 ⟨rfl,n4,rfl⟩)
   refine(zN b (st1.at_+1) s _ false _ (by first|exact HW.out.1|exact HW.out.1.drewN _) (by decide)).mono ?_
   rintro e w5 ⟨rfl,hR5,hs5⟩
   have hz5:(w5).heap.size=w2.heap.size+2:=hs5.size.trans HW.out.2.2.2
   have hg5:(w5).heap[w2.heap.size]?=some (.cells #[.string ⟨#[]⟩,.string ⟨#[]⟩,.int .i64 st1.at_,.slice none 0 0] 138):=(hs5.block w2.heap.size hn1).trans HW.out.2.1
   obtain⟨y0,y1,y2,y3,yf⟩:=jN hg5
   have hF26:Rf b w2 ((w5).setCell ⟨w2.heap.size,0,none⟩ (.string ⟨#[62,61]⟩)):=((HW.out.2.2.1.drewN n4).trans hs5.rf).setCell (a:=⟨w2.heap.size,0,none⟩) (zgH _) _
   have hg6:((w5).setCell ⟨w2.heap.size,0,none⟩ (.string ⟨#[62,61]⟩)).heap[w2.heap.size]?=some (.cells #[.string ⟨#[62,61]⟩,.string ⟨#[]⟩,.int .i64 st1.at_,.slice none 0 0] 138):=z7y hg5 _
   have hR6:=(hR5).other (w':=(w5).setCell ⟨w2.heap.size,0,none⟩ (.string ⟨#[62,61]⟩)) (zgQ _ _ _ _ (by simp;omega))
   have hz6:((w5).setCell ⟨w2.heap.size,0,none⟩ (.string ⟨#[62,61]⟩)).heap.size=w2.heap.size+2:=by simpa [World.setCell] using hz5
   have hB6:Hid (w2.heap.size<((w5).setCell ⟨w2.heap.size,0,none⟩ (.string ⟨#[62,61]⟩)).heap.size):=z8 (by omega)
   clear hs5 hR5 hg5
   go_wp2_with fail
   refine(ih b _ _ _ r2 st2 HH.out hR6 rfl).mono ?_
   rintro e w7 ⟨ao7,p7,rfl,hR7,hF7,hp7,ht7⟩
   have hg7:w7.heap[w2.heap.size]?=some (.cells #[.string ⟨#[62,61]⟩,.string ⟨#[]⟩,.int .i64 st1.at_,.slice none 0 0] 138):=(hF7.block w2.heap.size (by omega) (by omega)).trans hg6
   obtain⟨d0,d1,d2,d3,df⟩:=jN hg7
   have hb7:b<w7.heap.size:=zd hR7.c0
   have hz7:=hF7.size
   have hlt7:w2.heap.size<w7.heap.size:=(Array.getElem?_eq_some_iff.1 hg7).1
   obtain⟨i0,hi,hz0,hz1,hz2⟩:=info_parts info89
   have HX:=z8 (zgI hF26 (zgI hF7 (zgI hR7 (zgI hp7 ht7))))
   clear hp7 ht7 hF7 hR7 hR6 hF26 hg6 hcz hfz hconv
   go_wp2_with (at_builtin;go_must (refine wpList_append_lies _ rfl (.tmp 97) (.tmp 100) 136 rfl (w1.heap.size) 89 i0 _ 1 8 Tryz.underlying136 hi hz0 hz1 hz2 rfl (by omega) (.slice none 0 0) 0 [] rfl (World.ownsRow_nil _ _ _ _) ⟨w7.heap.size,0,none⟩ 2 2 [.pointer ao1,.pointer ao7] rfl rfl ?news ?one (by omega) ?mm ?bys ?base (w7.heap.size+1) (by simp) ?rest))
   case news=>exact World.news_of_block (heap_alloc_new w7 _)
   case one=>intro u hu;simp at hu;rcases hu with rfl|rfl<;>rfl
   case mm=>unfold maxLen;omega
   case bys=>omega
   case base=>have:=hs2.size;simp;omega
   case rest=>
    intro gb cap w8 hown hgrow hat8 hlt2
    have hat8:gb=w7.heap.size+1:=by
     rcases hat8 with q|q
     ·simp [Value.ownBlock] at q
     ·exact q
    have hgrow:(w7.alloc (.cells #[.pointer ao1,.pointer ao7] 89)).grownBy w8 none:=hgrow
    have hown:w8.ownsRow w1.heap.size 89 1 (.slice (some ⟨gb,0,none⟩) 2 cap) 2 [.pointer ao1,.pointer ao7]:=hown
    have hfin:=z1D (g:=w2.heap.size) (at_:=st1.at_) (op:=⟨#[62,61]⟩) (st:=st) (st1:=st1) hF01 HT1.out ((hF12.trans HX.out.1).trans HX.out.2.1) (Nat.le_of_eq hs2.size.symm) hn1 hg7 hb7 HX.out.2.2.1 HX.out.2.2.2.1 (fun _=>HBD.out) HEX.out HX.out.2.2.2.2 hB6.out hown hgrow hat8
    have HF:=z8 hfin
    have e1':w8.heap[w2.heap.size]?=w7.heap[w2.heap.size]?:=(hgrow.block _ (by simp;omega) (by simp)).trans (zgJ _ _ _ (by omega))
    have z1:=(World.cell?_of_block (w:=w7) (a:=⟨w2.heap.size,3,none⟩) e1').trans d3
    have z2:=(World.frozen?_of_block (w:=w7) (a:=⟨w2.heap.size,3,none⟩) e1').trans (df 3)
    clear hfin hgrow hown hat8 d0 d1 d2 d3 df e1'
    go_wp2_with fail
    go_ret
    exact HF.out
 ·obtain⟨hbd,hat⟩:=z21 e3 (by omega)
  have hv:jg s st1.at_ st1.bad=60:=by have h:=(zV (s:=s) (a:=st1.at_) (d:=st1.bad) (c:=60) (by omega)).trans e3;simpa using h
  rw [hv]
  have hch:s[st1.at_]=60:=by
   have h:pk s st1.at_ st1.bad=60:=by simpa using e3
   rw [hbd] at h
   have h2:(s[st1.at_].toNat:Int)=60:=by simpa [pk,hat] using h
   exact UInt8.toNat_inj.1 (by simpa using (by omega:s[st1.at_].toNat=60))
  have hconv: ∀A:Obj,Sem.run Tryz.prog (convert 142 9 (.slice (some ⟨w2.heap.size+1,0,none⟩) 1 1)) (((w2.drewN n3).alloc A).alloc (.cells #[.int .u8 60] 5))= .ok (.string ⟨#[60]⟩) (((w2.drewN n3).alloc A).alloc (.cells #[.int .u8 60] 5)):=fun A=>zb5 (w2.drewN n3) A 60 60 rfl
  have hRa:Rd ((w2.drewN n3).alloc (.cells #[.string ⟨#[]⟩,.string ⟨#[]⟩,.int .i64 st1.at_,.slice none 0 0] 138)) b s st1.at_ st1.bad:=(hR2.drewN n3).other (zgJ _ _ _ (by simpa [World.drewN] using hb2))
  have hRs:=(hRa.setAt' (st1.at_+1) (st1.at_+1) (by omega) hat).other (w':=(((w2.drewN n3).alloc (.cells #[.string ⟨#[]⟩,.string ⟨#[]⟩,.int .i64 st1.at_,.slice none 0 0] 138)).setCell ⟨b,1,none⟩ (.int .i64 (st1.at_+1))).alloc (.cells #[.int .u8 60] 5)) (zgJ _ _ _ (by simp [World.drewN,World.setCell];omega))
  have hgW:((((w2.drewN n3).alloc (.cells #[.string ⟨#[]⟩,.string ⟨#[]⟩,.int .i64 st1.at_,.slice none 0 0] 138)).setCell ⟨b,1,none⟩ (.int .i64 (st1.at_+1))).alloc (.cells #[.int .u8 60] 5)).heap[w2.heap.size]?=some (.cells #[.string ⟨#[]⟩,.string ⟨#[]⟩,.int .i64 st1.at_,.slice none 0 0] 138):=by
   rw [zgJ _ _ _ (by simp [World.drewN,World.setCell]),zgQ _ _ _ _ hn1]
   exact heap_alloc_new (w2.drewN n3) _
  have hFW:Rf b w2 ((((w2.drewN n3).alloc (.cells #[.string ⟨#[]⟩,.string ⟨#[]⟩,.int .i64 st1.at_,.slice none 0 0] 138)).setCell ⟨b,1,none⟩ (.int .i64 (st1.at_+1))).alloc (.cells #[.int .u8 60] 5)):=(((((Rf.refl b w2).drewN n3).alloc _).setB 1 _).alloc _)
  have hzW:((((w2.drewN n3).alloc (.cells #[.string ⟨#[]⟩,.string ⟨#[]⟩,.int .i64 st1.at_,.slice none 0 0] 138)).setCell ⟨b,1,none⟩ (.int .i64 (st1.at_+1))).alloc (.cells #[.int .u8 60] 5)).heap.size=w2.heap.size+2:=by simp [World.drewN,World.setCell]
  have hcm:=z0r hat (by rw [←hbd];simp only [e3];simp)
  rw [hch] at hcm
  rw [hbd] at h2 hRs e1 e2 e3 e4
  rw [hcm,e1,e2] at h2
  have HW:=z8 (zgI hRs (zgI hgW (zgI hFW hzW)))
  have HBD:=z8 hbd
  clear hcm hRs hgW hFW hzW hbd hch hRa hv
  cases e5:(pk s (st1.at_+1) false==61)
  ·rw [e5] at h2
   simp only [Bool.or_false,Bool.false_eq_true,if_false] at h2
   rw [if_neg (by decide)] at h2
   have e6:(jg s (st1.at_+1) false==61)=false:=by rw [zV (by omega),e5]
   obtain⟨⟨r2,st2⟩,h3,h4⟩:=zgD.1 h2
   obtain⟨hl,h6⟩:=zj h4
   cases h6
   have HH:=z8 h3
   have HEX:Hid (ExtE st1 st2):=z8 (z1z s _ _ _ _ _ h3)
   clear h2 h3 h4
   have hw4:=HW.out.2.1
   go_wp2_with fail
   refine(zQ b (st1.at_+1) s false _ (by exact HW.out.1)).mono ?_
   rintro e w4 ⟨rfl,n4,rfl⟩
   have hz5:(((((w2.drewN n3).alloc (.cells #[.string ⟨#[]⟩,.string ⟨#[]⟩,.int .i64 st1.at_,.slice none 0 0] 138)).setCell ⟨b,1,none⟩ (.int .i64 (st1.at_+1))).alloc (.cells #[.int .u8 60] 5)).drewN n4).heap.size=w2.heap.size+2:=HW.out.2.2.2
   have hg5:(((((w2.drewN n3).alloc (.cells #[.string ⟨#[]⟩,.string ⟨#[]⟩,.int .i64 st1.at_,.slice none 0 0] 138)).setCell ⟨b,1,none⟩ (.int .i64 (st1.at_+1))).alloc (.cells #[.int .u8 60] 5)).drewN n4).heap[w2.heap.size]?=some (.cells #[.string ⟨#[]⟩,.string ⟨#[]⟩,.int .i64 st1.at_,.slice none 0 0] 138):=HW.out.2.1
   obtain⟨y0,y1,y2,y3,yf⟩:=jN hg5
   have hF26:Rf b w2 ((((((w2.drewN n3).alloc (.cells #[.string ⟨#[]⟩,.string ⟨#[]⟩,.int .i64 st1.at_,.slice none 0 0] 138)).setCell ⟨b,1,none⟩ (.int .i64 (st1.at_+1))).alloc (.cells #[.int .u8 60] 5)).drewN n4).setCell ⟨w2.heap.size,0,none⟩ (.string ⟨#[60]⟩)):=(HW.out.2.2.1.drewN n4).setCell (a:=⟨w2.heap.size,0,none⟩) (zgH _) _
   have hg6:((((((w2.drewN n3).alloc (.cells #[.string ⟨#[]⟩,.string ⟨#[]⟩,.int .i64 st1.at_,.slice none 0 0] 138)).setCell ⟨b,1,none⟩ (.int .i64 (st1.at_+1))).alloc (.cells #[.int .u8 60] 5)).drewN n4).setCell ⟨w2.heap.size,0,none⟩ (.string ⟨#[60]⟩)).heap[w2.heap.size]?=some (.cells #[.string ⟨#[60]⟩,.string ⟨#[]⟩,.int .i64 st1.at_,.slice none 0 0] 138):=z7y hg5 _
   have hR6:=(HW.out.1.drewN n4).other (w':=(((((w2.drewN n3).alloc (.cells #[.string ⟨#[]⟩,.string ⟨#[]⟩,.int .i64 st1.at_,.slice none 0 0] 138)).setCell ⟨b,1,none⟩ (.int .i64 (st1.at_+1))).alloc (.cells #[.int .u8 60] 5)).drewN n4).setCell ⟨w2.heap.size,0,none⟩ (.string ⟨#[60]⟩)) (zgQ _ _ _ _ (by simp;omega))
   have hz6:((((((w2.drewN n3).alloc (.cells #[.string ⟨#[]⟩,.string ⟨#[]⟩,.int .i64 st1.at_,.slice none 0 0] 138)).setCell ⟨b,1,none⟩ (.int .i64 (st1.at_+1))).alloc (.cells #[.int .u8 60] 5)).drewN n4).setCell ⟨w2.heap.size,0,none⟩ (.string ⟨#[60]⟩)).heap.size=w2.heap.size+2:=by simpa [World.setCell] using hz5
   have hB6:Hid (w2.heap.size<((((((w2.drewN n3).alloc (.cells #[.string ⟨#[]⟩,.string ⟨#[]⟩,.int .i64 st1.at_,.slice none 0 0] 138)).setCell ⟨b,1,none⟩ (.int .i64 (st1.at_+1))).alloc (.cells #[.int .u8 60] 5)).drewN n4).setCell ⟨w2.heap.size,0,none⟩ (.string ⟨#[60]⟩)).heap.size):=z8 (by omega)
   clear hg5 hw4
   go_wp2_with fail
   refine(ih b _ _ _ r2 st2 HH.out hR6 rfl).mono ?_
   rintro e w7 ⟨ao7,p7,rfl,hR7,hF7,hp7,ht7⟩
   have hg7:w7.heap[w2.heap.size]?=some (.cells #[.string ⟨#[60]⟩,.string ⟨#[]⟩,.int .i64 st1.at_,.slice none 0 0] 138):=(hF7.block w2.heap.size (by omega) (by omega)).trans hg6
   obtain⟨d0,d1,d2,d3,df⟩:=jN hg7
   have hb7:b<w7.heap.size:=zd hR7.c0
   have hz7:=hF7.size
   have hlt7:w2.heap.size<w7.heap.size:=(Array.getElem?_eq_some_iff.1 hg7).1
   obtain⟨i0,hi,hz0,hz1,hz2⟩:=info_parts info89
   have HX:=z8 (zgI hF26 (zgI hF7 (zgI hR7 (zgI hp7 ht7))))
   clear hp7 ht7 hF7 hR7 hR6 hF26 hg6 hcz hfz hconv
   go_wp2_with (at_builtin;go_must (refine wpList_append_lies _ rfl (.tmp 97) (.tmp 100) 136 rfl (w1.heap.size) 89 i0 _ 1 8 Tryz.underlying136 hi hz0 hz1 hz2 rfl (by omega) (.slice none 0 0) 0 [] rfl (World.ownsRow_nil _ _ _ _) ⟨w7.heap.size,0,none⟩ 2 2 [.pointer ao1,.pointer ao7] rfl rfl ?news ?one (by omega) ?mm ?bys ?base (w7.heap.size+1) (by simp) ?rest))
   case news=>exact World.news_of_block (heap_alloc_new w7 _)
   case one=>intro u hu;simp at hu;rcases hu with rfl|rfl<;>rfl
   case mm=>unfold maxLen;omega
   case bys=>omega
   case base=>have:=hs2.size;simp;omega
   case rest=>
    intro gb cap w8 hown hgrow hat8 hlt2
    have hat8:gb=w7.heap.size+1:=by
     rcases hat8 with q|q
     ·simp [Value.ownBlock] at q
     ·exact q
    have hgrow:(w7.alloc (.cells #[.pointer ao1,.pointer ao7] 89)).grownBy w8 none:=hgrow
    have hown:w8.ownsRow w1.heap.size 89 1 (.slice (some ⟨gb,0,none⟩) 2 cap) 2 [.pointer ao1,.pointer ao7]:=hown
    have hfin:=z1D (g:=w2.heap.size) (at_:=st1.at_) (op:=⟨#[60]⟩) (st:=st) (st1:=st1) hF01 HT1.out ((hF12.trans HX.out.1).trans HX.out.2.1) (Nat.le_of_eq hs2.size.symm) hn1 hg7 hb7 HX.out.2.2.1 HX.out.2.2.2.1 (fun _=>HBD.out) HEX.out HX.out.2.2.2.2 hB6.out hown hgrow hat8
    have HF:=z8 hfin
    have e1':w8.heap[w2.heap.size]?=w7.heap[w2.heap.size]?:=(hgrow.block _ (by simp;omega) (by simp)).trans (zgJ _ _ _ (by omega))
    have z1:=(World.cell?_of_block (w:=w7) (a:=⟨w2.heap.size,3,none⟩) e1').trans d3
    have z2:=(World.frozen?_of_block (w:=w7) (a:=⟨w2.heap.size,3,none⟩) e1').trans (df 3)
    clear hfin hgrow hown hat8 d0 d1 d2 d3 df e1'
    go_wp2_with fail
    go_ret
    exact HF.out
  ·rw [e5] at h2
   simp only [Bool.or_true,if_true] at h2
   rw [if_neg (by decide)] at h2
   have e6:(jg s (st1.at_+1) false==61)=true:=by rw [zV (by omega),e5]
   obtain⟨⟨r2,st2⟩,h3,h4⟩:=zgD.1 h2
   obtain⟨hl,h6⟩:=zj h4
   cases h6
   have HH:=z8 h3
   have HEX:Hid (ExtE st1 st2):=z8 (z1z s _ _ _ _ _ h3)
   clear h2 h3 h4
   go_wp2_with (go_at_call 96;refine(zQ b (st1.at_+1) s false _ (by exact HW.out.1)).mono ?_;rintro e w4 ⟨rfl,n4,rfl⟩)
   refine(zN b (st1.at_+1) s _ false _ (by first|exact HW.out.1|exact HW.out.1.drewN _) (by decide)).mono ?_
   rintro e w5 ⟨rfl,hR5,hs5⟩
   have hz5:(w5).heap.size=w2.heap.size+2:=hs5.size.trans HW.out.2.2.2
   have hg5:(w5).heap[w2.heap.size]?=some (.cells #[.string ⟨#[]⟩,.string ⟨#[]⟩,.int .i64 st1.at_,.slice none 0 0] 138):=(hs5.block w2.heap.size hn1).trans HW.out.2.1
   obtain⟨y0,y1,y2,y3,yf⟩:=jN hg5
   have hF26:Rf b w2 ((w5).setCell ⟨w2.heap.size,0,none⟩ (.string ⟨#[60,61]⟩)):=((HW.out.2.2.1.drewN n4).trans hs5.rf).setCell (a:=⟨w2.heap.size,0,none⟩) (zgH _) _
   have hg6:((w5).setCell ⟨w2.heap.size,0,none⟩ (.string ⟨#[60,61]⟩)).heap[w2.heap.size]?=some (.cells #[.string ⟨#[60,61]⟩,.string ⟨#[]⟩,.int .i64 st1.at_,.slice none 0 0] 138):=z7y hg5 _
   have hR6:=(hR5).other (w':=(w5).setCell ⟨w2.heap.size,0,none⟩ (.string ⟨#[60,61]⟩)) (zgQ _ _ _ _ (by simp;omega))
   have hz6:((w5).setCell ⟨w2.heap.size,0,none⟩ (.string ⟨#[60,61]⟩)).heap.size=w2.heap.size+2:=by simpa [World.setCell] using hz5
   have hB6:Hid (w2.heap.size<((w5).setCell ⟨w2.heap.size,0,none⟩ (.string ⟨#[60,61]⟩)).heap.size):=z8 (by omega)
   clear hs5 hR5 hg5
   go_wp2_with fail
   refine(ih b _ _ _ r2 st2 HH.out hR6 rfl).mono ?_
   rintro e w7 ⟨ao7,p7,rfl,hR7,hF7,hp7,ht7⟩
   have hg7:w7.heap[w2.heap.size]?=some (.cells #[.string ⟨#[60,61]⟩,.string ⟨#[]⟩,.int .i64 st1.at_,.slice none 0 0] 138):=(hF7.block w2.heap.size (by omega) (by omega)).trans hg6
   obtain⟨d0,d1,d2,d3,df⟩:=jN hg7
   have hb7:b<w7.heap.size:=zd hR7.c0
   have hz7:=hF7.size
   have hlt7:w2.heap.size<w7.heap.size:=(Array.getElem?_eq_some_iff.1 hg7).1
   obtain⟨i0,hi,hz0,hz1,hz2⟩:=info_parts info89
   have HX:=z8 (zgI hF26 (zgI hF7 (zgI hR7 (zgI hp7 ht7))))
   clear hp7 ht7 hF7 hR7 hR6 hF26 hg6 hcz hfz hconv
   go_wp2_with (at_builtin;go_must (refine wpList_append_lies _ rfl (.tmp 97) (.tmp 100) 136 rfl (w1.heap.size) 89 i0 _ 1 8 Tryz.underlying136 hi hz0 hz1 hz2 rfl (by omega) (.slice none 0 0) 0 [] rfl (World.ownsRow_nil _ _ _ _) ⟨w7.heap.size,0,none⟩ 2 2 [.pointer ao1,.pointer ao7] rfl rfl ?news ?one (by omega) ?mm ?bys ?base (w7.heap.size+1) (by simp) ?rest))
   case news=>exact World.news_of_block (heap_alloc_new w7 _)
   case one=>intro u hu;simp at hu;rcases hu with rfl|rfl<;>rfl
   case mm=>unfold maxLen;omega
   case bys=>omega
   case base=>have:=hs2.size;simp;omega
   case rest=>
    intro gb cap w8 hown hgrow hat8 hlt2
    have hat8:gb=w7.heap.size+1:=by
     rcases hat8 with q|q
     ·simp [Value.ownBlock] at q
     ·exact q
    have hgrow:(w7.alloc (.cells #[.pointer ao1,.pointer ao7] 89)).grownBy w8 none:=hgrow
    have hown:w8.ownsRow w1.heap.size 89 1 (.slice (some ⟨gb,0,none⟩) 2 cap) 2 [.pointer ao1,.pointer ao7]:=hown
    have hfin:=z1D (g:=w2.heap.size) (at_:=st1.at_) (op:=⟨#[60,61]⟩) (st:=st) (st1:=st1) hF01 HT1.out ((hF12.trans HX.out.1).trans HX.out.2.1) (Nat.le_of_eq hs2.size.symm) hn1 hg7 hb7 HX.out.2.2.1 HX.out.2.2.2.1 (fun _=>HBD.out) HEX.out HX.out.2.2.2.2 hB6.out hown hgrow hat8
    have HF:=z8 hfin
    have e1':w8.heap[w2.heap.size]?=w7.heap[w2.heap.size]?:=(hgrow.block _ (by simp;omega) (by simp)).trans (zgJ _ _ _ (by omega))
    have z1:=(World.cell?_of_block (w:=w7) (a:=⟨w2.heap.size,3,none⟩) e1').trans d3
    have z2:=(World.frozen?_of_block (w:=w7) (a:=⟨w2.heap.size,3,none⟩) e1').trans (df 3)
    clear hfin hgrow hown hat8 d0 d1 d2 d3 df e1'
    go_wp2_with fail
    go_ret
    exact HF.out
 ·obtain⟨hbd,hat⟩:=z21 e2 (by omega)
  have hv:jg s st1.at_ st1.bad=33:=by have h:=(zV (s:=s) (a:=st1.at_) (d:=st1.bad) (c:=33) (by omega)).trans e2;simpa using h
  rw [hv]
  have hch:s[st1.at_]=33:=by
   have h:pk s st1.at_ st1.bad=33:=by simpa using e2
   rw [hbd] at h
   have h2:(s[st1.at_].toNat:Int)=33:=by simpa [pk,hat] using h
   exact UInt8.toNat_inj.1 (by simpa using (by omega:s[st1.at_].toNat=33))
  have hconv: ∀A:Obj,Sem.run Tryz.prog (convert 142 9 (.slice (some ⟨w2.heap.size+1,0,none⟩) 1 1)) (((w2.drewN n3).alloc A).alloc (.cells #[.int .u8 33] 5))= .ok (.string ⟨#[33]⟩) (((w2.drewN n3).alloc A).alloc (.cells #[.int .u8 33] 5)):=fun A=>zb5 (w2.drewN n3) A 33 33 rfl
  have hRa:Rd ((w2.drewN n3).alloc (.cells #[.string ⟨#[]⟩,.string ⟨#[]⟩,.int .i64 st1.at_,.slice none 0 0] 138)) b s st1.at_ st1.bad:=(hR2.drewN n3).other (zgJ _ _ _ (by simpa [World.drewN] using hb2))
  have hRs:=(hRa.setAt' (st1.at_+1) (st1.at_+1) (by omega) hat).other (w':=(((w2.drewN n3).alloc (.cells #[.string ⟨#[]⟩,.string ⟨#[]⟩,.int .i64 st1.at_,.slice none 0 0] 138)).setCell ⟨b,1,none⟩ (.int .i64 (st1.at_+1))).alloc (.cells #[.int .u8 33] 5)) (zgJ _ _ _ (by simp [World.drewN,World.setCell];omega))
  have hgW:((((w2.drewN n3).alloc (.cells #[.string ⟨#[]⟩,.string ⟨#[]⟩,.int .i64 st1.at_,.slice none 0 0] 138)).setCell ⟨b,1,none⟩ (.int .i64 (st1.at_+1))).alloc (.cells #[.int .u8 33] 5)).heap[w2.heap.size]?=some (.cells #[.string ⟨#[]⟩,.string ⟨#[]⟩,.int .i64 st1.at_,.slice none 0 0] 138):=by
   rw [zgJ _ _ _ (by simp [World.drewN,World.setCell]),zgQ _ _ _ _ hn1]
   exact heap_alloc_new (w2.drewN n3) _
  have hFW:Rf b w2 ((((w2.drewN n3).alloc (.cells #[.string ⟨#[]⟩,.string ⟨#[]⟩,.int .i64 st1.at_,.slice none 0 0] 138)).setCell ⟨b,1,none⟩ (.int .i64 (st1.at_+1))).alloc (.cells #[.int .u8 33] 5)):=(((((Rf.refl b w2).drewN n3).alloc _).setB 1 _).alloc _)
  have hzW:((((w2.drewN n3).alloc (.cells #[.string ⟨#[]⟩,.string ⟨#[]⟩,.int .i64 st1.at_,.slice none 0 0] 138)).setCell ⟨b,1,none⟩ (.int .i64 (st1.at_+1))).alloc (.cells #[.int .u8 33] 5)).heap.size=w2.heap.size+2:=by simp [World.drewN,World.setCell]
  have hcm:=z0r hat (by rw [←hbd];simp only [e2];simp)
  rw [hch] at hcm
  rw [hbd] at h2 hRs e1 e2 e3 e4
  rw [hcm,e1,e2] at h2
  have HW:=z8 (zgI hRs (zgI hgW (zgI hFW hzW)))
  have HBD:=z8 hbd
  clear hcm hRs hgW hFW hzW hbd hch hRa hv
  simp only [Bool.true_or,Bool.or_true,Bool.false_or,if_true] at h2
  rw [if_neg (by decide)] at h2
  obtain⟨⟨r2,st2⟩,h3,h4⟩:=zgD.1 h2
  obtain⟨hl,h6⟩:=zj h4
  cases h6
  have HH:=z8 h3
  have HEX:Hid (ExtE st1 st2):=z8 (z1z s _ _ _ _ _ h3)
  clear h2 h3 h4
  go_wp2_with fail
  refine(zN b (st1.at_+1) s _ false _ (by first|exact HW.out.1|exact HW.out.1.drewN _) (by decide)).mono ?_
  rintro e w5 ⟨rfl,hR5,hs5⟩
  have hz5:(w5).heap.size=w2.heap.size+2:=hs5.size.trans HW.out.2.2.2
  have hg5:(w5).heap[w2.heap.size]?=some (.cells #[.string ⟨#[]⟩,.string ⟨#[]⟩,.int .i64 st1.at_,.slice none 0 0] 138):=(hs5.block w2.heap.size hn1).trans HW.out.2.1
  obtain⟨y0,y1,y2,y3,yf⟩:=jN hg5
  have hF26:Rf b w2 ((w5).setCell ⟨w2.heap.size,0,none⟩ (.string ⟨#[33,61]⟩)):=(HW.out.2.2.1.trans hs5.rf).setCell (a:=⟨w2.heap.size,0,none⟩) (zgH _) _
  have hg6:((w5).setCell ⟨w2.heap.size,0,none⟩ (.string ⟨#[33,61]⟩)).heap[w2.heap.size]?=some (.cells #[.string ⟨#[33,61]⟩,.string ⟨#[]⟩,.int .i64 st1.at_,.slice none 0 0] 138):=z7y hg5 _
  have hR6:=(hR5).other (w':=(w5).setCell ⟨w2.heap.size,0,none⟩ (.string ⟨#[33,61]⟩)) (zgQ _ _ _ _ (by simp;omega))
  have hz6:((w5).setCell ⟨w2.heap.size,0,none⟩ (.string ⟨#[33,61]⟩)).heap.size=w2.heap.size+2:=by simpa [World.setCell] using hz5
  have hB6:Hid (w2.heap.size<((w5).setCell ⟨w2.heap.size,0,none⟩ (.string ⟨#[33,61]⟩)).heap.size):=z8 (by omega)
  clear hs5 hR5 hg5
  go_wp2_with fail
  refine(ih b _ _ _ r2 st2 HH.out hR6 rfl).mono ?_
  rintro e w7 ⟨ao7,p7,rfl,hR7,hF7,hp7,ht7⟩
  have hg7:w7.heap[w2.heap.size]?=some (.cells #[.string ⟨#[33,61]⟩,.string ⟨#[]⟩,.int .i64 st1.at_,.slice none 0 0] 138):=(hF7.block w2.heap.size (by omega) (by omega)).trans hg6
  obtain⟨d0,d1,d2,d3,df⟩:=jN hg7
  have hb7:b<w7.heap.size:=zd hR7.c0
  have hz7:=hF7.size
  have hlt7:w2.heap.size<w7.heap.size:=(Array.getElem?_eq_some_iff.1 hg7).1
  obtain⟨i0,hi,hz0,hz1,hz2⟩:=info_parts info89
  have HX:=z8 (zgI hF26 (zgI hF7 (zgI hR7 (zgI hp7 ht7))))
  clear hp7 ht7 hF7 hR7 hR6 hF26 hg6 hcz hfz hconv
  go_wp2_with (at_builtin;go_must (refine wpList_append_lies _ rfl (.tmp 97) (.tmp 100) 136 rfl (w1.heap.size) 89 i0 _ 1 8 Tryz.underlying136 hi hz0 hz1 hz2 rfl (by omega) (.slice none 0 0) 0 [] rfl (World.ownsRow_nil _ _ _ _) ⟨w7.heap.size,0,none⟩ 2 2 [.pointer ao1,.pointer ao7] rfl rfl ?news ?one (by omega) ?mm ?bys ?base (w7.heap.size+1) (by simp) ?rest))
  case news=>exact World.news_of_block (heap_alloc_new w7 _)
  case one=>intro u hu;simp at hu;rcases hu with rfl|rfl<;>rfl
  case mm=>unfold maxLen;omega
  case bys=>omega
  case base=>have:=hs2.size;simp;omega
  case rest=>
   intro gb cap w8 hown hgrow hat8 hlt2
   have hat8:gb=w7.heap.size+1:=by
    rcases hat8 with q|q
    ·simp [Value.ownBlock] at q
    ·exact q
   have hgrow:(w7.alloc (.cells #[.pointer ao1,.pointer ao7] 89)).grownBy w8 none:=hgrow
   have hown:w8.ownsRow w1.heap.size 89 1 (.slice (some ⟨gb,0,none⟩) 2 cap) 2 [.pointer ao1,.pointer ao7]:=hown
   have hfin:=z1D (g:=w2.heap.size) (at_:=st1.at_) (op:=⟨#[33,61]⟩) (st:=st) (st1:=st1) hF01 HT1.out ((hF12.trans HX.out.1).trans HX.out.2.1) (Nat.le_of_eq hs2.size.symm) hn1 hg7 hb7 HX.out.2.2.1 HX.out.2.2.2.1 (fun _=>HBD.out) HEX.out HX.out.2.2.2.2 hB6.out hown hgrow hat8
   have HF:=z8 hfin
   have e1':w8.heap[w2.heap.size]?=w7.heap[w2.heap.size]?:=(hgrow.block _ (by simp;omega) (by simp)).trans (zgJ _ _ _ (by omega))
   have z1:=(World.cell?_of_block (w:=w7) (a:=⟨w2.heap.size,3,none⟩) e1').trans d3
   have z2:=(World.frozen?_of_block (w:=w7) (a:=⟨w2.heap.size,3,none⟩) e1').trans (df 3)
   clear hfin hgrow hown hat8 d0 d1 d2 d3 df e1'
   go_wp2_with fail
   go_ret
   exact HF.out
 ·obtain⟨hbd,hat⟩:=z21 e1 (by omega)
  have hv:jg s st1.at_ st1.bad=61:=by have h:=(zV (s:=s) (a:=st1.at_) (d:=st1.bad) (c:=61) (by omega)).trans e1;simpa using h
  rw [hv]
  have hch:s[st1.at_]=61:=by
   have h:pk s st1.at_ st1.bad=61:=by simpa using e1
   rw [hbd] at h
   have h2:(s[st1.at_].toNat:Int)=61:=by simpa [pk,hat] using h
   exact UInt8.toNat_inj.1 (by simpa using (by omega:s[st1.at_].toNat=61))
  have hconv: ∀A:Obj,Sem.run Tryz.prog (convert 142 9 (.slice (some ⟨w2.heap.size+1,0,none⟩) 1 1)) (((w2.drewN n3).alloc A).alloc (.cells #[.int .u8 61] 5))= .ok (.string ⟨#[61]⟩) (((w2.drewN n3).alloc A).alloc (.cells #[.int .u8 61] 5)):=fun A=>zb5 (w2.drewN n3) A 61 61 rfl
  have hRa:Rd ((w2.drewN n3).alloc (.cells #[.string ⟨#[]⟩,.string ⟨#[]⟩,.int .i64 st1.at_,.slice none 0 0] 138)) b s st1.at_ st1.bad:=(hR2.drewN n3).other (zgJ _ _ _ (by simpa [World.drewN] using hb2))
  have hRs:=(hRa.setAt' (st1.at_+1) (st1.at_+1) (by omega) hat).other (w':=(((w2.drewN n3).alloc (.cells #[.string ⟨#[]⟩,.string ⟨#[]⟩,.int .i64 st1.at_,.slice none 0 0] 138)).setCell ⟨b,1,none⟩ (.int .i64 (st1.at_+1))).alloc (.cells #[.int .u8 61] 5)) (zgJ _ _ _ (by simp [World.drewN,World.setCell];omega))
  have hgW:((((w2.drewN n3).alloc (.cells #[.string ⟨#[]⟩,.string ⟨#[]⟩,.int .i64 st1.at_,.slice none 0 0] 138)).setCell ⟨b,1,none⟩ (.int .i64 (st1.at_+1))).alloc (.cells #[.int .u8 61] 5)).heap[w2.heap.size]?=some (.cells #[.string ⟨#[]⟩,.string ⟨#[]⟩,.int .i64 st1.at_,.slice none 0 0] 138):=by
   rw [zgJ _ _ _ (by simp [World.drewN,World.setCell]),zgQ _ _ _ _ hn1]
   exact heap_alloc_new (w2.drewN n3) _
  have hFW:Rf b w2 ((((w2.drewN n3).alloc (.cells #[.string ⟨#[]⟩,.string ⟨#[]⟩,.int .i64 st1.at_,.slice none 0 0] 138)).setCell ⟨b,1,none⟩ (.int .i64 (st1.at_+1))).alloc (.cells #[.int .u8 61] 5)):=(((((Rf.refl b w2).drewN n3).alloc _).setB 1 _).alloc _)
  have hzW:((((w2.drewN n3).alloc (.cells #[.string ⟨#[]⟩,.string ⟨#[]⟩,.int .i64 st1.at_,.slice none 0 0] 138)).setCell ⟨b,1,none⟩ (.int .i64 (st1.at_+1))).alloc (.cells #[.int .u8 61] 5)).heap.size=w2.heap.size+2:=by simp [World.drewN,World.setCell]
  have hcm:=z0r hat (by rw [←hbd];simp only [e1];simp)
  rw [hch] at hcm
  rw [hbd] at h2 hRs e1 e2 e3 e4
  rw [hcm,e1,e2] at h2
  have HW:=z8 (zgI hRs (zgI hgW (zgI hFW hzW)))
  have HBD:=z8 hbd
  clear hcm hRs hgW hFW hzW hbd hch hRa hv
  simp only [Bool.true_or,Bool.or_true,Bool.false_or,if_true] at h2
  rw [if_neg (by decide)] at h2
  obtain⟨⟨r2,st2⟩,h3,h4⟩:=zgD.1 h2
  obtain⟨hl,h6⟩:=zj h4
  cases h6
  have HH:=z8 h3
  have HEX:Hid (ExtE st1 st2):=z8 (z1z s _ _ _ _ _ h3)
  clear h2 h3 h4
  go_wp2_with fail
  refine(zN b (st1.at_+1) s _ false _ (by first|exact HW.out.1|exact HW.out.1.drewN _) (by decide)).mono ?_
  rintro e w5 ⟨rfl,hR5,hs5⟩
  have hz5:(w5).heap.size=w2.heap.size+2:=hs5.size.trans HW.out.2.2.2
  have hg5:(w5).heap[w2.heap.size]?=some (.cells #[.string ⟨#[]⟩,.string ⟨#[]⟩,.int .i64 st1.at_,.slice none 0 0] 138):=(hs5.block w2.heap.size hn1).trans HW.out.2.1
  obtain⟨y0,y1,y2,y3,yf⟩:=jN hg5
  have hF26:Rf b w2 ((w5).setCell ⟨w2.heap.size,0,none⟩ (.string ⟨#[61,61]⟩)):=(HW.out.2.2.1.trans hs5.rf).setCell (a:=⟨w2.heap.size,0,none⟩) (zgH _) _
  have hg6:((w5).setCell ⟨w2.heap.size,0,none⟩ (.string ⟨#[61,61]⟩)).heap[w2.heap.size]?=some (.cells #[.string ⟨#[61,61]⟩,.string ⟨#[]⟩,.int .i64 st1.at_,.slice none 0 0] 138):=z7y hg5 _
  have hR6:=(hR5).other (w':=(w5).setCell ⟨w2.heap.size,0,none⟩ (.string ⟨#[61,61]⟩)) (zgQ _ _ _ _ (by simp;omega))
  have hz6:((w5).setCell ⟨w2.heap.size,0,none⟩ (.string ⟨#[61,61]⟩)).heap.size=w2.heap.size+2:=by simpa [World.setCell] using hz5
  have hB6:Hid (w2.heap.size<((w5).setCell ⟨w2.heap.size,0,none⟩ (.string ⟨#[61,61]⟩)).heap.size):=z8 (by omega)
  clear hs5 hR5 hg5
  go_wp2_with fail
  refine(ih b _ _ _ r2 st2 HH.out hR6 rfl).mono ?_
  rintro e w7 ⟨ao7,p7,rfl,hR7,hF7,hp7,ht7⟩
  have hg7:w7.heap[w2.heap.size]?=some (.cells #[.string ⟨#[61,61]⟩,.string ⟨#[]⟩,.int .i64 st1.at_,.slice none 0 0] 138):=(hF7.block w2.heap.size (by omega) (by omega)).trans hg6
  obtain⟨d0,d1,d2,d3,df⟩:=jN hg7
  have hb7:b<w7.heap.size:=zd hR7.c0
  have hz7:=hF7.size
  have hlt7:w2.heap.size<w7.heap.size:=(Array.getElem?_eq_some_iff.1 hg7).1
  obtain⟨i0,hi,hz0,hz1,hz2⟩:=info_parts info89
  have HX:=z8 (zgI hF26 (zgI hF7 (zgI hR7 (zgI hp7 ht7))))
  clear hp7 ht7 hF7 hR7 hR6 hF26 hg6 hcz hfz hconv
  go_wp2_with (at_builtin;go_must (refine wpList_append_lies _ rfl (.tmp 97) (.tmp 100) 136 rfl (w1.heap.size) 89 i0 _ 1 8 Tryz.underlying136 hi hz0 hz1 hz2 rfl (by omega) (.slice none 0 0) 0 [] rfl (World.ownsRow_nil _ _ _ _) ⟨w7.heap.size,0,none⟩ 2 2 [.pointer ao1,.pointer ao7] rfl rfl ?news ?one (by omega) ?mm ?bys ?base (w7.heap.size+1) (by simp) ?rest))
  case news=>exact World.news_of_block (heap_alloc_new w7 _)
  case one=>intro u hu;simp at hu;rcases hu with rfl|rfl<;>rfl
  case mm=>unfold maxLen;omega
  case bys=>omega
  case base=>have:=hs2.size;simp;omega
  case rest=>
   intro gb cap w8 hown hgrow hat8 hlt2
   have hat8:gb=w7.heap.size+1:=by
    rcases hat8 with q|q
    ·simp [Value.ownBlock] at q
    ·exact q
   have hgrow:(w7.alloc (.cells #[.pointer ao1,.pointer ao7] 89)).grownBy w8 none:=hgrow
   have hown:w8.ownsRow w1.heap.size 89 1 (.slice (some ⟨gb,0,none⟩) 2 cap) 2 [.pointer ao1,.pointer ao7]:=hown
   have hfin:=z1D (g:=w2.heap.size) (at_:=st1.at_) (op:=⟨#[61,61]⟩) (st:=st) (st1:=st1) hF01 HT1.out ((hF12.trans HX.out.1).trans HX.out.2.1) (Nat.le_of_eq hs2.size.symm) hn1 hg7 hb7 HX.out.2.2.1 HX.out.2.2.2.1 (fun _=>HBD.out) HEX.out HX.out.2.2.2.2 hB6.out hown hgrow hat8
   have HF:=z8 hfin
   have e1':w8.heap[w2.heap.size]?=w7.heap[w2.heap.size]?:=(hgrow.block _ (by simp;omega) (by simp)).trans (zgJ _ _ _ (by omega))
   have z1:=(World.cell?_of_block (w:=w7) (a:=⟨w2.heap.size,3,none⟩) e1').trans d3
   have z2:=(World.frozen?_of_block (w:=w7) (a:=⟨w2.heap.size,3,none⟩) e1').trans (df 3)
   clear hfin hgrow hown hat8 d0 d1 d2 d3 df e1'
   go_wp2_with fail
   go_ret
   exact HF.out
theorem z2E (s:zgS)(a:Nat)(d:Bool):zw s a d=(skip s (z19 s a d).1 (z19 s a d).2.1,(z19 s a d).2.1,(z19 s a d).2.2):=by
 unfold zw z23 z19
 simp only
 split
 ·simp [jJ]
 ·rfl
theorem jV {b g:Nat}{w W:World}{s:zgS}{st:St}{p:Nat}{c:Nat×Bool×zgS}{op tx:zgS}{form a:Int}
  (hF:Rf b w W) (hg:w.heap.size≤g) (hgb:g≠b) (hW:W.heap[g]?=some (.cells #[.string op,.string tx,.int .i64 a,.slice none 0 0] 138)) (hR:Rd W b s p c.2.1) (hp:skip s p c.2.1=c.1)
  (hf:c.2.1=false→(form=0∧op=zfv∨form=1∧op=zfi∨form=2∧(tx.data.toList=[116,114,117,101]∨tx.data.toList=[102,97,108,115,101])∧op=tx∨form=3∧op=zaI∨form=4∧op=sAt)∧tx=c.2.2):
  z3i b s st {(st.put3 c) with E:=(st.put3 c).E++[⟨form,st.at_,c.2.2,-1,-1⟩]} (st.put3 c).E.length w (.returned (.pointer (some ⟨g,0,none⟩))) W:=by
 refine⟨_,p,rfl,hR,hF,hp,fun hb=> ?_⟩
 obtain⟨h1,h2⟩:=hf hb
 have hnode:Node b w.heap.size W (.pointer (some ⟨g,0,none⟩)) op tx a []:=⟨g,_,rfl,hgb,hg,hW,World.ownsRow_nil _ _ _ _,by simp [Value.ownBlock]⟩
 rw [h2] at hnode h1
 refine⟨1,st.E.length,rfl,by simp [St.put3],⟨form,st.at_,c.2.2,-1,-1⟩,by simp [St.put3],?_⟩
 rcases h1 with⟨e1,e2⟩|⟨e1,e2⟩|⟨e1,e3,e2⟩|⟨e1,e2⟩|⟨e1,e2⟩
 ·exact .inl ⟨e1,rfl,a,e2▸hnode⟩
 ·exact .inr (.inl ⟨e1,rfl,a,e2▸hnode⟩)
 ·exact .inr (.inr (.inl ⟨e1,rfl,e3,a,e2▸hnode⟩))
 ·exact .inr (.inr (.inr (.inl ⟨e1,rfl,a,e2▸hnode⟩)))
 ·exact .inr (.inr (.inr (.inr (.inl ⟨e1,rfl,a,e2▸hnode⟩))))
theorem zcS {w:World}{g:Nat}{a b c d:Value}{t:TypeId}(h:w.heap[g]?=some (.cells #[a,b,c,d] t))(v:Value):(w.setCell ⟨g,1,none⟩ v).heap[g]?=some (.cells #[a,v,c,d] t):=by
 simp only [World.setCell,Array.getElem?_modify,if_true]
 rw [h]
 rfl
theorem zau (s:zgS)(n:Nat)(b:Nat)(st:St)(w:World)(p:Nat)(r:Int)(st':St)(hM:M s (n+1) 7 0 st=some (r,st'))(hR:Rd w b s p st.bad)(hp:skip s p st.bad=st.at_)
  (h1:zg (pkS s st)=false) (h2:(pkS s st==34)=false) (h3:(pkS s st==64)=false) (h4:(pkS s st==40)=false):
  Calls Tryz.prog 139 #[.pointer (some ⟨b,0,none⟩)] w fun e w'=>z3i b s st st' r w e w':=by
 rw [M_7,h1,if_neg (by decide),h2,if_neg (by decide),h3,if_neg (by decide),h4,if_neg (by decide)] at hM
 simp only at hM
 have hnm:=z2E s st.at_ st.bad
 have hbl:=zK b p s st.bad w hR
 rw [hp] at hbl
 have HBL:=z8 hbl
 have t1:zg (jg s st.at_ st.bad)=false:=(jC _ _ _).trans h1
 have t2:(jg s st.at_ st.bad==34)=false:=(zV (by omega)).trans h2
 have t3:(jg s st.at_ st.bad==64)=false:=(zV (by omega)).trans h3
 have t4:(jg s st.at_ st.bad==40)=false:=(zV (by omega)).trans h4
 have HMh:=z8 hM
 have HNM:=z8 hnm
 clear hM hnm hbl hp h1 h2 h3 h4
 go_enter Tryz.func139,Tryz.ntmps139
 go_wp2_with fail
 refine HBL.out.mono ?_
 rintro e w1 ⟨rfl,hR1,hs1⟩
 obtain⟨c0,c1,c2,f1,f2,_,_⟩:=id hR1
 have hb1:b<w1.heap.size:=zd hR1.c0
 have hRa:Rd (w1.alloc (.cells #[.string ⟨#[]⟩,.string ⟨#[]⟩,.int .i64 st.at_,.slice none 0 0] 138)) b s st.at_ st.bad:=hR1.other (zgJ _ _ _ hb1)
 have hga:=heap_alloc_new w1 (.cells #[.string ⟨#[]⟩,.string ⟨#[]⟩,.int .i64 st.at_,.slice none 0 0] 138)
 have hFa:Rf b w (w1.alloc (.cells #[.string ⟨#[]⟩,.string ⟨#[]⟩,.int .i64 st.at_,.slice none 0 0] 138)):=hs1.rf.alloc _
 have hz1:w.heap.size=w1.heap.size:=hs1.size.symm
 have HA:=z8 (zgI hRa (zgI hga (zgI hFa hz1)))
 clear hRa hga hFa hz1 hs1 hR
 go_wp2_with fail
 refine(zQ b st.at_ s st.bad _ HA.out.1).mono ?_
 rintro e w2 ⟨rfl,n2,rfl⟩
 go_wp2_with fail
 refine(jG _ _ (j9 _ _ _)).mono ?_
 rintro e w2 ⟨rfl,rfl⟩
 rw [t1]
 go_wp2_with fail
 have hR2:Rd (((w1.alloc (.cells #[.string ⟨#[]⟩,.string ⟨#[]⟩,.int .i64 st.at_,.slice none 0 0] 138)).drewN n2).setCell ⟨w1.heap.size,0,none⟩ (.string ⟨#[97,116,116,114]⟩)) b s st.at_ st.bad:=(HA.out.1.drewN n2).other (zgQ _ _ _ _ (by simp;omega))
 refine(z0A b st.at_ s st.bad _ hR2).mono ?_
 rintro e w3 ⟨rfl,hR3,hs3⟩
 have hg3:w3.heap[w1.heap.size]?=some (.cells #[.string ⟨#[97,116,116,114]⟩,.string ⟨#[]⟩,.int .i64 st.at_,.slice none 0 0] 138):=(hs3.block w1.heap.size (by omega)).trans (z7y HA.out.2.1 _)
 have hF3:Rf b w w3:=((HA.out.2.2.1.drewN n2).setCell (a:=⟨w1.heap.size,0,none⟩) (by rw [HA.out.2.2.2];exact zgH _) _).trans hs3.rf
 obtain⟨y0,y1,y2,y3,yf⟩:=jN hg3
 have hM:=HMh.out
 rw [HNM.out] at hM
 have hge:w.heap.size≤w1.heap.size:=Nat.le_of_eq HA.out.2.2.2
 clear HMh HNM HA HBL hR2 hs3 t1 t2 t3 t4 c0 c1 c2 f1 f2 hR1
 generalize z19 s st.at_ st.bad=q at*
 obtain⟨qp,qd,qt⟩:=q
 have hR3:Rd w3 b s qp qd:=hR3
 simp only at hM
 have hR4:=hR3.other (w':=w3.setCell ⟨w1.heap.size,1,none⟩ (.string qt)) (zgQ _ _ _ _ (by simp;omega))
 have hg4:=zcS hg3 (.string qt)
 have hF4:=hF3.setCell (a:=⟨w1.heap.size,1,none⟩) hge (.string qt)
 cases ht:(qt.data.toList==[116,114,117,101])
 ·cases hf:(qt.data.toList==[102,97,108,115,101])
  ·rw [ht,hf,if_neg (by decide)] at hM
   obtain⟨hl,h6⟩:=zj hM
   cases h6
   obtain⟨m1,m1'⟩:=z7t ht
   obtain⟨m2,m2'⟩:=z7t hf
   have HF:=z8 (jV (st:=st) (c:=(skip s qp qd,qd,qt)) (form:=3) hF4 hge (by omega) hg4 hR4 rfl (fun _=>⟨.inr (.inr (.inr (.inl ⟨rfl,rfl⟩))),rfl⟩))
   clear hM ht hf hF3 hF4 hR3 hR4 hg3 hg4
   go_wp2_with fail
   go_ret
   exact HF.out
  ·rw [ht,hf,if_pos (by decide)] at hM
   obtain⟨hl,h6⟩:=zj hM
   cases h6
   have m1:=z5m hf
   have hg5:=z7y hg4 (.string qt)
   have hR5:=hR4.other (w':=(w3.setCell ⟨w1.heap.size,1,none⟩ (.string qt)).setCell ⟨w1.heap.size,0,none⟩ (.string qt)) (zgQ _ _ _ _ (by simp;omega))
   have hF5:=hF4.setCell (a:=⟨w1.heap.size,0,none⟩) hge (.string qt)
   have HF:=z8 (jV (st:=st) (c:=(skip s qp qd,qd,qt)) (form:=2) hF5 hge (by omega) hg5 hR5 rfl (fun _=>⟨.inr (.inr (.inl ⟨rfl,.inr (by simpa using hf),rfl⟩)),rfl⟩))
   clear hM ht hf hF3 hF4 hR3 hR4 hg3 hg4 hF5 hR5 hg5
   go_wp2_with fail
   go_ret
   exact HF.out
 ·rw [ht] at hM
  rw [if_pos (by simp)] at hM
  obtain⟨hl,h6⟩:=zj hM
  cases h6
  have m1:=z5m ht
  have hg5:=z7y hg4 (.string qt)
  have hR5:=hR4.other (w':=(w3.setCell ⟨w1.heap.size,1,none⟩ (.string qt)).setCell ⟨w1.heap.size,0,none⟩ (.string qt)) (zgQ _ _ _ _ (by simp;omega))
  have hF5:=hF4.setCell (a:=⟨w1.heap.size,0,none⟩) hge (.string qt)
  have HF:=z8 (jV (st:=st) (c:=(skip s qp qd,qd,qt)) (form:=2) hF5 hge (by omega) hg5 hR5 rfl (fun _=>⟨.inr (.inr (.inl ⟨rfl,.inl (by simpa using ht),rfl⟩)),rfl⟩))
  clear hM ht hF3 hF4 hR3 hR4 hg3 hg4 hF5 hR5 hg5
  go_wp2_with fail
  go_ret
  exact HF.out
theorem z99 (s:zgS)(n:Nat)(b:Nat)(st:St)(w:World)(p:Nat)(r:Int)(st':St)(hM:M s (n+1) 7 0 st=some (r,st'))(hR:Rd w b s p st.bad)(hp:skip s p st.bad=st.at_)
  (h1:zg (pkS s st)=false) (h4:(pkS s st==40)=true) (h2:(pkS s st==34)=false) (h3:(pkS s st==64)=false) (ih:OKR s 0 0 n):
  Calls Tryz.prog 139 #[.pointer (some ⟨b,0,none⟩)] w fun e w'=>z3i b s st st' r w e w':=by
 rw [M_7,h1,if_neg (by decide),h2,if_neg (by decide),h3,if_neg (by decide),h4,if_pos rfl] at hM
 obtain⟨⟨r2,st2⟩,hm2,hm3⟩:=zgD.1 hM
 simp only [Option.some.injEq,Prod.mk.injEq] at hm3
 obtain⟨rfl,rfl⟩:=hm3
 have hbl:=zK b p s st.bad w hR
 rw [hp] at hbl
 have HBL:=z8 hbl
 have hv:jg s st.at_ st.bad=40:=by simpa using (zV (s:=s) (a:=st.at_) (d:=st.bad) (c:=40) (by omega)).trans h4
 have HMh:=z8 hm2
 clear hM hbl hp h1 h2 h3 h4 hm2
 go_enter Tryz.func139,Tryz.ntmps139
 go_wp2_with fail
 refine HBL.out.mono ?_
 rintro e w1 ⟨rfl,hR1,hs1⟩
 obtain⟨c0,c1,c2,f1,f2,_,_⟩:=id hR1
 have hb1:b<w1.heap.size:=zd hR1.c0
 have hRa:Rd (w1.alloc (.cells #[.string ⟨#[]⟩,.string ⟨#[]⟩,.int .i64 st.at_,.slice none 0 0] 138)) b s st.at_ st.bad:=hR1.other (zgJ _ _ _ hb1)
 have hga:=heap_alloc_new w1 (.cells #[.string ⟨#[]⟩,.string ⟨#[]⟩,.int .i64 st.at_,.slice none 0 0] 138)
 have hFa:Rf b w (w1.alloc (.cells #[.string ⟨#[]⟩,.string ⟨#[]⟩,.int .i64 st.at_,.slice none 0 0] 138)):=hs1.rf.alloc _
 have hz1:w.heap.size=w1.heap.size:=hs1.size.symm
 have HA:=z8 (zgI hRa (zgI hga (zgI hFa hz1)))
 clear hRa hga hFa hz1 hs1 hR
 go_wp2_with fail
 refine(zQ b st.at_ s st.bad _ HA.out.1).mono ?_
 rintro e w2 ⟨rfl,n2,rfl⟩
 rw [hv]
 go_wp2_with fail
 refine(zN b st.at_ s _ st.bad _ (by exact HA.out.1.drewN n2) (by decide)).mono ?_
 rintro e w3 ⟨rfl,hR3,hs3⟩
 have hF3:Rf b w w3:=(HA.out.2.2.1.drewN n2).trans hs3.rf
 go_wp2_with fail
 refine(ih b (sgn s [40] st) _ _ r2 st2 HMh.out hR3 rfl).mono ?_
 rintro e w4 ⟨ao4,p4,rfl,hR4,hF4,hp4,ht4⟩
 have HT4:=z8 ht4
 have hb4:=zK b p4 s st2.bad w4 hR4
 rw [hp4] at hb4
 have HB4:=z8 hb4
 clear ht4 hb4
 go_wp2_with fail
 refine HB4.out.mono ?_
 rintro e w5 ⟨rfl,hR5,hs5⟩
 go_wp2_with fail
 refine(zN b st2.at_ s _ st2.bad _ hR5 (by decide)).mono ?_
 rintro e w6 ⟨rfl,hR6,hs6⟩
 go_wp2_with fail
 go_ret
 refine⟨ao4,_,rfl,hR6,((hF3.trans hF4).trans hs5.rf).trans hs6.rf,rfl,fun hb=> ?_⟩
 have hb2:st2.bad=false:=by
  cases hq:st2.bad with
  |false=>rfl
  |true=>
   have h2:=(z0b (s:=s) (c:=41) (cs:=[]) hq).1
   rw [h2] at hb
   cases hb
 obtain⟨f,i,q1,q2,q3⟩:=HT4.out hb2
 exact⟨f,i,q1,q2,((q3.low hF3.size).keep hs5.rf).keep hs6.rf⟩
theorem ze6 (s:zgS)(n:Nat)(b:Nat)(st:St)(w:World)(p:Nat)(r:Int)(st':St)(hM:M s (n+1) 7 0 st=some (r,st'))(hR:Rd w b s p st.bad)(hp:skip s p st.bad=st.at_)
  (h1:zg (pkS s st)=false) (h2:(pkS s st==34)=false) (h3:(pkS s st==64)=true) (ih:OKR s 0 0 n):
  Calls Tryz.prog 139 #[.pointer (some ⟨b,0,none⟩)] w fun e w'=>z3i b s st st' r w e w':=by
 rw [M_7,h1,if_neg (by decide),h2,if_neg (by decide),h3,if_pos rfl] at hM
 simp only at hM
 obtain⟨hbd,hat⟩:=z21 (s:=s) (a:=st.at_) (d:=st.bad) h3 (by omega)
 have hw:wrd s [64] st=st.put (st.at_+1,false):=by
  unfold wrd
  rw [hbd,jd (by have h:=h3;unfold pkS at h;rw [hbd] at h;simpa using h)]
  rfl
 rw [hw] at hM
 have hbl:=zK b p s st.bad w hR
 rw [hp] at hbl
 have HBL:=z8 hbl
 have hv:jg s st.at_ st.bad=64:=by simpa using (zV (s:=s) (a:=st.at_) (d:=st.bad) (c:=64) (by omega)).trans h3
 have HMh:=z8 hM
 have HNM:=z8 (z2E s (st.at_+1) false)
 have HBD:=z8 hbd
 clear hM hbl hp h1 h2 h3 hw hbd ih
 go_enter Tryz.func139,Tryz.ntmps139
 go_wp2_with fail
 refine HBL.out.mono ?_
 rintro e w1 ⟨rfl,hR1,hs1⟩
 obtain⟨c0,c1,c2,f1,f2,_,_⟩:=id hR1
 have hb1:b<w1.heap.size:=zd hR1.c0
 have hRa:Rd (w1.alloc (.cells #[.string ⟨#[]⟩,.string ⟨#[]⟩,.int .i64 st.at_,.slice none 0 0] 138)) b s st.at_ st.bad:=hR1.other (zgJ _ _ _ hb1)
 have hga:=heap_alloc_new w1 (.cells #[.string ⟨#[]⟩,.string ⟨#[]⟩,.int .i64 st.at_,.slice none 0 0] 138)
 have hFa:Rf b w (w1.alloc (.cells #[.string ⟨#[]⟩,.string ⟨#[]⟩,.int .i64 st.at_,.slice none 0 0] 138)):=hs1.rf.alloc _
 have hz1:w.heap.size=w1.heap.size:=hs1.size.symm
 have HA:=z8 (zgI hRa (zgI hga (zgI hFa hz1)))
 clear hRa hga hFa hz1 hs1 hR
 go_wp2_with fail
 refine(zQ b st.at_ s st.bad _ HA.out.1).mono ?_
 rintro e w2 ⟨rfl,n2,rfl⟩
 rw [hv]
 have hfz: ∀o:Obj,(w1.alloc o).frozen? ⟨b,1,none⟩=false:=fun o=>(World.frozen?_of_block (w:=w1) (zgJ _ _ _ hb1)).trans f1
 have hcz: ∀o:Obj,(w1.alloc o).cell? ⟨b,1,none⟩=some (.int .i64 st.at_):=fun o=>(World.cell?_of_block (w:=w1) (zgJ _ _ _ hb1)).trans c1
 have hnb:w1.heap.size≠b:=by omega
 go_wp2_with fail
 refine(jG _ _ (by omega)).mono ?_
 rintro e w2 ⟨rfl,rfl⟩
 rw [show zg 64=false by decide]
 go_wp2_with fail
 have hR2:Rd (((w1.alloc (.cells #[.string ⟨#[]⟩,.string ⟨#[]⟩,.int .i64 st.at_,.slice none 0 0] 138)).drewN n2).setCell ⟨w1.heap.size,0,none⟩ (.string ⟨#[97,116]⟩)) b s st.at_ st.bad:=(HA.out.1.drewN n2).other (zgQ _ _ _ _ (by simp;omega))
 have hR2':=hR2.setAt' (st.at_+1) (st.at_+1) (by omega) hat
 rw [HBD.out] at hR2'
 refine(z0A b (st.at_+1) s false _ hR2').mono ?_
 rintro e w3 ⟨rfl,hR3,hs3⟩
 have hg3:w3.heap[w1.heap.size]?=some (.cells #[.string ⟨#[97,116]⟩,.string ⟨#[]⟩,.int .i64 st.at_,.slice none 0 0] 138):=(hs3.block w1.heap.size hnb).trans ((zgQ _ _ _ _ hnb).trans (z7y HA.out.2.1 _))
 have hF3:Rf b w w3:=(((HA.out.2.2.1.drewN n2).setCell (a:=⟨w1.heap.size,0,none⟩) (by rw [HA.out.2.2.2];exact zgH _) _).setB 1 _).trans hs3.rf
 obtain⟨y0,y1,y2,y3,yf⟩:=jN hg3
 have hM:jQ (st.put3 (zw s (st.at_+1) false)) ⟨4,st.at_,(zw s (st.at_+1) false).2.2,-1,-1⟩=some (r,st'):=HMh.out
 rw [HNM.out] at hM
 have hge:w.heap.size≤w1.heap.size:=Nat.le_of_eq HA.out.2.2.2
 clear HMh HNM HA HBL hR2 hR2' hs3 c0 c1 c2 f1 f2 hR1 hfz hcz
 generalize z19 s (st.at_+1) false=q at*
 obtain⟨qp,qd,qt⟩:=q
 have hR3:Rd w3 b s qp qd:=hR3
 obtain⟨hl,h6⟩:=zj hM
 cases h6
 have hR4:=hR3.other (w':=w3.setCell ⟨w1.heap.size,1,none⟩ (.string qt)) (zgQ _ _ _ _ (by simp;omega))
 have hg4:=zcS hg3 (.string qt)
 have hF4:=hF3.setCell (a:=⟨w1.heap.size,1,none⟩) hge (.string qt)
 have HF:=z8 (jV (st:=st) (c:=(skip s qp qd,qd,qt)) (form:=4) hF4 hge hnb hg4 hR4 rfl (fun _=>⟨.inr (.inr (.inr (.inr ⟨rfl,rfl⟩))),rfl⟩))
 clear hM hF3 hF4 hR3 hR4 hg3 hg4
 go_wp2_with fail
 go_ret
 exact HF.out
theorem zca {a b:zgS}(h:a.data.toList=b.data.toList):a=b:=by
 cases a with
 |mk x=>
  cases b with
  |mk y=>simp at h;simp [h]
theorem z7X {s:zgS}{a k:Nat}(h1:a≤k)(h2:k+1≤s.size):s.extract a k++s.extract k (k+1)=s.extract a (k+1):=by
 apply zca
 have e: ∀i j,(s.extract i j).data.toList=(s.data.toList.drop i).take (j - i):=fun i j=>by
  rw [←zgG];exact z2k s i j
 rw [ByteArray.data_append,Array.toList_append,e,e,e]
 rw [show k+1 - a=(k - a)+1 by omega,show k+1 - k=1 by omega,List.take_add,List.drop_drop,show a+(k - a)=k by omega]
theorem z7v (s:zgS)(a:Nat):s.extract a a=⟨#[]⟩:=by
 apply zca
 rw [←zgG,z2k]
 simp
theorem z7C {s:zgS}{a k:Nat}(h1:a≤k)(h2:k≤s.size):(s.extract a k).size=k - a:=by simp;omega
theorem zdZ {s:zgS}{a k:Nat}(h1:a≤k)(h2:k≤s.size)(h3:a<s.size):((s.extract a k).toList==[48])=(decide (k=a+1)&&(pk s a false==48)):=by
 rw [z2k]
 by_cases hk:k=a+1
 ·subst hk
  rw [z5u s a h3,show a+1 - a=1 by omega,show pk s a false=(s[a].toNat:Int) by simp [pk,h3],show((s[a].toNat:Int)==48)=(s[a]==48) from(z5A s[a] 48).symm]
  simp
 ·have:((s.data.toList.drop a).take (k - a)).length=k - a:=by simp;omega
  rw [show decide (k=a+1)=false by simp [hk],Bool.false_and,beq_eq_false_iff_ne]
  intro e
  rw [e] at this
  simp at this
  omega
theorem za0 (s:zgS)(n:Nat)(b:Nat)(st:St)(w:World)(p:Nat)(r:Int)(st':St)(hM:M s (n+1) 7 0 st=some (r,st'))(hR:Rd w b s p st.bad)(hp:skip s p st.bad=st.at_)
  (h1:zg (pkS s st)=true):
  Calls Tryz.prog 139 #[.pointer (some ⟨b,0,none⟩)] w fun e w'=>z3i b s st st' r w e w':=by
 rw [M_7,h1,if_pos rfl] at hM
 simp only at hM
 have hrng:48≤pk s st.at_ st.bad∧pk s st.at_ st.bad≤57:=by have h:=h1;unfold zg at h;rw [Bool.and_eq_true] at h;exact⟨of_decide_eq_true h.1,of_decide_eq_true h.2⟩
 obtain⟨hbd,hat⟩:=jT (s:=s) (a:=st.at_) (d:=st.bad) (by omega)
 have hbl:=zK b p s st.bad w hR
 rw [hp] at hbl
 have HBL:=z8 hbl
 have t1:zg (jg s st.at_ st.bad)=true:=(jC _ _ _).trans h1
 have t4:(jg s st.at_ st.bad==40)=false:=by
  rw [zV (by omega),beq_eq_false_iff_ne];omega
 have HMh:=z8 hM
 have HBD:=z8 hbd
 have H1:=z8 h1
 clear hM hbl hp h1 hbd hrng
 go_enter Tryz.func139,Tryz.ntmps139
 go_wp2_with fail
 refine HBL.out.mono ?_
 rintro e w1 ⟨rfl,hR1,hs1⟩
 obtain⟨c0,c1,c2,f1,f2,_,_⟩:=id hR1
 have hb1:b<w1.heap.size:=zd hR1.c0
 have hRa:Rd (w1.alloc (.cells #[.string ⟨#[]⟩,.string ⟨#[]⟩,.int .i64 st.at_,.slice none 0 0] 138)) b s st.at_ st.bad:=hR1.other (zgJ _ _ _ hb1)
 have hga:=heap_alloc_new w1 (.cells #[.string ⟨#[]⟩,.string ⟨#[]⟩,.int .i64 st.at_,.slice none 0 0] 138)
 have hFa:Rf b w (w1.alloc (.cells #[.string ⟨#[]⟩,.string ⟨#[]⟩,.int .i64 st.at_,.slice none 0 0] 138)):=hs1.rf.alloc _
 have hz1:w.heap.size=w1.heap.size:=hs1.size.symm
 have HA:=z8 (zgI hRa (zgI hga (zgI hFa hz1)))
 clear hRa hga hFa hz1 hs1 hR
 go_wp2_with fail
 refine(zQ b st.at_ s st.bad _ HA.out.1).mono ?_
 rintro e w2 ⟨rfl,n2,rfl⟩
 go_wp2_with fail
 refine(jG _ _ (j9 _ _ _)).mono ?_
 rintro e w2 ⟨rfl,rfl⟩
 rw [t1]
 have hnb:w1.heap.size≠b:=by omega
 have hge:w.heap.size≤w1.heap.size:=Nat.le_of_eq HA.out.2.2.2
 have hR2:Rd (((w1.alloc (.cells #[.string ⟨#[]⟩,.string ⟨#[]⟩,.int .i64 st.at_,.slice none 0 0] 138)).drewN n2).setCell ⟨w1.heap.size,0,none⟩ (.string ⟨#[110,117,109]⟩)) b s st.at_ st.bad:=(HA.out.1.drewN n2).other (zgQ _ _ _ _ (by simp;omega))
 have hg2:=z7y (w:=(w1.alloc (.cells #[.string ⟨#[]⟩,.string ⟨#[]⟩,.int .i64 st.at_,.slice none 0 0] 138)).drewN n2) HA.out.2.1 (.string ⟨#[110,117,109]⟩)
 have hF2:=(HA.out.2.2.1.drewN n2).setCell (a:=⟨w1.heap.size,0,none⟩) hge (.string ⟨#[110,117,109]⟩)
 rw [HBD.out] at hR2
 obtain⟨m,HMM⟩: ∃m,Hid ((if pk s st.at_ false==48 then 1 else 9)=m):=⟨_,z8 rfl⟩
 have HS:=z8 (zgI hR2 (zgI hg2 hF2))
 have hle1:st.at_≤s.size:=by omega
 have hsz1:s.size≤600:=HA.out.1.sz
 clear hR2 hg2 hF2 HA c0 c1 c2 f1 f2 hR1 t1 t4 HBL
 go_wp2_with fail
 go_loopg [] (s.size+1) (fun g wr=> ∃k,g+(k - st.at_)=s.size+1∧st.at_≤k∧k≤st.at_+m∧Rd wr b s k false∧wr.heap[w1.heap.size]?=some (.cells #[.string ⟨#[110,117,109]⟩,.string (s.extract st.at_ k),.int .i64 st.at_,.slice none 0 0] 138)∧Rf b w wr∧Hid (run zg s false (m -(k - st.at_)) k=run zg s false m st.at_))
 case atStart=>exact⟨st.at_,by omega,zgH _,by omega,HS.out.1,by rw [z7v];exact HS.out.2.1,HS.out.2.2,by simp [Hid]⟩
 case round=>
  obtain⟨k,hgk,hak,hkm,hRk,hgW,hFk,hrun⟩:=hrel
  have HGK:=z8 hgk
  have hksz:=hRk.le
  have hxs:(s.extract st.at_ k).size=k - st.at_:=z7C hak hksz
  have hno:=zdZ (s:=s) hak hksz hat
  obtain⟨c0,c1,c2,f1,f2,_,_⟩:=id hRk
  obtain⟨y0,y1,y2,y3,yf⟩:=jN hgW
  have HRk:=z8 hRk
  have HGW:=z8 hgW
  clear hgk hRk hgW
  by_cases hcont:k - st.at_<m∧zg (pk s k false)=true
  ·obtain⟨hkm2,hdk⟩:=hcont
   have hkl:k<s.size:=(jT (s:=s) (a:=k) (d:=false) (fun e=>by rw [e] at hdk;exact absurd hdk (by decide))).2
   have hd2:zg (jg s k false)=true:=(jC _ _ _).trans hdk
   have hm9:m≤9:=by have h:=HMM.out;split at h<;>omega
   have hs0:((s.extract st.at_ k).toList==[48])=false:=by
    rw [hno]
    cases h48:(pk s st.at_ false==48)
    ·simp
    ·have h:=HMM.out
     rw [h48,if_pos rfl] at h
     rw [show decide (k=st.at_+1)=false by simp;omega]
     rfl
   have hrun2:Hid (run zg s false (m -(k+1 - st.at_)) (k+1)=run zg s false m st.at_):=z8 (by
    rw [←hrun.out,show m -(k - st.at_)=(m -(k+1 - st.at_))+1 by omega,z1q hdk])
   have hsn:Hid (s.extract st.at_ k++s.extract k (k+1)=s.extract st.at_ (k+1)):=z8 (z7X hak hkl)
   have hlen:(k:Int)- st.at_<9:=by omega
   clear hno hrun
   generalize hS:s.extract st.at_ k=S at*
   have HSS:=z8 hS
   clear hS
   have hSz:(S.size:Int)<9:=by omega
   go_wp2_with (first|(go_at_call 96;refine(zQ b k s false _ (by first|exact HRk.out|exact HRk.out.drewN _)).mono ?_;rintro e w4 ⟨rfl,n4,rfl⟩)|(go_at_call 142;refine(jG _ _ (j9 _ _ _)).mono ?_;rintro e w4 ⟨rfl,rfl⟩))
   have hwr:IntKind.i64.wrap ((k:Int)+1)=(k:Int)+1:=by rw [IntWalk.i64_left,IntWalk.wrap64_in _ (by omega)]
   have hki:(k:Int)+1≤s.size:=by omega
   go_region
   have hRx:=(HRk.out.drewN (n4+1)).other (w':=(wr.drewN (n4+1)).setCell ⟨w1.heap.size,1,none⟩ (.string (S++s.extract k (k+1)))) (zgQ _ _ _ _ (by simp;omega))
   have hRy:=hRx.setAt' (k+1) (k+1) (by omega) hkl
   have hgx:=zcS (w:=wr.drewN (n4+1)) HGW.out (.string (S++s.extract k (k+1)))
   have hFx:=((hFk.drewN (n4+1)).setCell (a:=⟨w1.heap.size,1,none⟩) hge (.string (S++s.extract k (k+1)))).setB 1 (.int .i64 (k+1))
   have hgy:=(zgQ ((wr.drewN (n4+1)).setCell ⟨w1.heap.size,1,none⟩ (.string (S++s.extract k (k+1)))) ⟨b,1,none⟩ (.int .i64 (k+1)) w1.heap.size hnb).trans hgx
   obtain⟨x0,x1,x2,x3,x4,_,_⟩:=id hRx
   have HFIN:=z8 (zgI hRy (zgI hgy hFx))
   clear hRx hRy hgx hFx hgy c0 c1 c2 f1 f2 y0 y1 y2 y3 yf
   go_wp2_with fail
   go_roundg (s.size+1 -(k+1 - st.at_))
   case measure=>have:=HGK.out;omega
   case rel=>
    refine⟨k+1,by have:=HGK.out;omega,by omega,by omega,HFIN.out.1,?_,HFIN.out.2.2,hrun2⟩
    rw [←hsn.out]
    exact HFIN.out.2.1
  ·have hrn:Hid (run zg s false m st.at_=k):=by
    by_cases h8:k - st.at_<m
    ·refine z8 ?_
     rw [←hrun.out]
     exact ju (by cases hc:zg (pk s k false) with|false=>rfl|true=>exact absurd ⟨h8,hc⟩ hcont)
    ·exact z8 (by rw [←hrun.out,show m -(k - st.at_)=0 by omega];rfl)
   have hka:k≠st.at_:=by
    intro e
    have hm1:0<m:=by have h:=HMM.out;split at h<;>omega
    exact hcont ⟨by omega,by rw [e];have h:=H1.out;unfold pkS at h;rw [HBD.out] at h;exact h⟩
   by_cases h9:k - st.at_<9
   ·have hlen:((s.extract st.at_ k).size:Int)<9:=by omega
    cases hdk:zg (pk s k false)
    ·have hd2:zg (jg s k false)=false:=(jC _ _ _).trans hdk
     clear hno hcont
     have hnum:zO s st.at_ st.bad=(skip s k false,false,s.extract st.at_ k):=by
      rw [HBD.out];unfold zO;rw [HMM.out]
      exact z6J hrn.out hka hdk
     have hM:=HMh.out
     rw [hnum] at hM
     obtain⟨hl,h6⟩:=zj hM
     cases h6
     have HF:=fun nn=>jV (st:=st) (c:=(skip s k false,false,s.extract st.at_ k)) (form:=0) (a:=st.at_) ((hFk.drewN nn).setB 2 (.bool false)) hge hnb ((zgQ _ _ _ _ hnb).trans HGW.out) ((HRk.out.drewN nn).setBad false) rfl (fun _=>⟨.inl ⟨rfl,rfl⟩,rfl⟩)
     have HF:=z8 HF
     clear hM HMh HMM hrn hrun
     go_wp2_with (first|(go_at_call 96;refine(zQ b k s false _ (by first|exact HRk.out|exact HRk.out.drewN _)).mono ?_;rintro e w4 ⟨rfl,n4,rfl⟩)|(go_at_call 142;refine(jG _ _ (j9 _ _ _)).mono ?_;rintro e w4 ⟨rfl,rfl⟩))
     go_ret
     exact HF.out _
    ·have hd2:zg (jg s k false)=true:=(jC _ _ _).trans hdk
     have hs0:((s.extract st.at_ k).toList==[48])=true:=by
      rw [hno]
      cases h48:(pk s st.at_ false==48)
      ·have h:=HMM.out
       rw [h48,if_neg (by decide)] at h
       exact absurd ⟨by omega,hdk⟩ hcont
      ·have h:=HMM.out
       rw [h48,if_pos rfl] at h
       have: ¬k - st.at_<m:=fun q=>hcont ⟨q,hdk⟩
       rw [show decide (k=st.at_+1)=true by simp;omega]
       rfl
     have hs1:(s.extract st.at_ k).toList=[48]:=by simpa using hs0
     clear hno hcont
     have hnum:zO s st.at_ st.bad=(k,true,⟨#[]⟩):=by
      rw [HBD.out];unfold zO;rw [HMM.out]
      exact z4O hrn.out (.inr hdk)
     have hM:=HMh.out
     rw [hnum] at hM
     obtain⟨hl,h6⟩:=zj hM
     cases h6
     have HF:=fun nn=>jV (st:=st) (c:=(k,true,⟨#[]⟩)) (form:=0) (a:=st.at_) ((hFk.drewN nn).setB 2 (.bool true)) hge hnb ((zgQ _ _ _ _ hnb).trans HGW.out) ((HRk.out.drewN nn).setBad true) (jJ s k) (fun h=>by cases h)
     have HF:=z8 HF
     clear hM HMh HMM hrn hrun
     go_wp2_with (first|(go_at_call 96;refine(zQ b k s false _ (by first|exact HRk.out|exact HRk.out.drewN _)).mono ?_;rintro e w4 ⟨rfl,n4,rfl⟩)|(go_at_call 142;refine(jG _ _ (j9 _ _ _)).mono ?_;rintro e w4 ⟨rfl,rfl⟩))
     go_ret
     exact HF.out _
   ·have hlen: ¬((s.extract st.at_ k).size:Int)<9:=by omega
    clear hno hcont
    cases hdk:zg (pk s k false)
    ·have hd2:zg (jg s k false)=false:=(jC _ _ _).trans hdk
     have hnum:zO s st.at_ st.bad=(skip s k false,false,s.extract st.at_ k):=by
      rw [HBD.out];unfold zO;rw [HMM.out]
      exact z6J hrn.out hka hdk
     have hM:=HMh.out
     rw [hnum] at hM
     obtain⟨hl,h6⟩:=zj hM
     cases h6
     have HF:=fun nn=>jV (st:=st) (c:=(skip s k false,false,s.extract st.at_ k)) (form:=0) (a:=st.at_) ((hFk.drewN nn).setB 2 (.bool false)) hge hnb ((zgQ _ _ _ _ hnb).trans HGW.out) ((HRk.out.drewN nn).setBad false) rfl (fun _=>⟨.inl ⟨rfl,rfl⟩,rfl⟩)
     have HF:=z8 HF
     clear hM HMh HMM hrn hrun
     go_wp2_with (first|(go_at_call 96;refine(zQ b k s false _ (by first|exact HRk.out|exact HRk.out.drewN _)).mono ?_;rintro e w4 ⟨rfl,n4,rfl⟩)|(go_at_call 142;refine(jG _ _ (j9 _ _ _)).mono ?_;rintro e w4 ⟨rfl,rfl⟩))
     go_ret
     exact HF.out _
    ·have hd2:zg (jg s k false)=true:=(jC _ _ _).trans hdk
     have hnum:zO s st.at_ st.bad=(k,true,⟨#[]⟩):=by
      rw [HBD.out];unfold zO;rw [HMM.out]
      exact z4O hrn.out (.inr hdk)
     have hM:=HMh.out
     rw [hnum] at hM
     obtain⟨hl,h6⟩:=zj hM
     cases h6
     have HF:=fun nn=>jV (st:=st) (c:=(k,true,⟨#[]⟩)) (form:=0) (a:=st.at_) ((hFk.drewN nn).setB 2 (.bool true)) hge hnb ((zgQ _ _ _ _ hnb).trans HGW.out) ((HRk.out.drewN nn).setBad true) (jJ s k) (fun h=>by cases h)
     have HF:=z8 HF
     clear hM HMh HMM hrn hrun
     go_wp2_with (first|(go_at_call 96;refine(zQ b k s false _ (by first|exact HRk.out|exact HRk.out.drewN _)).mono ?_;rintro e w4 ⟨rfl,n4,rfl⟩)|(go_at_call 142;refine(jG _ _ (j9 _ _ _)).mono ?_;rintro e w4 ⟨rfl,rfl⟩))
     go_ret
     exact HF.out _
theorem z9j (s:zgS)(n:Nat)(b:Nat)(st:St)(w:World)(p:Nat)(r:Int)(st':St)(hM:M s (n+1) 7 0 st=some (r,st'))(hR:Rd w b s p st.bad)(hp:skip s p st.bad=st.at_)
  (h1:zg (pkS s st)=false) (h2:(pkS s st==34)=true):
  Calls Tryz.prog 139 #[.pointer (some ⟨b,0,none⟩)] w fun e w'=>z3i b s st st' r w e w':=by
 rw [M_7,h1,if_neg (by decide),h2,if_pos rfl] at hM
 simp only at hM
 obtain⟨hbd,hat⟩:=z21 (s:=s) (a:=st.at_) (d:=st.bad) h2 (by omega)
 have hq:zT s st.at_ st.bad=((jo s false [34] (run zo s false 12 (st.at_+1))).1,(jo s false [34] (run zo s false 12 (st.at_+1))).2,s.extract (st.at_+1) (run zo s false 12 (st.at_+1))):=by
  unfold zT
  rw [hbd,jd (by have h:=h2;unfold pkS at h;rw [hbd] at h;simpa using h)]
  rfl
 rw [hq] at hM
 have hbl:=zK b p s st.bad w hR
 rw [hp] at hbl
 have HBL:=z8 hbl
 have hv:jg s st.at_ st.bad=34:=by simpa using (zV (s:=s) (a:=st.at_) (d:=st.bad) (c:=34) (by omega)).trans h2
 have HMh:=z8 hM
 have HBD:=z8 hbd
 clear hM hbl hp h1 h2 hq hbd
 go_enter Tryz.func139,Tryz.ntmps139
 go_wp2_with fail
 refine HBL.out.mono ?_
 rintro e w1 ⟨rfl,hR1,hs1⟩
 obtain⟨c0,c1,c2,f1,f2,_,_⟩:=id hR1
 have hb1:b<w1.heap.size:=zd hR1.c0
 have hRa:Rd (w1.alloc (.cells #[.string ⟨#[]⟩,.string ⟨#[]⟩,.int .i64 st.at_,.slice none 0 0] 138)) b s st.at_ st.bad:=hR1.other (zgJ _ _ _ hb1)
 have hga:=heap_alloc_new w1 (.cells #[.string ⟨#[]⟩,.string ⟨#[]⟩,.int .i64 st.at_,.slice none 0 0] 138)
 have hFa:Rf b w (w1.alloc (.cells #[.string ⟨#[]⟩,.string ⟨#[]⟩,.int .i64 st.at_,.slice none 0 0] 138)):=hs1.rf.alloc _
 have hz1:w.heap.size=w1.heap.size:=hs1.size.symm
 have HA:=z8 (zgI hRa (zgI hga (zgI hFa hz1)))
 clear hRa hga hFa hz1 hs1 hR
 go_wp2_with fail
 refine(zQ b st.at_ s st.bad _ HA.out.1).mono ?_
 rintro e w2 ⟨rfl,n2,rfl⟩
 rw [hv]
 have hfz: ∀o:Obj,(w1.alloc o).frozen? ⟨b,1,none⟩=false:=fun o=>(World.frozen?_of_block (w:=w1) (zgJ _ _ _ hb1)).trans f1
 have hcz: ∀o:Obj,(w1.alloc o).cell? ⟨b,1,none⟩=some (.int .i64 st.at_):=fun o=>(World.cell?_of_block (w:=w1) (zgJ _ _ _ hb1)).trans c1
 have hnb:w1.heap.size≠b:=by omega
 have hge:w.heap.size≤w1.heap.size:=Nat.le_of_eq HA.out.2.2.2
 have hR2:Rd (((w1.alloc (.cells #[.string ⟨#[]⟩,.string ⟨#[]⟩,.int .i64 st.at_,.slice none 0 0] 138)).drewN n2).setCell ⟨w1.heap.size,0,none⟩ (.string ⟨#[115,116,114]⟩)) b s st.at_ st.bad:=(HA.out.1.drewN n2).other (zgQ _ _ _ _ (by simp;omega))
 have hR2':=hR2.setAt' (st.at_+1) (st.at_+1) (by omega) hat
 rw [HBD.out] at hR2'
 have hg2:=(zgQ (((w1.alloc (.cells #[.string ⟨#[]⟩,.string ⟨#[]⟩,.int .i64 st.at_,.slice none 0 0] 138)).drewN n2).setCell ⟨w1.heap.size,0,none⟩ (.string ⟨#[115,116,114]⟩)) ⟨b,1,none⟩ (.int .i64 (st.at_+1)) w1.heap.size hnb).trans (z7y (w:=(w1.alloc (.cells #[.string ⟨#[]⟩,.string ⟨#[]⟩,.int .i64 st.at_,.slice none 0 0] 138)).drewN n2) HA.out.2.1 (.string ⟨#[115,116,114]⟩))
 have hF2:=((HA.out.2.2.1.drewN n2).setCell (a:=⟨w1.heap.size,0,none⟩) hge (.string ⟨#[115,116,114]⟩)).setB 1 (.int .i64 (st.at_+1))
 have HS:=z8 (zgI hR2' (zgI hg2 hF2))
 have hsz1:s.size≤600:=HA.out.1.sz
 clear hR2 hR2' hg2 hF2 HA c2 f1 f2 hR1 HBL
 go_wp2_with fail
 refine(jG _ _ (by omega)).mono ?_
 rintro e w2 ⟨rfl,rfl⟩
 rw [show zg 34=false by decide]
 go_wp2_with fail
 clear hfz hcz c0 c1
 obtain⟨a1,HA1⟩: ∃a1,Hid (st.at_+1=a1):=⟨_,z8 rfl⟩
 have ha1:a1=st.at_+1:=HA1.out.symm
 have hm:=HMh.out
 rw [HA1.out] at hm
 have HMh:=z8 hm
 clear hm
 go_loopg [] (s.size+1) (fun g wr=> ∃k,g+(k - a1)=s.size+1∧a1≤k∧k≤a1+12∧Rd wr b s k false∧wr.heap[w1.heap.size]?=some (.cells #[.string ⟨#[115,116,114]⟩,.string (s.extract a1 k),.int .i64 st.at_,.slice none 0 0] 138)∧Rf b w wr∧Hid (run zo s false (12 -(k - a1)) k=run zo s false 12 a1))
 case atStart=>exact⟨a1,by omega,zgH _,by omega,by rw [ha1];exact HS.out.1,by rw [z7v];exact HS.out.2.1,HS.out.2.2,by simp [Hid]⟩
 case round=>
  obtain⟨k,hgk,hak,hkm,hRk,hgW,hFk,hrun⟩:=hrel
  have HGK:=z8 hgk
  have hksz:=hRk.le
  have hxs:(s.extract a1 k).size=k - a1:=z7C hak hksz
  obtain⟨c0,c1,c2,f1,f2,_,_⟩:=id hRk
  obtain⟨y0,y1,y2,y3,yf⟩:=jN hgW
  have HRk:=z8 hRk
  have HGW:=z8 hgW
  have HAE:=z8 ha1
  clear hgk hRk hgW ha1
  by_cases hcont:k - a1<12∧zo (pk s k false)=true
  ·obtain⟨hkm2,hdk⟩:=hcont
   have hkl:k<s.size:=(jT (s:=s) (a:=k) (d:=false) (fun e=>by rw [e] at hdk;exact absurd hdk (by decide))).2
   have hpk:pk s k false=(s[k].toNat:Int):=by simp [pk,hkl]
   have hq1:((s[k].toNat:Int) !=34)=true∧((s[k].toNat:Int) !=10)=true:=by
    rw [hpk] at hdk
    unfold zo at hdk
    simp only [Bool.and_eq_true] at hdk
    exact⟨hdk.1.2,hdk.2⟩
   obtain⟨hq1,hq2⟩:=hq1
   have hrun2:Hid (run zo s false (12 -(k+1 - a1)) (k+1)=run zo s false 12 a1):=z8 (by
    rw [←hrun.out,show 12 -(k - a1)=(12 -(k+1 - a1))+1 by omega,z1q hdk])
   have hsn:Hid (s.extract a1 k++s.extract k (k+1)=s.extract a1 (k+1)):=z8 (z7X hak hkl)
   have hlti:(k:Int)<s.size:=by omega
   clear hrun hdk hpk
   generalize hS:s.extract a1 k=S at*
   have HSS:=z8 hS
   clear hS
   have hSz:(S.size:Int)<12:=by omega
   clear hxs
   have hwr:IntKind.i64.wrap ((k:Int)+1)=(k:Int)+1:=by rw [IntWalk.i64_left,IntWalk.wrap64_in _ (by omega)]
   have hki:(k:Int)+1≤s.size:=by omega
   go_wp2_with fail
   go_quiet (fail)
   go_wp2_with fail
   go_region
   have hRx:=(HRk.out.drewN (nq+1)).other (w':=(wr.drewN (nq+1)).setCell ⟨w1.heap.size,1,none⟩ (.string (S++s.extract k (k+1)))) (zgQ _ _ _ _ (by simp;omega))
   have hRy:=hRx.setAt' (k+1) (k+1) (by omega) hkl
   have hgx:=zcS (w:=wr.drewN (nq+1)) HGW.out (.string (S++s.extract k (k+1)))
   have hFx:=((hFk.drewN (nq+1)).setCell (a:=⟨w1.heap.size,1,none⟩) hge (.string (S++s.extract k (k+1)))).setB 1 (.int .i64 (k+1))
   have hgy:=(zgQ ((wr.drewN (nq+1)).setCell ⟨w1.heap.size,1,none⟩ (.string (S++s.extract k (k+1)))) ⟨b,1,none⟩ (.int .i64 (k+1)) w1.heap.size hnb).trans hgx
   obtain⟨x0,x1,x2,x3,x4,_,_⟩:=id hRx
   have HFIN:=z8 (zgI hRy (zgI hgy hFx))
   clear hRx hRy hgx hFx hgy c0 c1 c2 f1 f2 y0 y1 y2 y3 yf
   go_wp2_with fail
   go_roundg (s.size+1 -(k+1 - a1))
   case measure=>have:=HGK.out;omega
   case rel=>
    refine⟨k+1,by have:=HGK.out;omega,by omega,by omega,HFIN.out.1,?_,HFIN.out.2.2,hrun2⟩
    rw [←hsn.out]
    exact HFIN.out.2.1
  ·have hrn:Hid (run zo s false 12 a1=k):=by
    by_cases h8:k - a1<12
    ·refine z8 ?_
     rw [←hrun.out]
     exact ju (by cases hc:zo (pk s k false) with|false=>rfl|true=>exact absurd ⟨h8,hc⟩ hcont)
    ·exact z8 (by rw [←hrun.out,show 12 -(k - a1)=0 by omega];rfl)
   generalize hS:s.extract a1 k=S at*
   have HSS:=z8 hS
   clear hS
   by_cases h9:k - a1<12
   ·have hlen:(S.size:Int)<12:=by omega
    clear hxs
    by_cases hkl:k<s.size
    ·have hlti:(k:Int)<s.size:=by omega
     have hpk:pk s k false=(s[k].toNat:Int):=by simp [pk,hkl]
     cases h34:((s[k].toNat:Int) !=34)
     ·clear hpk hcont
      have hM:=HMh.out
      rw [hrn.out,HSS.out] at hM
      obtain⟨hl,h6⟩:=zj hM
      cases h6
      clear hM HMh hrn hrun
      go_wp2_with fail
      go_quiet (fail)
      go_wp2_with fail
      refine(zN b k s _ false _ (by exact HRk.out.drewN _) (by decide)).mono ?_
      rintro e w5 ⟨rfl,hR5,hs5⟩
      have HF:=z8 (jV (st:=st) (c:=((jo s false [34] k).1,(jo s false [34] k).2,S)) (form:=1) (a:=st.at_) ((hFk.drewN _).trans hs5.rf) hge hnb ((hs5.block _ hnb).trans HGW.out) hR5 rfl (fun _=>⟨.inr (.inl ⟨rfl,rfl⟩),rfl⟩))
      go_wp2_with fail
      go_ret
      exact HF.out
     ·have h10:((s[k].toNat:Int) !=10)=false:=by
       cases h10:((s[k].toNat:Int) !=10) with
       |false=>rfl
       |true=>
        refine absurd ⟨h9,?_⟩ hcont
        rw [hpk]
        unfold zo
        rw [h34,h10]
        have hne:((s[k].toNat:Int) != -1)=true:=by simp
        rw [hne]
        rfl
      clear hpk hcont
      have hM:=HMh.out
      rw [hrn.out,HSS.out] at hM
      obtain⟨hl,h6⟩:=zj hM
      cases h6
      clear hM HMh hrn hrun
      go_wp2_with fail
      go_quiet (fail)
      go_wp2_with fail
      refine(zN b k s _ false _ (by exact HRk.out.drewN _) (by decide)).mono ?_
      rintro e w5 ⟨rfl,hR5,hs5⟩
      have HF:=z8 (jV (st:=st) (c:=((jo s false [34] k).1,(jo s false [34] k).2,S)) (form:=1) (a:=st.at_) ((hFk.drewN _).trans hs5.rf) hge hnb ((hs5.block _ hnb).trans HGW.out) hR5 rfl (fun _=>⟨.inr (.inl ⟨rfl,rfl⟩),rfl⟩))
      go_wp2_with fail
      go_ret
      exact HF.out
    ·have hlti: ¬(k:Int)<s.size:=by omega
     have hd:decide ((k:Int)<s.size)=false:=by simp;omega
     clear hcont
     have hM:=HMh.out
     rw [hrn.out,HSS.out] at hM
     obtain⟨hl,h6⟩:=zj hM
     cases h6
     clear hM HMh hrn hrun
     go_wp2_with fail
     go_quiet (fail)
     go_wp2_with fail
     refine(zN b k s _ false _ (by exact HRk.out.drewN _) (by decide)).mono ?_
     rintro e w5 ⟨rfl,hR5,hs5⟩
     have HF:=z8 (jV (st:=st) (c:=((jo s false [34] k).1,(jo s false [34] k).2,S)) (form:=1) (a:=st.at_) ((hFk.drewN _).trans hs5.rf) hge hnb ((hs5.block _ hnb).trans HGW.out) hR5 rfl (fun _=>⟨.inr (.inl ⟨rfl,rfl⟩),rfl⟩))
     go_wp2_with fail
     go_ret
     exact HF.out
   ·have hlen: ¬(S.size:Int)<12:=by omega
    have hd:decide ((S.size:Int)<12)=false:=by simp;omega
    clear hxs hcont
    have hM:=HMh.out
    rw [hrn.out,HSS.out] at hM
    obtain⟨hl,h6⟩:=zj hM
    cases h6
    clear hM HMh hrn hrun
    go_wp2_with fail
    go_quiet (fail)
    go_wp2_with fail
    refine(zN b k s _ false _ (by exact HRk.out.drewN _) (by decide)).mono ?_
    rintro e w5 ⟨rfl,hR5,hs5⟩
    have HF:=z8 (jV (st:=st) (c:=((jo s false [34] k).1,(jo s false [34] k).2,S)) (form:=1) (a:=st.at_) ((hFk.drewN _).trans hs5.rf) hge hnb ((hs5.block _ hnb).trans HGW.out) hR5 rfl (fun _=>⟨.inr (.inl ⟨rfl,rfl⟩),rfl⟩))
    go_wp2_with fail
    go_ret
    exact HF.out
theorem zba (s:zgS)(n:Nat)(ih:OKR s 0 0 n):z8G s 139 7 (n+1):=by
 intro b st w p r st' hM hR hp
 cases h1:zg (pkS s st)
 ·cases h2:(pkS s st==34)
  ·cases h3:(pkS s st==64)
   ·cases h4:(pkS s st==40)
    ·exact zau s n b st w p r st' hM hR hp h1 h2 h3 h4
    ·exact z99 s n b st w p r st' hM hR hp h1 h4 h2 h3 ih
   ·exact ze6 s n b st w p r st' hM hR hp h1 h2 h3 ih
  ·exact z9j s n b st w p r st' hM hR hp h1 h2
 ·exact za0 s n b st w p r st' hM hR hp h1
theorem z5s (s:zgS)(n:Nat)(ihs:z8G s 92 2 n)(ihn: ∀m,m<n→OKR s 3 4 m):z8G s 92 2 (n+1):=by
 intro b st w p r st' hM hR hp
 cases hc:(pkS s st !=33)
 ·exact z5H s n ihs b st w p r st' hM hR hp hc
 ·rw [M_2,hc,if_pos rfl] at hM
  cases n with
  |zero=>simp [M] at hM
  |succ m=>exact z6e s m (ihn m (Nat.lt_succ_self m)) b st w p r st' hM hR hp hc
theorem zer (s:zgS): ∀n,OKR s 0 0 n∧OKR s 1 1 n∧z8G s 92 2 n∧OKR s 3 4 n∧OKR s 4 5 n∧z8G s 93 6 n∧z8G s 139 7 n:=by
 have hz: ∀k tag,OKR s k tag 0:=fun k tag b st w p r st' h=>by simp [M] at h
 have hzf: ∀k tag,z8G s k tag 0:=fun k tag b st w p r st' h=>by simp [M] at h
 intro n
 induction n using Nat.strongRecOn with
 |_ n ih=>
  cases n with
  |zero=>exact⟨hz _ _,hz _ _,hzf _ _,hz _ _,hz _ _,hzf _ _,hzf _ _⟩
  |succ n=>
   have hn:=ih n (Nat.lt_succ_self n)
   exact⟨zgB s n fun m h=>(ih m (by omega)).2.1,zgo s n fun m h=>zgA s m (ih m (by omega)).2.2.1,z5s s n hn.2.2.1 fun m h=>(ih m (by omega)).2.2.2.1,
    zgw s n fun m h=>(ih m (by omega)).2.2.2.2.1,zgv s n fun m h=>zgk s m (ih m (by omega)).2.2.2.2.2.1,zcx s n hn.2.2.2.2.2.1 hn.2.2.2.2.2.2,zba s n hn.1⟩
def ExtL (st st':St):Prop:=(∃F,st'.L=st.L++F)∧st'.A=st.A∧st'.E=st.E∧st'.C=st.C
theorem ExtL.refl (st:St):ExtL st st:=⟨⟨[],by simp⟩,rfl,rfl,rfl⟩
theorem ExtL.trans {a b c:St}(h:ExtL a b)(k:ExtL b c):ExtL a c:=by
 obtain⟨⟨F,h1⟩,h2,h3,h4⟩:=h
 obtain⟨⟨G,k1⟩,k2,k3,k4⟩:=k
 exact⟨⟨F++G,by rw [k1,h1,List.append_assoc]⟩,k2.trans h2,k3.trans h3,k4.trans h4⟩
theorem ExtL.sgn {s:zgS}{l:List UInt8}{st st':St}(h:ExtL (sgn s l st) st'):ExtL st st':=h
theorem z5r {st:St}{x:Lc}{r:Int×St}(h:z2H st x=some r):ExtL st r.2:=by
 obtain⟨_,rfl⟩:=zJ h
 exact⟨⟨[x],rfl⟩,rfl,rfl,rfl⟩
theorem z07 (s:zgS): ∀n tag l p k its st r,ML s n tag l p k its st=some r→ExtL st r.2:=by
 intro n
 induction n with
 |zero=>intro tag l p k its st r h;simp [ML] at h
 |succ n ih=>
  intro tag l p k its st r h
  have three: ∀{t1 t2:Nat} {st0:St} {x:Int×St→Lc},((ML s n t1 0 0 0 [] st0).bind fun r=>(z2H r.2 (x r)).bind fun q=>ML s n t2 q.1 0 0 [] q.2)=some r→ExtL st0 r.2:=fun h=>by
   obtain⟨q,h1,h2⟩:=zgD.1 h
   obtain⟨q2,h3,h4⟩:=zgD.1 h2
   exact((ih _ _ _ _ _ _ _ h1).trans (z5r h3)).trans (ih _ _ _ _ _ _ _ h4)
  match tag,h with
  |0,h=>
   rw [z7G] at h
   obtain⟨q,h1,h2⟩:=zgD.1 h
   exact(ih _ _ _ _ _ _ _ h1).trans (ih _ _ _ _ _ _ _ h2)
  |1,h=>
   rw [z7I] at h
   obtain⟨q,h1,h2⟩:=zgD.1 h
   exact(ih _ _ _ _ _ _ _ h1).trans (ih _ _ _ _ _ _ _ h2)
  |10,h=>
   rw [z2n] at h
   split at h
   ·exact(three h).sgn
   ·cases h;exact .refl _
  |11,h=>
   rw [z2w] at h
   split at h
   ·exact(three h).sgn
   ·cases h;exact .refl _
  |2,h=>
   rw [z6l] at h
   simp only at h
   split at h
   ·obtain⟨q,h1,h2⟩:=zgD.1 h
    have kk:=ih _ _ _ _ _ _ _ h1
    cases h2
    exact kk
   ·split at h
    ·exact ih _ _ _ _ _ _ _ h
    ·have kk:=z5r h;exact kk
  |3,h=>
   rw [z9z] at h
   obtain⟨q,h1,h2⟩:=zgD.1 h
   have kk:=ih _ _ _ _ _ _ _ h1
   exact ExtL.trans kk (ih _ _ _ _ _ _ _ h2)
  |13,h=>
   rw [z2U] at h
   split at h
   ·split at h
    ·obtain⟨q,h1,h2⟩:=zgD.1 h
     have kk:=ih _ _ _ _ _ _ _ h1
     exact ExtL.trans kk (ih _ _ _ _ _ _ _ h2)
    ·have kk:=z5r h;exact kk
   ·cases h
  |4,h=>simp [ML] at h
  |5,h=>simp [ML] at h
  |6,h=>simp [ML] at h
  |7,h=>simp [ML] at h
  |8,h=>simp [ML] at h
  |9,h=>simp [ML] at h
  |12,h=>simp [ML] at h
  |t+14,h=>simp [ML] at h
theorem z4v (s:zgS): ∀n tag l p k its st r,ML s n tag l p k its st=some r→tag≠3→st.bad=true→zfr st r.2:=by
 intro n
 induction n with
 |zero=>intro tag l p k its st r h;simp [ML] at h
 |succ n ih=>
  intro tag l p k its st r h ht hb
  have hpk:=z2I (s:=s) hb
  match tag,h,ht with
  |0,h,_=>
   rw [z7G] at h
   obtain⟨q,h1,h2⟩:=zgD.1 h
   have k1:=ih _ _ _ _ _ _ _ h1 (by omega) hb
   have k2:=ih _ _ _ _ _ _ _ h2 (by omega) k1.1
   exact⟨k2.1,k2.2.trans k1.2⟩
  |1,h,_=>
   rw [z7I] at h
   obtain⟨q,h1,h2⟩:=zgD.1 h
   have k1:=ih _ _ _ _ _ _ _ h1 (by omega) hb
   have k2:=ih _ _ _ _ _ _ _ h2 (by omega) k1.1
   exact⟨k2.1,k2.2.trans k1.2⟩
  |10,h,_=>
   rw [z2n,if_neg (by rw [hpk];decide)] at h
   cases h;exact⟨hb,rfl⟩
  |11,h,_=>
   rw [z2w,if_neg (by rw [hpk];decide)] at h
   cases h;exact⟨hb,rfl⟩
  |2,h,_=>
   rw [z6l] at h
   simp only at h
   rw [if_neg (by rw [hpk];decide),if_neg (by rw [hpk];decide),hb,z12] at h
   have:=z0R h
   exact⟨this.1,this.2⟩
  |3,_,ht=>exact absurd rfl ht
  |13,h,_=>
   rw [z2U] at h
   split at h
   ·rw [if_neg (by rw [hpk];decide)] at h
    have k1:=z0R h
    have k2:=z0b (s:=s) (c:=41) (cs:=[]) hb
    exact⟨k1.1.trans k2.1,k1.2.trans k2.2⟩
   ·cases h
  |4,h,_=>simp [ML] at h
  |5,h,_=>simp [ML] at h
  |6,h,_=>simp [ML] at h
  |7,h,_=>simp [ML] at h
  |8,h,_=>simp [ML] at h
  |9,h,_=>simp [ML] at h
  |12,h,_=>simp [ML] at h
  |t+14,h,_=>simp [ML] at h
def SegV (P:Value→Nat→Nat→Prop):List Value→List Int→Nat→Nat→Prop
 |[],[],a,e=>a=e
 |v::vs,i::is,a,e=> ∃j:Nat,i=(j:Int)∧P v a j∧SegV P vs is (j+1) e
 |_,_,_,_=>False
theorem SegV.imp {P Q:Value→Nat→Nat→Prop}(h: ∀v a i,P v a i→Q v a i): ∀(vs:List Value) (is:List Int) (a e:Nat),SegV P vs is a e→SegV Q vs is a e:=by
 intro vs
 induction vs with
 |nil=>intro is a e;cases is<;>exact id
 |cons v vs ih=>
  intro is a e
  cases is with
  |nil=>exact id
  |cons i is=>intro ⟨j,h1,h2,h3⟩;exact⟨j,h1,h _ _ _ h2,ih is _ _ h3⟩
theorem SegV.snoc {P:Value→Nat→Nat→Prop}: ∀(vs:List Value) (is:List Int) (a e:Nat) (v:Value) (j:Nat),SegV P vs is a e→P v e j→SegV P (vs++[v]) (is++[(j:Int)]) a (j+1):=by
 intro vs
 induction vs with
 |nil=>
  intro is a e v j h hp
  cases is with
  |nil=>have h:a=e:=h;subst h;exact⟨j,rfl,hp,rfl⟩
  |cons i is=>exact absurd h id
 |cons u vs ih=>
  intro is a e v j h hp
  cases is with
  |nil=>exact absurd h id
  |cons i is=>
   obtain⟨q,h1,h2,h3⟩:=h
   exact⟨q,h1,h2,ih is _ _ v j h3 hp⟩
theorem SegV.length {P:Value→Nat→Nat→Prop}: ∀(vs:List Value) (is:List Int) (a e:Nat),SegV P vs is a e→vs.length=is.length:=by
 intro vs
 induction vs with
 |nil=>intro is a e h;cases is with
  |nil=>rfl
  |cons i is=>exact absurd h id
 |cons v vs ih=>
  intro is a e h
  cases is with
  |nil=>exact absurd h id
  |cons i is=>obtain⟨j,_,_,h3⟩:=h;simp [ih is _ _ h3]
def Out (b B:Nat)(k:Nat):Prop:=k=b∨k<B
def z1M (X:Nat→Prop)(w w':World):Prop:= ∀k,k<w.heap.size→ ¬X k→w'.heap[k]?=w.heap[k]?
theorem Rf.sameX {b:Nat}{w w':World}(h:Rf b w w'){X:Nat→Prop}(hX:X b):z1M X w w':=fun k hk hn=>h.block k hk fun e=>hn (e▸hX)
structure NodeX (X:Nat→Prop)(w:World)(v:Value)(op tx:zgS)(at_:Int)(kids:List Value):Prop where
 ex: ∃g kv,v= .pointer (some ⟨g,0,none⟩)∧ ¬X g∧w.heap[g]?=some (.cells #[.string op,.string tx,.int .i64 at_,kv] 138)∧w.ownsRow 0 89 1 kv kids.length kids∧ ∀k,kv.ownBlock=some k→ ¬X k
theorem Node.x {b B:Nat}{w:World}{v:Value}{op tx:zgS}{a:Int}{kids:List Value}(h:Node b B w v op tx a kids):NodeX (Out b B) w v op tx a kids:=by
 obtain⟨g,kv,h1,h2,h0,h3,h4,h5⟩:=h.ex
 refine⟨g,kv,h1,fun e=> ?_,h3,z0a h4 (zgO _),fun k e q=> ?_⟩
 ·rcases e with e|e
  ·exact h2 e
  ·omega
 ·have:=(h4.lt k e).1
  rcases q with q|q
  ·exact h5 (q▸e)
  ·omega
theorem NodeX.keepX {X:Nat→Prop}{w w':World}{v:Value}{op tx:zgS}{a:Int}{kids:List Value}(h:NodeX X w v op tx a kids)(hr:z1M X w w'):NodeX X w' v op tx a kids:=by
 obtain⟨g,kv,h1,h2,h3,h4,h5⟩:=h.ex
 exact⟨g,kv,h1,h2,(hr g (Array.getElem?_eq_some_iff.1 h3).1 h2).trans h3,zc h4 fun k e=>hr k (h4.lt k e).2 (h5 k e),h5⟩
theorem NodeX.mono {X X':Nat→Prop}(hX: ∀k,X' k→X k){w:World}{v:Value}{op tx:zgS}{a:Int}{kids:List Value}(h:NodeX X w v op tx a kids):NodeX X' w v op tx a kids:=by
 obtain⟨g,kv,h1,h2,h3,h4,h5⟩:=h.ex
 exact⟨g,kv,h1,fun e=>h2 (hX _ e),h3,h4,fun k e q=>h5 k e (hX _ q)⟩
theorem NodeX.cap {X:Nat→Prop}{w:World}{v:Value}{op tx:zgS}{a:Int}{kids:List Value}(h:NodeX X w v op tx a kids):NodeX (fun k=>X k∨w.heap.size≤k) w v op tx a kids:=by
 obtain⟨g,kv,h1,h2,h3,h4,h5⟩:=h.ex
 have hg:=(Array.getElem?_eq_some_iff.1 h3).1
 refine⟨g,kv,h1,fun e=> ?_,h3,h4,fun k e q=> ?_⟩
 ·rcases e with e|e
  ·exact h2 e
  ·omega
 ·have:=(h4.lt k e).2
  rcases q with q|q
  ·exact h5 k e q
  ·omega
def RefLX (X:Nat→Prop)(w:World)(L:List Lc):Nat→Value→Nat→Nat→Prop
 |0,_,_,_=>False
 |f+1,v,a,i=> ∃x,L[i]?=some x∧(
   (x.form=0∧a=i∧ ∃p,NodeX X w v z4g x.text p [])∨
   (x.form=1∧ ∃(v1 v2:Value) (j k:Nat) (p:Int),i=k+1∧x.left=(j:Int)∧x.right=(k:Int)∧(x.text=⟨#[124,124]⟩∨x.text=⟨#[38,38]⟩)∧NodeX X w v x.text ⟨#[]⟩ p [v1,v2]∧RefLX X w L f v1 a j∧RefLX X w L f v2 (j+1) k)∨
   (x.form=2∧ ∃(vs:List Value) (c:UInt8),(c.toNat:Int)- 48=x.count∧48≤c.toNat∧c.toNat≤57∧NodeX X w v sOf ⟨#[c]⟩ x.place vs∧SegV (fun v a i=>RefLX X w L f v a i) vs x.items a i))
abbrev zfK (b B:Nat)(w:World)(L:List Lc)(f:Nat)(v:Value)(a i:Nat):Prop:=RefLX (Out b B) w L f v a i
theorem RefLX.keepX {X:Nat→Prop}{w w':World}{L:List Lc}(hr:z1M X w w'): ∀{f:Nat} {v:Value} {a i:Nat},RefLX X w L f v a i→RefLX X w' L f v a i:=by
 intro f
 induction f with
 |zero=>intro v a i h;exact absurd h id
 |succ f ih=>
  intro v a i h
  obtain⟨x,hx,h⟩:=h
  refine⟨x,hx,?_⟩
  rcases h with⟨h1,h2,p,h3⟩|⟨h1,v1,v2,j,k,p,h2,h3,h4,h8,h5,h6,h7⟩|⟨h1,vs,c,h2,h3,h4,h5,h6⟩
  ·exact .inl ⟨h1,h2,p,h3.keepX hr⟩
  ·exact .inr (.inl ⟨h1,v1,v2,j,k,p,h2,h3,h4,h8,h5.keepX hr,ih h6,ih h7⟩)
  ·exact .inr (.inr ⟨h1,vs,c,h2,h3,h4,h5.keepX hr,SegV.imp (fun _ _ _ q=>ih q) _ _ _ _ h6⟩)
theorem RefLX.mono {X X':Nat→Prop}(hX: ∀k,X' k→X k){w:World}{L:List Lc}: ∀{f:Nat} {v:Value} {a i:Nat},RefLX X w L f v a i→RefLX X' w L f v a i:=by
 intro f
 induction f with
 |zero=>intro v a i h;exact absurd h id
 |succ f ih=>
  intro v a i h
  obtain⟨x,hx,h⟩:=h
  refine⟨x,hx,?_⟩
  rcases h with⟨h1,h2,p,h3⟩|⟨h1,v1,v2,j,k,p,h2,h3,h4,h8,h5,h6,h7⟩|⟨h1,vs,c,h2,h3,h4,h5,h6⟩
  ·exact .inl ⟨h1,h2,p,h3.mono hX⟩
  ·exact .inr (.inl ⟨h1,v1,v2,j,k,p,h2,h3,h4,h8,h5.mono hX,ih h6,ih h7⟩)
  ·exact .inr (.inr ⟨h1,vs,c,h2,h3,h4,h5.mono hX,SegV.imp (fun _ _ _ q=>ih q) _ _ _ _ h6⟩)
theorem RefLX.cap {X:Nat→Prop}{w:World}{L:List Lc}: ∀{f:Nat} {v:Value} {a i:Nat},RefLX X w L f v a i→RefLX (fun k=>X k∨w.heap.size≤k) w L f v a i:=by
 intro f
 induction f with
 |zero=>intro v a i h;exact absurd h id
 |succ f ih=>
  intro v a i h
  obtain⟨x,hx,h⟩:=h
  refine⟨x,hx,?_⟩
  rcases h with⟨h1,h2,p,h3⟩|⟨h1,v1,v2,j,k,p,h2,h3,h4,h8,h5,h6,h7⟩|⟨h1,vs,c,h2,h3,h4,h5,h6⟩
  ·exact .inl ⟨h1,h2,p,h3.cap⟩
  ·exact .inr (.inl ⟨h1,v1,v2,j,k,p,h2,h3,h4,h8,h5.cap,ih h6,ih h7⟩)
  ·exact .inr (.inr ⟨h1,vs,c,h2,h3,h4,h5.cap,SegV.imp (fun _ _ _ q=>ih q) _ _ _ _ h6⟩)
theorem RefLX.more {X:Nat→Prop}{w:World}{L:List Lc}(F:List Lc): ∀{f:Nat} {v:Value} {a i:Nat},RefLX X w L f v a i→RefLX X w (L++F) f v a i:=by
 intro f
 induction f with
 |zero=>intro v a i h;exact absurd h id
 |succ f ih=>
  intro v a i h
  obtain⟨x,hx,h⟩:=h
  refine⟨x,by rw [List.getElem?_append_left (zgF.1 hx).1];exact hx,?_⟩
  rcases h with⟨h1,h2,p,h3⟩|⟨h1,v1,v2,j,k,p,h2,h3,h4,h8,h5,h6,h7⟩|⟨h1,vs,c,h2,h3,h4,h5,h6⟩
  ·exact .inl ⟨h1,h2,p,h3⟩
  ·exact .inr (.inl ⟨h1,v1,v2,j,k,p,h2,h3,h4,h8,h5,ih h6,ih h7⟩)
  ·exact .inr (.inr ⟨h1,vs,c,h2,h3,h4,h5,SegV.imp (fun _ _ _ q=>ih q) _ _ _ _ h6⟩)
theorem RefLX.up {X:Nat→Prop}{w:World}{L:List Lc}: ∀{f:Nat} {v:Value} {a i:Nat},RefLX X w L f v a i→RefLX X w L (f+1) v a i:=by
 intro f
 induction f with
 |zero=>intro v a i h;exact absurd h id
 |succ f ih=>
  intro v a i h
  obtain⟨x,hx,h⟩:=h
  refine⟨x,hx,?_⟩
  rcases h with⟨h1,h2,p,h3⟩|⟨h1,v1,v2,j,k,p,h2,h3,h4,h8,h5,h6,h7⟩|⟨h1,vs,c,h2,h3,h4,h5,h6⟩
  ·exact .inl ⟨h1,h2,p,h3⟩
  ·exact .inr (.inl ⟨h1,v1,v2,j,k,p,h2,h3,h4,h8,h5,ih h6,ih h7⟩)
  ·exact .inr (.inr ⟨h1,vs,c,h2,h3,h4,h5,SegV.imp (fun _ _ _ q=>ih q) _ _ _ _ h6⟩)
theorem RefLX.ups {X:Nat→Prop}{w:World}{L:List Lc}{f:Nat}(g:Nat){v:Value}{a i:Nat}(h:RefLX X w L f v a i):RefLX X w L (f+g) v a i:=by
 induction g with
 |zero=>exact h
 |succ g ih=>exact ih.up
theorem RefLX.low {b B B':Nat}{w:World}{L:List Lc}(hr:B'≤B){f:Nat}{v:Value}{a i:Nat}(h:RefLX (Out b B) w L f v a i):RefLX (Out b B') w L f v a i:=h.mono fun k e=>e.imp id fun e=>by omega
theorem RefLX.keep {b B:Nat}{w w':World}{L:List Lc}(hr:Rf b w w'){f:Nat}{v:Value}{a i:Nat}(h:RefLX (Out b B) w L f v a i):RefLX (Out b B) w' L f v a i:=h.keepX (hr.sameX (.inl rfl))
def RefEX (X:Nat→Prop)(w:World)(E:List Ex):Nat→Value→Nat→Nat→Prop
 |0,_,_,_=>False
 |f+1,v,a,i=> ∃x,E[i]?=some x∧(
   (x.form=0∧a=i∧ ∃p,NodeX X w v zfv x.text p [])∨
   (x.form=1∧a=i∧ ∃p,NodeX X w v zfi x.text p [])∨
   (x.form=2∧a=i∧(x.text.data.toList=[116,114,117,101]∨x.text.data.toList=[102,97,108,115,101])∧ ∃p,NodeX X w v x.text x.text p [])∨
   (x.form=3∧a=i∧ ∃p,NodeX X w v zaI x.text p [])∨
   (x.form=4∧a=i∧ ∃p,NodeX X w v sAt x.text p [])∨
   (x.form=5∧ ∃(v1:Value) (j:Nat),i=j+1∧x.left=(j:Int)∧(x.text=⟨#[33]⟩∧NodeX X w v zct ⟨#[]⟩ x.place [v1]∨x.text=⟨#[45]⟩∧NodeX X w v sN ⟨#[]⟩ x.place [v1])∧RefEX X w E f v1 a j)∨
   (x.form=6∧ ∃(v1 v2:Value) (j k:Nat),i=k+1∧x.left=(j:Int)∧x.right=(k:Int)∧NodeX X w v x.text ⟨#[]⟩ x.place [v1,v2]∧RefEX X w E f v1 a j∧RefEX X w E f v2 (j+1) k))
theorem RefE.x {b B:Nat}{w:World}{E:List Ex}: ∀{f:Nat} {v:Value} {a i:Nat},RefE b B w E f v a i→RefEX (Out b B) w E f v a i:=by
 intro f
 induction f with
 |zero=>intro v a i h;exact absurd h id
 |succ f ih=>
  intro v a i h
  obtain⟨x,hx,h⟩:=h
  refine⟨x,hx,?_⟩
  rcases h with⟨h1,h2,p,h3⟩|⟨h1,h2,p,h3⟩|⟨h1,h2,h4,p,h3⟩|⟨h1,h2,p,h3⟩|⟨h1,h2,p,h3⟩|⟨h1,v1,j,h2,h3,h4,h5⟩|⟨h1,v1,v2,j,k,h2,h3,h4,h5,h6,h7⟩
  ·exact .inl ⟨h1,h2,p,h3.x⟩
  ·exact .inr (.inl ⟨h1,h2,p,h3.x⟩)
  ·exact .inr (.inr (.inl ⟨h1,h2,h4,p,h3.x⟩))
  ·exact .inr (.inr (.inr (.inl ⟨h1,h2,p,h3.x⟩)))
  ·exact .inr (.inr (.inr (.inr (.inl ⟨h1,h2,p,h3.x⟩))))
  ·exact .inr (.inr (.inr (.inr (.inr (.inl ⟨h1,v1,j,h2,h3,h4.imp (fun q=>⟨q.1,q.2.x⟩) (fun q=>⟨q.1,q.2.x⟩),ih h5⟩)))))
  ·exact .inr (.inr (.inr (.inr (.inr (.inr ⟨h1,v1,v2,j,k,h2,h3,h4,h5.x,ih h6,ih h7⟩)))))
theorem RefEX.keepX {X:Nat→Prop}{w w':World}{E:List Ex}(hr:z1M X w w'): ∀{f:Nat} {v:Value} {a i:Nat},RefEX X w E f v a i→RefEX X w' E f v a i:=by
 intro f
 induction f with
 |zero=>intro v a i h;exact absurd h id
 |succ f ih=>
  intro v a i h
  obtain⟨x,hx,h⟩:=h
  refine⟨x,hx,?_⟩
  rcases h with⟨h1,h2,p,h3⟩|⟨h1,h2,p,h3⟩|⟨h1,h2,h4,p,h3⟩|⟨h1,h2,p,h3⟩|⟨h1,h2,p,h3⟩|⟨h1,v1,j,h2,h3,h4,h5⟩|⟨h1,v1,v2,j,k,h2,h3,h4,h5,h6,h7⟩
  ·exact .inl ⟨h1,h2,p,h3.keepX hr⟩
  ·exact .inr (.inl ⟨h1,h2,p,h3.keepX hr⟩)
  ·exact .inr (.inr (.inl ⟨h1,h2,h4,p,h3.keepX hr⟩))
  ·exact .inr (.inr (.inr (.inl ⟨h1,h2,p,h3.keepX hr⟩)))
  ·exact .inr (.inr (.inr (.inr (.inl ⟨h1,h2,p,h3.keepX hr⟩))))
  ·exact .inr (.inr (.inr (.inr (.inr (.inl ⟨h1,v1,j,h2,h3,h4.imp (fun q=>⟨q.1,q.2.keepX hr⟩) (fun q=>⟨q.1,q.2.keepX hr⟩),ih h5⟩)))))
  ·exact .inr (.inr (.inr (.inr (.inr (.inr ⟨h1,v1,v2,j,k,h2,h3,h4,h5.keepX hr,ih h6,ih h7⟩)))))
theorem RefEX.mono {X X':Nat→Prop}(hX: ∀k,X' k→X k){w:World}{E:List Ex}: ∀{f:Nat} {v:Value} {a i:Nat},RefEX X w E f v a i→RefEX X' w E f v a i:=by
 intro f
 induction f with
 |zero=>intro v a i h;exact absurd h id
 |succ f ih=>
  intro v a i h
  obtain⟨x,hx,h⟩:=h
  refine⟨x,hx,?_⟩
  rcases h with⟨h1,h2,p,h3⟩|⟨h1,h2,p,h3⟩|⟨h1,h2,h4,p,h3⟩|⟨h1,h2,p,h3⟩|⟨h1,h2,p,h3⟩|⟨h1,v1,j,h2,h3,h4,h5⟩|⟨h1,v1,v2,j,k,h2,h3,h4,h5,h6,h7⟩
  ·exact .inl ⟨h1,h2,p,h3.mono hX⟩
  ·exact .inr (.inl ⟨h1,h2,p,h3.mono hX⟩)
  ·exact .inr (.inr (.inl ⟨h1,h2,h4,p,h3.mono hX⟩))
  ·exact .inr (.inr (.inr (.inl ⟨h1,h2,p,h3.mono hX⟩)))
  ·exact .inr (.inr (.inr (.inr (.inl ⟨h1,h2,p,h3.mono hX⟩))))
  ·exact .inr (.inr (.inr (.inr (.inr (.inl ⟨h1,v1,j,h2,h3,h4.imp (fun q=>⟨q.1,q.2.mono hX⟩) (fun q=>⟨q.1,q.2.mono hX⟩),ih h5⟩)))))
  ·exact .inr (.inr (.inr (.inr (.inr (.inr ⟨h1,v1,v2,j,k,h2,h3,h4,h5.mono hX,ih h6,ih h7⟩)))))
theorem RefEX.cap {X:Nat→Prop}{w:World}{E:List Ex}: ∀{f:Nat} {v:Value} {a i:Nat},RefEX X w E f v a i→RefEX (fun k=>X k∨w.heap.size≤k) w E f v a i:=by
 intro f
 induction f with
 |zero=>intro v a i h;exact absurd h id
 |succ f ih=>
  intro v a i h
  obtain⟨x,hx,h⟩:=h
  refine⟨x,hx,?_⟩
  rcases h with⟨h1,h2,p,h3⟩|⟨h1,h2,p,h3⟩|⟨h1,h2,h4,p,h3⟩|⟨h1,h2,p,h3⟩|⟨h1,h2,p,h3⟩|⟨h1,v1,j,h2,h3,h4,h5⟩|⟨h1,v1,v2,j,k,h2,h3,h4,h5,h6,h7⟩
  ·exact .inl ⟨h1,h2,p,h3.cap⟩
  ·exact .inr (.inl ⟨h1,h2,p,h3.cap⟩)
  ·exact .inr (.inr (.inl ⟨h1,h2,h4,p,h3.cap⟩))
  ·exact .inr (.inr (.inr (.inl ⟨h1,h2,p,h3.cap⟩)))
  ·exact .inr (.inr (.inr (.inr (.inl ⟨h1,h2,p,h3.cap⟩))))
  ·exact .inr (.inr (.inr (.inr (.inr (.inl ⟨h1,v1,j,h2,h3,h4.imp (fun q=>⟨q.1,q.2.cap⟩) (fun q=>⟨q.1,q.2.cap⟩),ih h5⟩)))))
  ·exact .inr (.inr (.inr (.inr (.inr (.inr ⟨h1,v1,v2,j,k,h2,h3,h4,h5.cap,ih h6,ih h7⟩)))))
theorem RefEX.more {X:Nat→Prop}{w:World}{E:List Ex}(F:List Ex): ∀{f:Nat} {v:Value} {a i:Nat},RefEX X w E f v a i→RefEX X w (E++F) f v a i:=by
 intro f
 induction f with
 |zero=>intro v a i h;exact absurd h id
 |succ f ih=>
  intro v a i h
  obtain⟨x,hx,h⟩:=h
  refine⟨x,by rw [List.getElem?_append_left (zgF.1 hx).1];exact hx,?_⟩
  rcases h with⟨h1,h2,p,h3⟩|⟨h1,h2,p,h3⟩|⟨h1,h2,h4,p,h3⟩|⟨h1,h2,p,h3⟩|⟨h1,h2,p,h3⟩|⟨h1,v1,j,h2,h3,h4,h5⟩|⟨h1,v1,v2,j,k,h2,h3,h4,h5,h6,h7⟩
  ·exact .inl ⟨h1,h2,p,h3⟩
  ·exact .inr (.inl ⟨h1,h2,p,h3⟩)
  ·exact .inr (.inr (.inl ⟨h1,h2,h4,p,h3⟩))
  ·exact .inr (.inr (.inr (.inl ⟨h1,h2,p,h3⟩)))
  ·exact .inr (.inr (.inr (.inr (.inl ⟨h1,h2,p,h3⟩))))
  ·exact .inr (.inr (.inr (.inr (.inr (.inl ⟨h1,v1,j,h2,h3,h4.imp (fun q=>⟨q.1,q.2⟩) (fun q=>⟨q.1,q.2⟩),ih h5⟩)))))
  ·exact .inr (.inr (.inr (.inr (.inr (.inr ⟨h1,v1,v2,j,k,h2,h3,h4,h5,ih h6,ih h7⟩)))))
theorem RefEX.up {X:Nat→Prop}{w:World}{E:List Ex}: ∀{f:Nat} {v:Value} {a i:Nat},RefEX X w E f v a i→RefEX X w E (f+1) v a i:=by
 intro f
 induction f with
 |zero=>intro v a i h;exact absurd h id
 |succ f ih=>
  intro v a i h
  obtain⟨x,hx,h⟩:=h
  refine⟨x,hx,?_⟩
  rcases h with⟨h1,h2,p,h3⟩|⟨h1,h2,p,h3⟩|⟨h1,h2,h4,p,h3⟩|⟨h1,h2,p,h3⟩|⟨h1,h2,p,h3⟩|⟨h1,v1,j,h2,h3,h4,h5⟩|⟨h1,v1,v2,j,k,h2,h3,h4,h5,h6,h7⟩
  ·exact .inl ⟨h1,h2,p,h3⟩
  ·exact .inr (.inl ⟨h1,h2,p,h3⟩)
  ·exact .inr (.inr (.inl ⟨h1,h2,h4,p,h3⟩))
  ·exact .inr (.inr (.inr (.inl ⟨h1,h2,p,h3⟩)))
  ·exact .inr (.inr (.inr (.inr (.inl ⟨h1,h2,p,h3⟩))))
  ·exact .inr (.inr (.inr (.inr (.inr (.inl ⟨h1,v1,j,h2,h3,h4.imp (fun q=>⟨q.1,q.2⟩) (fun q=>⟨q.1,q.2⟩),ih h5⟩)))))
  ·exact .inr (.inr (.inr (.inr (.inr (.inr ⟨h1,v1,v2,j,k,h2,h3,h4,h5,ih h6,ih h7⟩)))))
theorem RefEX.ups {X:Nat→Prop}{w:World}{E:List Ex}{f:Nat}(g:Nat){v:Value}{a i:Nat}(h:RefEX X w E f v a i):RefEX X w E (f+g) v a i:=by
 induction g with
 |zero=>exact h
 |succ g ih=>exact ih.up
def z6f (b:Nat)(s:zgS)(st st':St)(r:Int)(w:World)(e:Ending)(w':World):Prop:= ∃(ao:Option Addr) (p':Nat),e= .returned (.pointer ao)∧Rd w' b s p' st'.bad∧Rf b w w'∧skip s p' st'.bad=st'.at_∧
 (st'.bad=false→ ∃(f i:Nat),r=(i:Int)∧i+1=st'.L.length∧zfK b w.heap.size w' st'.L f (.pointer ao) st.L.length i)
def zbX (s:zgS)(op:zgS)(tag n:Nat):Prop:= ∀(b:Nat) (st:St) (w:World) (p:Nat) (r:Int) (st':St),ML s n tag 0 0 0 [] st=some (r,st')→Rd w b s p st.bad→skip s p st.bad=st.at_→
 Calls Tryz.prog 136 #[.pointer (some ⟨b,0,none⟩),.string op] w fun e w'=>z6f b s st st' r w e w'
def zfR (s:zgS)(n:Nat):Prop:= ∀(b:Nat) (st:St) (w:World) (p:Nat) (r:Int) (st':St),ML s n 2 0 0 0 [] st=some (r,st')→Rd w b s p st.bad→skip s p st.bad=st.at_→
 Calls Tryz.prog 164 #[.pointer (some ⟨b,0,none⟩)] w fun e w'=>z6f b s st st' r w e w'
theorem zfZ (s:zgS)(n:Nat)(ih: ∀m,m≤n→zbX s ⟨#[38,38]⟩ 1 m):zbX s ⟨#[124,124]⟩ 0 (n+1):=by
 intro b st w p r st' hM hR hp
 rw [z7G] at hM
 obtain⟨⟨l1,st1⟩,h1,h2⟩:=zgD.1 hM
 have HB0:=z8 (fun h=>z4v s (n+1) 0 0 0 0 [] st (r,st') (by rw [z7G];exact hM) (by omega) h)
 have IH:=z8 ih
 have H1:=z8 h1
 have H2:=z8 h2
 have HX1:=z8 (z07 s _ _ _ _ _ _ _ _ h1)
 have HP:=z8 hp
 clear hM h1 h2 ih hp
 go_enter Tryz.func136,Tryz.ntmps136
 go_wp2_with fail
 go_loopg [5,6] (n+1) (fun g tv fv wr=>(fv= .bool true∧tv= .pointer none∧wr=w∧g=n+1)∨(fv= .bool false∧g≤n∧ ∃(ao:Option Addr) (q:Nat) (lv:Int) (sv:St),tv= .pointer ao∧Hid (ML s g 10 lv 0 0 [] sv=some (r,st'))∧Rd wr b s q sv.bad∧Hid (skip s q sv.bad=sv.at_)∧Rf b w wr∧Hid (ExtL st sv)∧Hid (sv.bad=false→ ∃(f i:Nat),lv=(i:Int)∧i+1=sv.L.length∧zfK b w.heap.size wr sv.L f (.pointer ao) st.L.length i)))
 case atStart=>exact .inl ⟨rfl,rfl,rfl,rfl⟩
 case round=>
  rcases hrel with⟨rfl,rfl,rfl,rfl⟩|⟨rfl,hgn,ao,q,lv,sv,rfl,hm,hRq,hq,hF,hX,ht⟩
  ·obtain⟨c0,c1,c2,f1,f2,hle,hsz⟩:=id hR
   obtain⟨bd,HBD⟩: ∃bd,Hid (st.bad=bd):=⟨_,rfl⟩
   rw [HBD.out] at c2
   cases bd with
   |true=>
    go_wp2_with fail
    go_ret
    have hs:=HB0.out HBD.out
    have hp0:=HP.out
    rw [HBD.out,jJ] at hp0
    refine⟨none,p,rfl,?_,Rf.refl _ _,?_,fun hb=> ?_⟩
    ·rw [hs.1,←HBD.out];exact hR
    ·rw [hs.1,jJ,hs.2];exact hp0
    ·rw [hs.1] at hb;cases hb
   |false=>
    go_wp2_with fail
    refine(IH.out n (zgH _) b st wr p l1 st1 H1.out hR HP.out).mono ?_
    rintro e w1 ⟨ao1,p1,rfl,hR1,hF1,hp1,ht1⟩
    have HT1:=z8 ht1
    have HP1:=z8 hp1
    clear ht1 hp1
    go_wp2_with fail
    go_roundg n
    case measure=>omega
    case rel=>exact .inr ⟨rfl,zgH _,ao1,p1,l1,st1,rfl,H2,hR1,HP1,hF1,HX1,HT1⟩
  ·cases gk with
   |zero=>exact absurd hm.out (by simp [ML])
   |succ g=>
    have hm':=hm.out
    rw [z2n] at hm'
    clear hm
    obtain⟨c0,c1,c2,f1,f2,hle,hsz⟩:=id hRq
    obtain⟨bd,HBD⟩: ∃bd,Hid (sv.bad=bd):=⟨_,rfl⟩
    rw [HBD.out] at c2
    cases bd with
    |true=>
     rw [if_neg (by rw [z2I HBD.out];decide)] at hm'
     simp at hm'
     obtain⟨rfl,rfl⟩:=hm'
     go_wp2_with fail
     go_ret
     exact⟨ao,q,rfl,hRq,hF,hq.out,ht.out⟩
    |false=>
     have hsg:=jH b q s 124 sv.bad wr hRq
     rw [hq.out] at hsg
     have HSG:=z8 hsg
     clear hsg
     have hpk:pk s sv.at_ sv.bad=pkS s sv:=rfl
     cases hc:(pkS s sv==124)
     ·rw [hc,if_neg (by decide)] at hm'
      simp at hm'
      obtain⟨rfl,rfl⟩:=hm'
      go_wp2_with fail
      refine HSG.out.mono ?_
      rintro e w2 ⟨rfl,hR2,hs2⟩
      have hcc:(pk s sv.at_ sv.bad==((124:UInt8).toNat:Int))=false:=hc
      go_wp2_with fail
      go_ret
      refine⟨ao,sv.at_,rfl,hR2,hF.trans hs2.rf,?_,fun hb=> ?_⟩
      ·have hi:=jp s q sv.bad hle
       rw [hq.out] at hi
       exact hi
      ·obtain⟨f,i,h1,h2,h3⟩:=ht.out hb
       exact⟨f,i,h1,h2,h3.keep hs2.rf⟩
     ·rw [hc,if_pos rfl] at hm'
      obtain⟨⟨r2,st2⟩,h2,h3⟩:=zgD.1 hm'
      obtain⟨⟨r3,st3⟩,h4,h5⟩:=zgD.1 h3
      obtain⟨hl,h6⟩:=zJ h4
      cases h6
      have HH:=z8 (zgI h2 h5)
      have HX2:=z8 (z07 s _ _ _ _ _ _ _ _ h2)
      clear hm' h2 h3 h4 h5
      go_wp2_with fail
      refine HSG.out.mono ?_
      rintro e w2 ⟨rfl,hR2,hs2⟩
      obtain⟨d0,d1,d2,g1,g2,_,_⟩:=id hR2
      have hcc:(pk s sv.at_ sv.bad==((124:UInt8).toNat:Int))=true:=hc
      go_wp2_with fail
      refine(zN b sv.at_ s _ sv.bad _ hR2 (by decide)).mono ?_
      rintro e w3 ⟨rfl,hR3,hs3⟩
      go_wp2_with fail
      refine(IH.out g (by omega) b _ _ _ r2 st2 HH.out.1 hR3 rfl).mono ?_
      rintro e w4 ⟨ao4,p4,rfl,hR4,hF4,hp4,ht4⟩
      have hF24:=(hs2.rf.trans hs3.rf).trans hF4
      have hbl:b<w4.heap.size:=zd hR4.c0
      have HP4:=z8 hp4
      have HT4:=z8 ht4
      clear hp4 ht4
      go_wp2_with fail
      go_roundg g
      case measure=>omega
      case rel=>
       refine .inr ⟨rfl,by omega,_,p4,_,_,rfl,HH.out.2,?_,HP4,?_,z8 (hX.out.trans ?_),z8 fun hb=> ?_⟩
       ·exact hR4.other ((zgJ _ _ _ (by simp;omega)).trans (zgJ _ _ _ hbl))
       ·exact((hF.trans hF24).alloc _).alloc _
       ·exact HX2.out.trans ⟨⟨[_],rfl⟩,rfl,rfl,rfl⟩
       ·obtain⟨f4,i4,e4,l4,t4⟩:=HT4.out hb
        obtain⟨f0,i0,e0,l0,t0⟩:=ht.out HBD.out
        obtain⟨⟨F,hFE⟩,_,_,_⟩:=HX2.out
        have hFE:st2.L=sv.L++F:=hFE
        have hnode:=z5l hbl [.pointer ao,.pointer ao4] ⟨#[124,124]⟩ ⟨#[]⟩ sv.at_ (by simp)
        refine⟨f0+f4+1,st2.L.length,rfl,by simp,⟨1,⟨#[124,124]⟩,lv,r2,0,0,[]⟩,by simp,?_⟩
        refine .inr (.inl ⟨rfl,.pointer ao,.pointer ao4,i0,i4,_,l4.symm,e0,e4,.inl rfl,(hnode.low (zgP hF.size hF24.size)).x,?_,?_⟩)
        ·have q1:=((t0.keep hF24).more F).ups f4
         rw [←hFE] at q1
         exact((q1.keep (((Rf.refl b w4).alloc _).alloc _)).more _)
        ·have q2:=t4.ups f0
         rw [Nat.add_comm f0 f4,l0]
         exact(((q2.low (zgP hF.size (hs2.rf.trans hs3.rf).size)).keep (((Rf.refl b w4).alloc _).alloc _)).more _)
theorem zfy (s:zgS)(n:Nat)(ih: ∀m,m≤n→zfR s m):zbX s ⟨#[38,38]⟩ 1 (n+1):=by
 intro b st w p r st' hM hR hp
 rw [z7I] at hM
 obtain⟨⟨l1,st1⟩,h1,h2⟩:=zgD.1 hM
 have HB0:=z8 (fun h=>z4v s (n+1) 1 0 0 0 [] st (r,st') (by rw [z7I];exact hM) (by omega) h)
 have IH:=z8 ih
 have H1:=z8 h1
 have H2:=z8 h2
 have HX1:=z8 (z07 s _ _ _ _ _ _ _ _ h1)
 have HP:=z8 hp
 clear hM h1 h2 ih hp
 go_enter Tryz.func136,Tryz.ntmps136
 go_wp2_with fail
 go_loopg [5,6] (n+1) (fun g tv fv wr=>(fv= .bool true∧tv= .pointer none∧wr=w∧g=n+1)∨(fv= .bool false∧g≤n∧ ∃(ao:Option Addr) (q:Nat) (lv:Int) (sv:St),tv= .pointer ao∧Hid (ML s g 11 lv 0 0 [] sv=some (r,st'))∧Rd wr b s q sv.bad∧Hid (skip s q sv.bad=sv.at_)∧Rf b w wr∧Hid (ExtL st sv)∧Hid (sv.bad=false→ ∃(f i:Nat),lv=(i:Int)∧i+1=sv.L.length∧zfK b w.heap.size wr sv.L f (.pointer ao) st.L.length i)))
 case atStart=>exact .inl ⟨rfl,rfl,rfl,rfl⟩
 case round=>
  rcases hrel with⟨rfl,rfl,rfl,rfl⟩|⟨rfl,hgn,ao,q,lv,sv,rfl,hm,hRq,hq,hF,hX,ht⟩
  ·obtain⟨c0,c1,c2,f1,f2,hle,hsz⟩:=id hR
   obtain⟨bd,HBD⟩: ∃bd,Hid (st.bad=bd):=⟨_,rfl⟩
   rw [HBD.out] at c2
   cases bd with
   |true=>
    go_wp2_with fail
    go_ret
    have hs:=HB0.out HBD.out
    have hp0:=HP.out
    rw [HBD.out,jJ] at hp0
    refine⟨none,p,rfl,?_,Rf.refl _ _,?_,fun hb=> ?_⟩
    ·rw [hs.1,←HBD.out];exact hR
    ·rw [hs.1,jJ,hs.2];exact hp0
    ·rw [hs.1] at hb;cases hb
   |false=>
    go_wp2_with fail
    refine(IH.out n (zgH _) b st wr p l1 st1 H1.out hR HP.out).mono ?_
    rintro e w1 ⟨ao1,p1,rfl,hR1,hF1,hp1,ht1⟩
    have HT1:=z8 ht1
    have HP1:=z8 hp1
    clear ht1 hp1
    go_wp2_with fail
    go_roundg n
    case measure=>omega
    case rel=>exact .inr ⟨rfl,zgH _,ao1,p1,l1,st1,rfl,H2,hR1,HP1,hF1,HX1,HT1⟩
  ·cases gk with
   |zero=>exact absurd hm.out (by simp [ML])
   |succ g=>
    have hm':=hm.out
    rw [z2w] at hm'
    clear hm
    obtain⟨c0,c1,c2,f1,f2,hle,hsz⟩:=id hRq
    obtain⟨bd,HBD⟩: ∃bd,Hid (sv.bad=bd):=⟨_,rfl⟩
    rw [HBD.out] at c2
    cases bd with
    |true=>
     rw [if_neg (by rw [z2I HBD.out];decide)] at hm'
     simp at hm'
     obtain⟨rfl,rfl⟩:=hm'
     go_wp2_with fail
     go_ret
     exact⟨ao,q,rfl,hRq,hF,hq.out,ht.out⟩
    |false=>
     have hsg:=jH b q s 38 sv.bad wr hRq
     rw [hq.out] at hsg
     have HSG:=z8 hsg
     clear hsg
     have hpk:pk s sv.at_ sv.bad=pkS s sv:=rfl
     cases hc:(pkS s sv==38)
     ·rw [hc,if_neg (by decide)] at hm'
      simp at hm'
      obtain⟨rfl,rfl⟩:=hm'
      go_wp2_with fail
      refine HSG.out.mono ?_
      rintro e w2 ⟨rfl,hR2,hs2⟩
      have hcc:(pk s sv.at_ sv.bad==((38:UInt8).toNat:Int))=false:=hc
      go_wp2_with fail
      go_ret
      refine⟨ao,sv.at_,rfl,hR2,hF.trans hs2.rf,?_,fun hb=> ?_⟩
      ·have hi:=jp s q sv.bad hle
       rw [hq.out] at hi
       exact hi
      ·obtain⟨f,i,h1,h2,h3⟩:=ht.out hb
       exact⟨f,i,h1,h2,h3.keep hs2.rf⟩
     ·rw [hc,if_pos rfl] at hm'
      obtain⟨⟨r2,st2⟩,h2,h3⟩:=zgD.1 hm'
      obtain⟨⟨r3,st3⟩,h4,h5⟩:=zgD.1 h3
      obtain⟨hl,h6⟩:=zJ h4
      cases h6
      have HH:=z8 (zgI h2 h5)
      have HX2:=z8 (z07 s _ _ _ _ _ _ _ _ h2)
      clear hm' h2 h3 h4 h5
      go_wp2_with fail
      refine HSG.out.mono ?_
      rintro e w2 ⟨rfl,hR2,hs2⟩
      obtain⟨d0,d1,d2,g1,g2,_,_⟩:=id hR2
      have hcc:(pk s sv.at_ sv.bad==((38:UInt8).toNat:Int))=true:=hc
      go_wp2_with fail
      refine(zN b sv.at_ s _ sv.bad _ hR2 (by decide)).mono ?_
      rintro e w3 ⟨rfl,hR3,hs3⟩
      go_wp2_with fail
      refine(IH.out g (by omega) b _ _ _ r2 st2 HH.out.1 hR3 rfl).mono ?_
      rintro e w4 ⟨ao4,p4,rfl,hR4,hF4,hp4,ht4⟩
      have hF24:=(hs2.rf.trans hs3.rf).trans hF4
      have hbl:b<w4.heap.size:=zd hR4.c0
      have HP4:=z8 hp4
      have HT4:=z8 ht4
      clear hp4 ht4
      go_wp2_with fail
      go_roundg g
      case measure=>omega
      case rel=>
       refine .inr ⟨rfl,by omega,_,p4,_,_,rfl,HH.out.2,?_,HP4,?_,z8 (hX.out.trans ?_),z8 fun hb=> ?_⟩
       ·exact hR4.other ((zgJ _ _ _ (by simp;omega)).trans (zgJ _ _ _ hbl))
       ·exact((hF.trans hF24).alloc _).alloc _
       ·exact HX2.out.trans ⟨⟨[_],rfl⟩,rfl,rfl,rfl⟩
       ·obtain⟨f4,i4,e4,l4,t4⟩:=HT4.out hb
        obtain⟨f0,i0,e0,l0,t0⟩:=ht.out HBD.out
        obtain⟨⟨F,hFE⟩,_,_,_⟩:=HX2.out
        have hFE:st2.L=sv.L++F:=hFE
        have hnode:=z5l hbl [.pointer ao,.pointer ao4] ⟨#[38,38]⟩ ⟨#[]⟩ sv.at_ (by simp)
        refine⟨f0+f4+1,st2.L.length,rfl,by simp,⟨1,⟨#[38,38]⟩,lv,r2,0,0,[]⟩,by simp,?_⟩
        refine .inr (.inl ⟨rfl,.pointer ao,.pointer ao4,i0,i4,_,l4.symm,e0,e4,.inr rfl,(hnode.low (zgP hF.size hF24.size)).x,?_,?_⟩)
        ·have q1:=((t0.keep hF24).more F).ups f4
         rw [←hFE] at q1
         exact((q1.keep (((Rf.refl b w4).alloc _).alloc _)).more _)
        ·have q2:=t4.ups f0
         rw [Nat.add_comm f0 f4,l0]
         exact(((q2.low (zgP hF.size (hs2.rf.trans hs3.rf).size)).keep (((Rf.refl b w4).alloc _).alloc _)).more _)
theorem z83 (s:zgS)(n:Nat)(b:Nat)(st:St)(w:World)(p:Nat)(r:Int)(st':St)(hM:ML s (n+1) 2 0 0 0 [] st=some (r,st'))(hR:Rd w b s p st.bad)(hp:skip s p st.bad=st.at_)
  (h4:(pkS s st==40)=true) (ih:zbX s ⟨#[124,124]⟩ 0 n):
  Calls Tryz.prog 164 #[.pointer (some ⟨b,0,none⟩)] w fun e w'=>z6f b s st st' r w e w':=by
 rw [z6l,h4,if_pos rfl] at hM
 obtain⟨⟨r2,st2⟩,hm2,hm3⟩:=zgD.1 hM
 simp only [Option.some.injEq,Prod.mk.injEq] at hm3
 obtain⟨rfl,rfl⟩:=hm3
 have hbl:=zK b p s st.bad w hR
 rw [hp] at hbl
 have HBL:=z8 hbl
 have hv:jg s st.at_ st.bad=40:=by simpa using (zV (s:=s) (a:=st.at_) (d:=st.bad) (c:=40) (by omega)).trans h4
 have HMh:=z8 hm2
 clear hM hbl hp h4 hm2
 go_enter Tryz.func164,Tryz.ntmps164
 go_wp2_with fail
 refine HBL.out.mono ?_
 rintro e w1 ⟨rfl,hR1,hs1⟩
 obtain⟨c0,c1,c2,f1,f2,_,_⟩:=id hR1
 have hb1:b<w1.heap.size:=zd hR1.c0
 have hRa:Rd (w1.alloc (.cells #[.string ⟨#[]⟩,.string ⟨#[]⟩,.int .i64 st.at_,.slice none 0 0] 138)) b s st.at_ st.bad:=hR1.other (zgJ _ _ _ hb1)
 have hga:=heap_alloc_new w1 (.cells #[.string ⟨#[]⟩,.string ⟨#[]⟩,.int .i64 st.at_,.slice none 0 0] 138)
 have hFa:Rf b w (w1.alloc (.cells #[.string ⟨#[]⟩,.string ⟨#[]⟩,.int .i64 st.at_,.slice none 0 0] 138)):=hs1.rf.alloc _
 have hz1:w.heap.size=w1.heap.size:=hs1.size.symm
 have HA:=z8 (zgI hRa (zgI hga (zgI hFa hz1)))
 clear hRa hga hFa hz1 hs1 hR
 go_wp2_with fail
 refine(zQ b st.at_ s st.bad _ HA.out.1).mono ?_
 rintro e w2 ⟨rfl,n2,rfl⟩
 rw [hv]
 go_wp2_with fail
 refine(zN b st.at_ s _ st.bad _ (by exact HA.out.1.drewN n2) (by decide)).mono ?_
 rintro e w3 ⟨rfl,hR3,hs3⟩
 have hF3:Rf b w w3:=(HA.out.2.2.1.drewN n2).trans hs3.rf
 go_wp2_with fail
 refine(ih b (sgn s [40] st) _ _ r2 st2 HMh.out hR3 rfl).mono ?_
 rintro e w4 ⟨ao4,p4,rfl,hR4,hF4,hp4,ht4⟩
 have HT4:=z8 ht4
 have hb4:=zK b p4 s st2.bad w4 hR4
 rw [hp4] at hb4
 have HB4:=z8 hb4
 clear ht4 hb4
 go_wp2_with fail
 refine HB4.out.mono ?_
 rintro e w5 ⟨rfl,hR5,hs5⟩
 go_wp2_with fail
 refine(zN b st2.at_ s _ st2.bad _ hR5 (by decide)).mono ?_
 rintro e w6 ⟨rfl,hR6,hs6⟩
 go_wp2_with fail
 go_ret
 refine⟨ao4,_,rfl,hR6,((hF3.trans hF4).trans hs5.rf).trans hs6.rf,rfl,fun hb=> ?_⟩
 have hb2:st2.bad=false:=by
  cases hq:st2.bad with
  |false=>rfl
  |true=>
   have h2:=(z0b (s:=s) (c:=41) (cs:=[]) hq).1
   rw [h2] at hb
   cases hb
 obtain⟨f,i,q1,q2,q3⟩:=HT4.out hb2
 exact⟨f,i,q1,q2,((q3.low hF3.size).keep hs5.rf).keep hs6.rf⟩
theorem z9L (s:zgS)(n:Nat)(b:Nat)(st:St)(w:World)(p:Nat)(r:Int)(st':St)(hM:ML s (n+1) 2 0 0 0 [] st=some (r,st'))(hR:Rd w b s p st.bad)(hp:skip s p st.bad=st.at_)
  (h1:zg (pkS s st)=false) (h4:(pkS s st==40)=false):
  Calls Tryz.prog 164 #[.pointer (some ⟨b,0,none⟩)] w fun e w'=>z6f b s st st' r w e w':=by
 rw [z6l,h4,if_neg (by decide),h1,if_neg (by decide)] at hM
 simp only at hM
 have hnm:=z2E s st.at_ st.bad
 have hbl:=zK b p s st.bad w hR
 rw [hp] at hbl
 have HBL:=z8 hbl
 have t1:zg (jg s st.at_ st.bad)=false:=(jC _ _ _).trans h1
 have t4:(jg s st.at_ st.bad==40)=false:=(zV (by omega)).trans h4
 have HMh:=z8 hM
 have HNM:=z8 hnm
 clear hM hnm hbl hp h1 h4
 go_enter Tryz.func164,Tryz.ntmps164
 go_wp2_with fail
 refine HBL.out.mono ?_
 rintro e w1 ⟨rfl,hR1,hs1⟩
 obtain⟨c0,c1,c2,f1,f2,_,_⟩:=id hR1
 have hb1:b<w1.heap.size:=zd hR1.c0
 have hRa:Rd (w1.alloc (.cells #[.string ⟨#[]⟩,.string ⟨#[]⟩,.int .i64 st.at_,.slice none 0 0] 138)) b s st.at_ st.bad:=hR1.other (zgJ _ _ _ hb1)
 have hga:=heap_alloc_new w1 (.cells #[.string ⟨#[]⟩,.string ⟨#[]⟩,.int .i64 st.at_,.slice none 0 0] 138)
 have hFa:Rf b w (w1.alloc (.cells #[.string ⟨#[]⟩,.string ⟨#[]⟩,.int .i64 st.at_,.slice none 0 0] 138)):=hs1.rf.alloc _
 have hz1:w.heap.size=w1.heap.size:=hs1.size.symm
 have HA:=z8 (zgI hRa (zgI hga (zgI hFa hz1)))
 clear hRa hga hFa hz1 hs1 hR
 go_wp2_with fail
 refine(zQ b st.at_ s st.bad _ HA.out.1).mono ?_
 rintro e w2 ⟨rfl,n2,rfl⟩
 go_wp2_with fail
 refine(jG _ _ (j9 _ _ _)).mono ?_
 rintro e w2 ⟨rfl,rfl⟩
 rw [t1]
 go_wp2_with fail
 have hR2:Rd (((w1.alloc (.cells #[.string ⟨#[]⟩,.string ⟨#[]⟩,.int .i64 st.at_,.slice none 0 0] 138)).drewN n2).setCell ⟨w1.heap.size,0,none⟩ (.string ⟨#[110,97,109,101]⟩)) b s st.at_ st.bad:=(HA.out.1.drewN n2).other (zgQ _ _ _ _ (by simp;omega))
 refine(z0A b st.at_ s st.bad _ hR2).mono ?_
 rintro e w3 ⟨rfl,hR3,hs3⟩
 have hg3:w3.heap[w1.heap.size]?=some (.cells #[.string ⟨#[110,97,109,101]⟩,.string ⟨#[]⟩,.int .i64 st.at_,.slice none 0 0] 138):=(hs3.block w1.heap.size (by omega)).trans (z7y HA.out.2.1 _)
 have hF3:Rf b w w3:=((HA.out.2.2.1.drewN n2).setCell (a:=⟨w1.heap.size,0,none⟩) (by rw [HA.out.2.2.2];exact zgH _) _).trans hs3.rf
 obtain⟨y0,y1,y2,y3,yf⟩:=jN hg3
 have hM:=HMh.out
 rw [HNM.out] at hM
 have hge:w.heap.size≤w1.heap.size:=Nat.le_of_eq HA.out.2.2.2
 have hnb:w1.heap.size≠b:=by omega
 clear HMh HNM HA HBL hR2 hs3 t1 t4 c0 c1 c2 f1 f2 hR1
 generalize z19 s st.at_ st.bad=q at*
 obtain⟨qp,qd,qt⟩:=q
 have hR3:Rd w3 b s qp qd:=hR3
 simp only at hM
 have hR4:=hR3.other (w':=w3.setCell ⟨w1.heap.size,1,none⟩ (.string qt)) (zgQ _ _ _ _ (by simp;omega))
 have hg4:=zcS hg3 (.string qt)
 have hF4:=hF3.setCell (a:=⟨w1.heap.size,1,none⟩) hge (.string qt)
 obtain⟨hl,h6⟩:=zJ hM
 cases h6
 have HF:=z8 (zgI hR4 (zgI hg4 hF4))
 clear hM hF3 hF4 hR3 hR4 hg3 hg4
 go_wp2_with fail
 go_ret
 refine⟨_,qp,rfl,HF.out.1,HF.out.2.2,rfl,fun hb=> ?_⟩
 refine⟨1,st.L.length,rfl,by simp [St.put3],⟨0,qt,-1,-1,0,0,[]⟩,by simp [St.put3],?_⟩
 have hnode:Node b w.heap.size (w3.setCell ⟨w1.heap.size,1,none⟩ (.string qt)) (.pointer (some ⟨w1.heap.size,0,none⟩)) z4g qt st.at_ []:=⟨w1.heap.size,_,rfl,hnb,hge,HF.out.2.1,World.ownsRow_nil _ _ _ _,by simp [Value.ownBlock]⟩
 exact .inl ⟨rfl,rfl,st.at_,hnode.x⟩
def KX (b g:Nat)(kv:Value)(k:Nat):Prop:=k=b∨k≤g∨kv.ownBlock=some k
structure Gr (b g:Nat)(W:World)(op tx:zgS)(a:Int)(kv:Value)(vs:List Value):Prop where
 ne:g≠b
 blt:b<W.heap.size
 cells:W.heap[g]?=some (.cells #[.string op,.string tx,.int .i64 a,kv] 138)
 own:W.ownsRow (g+1) 89 1 kv vs.length vs
 nb:kv.ownBlock≠some b
theorem Gr.lt {b g:Nat}{W:World}{op tx:zgS}{a:Int}{kv:Value}{vs:List Value}(h:Gr b g W op tx a kv vs):g<W.heap.size:=(Array.getElem?_eq_some_iff.1 h.cells).1
theorem Gr.rf {b g:Nat}{W W':World}{op tx:zgS}{a:Int}{kv:Value}{vs:List Value}(h:Gr b g W op tx a kv vs)(r:Rf b W W'):Gr b g W' op tx a kv vs:=
 ⟨h.ne,zgN h.blt r.size,(r.block g h.lt h.ne).trans h.cells,zc h.own fun k e=>r.block k (h.own.lt k e).2 fun q=>h.nb (q▸e),h.nb⟩
theorem Gr.node {b g B:Nat}{W:World}{op tx:zgS}{a:Int}{kv:Value}{vs:List Value}(h:Gr b g W op tx a kv vs)(hB:B≤g):NodeX (Out b B) W (.pointer (some ⟨g,0,none⟩)) op tx a vs:=by
 refine⟨g,kv,rfl,fun e=> ?_,h.cells,z0a h.own (zgO _),fun k e q=> ?_⟩
 ·have:=h.ne
  unfold Out at e
  omega
 ·have:=(h.own.lt k e).1
  rcases q with q|q
  ·exact h.nb (q▸e)
  ·omega
theorem zgl {w:World}{g:Nat}{a b c d:Value}{t:TypeId}(h:w.heap[g]?=some (.cells #[a,b,c,d] t))(v:Value):(w.setCell ⟨g,3,none⟩ v).heap[g]?=some (.cells #[a,b,c,v] t):=by
 simp only [World.setCell,Array.getElem?_modify,if_true]
 rw [h]
 rfl
theorem Gr.push {b g gb cap:Nat}{W w5:World}{op tx:zgS}{a:Int}{kv v:Value}{vs:List Value}(h:Gr b g W op tx a kv vs)
  (hown:w5.ownsRow (g+1) 89 1 (.slice (some ⟨gb,0,none⟩) (vs.length+1) cap) (vs.length+1) (vs++[v])) (hgrow:(W.alloc (.cells #[v] 89)).grownBy w5 kv.ownBlock) (hat:kv.ownBlock=some gb∨gb=W.heap.size+1):
  Gr b g (w5.setCell ⟨g,3,none⟩ (.slice (some ⟨gb,0,none⟩) (vs.length+1) cap)) op tx a (.slice (some ⟨gb,0,none⟩) (vs.length+1) cap) (vs++[v])∧
  z1M (fun k=>KX b g kv k∨W.heap.size≤k) W (w5.setCell ⟨g,3,none⟩ (.slice (some ⟨gb,0,none⟩) (vs.length+1) cap))∧
  (∀k,KX b g (.slice (some ⟨gb,0,none⟩) (vs.length+1) cap) k→KX b g kv k∨W.heap.size≤k)∧
  (w5.setCell ⟨g,3,none⟩ (.slice (some ⟨gb,0,none⟩) (vs.length+1) cap)).heap[b]?=W.heap[b]?∧
  (∀u,Rf b u W→u.heap.size≤g→Rf b u (w5.setCell ⟨g,3,none⟩ (.slice (some ⟨gb,0,none⟩) (vs.length+1) cap)))∧
  w5.cell? ⟨g,3,none⟩=some kv∧w5.frozen? ⟨g,3,none⟩=false:=by
 have hg:=h.lt
 have hb:=h.blt
 have hne:=h.ne
 have hbk: ∀k,k<W.heap.size→some k≠kv.ownBlock→w5.heap[k]?=W.heap[k]?:=fun k hk hn=>(hgrow.block k (by simp;omega) hn).trans (zgJ _ _ _ hk)
 have hog:some g≠kv.ownBlock:=fun e=>by have:=(h.own.lt g e.symm).1;omega
 have h5:w5.heap[g]?=some (.cells #[.string op,.string tx,.int .i64 a,kv] 138):=(hbk g hg hog).trans h.cells
 have hgb:g<gb:=by
  rcases hat with e|e
  ·have:=(h.own.lt gb e).1;omega
  ·omega
 have hz:W.heap.size≤w5.heap.size:=zgP (by simp) hgrow.size
 refine⟨⟨hne,?_,zgl h5 _,zc (by simpa using hown) fun k e=>zgQ _ _ _ _ ?_,?_⟩,?_,?_,?_,?_,(jN h5).2.2.2.1,(jN h5).2.2.2.2 3⟩
 ·simp [World.setCell];omega
 ·have:gb=k:=by simpa [Value.ownBlock] using e
  simp;omega
 ·intro e
  have e:gb=b:=by simpa [Value.ownBlock] using e
  rcases hat with q|q
  ·exact h.nb (e▸q)
  ·omega
 ·intro k hk hn
  have h1:k≠g:=fun e=>hn (.inl (.inr (.inl (by omega))))
  exact(zgQ _ _ _ _ (by simpa using h1)).trans (hbk k hk fun e=>hn (.inl (.inr (.inr e.symm))))
 ·intro k e
  rcases e with e|e|e
  ·exact .inl (.inl e)
  ·exact .inl (.inr (.inl e))
  ·have e:gb=k:=by simpa [Value.ownBlock] using e
   rcases hat with q|q
   ·exact .inl (.inr (.inr (e▸q)))
   ·exact .inr (by omega)
 ·exact(zgQ _ _ _ _ (by simpa using hne.symm)).trans (hbk b hb fun e=>h.nb e.symm)
 ·intro u hu hug
  have h1:Rf b W w5→Rf b u w5:=fun r=>hu.trans r
  refine Rf.setCell (a:=⟨g,3,none⟩) ?_ hug _
  exact(hu.alloc _).grown hgrow (fun k e=>by have:=(h.own.lt k e).1;omega)
theorem jD {w:World}{base e size n:Nat}{v:Value}{xs:List Value}(h:w.ownsRow base e size v n xs): ∃a c,v= .slice a n c:=by
 rcases h.2 with⟨h1,h2⟩|⟨g,cap,cur,hv,_⟩
 ·exact⟨none,0,by rw [h1,h2]⟩
 ·exact⟨_,_,hv⟩
theorem Gr.cell {b g:Nat}{W:World}{op tx:zgS}{a:Int}{kv:Value}{vs:List Value}(h:Gr b g W op tx a kv vs):W.cell? ⟨g,3,none⟩=some kv∧W.frozen? ⟨g,3,none⟩=false:=⟨(jN h.cells).2.2.2.1,(jN h.cells).2.2.2.2 3⟩
end Go.Proofs.YtkoohcilbpdgeaaGreatDoor
