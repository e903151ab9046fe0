import Derived.Deep.LoopGhost
import Derived.Test.YtkoohcilbpdgeaaGreatDoorC02
set_option linter.all false
set_option linter.unusedVariables false
set_option linter.unusedSimpArgs false
set_option linter.unnecessarySimpa false
set_option linter.constructorNameAsVariable false
set_option linter.deprecated false
set_option maxRecDepth 100000
set_option maxHeartbeats 6400000
namespace Go.Proofs.YtkoohcilbpdgeaaGreatDoor
open Go Go.RowKit
attribute [local go_sem] wrap64_byte
def OKLof (s:ByteArray)(n:Nat):Prop:= ∀(X:Nat→Prop) (b:Nat) (st:St) (w:World) (r:Int) (st':St),ML s n 3 0 0 0 [] st=some (r,st')→isDigit (pkS s st)=true→Inv X w b s st→(∀k,X k→k<w.heap.size)→
  Calls Tryz.prog 190 #[.pointer (some ⟨b,0,none⟩)] w fun e w'=>e= .returned (.int .i64 r)∧Inv X w' b s st'∧Fr X w w'
theorem licOf_step (s:ByteArray)(n:Nat)(ih: ∀m,m≤n→OKL s 161 0 m):OKLof s (n+1):=by
 intro X b st w r st' hM hdig hI hX
 rw [ML_3] at hM
 obtain⟨⟨l1,st1⟩,h1,h2⟩:=Option.bind_eq_some_iff.1 hM
 have IH:=hide ih
 have H1:=hide h1
 have H2:=hide h2
 have HX:=hide hX
 clear hM h1 h2 ih hX
 have hrd:=hI.rd
 have hpk:48≤pk s st.at_ st.bad∧pk s st.at_ st.bad≤57:=by have h:=hdig;unfold isDigit at h;rw [Bool.and_eq_true] at h;exact⟨of_decide_eq_true h.1,of_decide_eq_true h.2⟩
 have hlt:=(pk_lt (s:=s) (a:=st.at_) (d:=st.bad) (by omega)).2
 have hset:=fun m=>(hrd.drewN m).setAt' (st.at_+1) (st.at_+1) (by omega) hlt
 obtain⟨hp1,hp2⟩:=hpk
 obtain⟨c0,c1,c2,f1,f2,_,_⟩:=id hrd
 go_enter Tryz.func190,Tryz.ntmps190
 go_wp2_with (go_at_call 78;refine(peek_any b st.at_ s st.bad _ hrd).mono ?_;rintro e w2 ⟨rfl,n2,rfl⟩)
 have hset:=hset n2
 have hsc2:=((Sc.refl b w).drewN n2).setCell 1 (Or.inl rfl) (.int .i64 (st.at_+1))
 refine(sign_any b (st.at_+1) s _ st.bad _ hset (by decide)).mono ?_
 rintro e w3 ⟨rfl,hr3,hs3⟩
 have hI3:=hI.sc hr3 (hsc2.trans hs3)
 have hF3:Fr X w w3:=(hsc2.trans hs3).fr hI.nob
 clear hr3 hs3 hsc2 hset c0 c1 c2 f1 f2 hrd
 go_wp2_with fail
 obtain⟨Y,hY⟩:=held_made hI3 (hF3.lt HX.out) hF3 3 1
 refine(IH.out n (Nat.le_refl _) Y b _ _ l1 st1 H1.out hY.inv hY.lt).mono ?_
 rintro e w4 ⟨rfl,hI4,hF4⟩
 have hY4:=hY.call hI4 hF4
 clear hY hI4 hF4 hI3 hF3
 obtain⟨i0,hi,hz0,hz1,hz2⟩:=info_parts info3
 have how:=hY4.own
 have hbl:=hY4.inv.lt
 generalize hsz:w4.heap.size=H4 at*
 have HSZ:=hide hsz
 clear hsz
 go_wp2_with (at_builtin;go_must (refine wpList_append_lies _ rfl (.tmp 26) (.tmp 28) 60 rfl (b+1) 3 i0 _ 1 8 Tryz.underlying60 hi hz0 hz1 hz2 rfl (by omega) _ 0 _ rfl (how.alloc _) ⟨w4.heap.size,0,none⟩ 1 1 [.int .i64 l1] rfl rfl ?news ?one (by omega) ?mm ?bys ?base (w4.heap.size+1) (by simp) ?rest))
 case news=>exact World.news_of_block (heap_alloc_new w4 _)
 case one=>intro u hu;simp at hu;subst hu;rfl
 case mm=>unfold maxLen;omega
 case bys=>omega
 case base=>simp;rw [HSZ.out];omega
 case rest=>
  intro gb cap w5 hown hgrow hat hlt2
  have hH:=hY4.grown hown (grownBy_trans (World.grownBy_alloc w4 _ _) hgrow) (fun k e=>by
   have:gb=k:=by simpa [Value.ownBlock] using e
   subst this
   exact hat.imp id fun e=>by omega) HX.out
  clear hgrow hat hown how hY4 hlt2 hbl HSZ H4
  go_wp2_with fail
  go_loopg [5,6] n (fun k v _ wr=>k≤n∧ ∃(il:List Int) (sv:St),0<il.length∧Hid (ML s k 13 0 st.at_ (pkS s st - 48) il sv=some (r,st'))∧Held X w wr b s sv 3 1 v il.length (il.map (Value.int .i64)))
  case atStart=>exact⟨Nat.le_refl _,[l1],st1,Nat.zero_lt_one,H2,_,hH⟩
  case round=>
   obtain⟨hkn,il,sv,hpos,hm,Y,hY⟩:=hrel
   obtain⟨g5,cap5,rfl,_,_⟩:=hY.own.form hpos
   cases gk with
   |zero=>exact absurd hm.out (by simp [ML])
   |succ k=>
    have hm':=hm.out
    rw [ML_13] at hm'
    clear hm hH
    have hil:il.length<100000:=by
     by_cases hx:il.length<100000
     ·exact hx
     ·rw [if_neg hx] at hm';cases hm'
    rw [if_pos hil] at hm'
    have hrd:=hY.inv.rd
    cases hc:(pkS s sv==44)
    ·rw [hc,if_neg (by decide)] at hm'
     have hc:(pk s sv.at_ sv.bad==44)=false:=hc
     obtain⟨hl,h6⟩:=addL_some hm'
     cases h6
     clear hm' H2
     go_wp2_with (go_at_call 78;refine(peek_any _ _ _ _ _ hrd).mono ?_;rintro e w2 ⟨rfl,n2,rfl⟩)
     refine(sign_any b _ s _ _ _ (by exact hrd.drewN _) (by decide)).mono ?_
     rintro e w6 ⟨rfl,hr6,hs6⟩
     have hY6:=(hY.drewN n2).sc hr6 hs6
     clear hY hr6 hs6 hrd hc
     obtain⟨V,iv,cv,g⟩:=hY6.inv
     obtain⟨i1,hi1,hy0,hy1,hy2⟩:=info_parts info160
     have hlt6:=g.rows.lt
     have hcc:=g.rows.cell 4 (by omega) (by omega)
     have hff:=g.rows.froz 4 (by omega) (by omega)
     have how6:=g.rows.own 4 (by omega) (by omega)
     have HS:=hide (hY6.side HX.out g)
     have HG:=hide (g.mono hY6.sub)
     have HX6:=hide (hY6.fr.lt HX.out)
     have HF6:=hide hY6.fr
     have hl:sv.L.length<100000:=hl
     clear g hY6
     go_wp2_with (at_builtin;go_must (refine wpList_append_lies _ rfl (.tmp 48) (.tmp 53) 50 rfl (b+1) 160 i1 _ 7 80 Tryz.underlying50 hi1 hy0 hy1 hy2 rfl (by omega) (V 4) sv.L.length _ rfl (how6.alloc _) ⟨w6.heap.size,0,none⟩ 1 1 (Lc.cells ⟨2,⟨#[]⟩,-1,-1,st.at_,pk s st.at_ st.bad - 48,il⟩ (.slice (some ⟨g5,0,none⟩) il.length cap5)) rfl rfl ?news2 ?one2 (by omega) ?mm2 ?bys2 ?base2 (w6.heap.size+1) (by simp) ?rest2))
     case news2=>exact World.news_of_block (heap_alloc_new w6 _)
     case one2=>
      intro x hx
      simp [Lc.cells] at hx
      rcases hx with rfl|rfl|rfl|rfl|rfl|rfl<;>rfl
     case mm2=>unfold maxLen;omega
     case bys2=>omega
     case base2=>simp;omega
     case rest2=>
      intro gb cap w7 hown hgrow hat hlt2
      have hg:=grownBy_trans (World.grownBy_alloc w6 _ _) hgrow
      obtain⟨k1,k2,hfr⟩:=HG.out.grown (o:=4) (by omega) (by omega) hg HX6.out
      have hI7:=HG.out.pushL ⟨2,⟨#[]⟩,-1,-1,st.at_,pk s st.at_ st.bad - 48,il⟩ _ HS.out hown hg (fun k e=>by
       have:gb=k:=by simpa [Value.ownBlock] using e
       subst this
       exact hat.imp id fun e=>by omega) HX6.out
      have hfr:=hfr (.slice (some ⟨gb,0,none⟩) (sv.L.length+1) cap)
      clear hgrow hat hown hg how6
      go_wp2_with fail
      go_ret
      exact⟨by simp [sgn,St.put],hI7,HF6.out.trans hfr⟩
    ·rw [hc,if_pos rfl] at hm'
     have hc:(pk s sv.at_ sv.bad==44)=true:=hc
     obtain⟨⟨r2,st2⟩,h2,h3⟩:=Option.bind_eq_some_iff.1 hm'
     have HH:=hide (And.intro h2 h3)
     clear hm' h2 h3
     go_wp2_with (first|(go_at_call 78;refine(peek_any _ _ _ _ _ hrd).mono ?_;rintro e w2 ⟨rfl,n2,rfl⟩)|(go_at_call 114;refine(sign_any b _ s _ _ _ (by exact hrd.drewN _) (by decide)).mono ?_;rintro e w6 ⟨rfl,hr6,hs6⟩))
     have hY6:=(hY.drewN n2).sc hr6 hs6
     refine(IH.out k (by omega) Y b _ _ r2 st2 HH.out.1 hY6.inv hY6.lt).mono ?_
     rintro e w7 ⟨rfl,hI7,hF7⟩
     have hY7:=hY6.call hI7 hF7
     clear hY hr6 hs6 hrd hc hY6 hI7 hF7
     have how7:=hY7.own
     have hbl7:=hY7.inv.lt
     go_wp2_with (at_builtin;go_must (refine wpList_append_lies _ rfl (.tmp 37) (.tmp 39) 60 rfl (b+1) 3 i0 _ 1 8 Tryz.underlying60 hi hz0 hz1 hz2 rfl (by omega) _ il.length _ rfl (how7.alloc _) ⟨w7.heap.size,0,none⟩ 1 1 [.int .i64 r2] rfl rfl ?news3 ?one3 (by omega) ?mm3 ?bys3 ?base3 (w7.heap.size+1) (by simp) ?rest3))
     case news3=>exact World.news_of_block (heap_alloc_new w7 _)
     case one3=>intro u hu;simp at hu;subst hu;rfl
     case mm3=>unfold maxLen;omega
     case bys3=>omega
     case base3=>simp;omega
     case rest3=>
      intro gb cap w8 hown hgrow hat hlt2
      have hH:=hY7.grown hown (grownBy_trans (World.grownBy_alloc w7 _ _) hgrow) (fun k e=>by
       have:gb=k:=by simpa [Value.ownBlock] using e
       subst this
       exact hat.imp id fun e=>by omega) HX.out
      clear hgrow hat hown how7 hY7 hlt2 hbl7
      go_wp2_with fail
      go_roundg k
      case measure=>omega
      case rel=>exact⟨by omega,il++[r2],st2,by simp,HH.out.2,_,by simpa using hH⟩
def OKCl (s:ByteArray)(n:Nat):Prop:= ∀(X:Nat→Prop) (b:Nat) (st:St) (w:World) (r:Int) (c:Cl) (st':St),MC s n 1 [] st=some (r,c,st')→Inv X w b s st→(∀k,X k→k<w.heap.size)→
  Calls Tryz.prog 178 #[.pointer (some ⟨b,0,none⟩)] w fun e w'=>e= .returned (.agg #[.int .i64 c.test,.int .i64 c.form,.string c.result,.int .i64 c.inner])∧Inv X w' b s st'∧Fr X w w'
def OKCo (s:ByteArray)(n:Nat):Prop:= ∀(X:Nat→Prop) (b:Nat) (st:St) (w:World) (r:Int) (c:Cl) (st':St),MC s n 0 [] st=some (r,c,st')→Inv X w b s st→(∀k,X k→k<w.heap.size)→
  Calls Tryz.prog 162 #[.pointer (some ⟨b,0,none⟩)] w fun e w'=>e= .returned (.int .i64 r)∧Inv X w' b s st'∧Fr X w w'
theorem box4 {w:World}{g:Nat}{a b c d:Value}{t:TypeId}(h:w.heap[g]?=some (.cells #[a,b,c,d] t)):
  w.cell? ⟨g,0,none⟩=some a∧w.cell? ⟨g,1,none⟩=some b∧w.cell? ⟨g,2,none⟩=some c∧w.cell? ⟨g,3,none⟩=some d∧(∀o,w.frozen? ⟨g,o,none⟩=false):=by
 simp [World.cell?,World.frozen?,h]
theorem clause_step (s:ByteArray)(n:Nat)(ihe:OKE s 73 0 n)(ihc:OKCo s n):OKCl s (n+1):=by
 intro X b st w r c st' hM hI hX
 rw [MC_1] at hM
 obtain⟨⟨r1,st1⟩,h1,h2⟩:=Option.bind_eq_some_iff.1 hM
 obtain⟨⟨r2,st2⟩,h3,h4⟩:=Option.bind_eq_some_iff.1 h2
 obtain⟨hl,h6⟩:=addE_some h3
 cases h6
 have H1:=hide h1
 have H4:=hide h4
 clear hM h1 h2 h3 h4
 have hrd:=hI.rd
 have hblt:=hI.lt
 have hnew:w.heap.size≠b:=by omega
 have hIa:=hI.allocX (.cells #[.int .i64 0,.int .i64 0,.string ⟨#[]⟩,.int .i64 0] 156)
 have hbx:(w.alloc (.cells #[.int .i64 0,.int .i64 0,.string ⟨#[]⟩,.int .i64 0] 156)).heap[w.heap.size]?=some (.cells #[.int .i64 0,.int .i64 0,.string ⟨#[]⟩,.int .i64 0] 156):=heap_alloc_new w _
 have hFa:=(Fr.refl X w).alloc hX (.cells #[.int .i64 0,.int .i64 0,.string ⟨#[]⟩,.int .i64 0] 156)
 have hXa: ∀k,(X k∨k=w.heap.size)→k<(w.alloc (.cells #[.int .i64 0,.int .i64 0,.string ⟨#[]⟩,.int .i64 0] 156)).heap.size:=fun k y=>by
  rcases y with y|y
  ·have:=hX k y;simp;omega
  ·simp;omega
 have HB:=hide hbx
 have HFa:=hide hFa
 have HXa:=hide hXa
 have HX:=hide hX
 clear hbx hFa hXa hX
 obtain⟨c0,c1,c2,f1,f2,_,_⟩:=id hrd
 go_enter Tryz.func178,Tryz.ntmps178
 go_wp2_with fail
 refine(ihe _ b _ _ r1 st1 H1.out hIa HXa.out).mono ?_
 rintro e w1 ⟨rfl,hI1,hF1⟩
 go_wp2_with fail
 refine(addTest_any _ b s st1 _ _ _ hI1 (hF1.lt HXa.out) hl).mono ?_
 rintro e w2 ⟨rfl,hI2,hF2⟩
 have hrd2:=hI2.rd
 have hF12:=hF1.trans hF2
 have hb2:=(hF12.block w.heap.size (.inr rfl)).trans HB.out
 have HF02:=hide (HFa.out.trans (hF12.mono fun k x=> .inl x))
 have HX2:=hide (hF12.lt HXa.out)
 have hng:Hid (¬X w.heap.size):=hide fun x=>absurd (HX.out _ x) (Nat.lt_irrefl _)
 clear hI hIa hI1 hF1 hF2 hF12 hrd c0 c1 c2 f1 f2
 have h4:=H4.out
 clear H4
 cases har:arrowM s st1.at_ st1.bad
 ·rw [har,if_pos (by decide)] at h4
  simp only [Option.some.injEq,Prod.mk.injEq] at h4
  obtain⟨rfl,rfl,rfl⟩:=h4
  obtain⟨b0,b1,b2,b3,bf⟩:=box4 hb2
  clear hb2
  go_wp2_with (go_at_call 186;refine(atArrow_any b _ s _ _ hrd2).mono ?_;rintro e w3 ⟨rfl,n3,rfl⟩)
  have hbel:=hI2.nob
  refine bodyPost_ret (v:= .agg #[.int .i64 st1.E.length,.int .i64 0,.string ⟨#[]⟩,.int .i64 (-1)]) (by simp [results,Tryz.results178,go_sem,b0,b1,b2,b3]) rfl ⟨rfl,?_,?_⟩
  ·exact(((((hI2.drewN _).setCell (.inr rfl) _).setCell (.inr rfl) _).setCell (.inr rfl) _).setCell (.inr rfl) _).mono fun k x=> .inl x
  ·exact((((HF02.out.drewN _).setCell hng.out _).setCell hng.out _).setCell hng.out _).setCell hng.out _
 ·rw [har,if_neg (by decide)] at h4
  have h4':(if pkS s (sgn s [45,62] {st1 with E:=st1.E++[⟨7,st.at_,⟨#[]⟩,r1,-1⟩]})==123 then(MC s n 0 [] (sgn s [123] (sgn s [45,62] {st1 with E:=st1.E++[⟨7,st.at_,⟨#[]⟩,r1,-1⟩]}))).bind fun v=>some (0,(⟨st1.E.length,2,⟨#[]⟩,v.1⟩:Cl),sgn s [125] v.2.2)
    else some (0,⟨st1.E.length,1,(nameM s (sgn s [45,62] {st1 with E:=st1.E++[⟨7,st.at_,⟨#[]⟩,r1,-1⟩]}).at_ (sgn s [45,62] {st1 with E:=st1.E++[⟨7,st.at_,⟨#[]⟩,r1,-1⟩]}).bad).2.2,-1⟩,(sgn s [45,62] {st1 with E:=st1.E++[⟨7,st.at_,⟨#[]⟩,r1,-1⟩]}).put3 (nameM s (sgn s [45,62] {st1 with E:=st1.E++[⟨7,st.at_,⟨#[]⟩,r1,-1⟩]}).at_ (sgn s [45,62] {st1 with E:=st1.E++[⟨7,st.at_,⟨#[]⟩,r1,-1⟩]}).bad)))=some (r,c,st'):=h4
  have H4:=hide h4'
  clear h4 h4'
  go_wp2_with (go_at_call 186;refine(atArrow_any b _ s _ _ hrd2).mono ?_;rintro e w3 ⟨rfl,n3,rfl⟩)
  refine(sign_any b _ s _ _ _ (by exact hrd2.drewN _) (by decide)).mono ?_
  rintro e w4 ⟨rfl,hr4,hs4⟩
  have hI4:=(hI2.drewN n3).sc hr4 hs4
  have hF24:=((Fr.refl (fun k=>X k∨k=w.heap.size) w2).drewN n3).trans (hs4.fr hI2.nob)
  have hI4:Inv (fun k=>X k∨k=w.heap.size) w4 b s (sgn s [45,62] {st1 with E:=st1.E++[⟨7,st.at_,⟨#[]⟩,r1,-1⟩]}):=hI4
  have hb4:=(hF24.block w.heap.size (.inr rfl)).trans hb2
  have HF04:=hide (HF02.out.trans (hF24.mono fun k x=> .inl x))
  have HX4:=hide (hF24.lt HX2.out)
  have h4:=H4.out
  clear H4 hr4 hs4 hI2 hF24 hb2 HF02 HX2 hrd2 har
  generalize sgn s [45,62] {st1 with E:=st1.E++[⟨7,st.at_,⟨#[]⟩,r1,-1⟩]}=u at*
  have hrd4:=hI4.rd
  cases hc:(pkS s u==123)
  ·rw [hc,if_neg (by decide)] at h4
   have hc:(pk s u.at_ u.bad==123)=false:=hc
   simp only [Option.some.injEq,Prod.mk.injEq] at h4
   obtain⟨rfl,rfl,rfl⟩:=h4
   go_wp2_with (go_at_call 78;refine(peek_any b _ s _ _ hrd4).mono ?_;rintro e w5 ⟨rfl,n5,rfl⟩)
   refine(name_any b _ s _ _ (by exact hrd4.drewN _)).mono ?_
   rintro e w6 ⟨rfl,hr6,hs6⟩
   have hI6:=(hI4.drewN n5).sc hr6 hs6
   have hF46:=((Fr.refl (fun k=>X k∨k=w.heap.size) w4).drewN n5).trans (hs6.fr hI4.nob)
   obtain⟨b0,b1,b2,b3,bf⟩:=box4 ((hF46.block w.heap.size (.inr rfl)).trans hb4)
   have HF06:=hide (HF04.out.trans (hF46.mono fun k x=> .inl x))
   clear hb4 hr6 hs6 hF46 hrd4 hI4
   go_wp2_with fail
   refine bodyPost_ret (v:= .agg #[.int .i64 st1.E.length,.int .i64 1,.string (nameM s u.at_ u.bad).2.2,.int .i64 (-1)]) (by simp [results,Tryz.results178,go_sem,b0,b1,b2,b3]) rfl ⟨rfl,?_,?_⟩
   ·exact(((((hI6).setCell (.inr rfl) _).setCell (.inr rfl) _).setCell (.inr rfl) _).setCell (.inr rfl) _).mono fun k x=> .inl x
   ·exact((((HF06.out).setCell hng.out _).setCell hng.out _).setCell hng.out _).setCell hng.out _
  ·rw [hc,if_pos rfl] at h4
   have hc:(pk s u.at_ u.bad==123)=true:=hc
   obtain⟨⟨r5,c5,st5⟩,h5,h6⟩:=Option.bind_eq_some_iff.1 h4
   simp only [Option.some.injEq,Prod.mk.injEq] at h6
   obtain⟨rfl,rfl,rfl⟩:=h6
   have H5:=hide h5
   clear h4 h5
   go_wp2_with (go_at_call 78;refine(peek_any b _ s _ _ hrd4).mono ?_;rintro e w5 ⟨rfl,n5,rfl⟩)
   refine(sign_any b _ s _ _ _ (by exact hrd4.drewN _) (by decide)).mono ?_
   rintro e w6 ⟨rfl,hr6,hs6⟩
   have hI6:=(hI4.drewN n5).sc hr6 hs6
   have hF46:=((Fr.refl (fun k=>X k∨k=w.heap.size) w4).drewN n5).trans (hs6.fr hI4.nob)
   have HF06:=hide (HF04.out.trans (hF46.mono fun k x=> .inl x))
   have hb6:=(hF46.block w.heap.size (.inr rfl)).trans hb4
   go_wp2_with fail
   refine(ihc _ b _ _ r5 c5 st5 H5.out hI6 (hF46.lt HX4.out)).mono ?_
   rintro e w7 ⟨rfl,hI7,hF7⟩
   have hrd7:=hI7.rd
   clear hr6 hs6 hI6 hI4 hrd4 hb4
   go_wp2_with fail
   refine(sign_any b _ s _ _ _ hrd7 (by decide)).mono ?_
   rintro e w8 ⟨rfl,hr8,hs8⟩
   have hI8:=hI7.sc hr8 hs8
   have hF8:=hF7.trans (hs8.fr hI7.nob)
   obtain⟨b0,b1,b2,b3,bf⟩:=box4 ((hF8.block w.heap.size (.inr rfl)).trans hb6)
   have HF08:=hide (HF06.out.trans (hF8.mono fun k x=> .inl x))
   clear hb6 hr8 hs8 hF8 hrd7 hI7 hF7 hF46
   go_wp2_with fail
   refine bodyPost_ret (v:= .agg #[.int .i64 st1.E.length,.int .i64 2,.string ⟨#[]⟩,.int .i64 r5]) (by simp [results,Tryz.results178,go_sem,b0,b1,b2,b3]) rfl ⟨rfl,?_,?_⟩
   ·exact(((((hI8).setCell (.inr rfl) _).setCell (.inr rfl) _).setCell (.inr rfl) _).setCell (.inr rfl) _).mono fun k x=> .inl x
   ·exact((((HF08.out).setCell hng.out _).setCell hng.out _).setCell hng.out _).setCell hng.out _
theorem news_at (W:World)(H:Nat)(hH:W.heap.size=H)(cs:Array Value)(t:TypeId): ∀j u,cs.toList[j]?=some u→(W.alloc (.cells cs t)).cell? ((⟨H,0,none⟩:Addr).add j)=some u:=by
 subst hH
 exact World.news_of_block (heap_alloc_new _ _)
theorem sets4 {w:World}{g:Nat}{a b c d:Value}{t:TypeId}(h:w.heap[g]?=some (.cells #[a,b,c,d] t))(p q r u:Value):
  ((((w.setCell ⟨g,0,none⟩ p).setCell ⟨g,1,none⟩ q).setCell ⟨g,2,none⟩ r).setCell ⟨g,3,none⟩ u).heap[g]?=some (.cells #[p,q,r,u] t):=by
 simp [World.setCell,Array.getElem?_modify,h]
theorem conds_step (s:ByteArray)(n:Nat)(ih: ∀m,m≤n→OKCl s m):OKCo s (n+1):=by
 intro X b st w r c st' hM hI hX
 rw [MC_0] at hM
 obtain⟨⟨l1,k1,st1⟩,h1,h2⟩:=Option.bind_eq_some_iff.1 hM
 have IH:=hide ih
 have H1:=hide h1
 have H2:=hide h2
 have HX:=hide hX
 clear hM h1 h2 ih
 obtain⟨Y,hY⟩:=held_made (e:=156) (size:=4) hI hX (Fr.refl X w)
 clear hX hI
 go_enter Tryz.func162,Tryz.ntmps162
 go_wp2_with fail
 refine(IH.out n (Nat.le_refl _) Y b _ _ l1 k1 st1 H1.out hY.inv hY.lt).mono ?_
 rintro e w1 ⟨rfl,hI1,hF1⟩
 have hY1:=hY.call hI1 hF1
 clear hY hI1 hF1
 have hw1:=hide hY1.fr.size
 obtain⟨i0,hi,hz0,hz1,hz2⟩:=info_parts info156
 have how:=hY1.own
 have hbl:=hY1.inv.lt
 go_wp2_with (at_builtin;go_must (refine wpList_append_lies _ rfl (.tmp 8) (.tmp 10) 131 rfl (b+1) 156 i0 _ 4 40 Tryz.underlying131 hi hz0 hz1 hz2 rfl (by omega) _ 0 _ rfl ((how.alloc _).alloc _) ⟨w1.heap.size+1,0,none⟩ 1 1 (Cl.cells k1) rfl rfl ?news ?one (by omega) ?mm ?bys ?base (w1.heap.size+2) (by simp) ?rest))
 case news=>exact news_two w1 _ _ _
 case one=>intro u hu;simp [Cl.cells] at hu;rcases hu with rfl|rfl|rfl|rfl<;>rfl
 case mm=>unfold maxLen;omega
 case bys=>omega
 case base=>simp;omega
 case rest=>
  intro gb cap w2 hown hgrow hat hlt2
  have hH:=(hY1.more (.cells #[.int .i64 k1.test,.int .i64 k1.form,.string k1.result,.int .i64 k1.inner] 156)).grown hown (grownBy_trans (World.grownBy_alloc _ _ _) hgrow) (fun k e=>by
   have:gb=k:=by simpa [Value.ownBlock] using e
   subst this
   exact hat.imp id fun e=>by simp;omega) HX.out
  have hne:gb≠w1.heap.size:=by
   intro q
   rcases hat with q1|q1
   ·have:w.heap.size=gb:=by simpa [Value.ownBlock] using q1
    have hz:=(how.lt w.heap.size (by simp [Value.ownBlock])).2
    omega
   ·omega
  have hbx:w2.heap[w1.heap.size]?=some (.cells #[.int .i64 k1.test,.int .i64 k1.form,.string k1.result,.int .i64 k1.inner] 156):=by
   have hz:=(how.lt w.heap.size (by simp [Value.ownBlock])).2
   rw [hgrow.block w1.heap.size (by simp;omega) (by simp [Value.ownBlock];omega),Below.heap_alloc _ _ _ (by simp)]
   exact heap_alloc_new w1 _
  clear hgrow hat hown how hY1 hlt2 hbl
  go_wp2_with fail
  generalize hH1:w1.heap.size=g4 at*
  have HH1:=hide hH1
  clear hH1
  go_loopg [3] n (fun k v wr=>k≤n∧ ∃(cl:List Cl) (sv:St) (Z:Nat→Prop) (a0 a1 a2 a3:Value),0<cl.length∧Hid (MC s k 2 cl sv=some (r,c,st'))∧HeldY X Z w wr b s sv 156 4 v cl.length ((cl.map Cl.cells).flatten)∧Z g4∧v.ownBlock≠some g4∧wr.heap[g4]?=some (.cells #[a0,a1,a2,a3] 156))
  case atStart=>exact⟨Nat.le_refl _,[k1],st1,_,_,_,_,_,Nat.zero_lt_one,H2,hH,Or.inl (Or.inr rfl),by simpa [Value.ownBlock] using hne,hbx⟩
  case round=>
   obtain⟨hkn,cl,sv,Z,a0,a1,a2,a3,hpos,hm,hZ,hZ4,hne4,hb4⟩:=hrel
   obtain⟨g5,cap5,rfl,_,_⟩:=hZ.own.form hpos
   cases gk with
   |zero=>exact absurd hm.out (by simp [MC])
   |succ k=>
    have hm':=hm.out
    rw [MC_2] at hm'
    clear hm hH hbx hne
    have hil:cl.length<100000:=by
     by_cases hx:cl.length<100000
     ·exact hx
     ·rw [if_neg hx] at hm';cases hm'
    rw [if_pos hil] at hm'
    have hrd:=hZ.inv.rd
    cases hc:(pkS s sv==59)
    ·rw [hc,if_neg (by decide)] at hm'
     have hc:(pk s sv.at_ sv.bad==59)=false:=hc
     obtain⟨⟨r3,st3⟩,h3,h4⟩:=Option.bind_eq_some_iff.1 hm'
     obtain⟨hl,h6⟩:=addC_some h3
     cases h6
     simp only [Option.some.injEq,Prod.mk.injEq] at h4
     obtain⟨rfl,rfl,rfl⟩:=h4
     clear hm' H2 h3
     have hZd:=fun m=>hZ.drewN m
     obtain⟨i1,hi1,hy0,hy1,hy2⟩:=info_parts info133
     obtain⟨V,iv,cv,g⟩:=hZ.inv
     have hlt6:=g.rows.lt
     have hcc:=g.rows.cell 6 (by omega) (by omega)
     have hff:=g.rows.froz 6 (by omega) (by omega)
     have how6:=g.rows.own 6 (by omega) (by omega)
     have HS:=hide (hZ.side HX.out g)
     have HG:=hide (g.mono hZ.sub)
     have HX6:=hide (hZ.fr.lt HX.out)
     have HF6:=hide hZ.fr
     clear g hZ hZd hb4 hne4
     go_wp2_with (first|(go_at_call 78;refine(peek_any _ _ _ _ _ hrd).mono ?_;rintro e w5 ⟨rfl,n2,rfl⟩)|(at_builtin;go_must (refine wpList_append_lies _ rfl (.tmp 28) (.tmp 31) 52 rfl (b+1) 133 i1 _ 1 24 Tryz.underlying52 hi1 hy0 hy1 hy2 rfl (by omega) (V 6) sv.C.length _ rfl (by exact how6.alloc _) ⟨wr.heap.size,0,none⟩ 1 1 [.slice (some ⟨g5,0,none⟩) cl.length cap5] rfl rfl ?news2 ?one2 (by omega) ?mm2 ?bys2 ?base2 (wr.heap.size+1) (by simp) ?rest2)))
     case news2=>exact World.news_of_block (heap_alloc_new wr _)
     case one2=>intro x hx;simp at hx;subst hx;rfl
     case mm2=>unfold maxLen;omega
     case bys2=>omega
     case base2=>simp;omega
     case rest2=>
      intro gb cap w7 hown hgrow hat hlt2
      have hg:=grownBy_trans (World.grownBy_alloc wr _ _) ⟨hgrow.os,hgrow.tape,hgrow.output,hgrow.size,hgrow.block⟩
      obtain⟨q1,q2,hfr⟩:=HG.out.grown (o:=6) (by omega) (by omega) hg HX6.out
      have hI7:=HG.out.pushC cl _ HS.out hown hg (fun k e=>by
       have:gb=k:=by simpa [Value.ownBlock] using e
       subst this
       exact hat.imp id fun e=>by omega) HX6.out
      have hfr:=hfr (.slice (some ⟨gb,0,none⟩) (sv.C.length+1) cap)
      clear hgrow hat hown hg how6
      go_wp2_with fail
      go_ret
      exact⟨by simp,hI7,HF6.out.trans hfr⟩
    ·rw [hc,if_pos rfl] at hm'
     have hc:(pk s sv.at_ sv.bad==59)=true:=hc
     obtain⟨⟨r2,k2,st2⟩,h2,h3⟩:=Option.bind_eq_some_iff.1 hm'
     have HH:=hide (And.intro h2 h3)
     clear hm' h2 h3
     go_wp2_with (first|(go_at_call 78;refine(peek_any _ _ _ _ _ hrd).mono ?_;rintro e w5 ⟨rfl,n2,rfl⟩)|(go_at_call 114;refine(sign_any b _ s _ _ _ (by exact hrd.drewN _) (by decide)).mono ?_;rintro e w6 ⟨rfl,hr6,hs6⟩))
     have hZ6:=(hZ.drewN n2).sc hr6 hs6
     have hb6:w6.heap[g4]?=some (.cells #[a0,a1,a2,a3] 156):=(hs6.block g4 (fun e=>hZ.inv.nob (e▸hZ4))).trans hb4
     refine(IH.out k (by omega) Z b _ _ r2 k2 st2 HH.out.1 hZ6.inv hZ6.lt).mono ?_
     rintro e w7 ⟨rfl,hI7,hF7⟩
     have hZ7:=hZ6.call hI7 hF7
     have hb7:=(hF7.block g4 hZ4).trans hb6
     clear hZ hr6 hs6 hrd hc hZ6 hI7 hF7 hb6 hb4
     have hw4:w.heap.size≤g4:=hw1.out
     have hZ8:=(((hZ7.setCell (a:=⟨g4,0,none⟩) hZ4 hne4 hw4 HX.out (.int .i64 k2.test)).setCell (a:=⟨g4,1,none⟩) hZ4 hne4 hw4 HX.out (.int .i64 k2.form)).setCell (a:=⟨g4,2,none⟩) hZ4 hne4 hw4 HX.out (.string k2.result)).setCell (a:=⟨g4,3,none⟩) hZ4 hne4 hw4 HX.out (.int .i64 k2.inner)
     have hb8:=sets4 hb7 (.int .i64 k2.test) (.int .i64 k2.form) (.string k2.result) (.int .i64 k2.inner)
     obtain⟨d0,d1,d2,d3,df⟩:=box4 hb7
     have how7:=hZ8.own
     have hbl7:=hZ7.inv.lt
     have HZ8:=hide hZ8
     have HB8:=hide hb8
     have hg4:=hide (Array.getElem?_eq_some_iff.1 hb7).1
     clear hZ7 hb7 hZ8 hb8
     go_wp2_with (at_builtin;go_must (refine wpList_append_lies _ rfl (.tmp 19) (.tmp 21) 131 rfl (b+1) 156 i0 _ 4 40 Tryz.underlying131 hi hz0 hz1 hz2 rfl (by omega) _ cl.length _ rfl (how7.alloc _) ⟨w7.heap.size,0,none⟩ 1 1 (Cl.cells k2) rfl rfl ?news3 ?one3 (by omega) ?mm3 ?bys3 ?base3 (w7.heap.size+1) (by simp) ?rest3))
     case news3=>exact news_at _ _ (by simp [World.setCell]) #[.int .i64 k2.test,.int .i64 k2.form,.string k2.result,.int .i64 k2.inner] 156
     case one3=>intro u hu;simp [Cl.cells] at hu;rcases hu with rfl|rfl|rfl|rfl<;>rfl
     case mm3=>unfold maxLen;omega
     case bys3=>omega
     case base3=>simp;omega
     case rest3=>
      intro gb cap w8 hown hgrow hat hlt2
      have hH:=HZ8.out.grown hown (grownBy_trans (World.grownBy_alloc _ _ _) hgrow) (fun k e=>by
       have:gb=k:=by simpa [Value.ownBlock] using e
       subst this
       exact hat.imp id fun e=>by simp [World.setCell];omega) HX.out
      have hne8:gb≠g4:=by
       intro q
       rcases hat with q1|q1
       ·exact hne4 (by rw [q1,q])
       ·have:=hg4.out;omega
      have hbx:w8.heap[g4]?=some (.cells #[.int .i64 k2.test,.int .i64 k2.form,.string k2.result,.int .i64 k2.inner] 156):=by
       have:=hg4.out
       rw [hgrow.block g4 (by simp [World.setCell];omega) (Ne.symm hne4),Below.heap_alloc _ _ _ (by simp [World.setCell];omega)]
       exact HB8.out
      clear hgrow hat hown how7 hlt2 hbl7 d0 d1 d2 d3 df
      go_wp2_with fail
      go_roundg k
      case measure=>omega
      case rel=>exact⟨by omega,cl++[k2],st2,_,_,_,_,_,by simp,HH.out.2,by simpa using hH,Or.inl hZ4,by simpa [Value.ownBlock] using hne8,hbx⟩
theorem all_E (s:ByteArray): ∀n,OKE s 73 0 n∧OKE s 113 1 n∧OKE s 147 2 n∧OKE s 168 3 n∧OKE s 180 4 n∧OKE s 187 5 n∧OKE s 191 6 n∧OKE s 193 7 n:=by
 have hz: ∀f tag,OKE s f tag 0:=fun f tag X b st w r st' h=>by simp [M] at h
 intro n
 induction n using Nat.strongRecOn with
 |_ n ih=>
  cases n with
  |zero=>exact⟨hz _ _,hz _ _,hz _ _,hz _ _,hz _ _,hz _ _,hz _ _,hz _ _⟩
  |succ n=>
   have hn:=ih n (Nat.lt_succ_self n)
   exact⟨expr_step s n fun m h=>(ih m (by omega)).2.1,exprAnd_step s n fun m h=>(ih m (by omega)).2.2.1,exprNot_step s n hn.2.2.1 hn.2.2.2.1,comparison_step s n hn.2.2.2.2.1,
    sum_step s n fun m h=>(ih m (by omega)).2.2.2.2.2.1,product_step s n fun m h=>(ih m (by omega)).2.2.2.2.2.2.1,unary_step s n hn.2.2.2.2.2.2.1 hn.2.2.2.2.2.2.2,exprOne_step s n hn.1⟩
theorem all_L (s:ByteArray): ∀n,OKL s 161 0 n∧OKL s 176 1 n∧OKL s 184 2 n∧OKLof s n:=by
 have hz: ∀f tag,OKL s f tag 0:=fun f tag X b st w r st' h=>by simp [ML] at h
 intro n
 induction n using Nat.strongRecOn with
 |_ n ih=>
  cases n with
  |zero=>exact⟨hz _ _,hz _ _,hz _ _,fun X b st w r st' h=>by simp [ML] at h⟩
  |succ n=>
   have hn:=ih n (Nat.lt_succ_self n)
   exact⟨lic_step s n fun m h=>(ih m (by omega)).2.1,licAnd_step s n fun m h=>(ih m (by omega)).2.2.1,licOne_step s n hn.1 hn.2.2.2,licOf_step s n fun m h=>(ih m (by omega)).1⟩
theorem all_C (s:ByteArray): ∀n,OKCo s n∧OKCl s n:=by
 intro n
 induction n using Nat.strongRecOn with
 |_ n ih=>
  cases n with
  |zero=>exact⟨fun X b st w r c st' h=>by simp [MC] at h,fun X b st w r c st' h=>by simp [MC] at h⟩
  |succ n=>exact⟨conds_step s n fun m h=>(ih m (by omega)).2,clause_step s n (all_E s n).1 (ih n (by omega)).1⟩
theorem assertion_any (s:ByteArray)(n:Nat)(X:Nat→Prop)(b:Nat)(st:St)(w:World)(st':St)(hM:MA s n st=some st')(hI:Inv X w b s st)(hX: ∀k,X k→k<w.heap.size):
  Calls Tryz.prog 127 #[.pointer (some ⟨b,0,none⟩)] w fun e w'=>e= .returned (.tuple #[])∧Inv X w' b s st'∧Fr X w w':=by
 unfold MA at hM
 simp only at hM
 obtain⟨⟨r1,st1⟩,h1,h2⟩:=Option.bind_eq_some_iff.1 hM
 obtain⟨⟨r2,k2,st2⟩,h3,h4⟩:=Option.bind_eq_some_iff.1 h2
 obtain⟨hl,h6⟩:=addA_some h4
 have H1:=hide h1
 have H3:=hide h3
 have H6:=hide h6
 have HX:=hide hX
 clear hM h1 h2 h3 h4 h6 hX
 have hrd:=hI.rd
 go_enter Tryz.func127,Tryz.ntmps127
 go_wp2_with fail
 refine(lineStart_any b _ s _ _ _ hrd (by decide)).mono ?_
 rintro e w1 ⟨rfl,hr1,hs1⟩
 have hI1:Inv X w1 b s (lstart s [98,121] st):=hI.sc hr1 hs1
 have hF1:Fr X w w1:=hs1.fr hI.nob
 have hrd1:=hI1.rd
 go_wp2_with fail
 refine(name_any b _ s _ _ hrd1).mono ?_
 rintro e w2 ⟨rfl,hr2,hs2⟩
 have hI2:Inv X w2 b s ((lstart s [98,121] st).put3 (nameM s (lstart s [98,121] st).at_ (lstart s [98,121] st).bad)):=hI1.sc hr2 hs2
 have hF2:=hF1.trans (hs2.fr hI1.nob)
 have hrd2:=hI2.rd
 clear hr1 hs1 hr2 hs2 hrd hrd1 hI hI1 hF1
 go_wp2_with fail
 refine(word_any b _ s _ _ _ hrd2 (by decide)).mono ?_
 rintro e w3 ⟨rfl,hr3,hs3⟩
 have hI3:=hI2.sc hr3 hs3
 have hF3:=hF2.trans (hs3.fr hI2.nob)
 have hrd3:=hI3.rd
 go_wp2_with fail
 refine(lineStart_any b _ s _ _ _ hrd3 (by decide)).mono ?_
 rintro e w4 ⟨rfl,hr4,hs4⟩
 have hI4:=hI3.sc hr4 hs4
 have hF4:=hF3.trans (hs4.fr hI3.nob)
 clear hr3 hs3 hr4 hs4 hrd2 hrd3 hI2 hI3 hF2 hF3
 go_wp2_with fail
 refine((all_L s n).1 X b _ _ r1 st1 H1.out hI4 (hF4.lt HX.out)).mono ?_
 rintro e w5 ⟨rfl,hI5,hF5⟩
 have hF5:=hF4.trans hF5
 have hrd5:=hI5.rd
 clear hI4 hF4
 go_wp2_with fail
 refine(word_any b _ s _ _ _ hrd5 (by decide)).mono ?_
 rintro e w6 ⟨rfl,hr6,hs6⟩
 have hI6:=hI5.sc hr6 hs6
 have hF6:=hF5.trans (hs6.fr hI5.nob)
 have hrd6:=hI6.rd
 go_wp2_with fail
 refine(lineStart_any b _ s _ _ _ hrd6 (by decide)).mono ?_
 rintro e w7 ⟨rfl,hr7,hs7⟩
 have hI7:=hI6.sc hr7 hs7
 have hF7:=hF6.trans (hs7.fr hI6.nob)
 clear hr6 hs6 hr7 hs7 hrd5 hrd6 hI5 hI6 hF5 hF6
 go_wp2_with fail
 refine((all_C s n).1 X b _ _ r2 k2 st2 H3.out hI7 (hF7.lt HX.out)).mono ?_
 rintro e w8 ⟨rfl,hI8,hF8⟩
 have hF8:=hF7.trans hF8
 have hrd8:=hI8.rd
 clear hI7 hF7
 go_wp2_with fail
 refine(word_any b _ s _ _ _ hrd8 (by decide)).mono ?_
 rintro e w9 ⟨rfl,hr9,hs9⟩
 have hI9:Inv X w9 b s (wrd s [10] st2):=hI8.sc hr9 hs9
 have HF9:=hide (hF8.trans (hs9.fr hI8.nob))
 have HX9:=hide (HF9.out.lt HX.out)
 clear hr9 hs9 hrd8 hI8 hF8
 obtain⟨V,iv,cv,g⟩:=hI9
 obtain⟨i0,hi,hz0,hz1,hz2⟩:=info_parts info84
 have hlt:=g.rows.lt
 have hc:=g.rows.cell 3 (by omega) (by omega)
 have hf:=g.rows.froz 3 (by omega) (by omega)
 have how:=g.rows.own 3 (by omega) (by omega)
 have HG:=hide g
 have hl:st2.A.length<100000:=hl
 clear g
 generalize hnm:(nameM s (lstart s [98,121] st).at_ (lstart s [98,121] st).bad).2.2=nm at*
 clear hnm
 go_wp2_with (at_builtin;go_must (refine wpList_append_lies _ rfl (.tmp 28) (.tmp 33) 49 rfl (b+1) 84 i0 _ 3 32 Tryz.underlying49 hi hz0 hz1 hz2 rfl (by omega) (V 3) st2.A.length _ rfl (how.alloc _) ⟨w9.heap.size,0,none⟩ 1 1 (As.cells ⟨nm,r1,r2⟩) rfl rfl ?news ?one (by omega) ?mm ?bys ?base (w9.heap.size+1) (by simp) ?rest))
 case news=>exact World.news_of_block (heap_alloc_new w9 _)
 case one=>intro u hu;simp [As.cells] at hu;rcases hu with rfl|rfl|rfl<;>rfl
 case mm=>unfold maxLen;omega
 case bys=>omega
 case base=>simp;omega
 case rest=>
  intro gb cap wa hown hgrow hat hlt2
  have hg:=grownBy_trans (World.grownBy_alloc w9 _ _) hgrow
  obtain⟨k1,k2,hfr⟩:=HG.out.grown (o:=3) (by omega) (by omega) hg HX9.out
  have hIa:=HG.out.pushA ⟨nm,r1,r2⟩ hown hg (fun k e=>by
   have:gb=k:=by simpa [Value.ownBlock] using e
   subst this
   exact hat.imp id fun e=>by omega) HX9.out
  have hfr:=hfr (.slice (some ⟨gb,0,none⟩) (st2.A.length+1) cap)
  clear hgrow hat hown hg how
  go_wp2_with fail
  go_end0
  exact⟨rfl,by rw [H6.out];exact hIa,HF9.out.trans hfr⟩
def st0:St:=⟨0,false,[],[],[],[]⟩
structure TreeV (w:World)(base:Nat)(st:St)(V:Nat→Value)(iv cv:List Value):Prop where
 own: ∀o,3≤o→o≤6→w.ownsRow base (elT o) (szT o) (V o) (nOf st o) (xsOf st iv cv o)
 il:iv.length=st.L.length
 cl:cv.length=st.C.length
 items: ∀(i:Nat) (l:Lc) (v:Value),st.L[i]?=some l→iv[i]?=some v→w.ownsRow base 3 1 v l.items.length (l.items.map (Value.int .i64))
 clauses: ∀(i:Nat) (l:List Cl) (v:Value),st.C[i]?=some l→cv[i]?=some v→w.ownsRow base 156 4 v l.length ((l.map Cl.cells).flatten)
theorem ownsRow_base {w:World}{base base' e size n:Nat}{v:Value}{xs:List Value}(h:w.ownsRow base e size v n xs)(hb:base'≤base):w.ownsRow base' e size v n xs:=by
 refine⟨h.1,?_⟩
 rcases h.2 with hn|⟨g,cap,cur,hv,hg,r⟩
 ·exact .inl hn
 ·exact .inr ⟨g,cap,cur,hv,Nat.le_trans hb hg,r⟩
theorem InvV.tree {X:Nat→Prop}{w w':World}{b:Nat}{s:ByteArray}{st:St}{V:Nat→Value}{iv cv:List Value}(g:InvV X w b s st V iv cv){base:Nat}(hb:base≤b+1)(hk: ∀k,b+1≤k→w'.heap[k]?=w.heap[k]?):TreeV w' base st V iv cv:=
 ⟨fun o h3 h6=>ownsRow_base (ownsRow_same (g.rows.own o h3 h6) fun k e=>hk k ((g.rows.own o h3 h6).lt k e).1) hb,g.il,g.cl,
  fun i l v h1 h2=>ownsRow_base (ownsRow_same (g.items i l v h1 h2).own fun k e=>hk k ((g.items i l v h1 h2).own.lt k e).1) hb,
  fun i l v h1 h2=>ownsRow_base (ownsRow_same (g.clauses i l v h1 h2).own fun k e=>hk k ((g.clauses i l v h1 h2).own.lt k e).1) hb⟩
theorem TreeV.same {w w':World}{base:Nat}{st:St}{V:Nat→Value}{iv cv:List Value}(g:TreeV w base st V iv cv)(hk: ∀k,base≤k→k<w.heap.size→w'.heap[k]?=w.heap[k]?):TreeV w' base st V iv cv:=
 ⟨fun o h3 h6=>ownsRow_same (g.own o h3 h6) fun k e=>hk k ((g.own o h3 h6).lt k e).1 ((g.own o h3 h6).lt k e).2,g.il,g.cl,
  fun i l v h1 h2=>ownsRow_same (g.items i l v h1 h2) fun k e=>hk k ((g.items i l v h1 h2).lt k e).1 ((g.items i l v h1 h2).lt k e).2,
  fun i l v h1 h2=>ownsRow_same (g.clauses i l v h1 h2) fun k e=>hk k ((g.clauses i l v h1 h2).lt k e).1 ((g.clauses i l v h1 h2).lt k e).2⟩
theorem inv_start {X:Nat→Prop}{w:World}{b:Nat}{s:ByteArray}(hs:s.size≤600)(hX: ¬X b)
  (h:w.heap[b]?=some (.cells #[.string s,.int .i64 0,.bool false,.slice none 0 0,.slice none 0 0,.slice none 0 0,.slice none 0 0] 66)):Inv X w b s st0:=by
 have hc: ∀o,3≤o→o≤6→w.cell? ⟨b,o,none⟩=some (.slice none 0 0):=fun o h3 h6=>by
  match o,h3,h6 with
  |3,_,_=>simp [World.cell?,h]
  |4,_,_=>simp [World.cell?,h]
  |5,_,_=>simp [World.cell?,h]
  |6,_,_=>simp [World.cell?,h]
 refine⟨fun _=> .slice none 0 0,[],[],⟨by simp [World.cell?,h],by simp [World.cell?,h,st0],by simp [World.cell?,h,st0],by simp [World.frozen?,h],by simp [World.frozen?,h],Nat.zero_le _,hs⟩,
  ⟨hc,fun o _ _=>by simp [World.frozen?,h],fun o h3 h6=> ?_,fun o p k _ _ _ _ _ e=>by simp [Value.ownBlock] at e,hX,fun o k _ _ e=>by simp [Value.ownBlock] at e⟩,
  rfl,rfl,fun i l v h1=>by simp [st0] at h1,fun i l v h1=>by simp [st0] at h1⟩
 match o,h3,h6 with
 |3,_,_=>exact World.ownsRow_nil _ _ _ _
 |4,_,_=>exact World.ownsRow_nil _ _ _ _
 |5,_,_=>exact World.ownsRow_nil _ _ _ _
 |6,_,_=>exact World.ownsRow_nil _ _ _ _
theorem box7 {w:World}{g:Nat}{a b c d e f h:Value}{t:TypeId}(hh:w.heap[g]?=some (.cells #[a,b,c,d,e,f,h] t)):
  w.cell? ⟨g,0,none⟩=some a∧w.cell? ⟨g,1,none⟩=some b∧w.cell? ⟨g,2,none⟩=some c∧w.cell? ⟨g,3,none⟩=some d∧w.cell? ⟨g,4,none⟩=some e∧w.cell? ⟨g,5,none⟩=some f∧w.cell? ⟨g,6,none⟩=some h∧(∀o,w.frozen? ⟨g,o,none⟩=false):=by
 simp [World.cell?,World.frozen?,hh]
theorem ownsRow_slice {w:World}{base e size n:Nat}{v:Value}{xs:List Value}(h:w.ownsRow base e size v n xs): ∃a c,v= .slice a n c:=by
 rcases h.2 with⟨h1,h2⟩|⟨g,cap,cur,hv,_⟩
 ·exact⟨none,0,by rw [h1,h2]⟩
 ·exact⟨_,_,hv⟩
def ReadPost (s:ByteArray)(w:World)(st':St)(e:Ending)(w':World):Prop:= ∃V iv cv,e= .returned (.agg #[.string s,.int .i64 st'.at_,.bool st'.bad,V 3,V 4,V 5,V 6])∧TreeV w' w.heap.size st' V iv cv∧Below w.heap.size w w'
def zero7:Array Value:= #[.string ⟨#[]⟩,.int .i64 0,.bool false,.slice none 0 0,.slice none 0 0,.slice none 0 0,.slice none 0 0]
theorem readSet_any (s:ByteArray)(n:Nat)(st':St)(w:World)(hM:MR s n st0=some st')(hs:s.size≤600):
  Calls Tryz.prog 84 #[.string s] w fun e w'=>ReadPost s w st' e w':=by
 have HM:=hide hM
 clear hM
 have hI0:Inv (fun k=>k≤w.heap.size) ((w.alloc (.cells zero7 66)).alloc (.cells #[.string s,.int .i64 0,.bool false,.slice none 0 0,.slice none 0 0,.slice none 0 0,.slice none 0 0] 66)) (w.heap.size+1) s st0:=
  inv_start hs (by omega) (by
   have h:=heap_alloc_new (w.alloc (.cells zero7 66)) (.cells #[.string s,.int .i64 0,.bool false,.slice none 0 0,.slice none 0 0,.slice none 0 0,.slice none 0 0] 66)
   simp only [World.alloc,Array.size_push] at h
   exact h)
 have hb0:((w.alloc (.cells zero7 66)).alloc (.cells #[.string s,.int .i64 0,.bool false,.slice none 0 0,.slice none 0 0,.slice none 0 0,.slice none 0 0] 66)).heap[w.heap.size]?=some (.cells zero7 66):=by
  rw [Below.heap_alloc _ _ _ (by simp)]
  exact heap_alloc_new w _
 have hF0:Fr (fun k=>k<w.heap.size) w ((w.alloc (.cells zero7 66)).alloc (.cells #[.string s,.int .i64 0,.bool false,.slice none 0 0,.slice none 0 0,.slice none 0 0,.slice none 0 0] 66)):=
  ((Fr.refl _ w).alloc (fun k h=>h) _).alloc (fun k h=>by have h:k<w.heap.size:=h;simp;omega) _
 unfold zero7 at hI0 hb0 hF0
 have HI:=hide hI0
 have HB:=hide hb0
 have HF:=hide hF0
 clear hI0 hb0 hF0
 go_enter Tryz.func84,Tryz.ntmps84
 go_wp2_with fail
 go_loopg [] n (fun k wr=> ∃sv,Hid (MR s k sv=some st')∧Inv (fun k=>k≤w.heap.size) wr (w.heap.size+1) s sv∧Fr (fun k=>k≤w.heap.size) ((w.alloc (.cells zero7 66)).alloc (.cells #[.string s,.int .i64 0,.bool false,.slice none 0 0,.slice none 0 0,.slice none 0 0,.slice none 0 0] 66)) wr)
 case atStart=>exact⟨st0,HM,HI.out,Fr.refl _ _⟩
 case round=>
  obtain⟨sv,hm,hi,hf⟩:=hrel
  cases gk with
  |zero=>exact absurd hm.out (by simp [MR])
  |succ k=>
   have hm':=hm.out
   unfold MR at hm'
   clear hm
   have hrd:=hi.rd
   obtain⟨c0,c1,c2,f1,f2,hle,hsz⟩:=id hrd
   by_cases hgo:sv.bad=false∧sv.at_<s.size
   ·obtain⟨hbad,hlt⟩:=hgo
    rw [hbad,if_pos (by simp [hlt])] at hm'
    obtain⟨st1,h1,h2⟩:=Option.bind_eq_some_iff.1 hm'
    have HH:=hide (And.intro h1 h2)
    clear hm' h1 h2
    rw [hbad] at c2
    have HBD:=hide hbad
    clear hbad
    go_wp2_with fail
    refine(assertion_any s k _ _ sv _ st1 HH.out.1 hi (fun j h=>by have:=hi.lt;have h:j≤w.heap.size:=h;omega)).mono ?_
    rintro e w1 ⟨rfl,hI1,hF1⟩
    go_wp2_with fail
    go_roundg k
    case measure=>omega
    case rel=>exact⟨st1,HH.out.2,hI1,hf.trans hF1⟩
   ·rw [if_neg (by simpa using hgo)] at hm'
    have e1:=Option.some.inj hm'
    subst e1
    clear hm'
    obtain⟨V,iv,cv,g⟩:=hi
    have q3:=g.rows.cell 3 (by omega) (by omega)
    have q4:=g.rows.cell 4 (by omega) (by omega)
    have q5:=g.rows.cell 5 (by omega) (by omega)
    have q6:=g.rows.cell 6 (by omega) (by omega)
    obtain⟨a3,k3,e3⟩:=ownsRow_slice (g.rows.own 3 (by omega) (by omega))
    obtain⟨a4,k4,e4⟩:=ownsRow_slice (g.rows.own 4 (by omega) (by omega))
    obtain⟨a5,k5,e5⟩:=ownsRow_slice (g.rows.own 5 (by omega) (by omega))
    obtain⟨a6,k6,e6⟩:=ownsRow_slice (g.rows.own 6 (by omega) (by omega))
    rw [e3] at q3
    rw [e4] at q4
    rw [e5] at q5
    rw [e6] at q6
    obtain⟨b0,b1,b2,b3,b4,b5,b6,bf⟩:=box7 ((hf.block w.heap.size (Nat.le_refl _)).trans HB.out)
    have hFw:=HF.out.trans (hf.mono fun k (h:k<w.heap.size)=>Nat.le_of_lt h)
    have HBel:Hid (Below w.heap.size w (((((((wr.setCell ⟨w.heap.size,0,none⟩ (.string s)).setCell ⟨w.heap.size,1,none⟩ (.int .i64 sv.at_)).setCell ⟨w.heap.size,2,none⟩ (.bool sv.bad)).setCell ⟨w.heap.size,3,none⟩ (V 3)).setCell ⟨w.heap.size,4,none⟩ (V 4)).setCell ⟨w.heap.size,5,none⟩ (V 5)).setCell ⟨w.heap.size,6,none⟩ (V 6))):=
     hide (((((((Below.setCell ⟨hFw.os,hFw.tape,hFw.output,hFw.size,hFw.block⟩ (Nat.le_refl _) _).setCell (Nat.le_refl _) _).setCell (Nat.le_refl _) _).setCell (Nat.le_refl _) _).setCell (Nat.le_refl _) _).setCell (Nat.le_refl _) _).setCell (Nat.le_refl _) _)
    rw [e3,e4,e5,e6] at HBel
    have HE:=hide (And.intro e3 (And.intro e4 (And.intro e5 e6)))
    have HG:=hide g
    clear e3 e4 e5 e6 g hf hFw HF HB HI HM hrd
    obtain⟨bd,HBD⟩: ∃bd,Hid (sv.bad=bd):=⟨_,rfl⟩
    rw [HBD.out] at c2 hgo
    cases bd with
    |true=>
     go_wp2_with fail
     refine bodyPost_ret (v:= .agg #[.string s,.int .i64 sv.at_,.bool true,.slice a3 (nOf sv 3) k3,.slice a4 (nOf sv 4) k4,.slice a5 (nOf sv 5) k5,.slice a6 (nOf sv 6) k6]) ?_ rfl ⟨V,iv,cv,?_,?_,?_⟩
     ·simp [results,Tryz.results84,go_sem,b0,b1,b2,b3,b4,b5,b6]
     ·rw [HE.out.1,HE.out.2.1,HE.out.2.2.1,HE.out.2.2.2,HBD.out]
     ·exact HG.out.tree (by omega) fun k hk=>by
       simp only [World.setCell,Array.getElem?_modify]
       repeat rw [if_neg (by omega)]
     ·have h:=HBel.out
      rw [HBD.out] at h
      exact h
    |false=>
     have hge:s.size≤sv.at_:=Nat.le_of_not_lt fun h=>hgo ⟨rfl,h⟩
     go_wp2_with fail
     refine bodyPost_ret (v:= .agg #[.string s,.int .i64 sv.at_,.bool false,.slice a3 (nOf sv 3) k3,.slice a4 (nOf sv 4) k4,.slice a5 (nOf sv 5) k5,.slice a6 (nOf sv 6) k6]) ?_ rfl ⟨V,iv,cv,?_,?_,?_⟩
     ·simp [results,Tryz.results84,go_sem,b0,b1,b2,b3,b4,b5,b6]
     ·rw [HE.out.1,HE.out.2.1,HE.out.2.2.1,HE.out.2.2.2,HBD.out]
     ·exact HG.out.tree (by omega) fun k hk=>by
       simp only [World.setCell,Array.getElem?_modify]
       repeat rw [if_neg (by omega)]
     ·have h:=HBel.out
      rw [HBD.out] at h
      exact h
end Go.Proofs.YtkoohcilbpdgeaaGreatDoor
