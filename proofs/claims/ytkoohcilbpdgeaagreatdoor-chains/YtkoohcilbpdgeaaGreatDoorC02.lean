import Derived.Deep.LoopGhost
import Derived.Test.YtkoohcilbpdgeaaGreatDoorC01
set_option linter.all false
set_option linter.unusedVariables false
set_option linter.unusedSimpArgs false
set_option linter.unnecessarySimpa false
set_option linter.constructorNameAsVariable false
set_option linter.deprecated false
set_option maxRecDepth 100000
set_option maxHeartbeats 6400000
namespace Go.Proofs.YtkoohcilbpdgeaaGreatDoor
open Go Go.RowKit
attribute [local go_sem] wrap64_byte
theorem expr_step (s:ByteArray)(n:Nat)(ih: ∀m,m≤n→OKE s 113 1 m):OKE s 73 0 (n+1):=by
 intro X b st w r st' hM hI hX
 have hM':(M s n 1 0 st).bind (fun r=>M s n 10 r.1 r.2)=some (r,st'):=hM
 obtain⟨⟨l1,st1⟩,h1,h2⟩:=Option.bind_eq_some_iff.1 hM'
 have IH:=hide ih
 have H1:=hide h1
 have H2:=hide h2
 clear hM hM' h1 h2 ih
 go_enter Tryz.func73,Tryz.ntmps73
 go_wp2_with fail
 refine(IH.out n (Nat.le_refl _) X b st w l1 st1 H1.out hI hX).mono ?_
 rintro e w1 ⟨rfl,hI1,hF1⟩
 go_wp2_with fail
 go_loopg [3] n (fun k l wr=>k≤n∧ ∃(lv:Int) (sv:St),l= .int .i64 lv∧Hid (M s k 10 lv sv=some (r,st'))∧Inv X wr b s sv∧Fr X w wr)
 case atStart=>exact⟨Nat.le_refl _,l1,st1,rfl,H2,hI1,hF1⟩
 case round=>
  obtain⟨hkn,lv,sv,rfl,hm,hi,hf⟩:=hrel
  cases gk with
  |zero=>exact absurd hm.out (by simp [M])
  |succ k=>
   have hm':(if pkS s sv==124 then(M s k 1 0 (sgn s [124,124] sv)).bind fun r=>(addE r.2 ⟨6,sv.at_,⟨#[124,124]⟩,lv,r.1⟩).bind fun q=>M s k 10 q.1 q.2 else some (lv,sv))=some (r,st'):=hm.out
   clear hm
   have hrd:=hi.rd
   obtain⟨c0,c1,c2,f1,f2,_,_⟩:=id hrd
   cases hc:(pkS s sv==124)
   ·rw [hc] at hm'
    simp at hm'
    obtain⟨rfl,rfl⟩:=hm'
    have hc:(pk s sv.at_ sv.bad==124)=false:=hc
    go_wp2_with (go_at_call 78;refine(peek_any _ _ _ _ _ hrd).mono ?_;rintro e w2 ⟨rfl,n2,rfl⟩)
    go_ret
    exact⟨rfl,hi.drewN _,hf.drewN _⟩
   ·rw [hc] at hm'
    have hc:(pk s sv.at_ sv.bad==124)=true:=hc
    obtain⟨⟨r2,st2⟩,h2,h3⟩:=Option.bind_eq_some_iff.1 hm'
    obtain⟨⟨r3,st3⟩,h4,h5⟩:=Option.bind_eq_some_iff.1 h3
    obtain⟨hl,h6⟩:=addE_some h4
    cases h6
    have HH:=hide (And.intro h2 h5)
    clear hm' h2 h3 h4 h5
    go_wp2_with (first|(go_at_call 78;refine(peek_any _ _ _ _ _ hrd).mono ?_;rintro e w2 ⟨rfl,n2,rfl⟩)|(go_at_call 114;refine(sign_any b _ s _ _ _ (by exact hrd.drewN _) (by decide)).mono ?_;rintro e w3 ⟨rfl,hr3,hs3⟩))
    have hI3:=(hi.drewN n2).sc hr3 hs3
    have hF3:=(hf.drewN n2).trans (hs3.fr hI3.nob)
    refine(IH.out k (by omega) X b _ _ r2 st2 HH.out.1 hI3 (hF3.lt hX)).mono ?_
    rintro e w4 ⟨rfl,hI4,hF4⟩
    go_wp2_with fail
    refine(addPair_any X b s st2 _ _ _ _ _ hI4 (hF4.lt (hF3.lt hX)) hl).mono ?_
    rintro e w5 ⟨rfl,hI5,hF5⟩
    go_wp2_with fail
    go_roundg k
    case measure=>omega
    case rel=>exact⟨by omega,_,_,rfl,HH.out.2,hI5,(hF3.trans hF4).trans hF5⟩
theorem exprAnd_step (s:ByteArray)(n:Nat)(ih: ∀m,m≤n→OKE s 147 2 m):OKE s 113 1 (n+1):=by
 intro X b st w r st' hM hI hX
 have hM':(M s n 2 0 st).bind (fun r=>M s n 11 r.1 r.2)=some (r,st'):=hM
 obtain⟨⟨l1,st1⟩,h1,h2⟩:=Option.bind_eq_some_iff.1 hM'
 have IH:=hide ih
 have H1:=hide h1
 have H2:=hide h2
 clear hM hM' h1 h2 ih
 go_enter Tryz.func113,Tryz.ntmps113
 go_wp2_with fail
 refine(IH.out n (Nat.le_refl _) X b st w l1 st1 H1.out hI hX).mono ?_
 rintro e w1 ⟨rfl,hI1,hF1⟩
 go_wp2_with fail
 go_loopg [3] n (fun k l wr=>k≤n∧ ∃(lv:Int) (sv:St),l= .int .i64 lv∧Hid (M s k 11 lv sv=some (r,st'))∧Inv X wr b s sv∧Fr X w wr)
 case atStart=>exact⟨Nat.le_refl _,l1,st1,rfl,H2,hI1,hF1⟩
 case round=>
  obtain⟨hkn,lv,sv,rfl,hm,hi,hf⟩:=hrel
  cases gk with
  |zero=>exact absurd hm.out (by simp [M])
  |succ k=>
   have hm':(if pkS s sv==38 then(M s k 2 0 (sgn s [38,38] sv)).bind fun r=>(addE r.2 ⟨6,sv.at_,⟨#[38,38]⟩,lv,r.1⟩).bind fun q=>M s k 11 q.1 q.2 else some (lv,sv))=some (r,st'):=hm.out
   clear hm
   have hrd:=hi.rd
   obtain⟨c0,c1,c2,f1,f2,_,_⟩:=id hrd
   cases hc:(pkS s sv==38)
   ·rw [hc] at hm'
    simp at hm'
    obtain⟨rfl,rfl⟩:=hm'
    have hc:(pk s sv.at_ sv.bad==38)=false:=hc
    go_wp2_with (go_at_call 78;refine(peek_any _ _ _ _ _ hrd).mono ?_;rintro e w2 ⟨rfl,n2,rfl⟩)
    go_ret
    exact⟨rfl,hi.drewN _,hf.drewN _⟩
   ·rw [hc] at hm'
    have hc:(pk s sv.at_ sv.bad==38)=true:=hc
    obtain⟨⟨r2,st2⟩,h2,h3⟩:=Option.bind_eq_some_iff.1 hm'
    obtain⟨⟨r3,st3⟩,h4,h5⟩:=Option.bind_eq_some_iff.1 h3
    obtain⟨hl,h6⟩:=addE_some h4
    cases h6
    have HH:=hide (And.intro h2 h5)
    clear hm' h2 h3 h4 h5
    go_wp2_with (first|(go_at_call 78;refine(peek_any _ _ _ _ _ hrd).mono ?_;rintro e w2 ⟨rfl,n2,rfl⟩)|(go_at_call 114;refine(sign_any b _ s _ _ _ (by exact hrd.drewN _) (by decide)).mono ?_;rintro e w3 ⟨rfl,hr3,hs3⟩))
    have hI3:=(hi.drewN n2).sc hr3 hs3
    have hF3:=(hf.drewN n2).trans (hs3.fr hI3.nob)
    refine(IH.out k (by omega) X b _ _ r2 st2 HH.out.1 hI3 (hF3.lt hX)).mono ?_
    rintro e w4 ⟨rfl,hI4,hF4⟩
    go_wp2_with fail
    refine(addPair_any X b s st2 _ _ _ _ _ hI4 (hF4.lt (hF3.lt hX)) hl).mono ?_
    rintro e w5 ⟨rfl,hI5,hF5⟩
    go_wp2_with fail
    go_roundg k
    case measure=>omega
    case rel=>exact⟨by omega,_,_,rfl,HH.out.2,hI5,(hF3.trans hF4).trans hF5⟩
theorem sum_step (s:ByteArray)(n:Nat)(ih: ∀m,m≤n→OKE s 187 5 m):OKE s 180 4 (n+1):=by
 intro X b st w r st' hM hI hX
 have hM':(M s n 5 0 st).bind (fun r=>M s n 14 r.1 r.2)=some (r,st'):=hM
 obtain⟨⟨l1,st1⟩,h1,h2⟩:=Option.bind_eq_some_iff.1 hM'
 have IH:=hide ih
 have H1:=hide h1
 have H2:=hide h2
 clear hM hM' h1 h2 ih
 go_enter Tryz.func180,Tryz.ntmps180
 go_wp2_with fail
 refine(IH.out n (Nat.le_refl _) X b st w l1 st1 H1.out hI hX).mono ?_
 rintro e w1 ⟨rfl,hI1,hF1⟩
 go_wp2_with fail
 go_loopg [3] n (fun k l wr=>k≤n∧ ∃(lv:Int) (sv:St),l= .int .i64 lv∧Hid (M s k 14 lv sv=some (r,st'))∧Inv X wr b s sv∧Fr X w wr)
 case atStart=>exact⟨Nat.le_refl _,l1,st1,rfl,H2,hI1,hF1⟩
 case round=>
  obtain⟨hkn,lv,sv,rfl,hm,hi,hf⟩:=hrel
  cases gk with
  |zero=>exact absurd hm.out (by simp [M])
  |succ k=>
   have hm':(if(sumSignM s sv.at_ sv.bad).size==0 then some (lv,sv) else(M s k 5 0 (sgn s (sumSignM s sv.at_ sv.bad).data.toList sv)).bind fun r=>(addE r.2 ⟨6,sv.at_,sumSignM s sv.at_ sv.bad,lv,r.1⟩).bind fun q=>M s k 14 q.1 q.2)=some (r,st'):=hm.out
   clear hm
   have hrd:=hi.rd
   have hsz:(sumSignM s sv.at_ sv.bad).size≤600:=sumSignM_size s sv.at_ sv.bad
   have HS:=hide (sumSign_any b sv.at_ s sv.bad wr hrd)
   obtain⟨c0,c1,c2,f1,f2,_,_⟩:=id hrd
   generalize sumSignM s sv.at_ sv.bad=c at*
   cases hc:(c.size==0)
   ·rw [hc] at hm'
    have hc2:=isEmpty_no hc
    obtain⟨⟨r2,st2⟩,h2,h3⟩:=Option.bind_eq_some_iff.1 hm'
    obtain⟨⟨r3,st3⟩,h4,h5⟩:=Option.bind_eq_some_iff.1 h3
    obtain⟨hl,h6⟩:=addE_some h4
    cases h6
    have HH:=hide (And.intro h2 h5)
    clear hm' h2 h3 h4 h5
    go_wp2_with (first|(go_at_call 188;refine HS.out.mono ?_;rintro e w2 ⟨rfl,n2,rfl⟩)|(go_at_call 114;refine(sign_any b _ s _ _ _ (by exact hrd.drewN _) hsz).mono ?_;rintro e w3 ⟨rfl,hr3,hs3⟩))
    have hI3:=(hi.drewN n2).sc hr3 hs3
    have hF3:=(hf.drewN n2).trans (hs3.fr hI3.nob)
    refine(IH.out k (by omega) X b _ _ r2 st2 HH.out.1 hI3 (hF3.lt hX)).mono ?_
    rintro e w4 ⟨rfl,hI4,hF4⟩
    go_wp2_with fail
    refine(addPair_any X b s st2 _ _ _ _ _ hI4 (hF4.lt (hF3.lt hX)) hl).mono ?_
    rintro e w5 ⟨rfl,hI5,hF5⟩
    go_wp2_with fail
    go_roundg k
    case measure=>omega
    case rel=>exact⟨by omega,_,_,rfl,HH.out.2,hI5,(hF3.trans hF4).trans hF5⟩
   ·rw [hc] at hm'
    have hc2:=isEmpty_yes hc
    simp at hm'
    obtain⟨rfl,rfl⟩:=hm'
    go_wp2_with (go_at_call 188;refine HS.out.mono ?_;rintro e w2 ⟨rfl,n2,rfl⟩)
    go_ret
    exact⟨rfl,hi.drewN _,hf.drewN _⟩
theorem product_step (s:ByteArray)(n:Nat)(ih: ∀m,m≤n→OKE s 191 6 m):OKE s 187 5 (n+1):=by
 intro X b st w r st' hM hI hX
 have hM':(M s n 6 0 st).bind (fun r=>M s n 15 r.1 r.2)=some (r,st'):=hM
 obtain⟨⟨l1,st1⟩,h1,h2⟩:=Option.bind_eq_some_iff.1 hM'
 have IH:=hide ih
 have H1:=hide h1
 have H2:=hide h2
 clear hM hM' h1 h2 ih
 go_enter Tryz.func187,Tryz.ntmps187
 go_wp2_with fail
 refine(IH.out n (Nat.le_refl _) X b st w l1 st1 H1.out hI hX).mono ?_
 rintro e w1 ⟨rfl,hI1,hF1⟩
 go_wp2_with fail
 go_loopg [3] n (fun k l wr=>k≤n∧ ∃(lv:Int) (sv:St),l= .int .i64 lv∧Hid (M s k 15 lv sv=some (r,st'))∧Inv X wr b s sv∧Fr X w wr)
 case atStart=>exact⟨Nat.le_refl _,l1,st1,rfl,H2,hI1,hF1⟩
 case round=>
  obtain⟨hkn,lv,sv,rfl,hm,hi,hf⟩:=hrel
  cases gk with
  |zero=>exact absurd hm.out (by simp [M])
  |succ k=>
   have hm':(if(productSignM s sv.at_ sv.bad).size==0 then some (lv,sv) else(M s k 6 0 (sgn s (productSignM s sv.at_ sv.bad).data.toList sv)).bind fun r=>(addE r.2 ⟨6,sv.at_,productSignM s sv.at_ sv.bad,lv,r.1⟩).bind fun q=>M s k 15 q.1 q.2)=some (r,st'):=hm.out
   clear hm
   have hrd:=hi.rd
   have hsz:(productSignM s sv.at_ sv.bad).size≤600:=productSignM_size s sv.at_ sv.bad
   have HS:=hide (productSign_any b sv.at_ s sv.bad wr hrd)
   obtain⟨c0,c1,c2,f1,f2,_,_⟩:=id hrd
   generalize productSignM s sv.at_ sv.bad=c at*
   cases hc:(c.size==0)
   ·rw [hc] at hm'
    have hc2:=isEmpty_no hc
    obtain⟨⟨r2,st2⟩,h2,h3⟩:=Option.bind_eq_some_iff.1 hm'
    obtain⟨⟨r3,st3⟩,h4,h5⟩:=Option.bind_eq_some_iff.1 h3
    obtain⟨hl,h6⟩:=addE_some h4
    cases h6
    have HH:=hide (And.intro h2 h5)
    clear hm' h2 h3 h4 h5
    go_wp2_with (first|(go_at_call 192;refine HS.out.mono ?_;rintro e w2 ⟨rfl,n2,rfl⟩)|(go_at_call 114;refine(sign_any b _ s _ _ _ (by exact hrd.drewN _) hsz).mono ?_;rintro e w3 ⟨rfl,hr3,hs3⟩))
    have hI3:=(hi.drewN n2).sc hr3 hs3
    have hF3:=(hf.drewN n2).trans (hs3.fr hI3.nob)
    refine(IH.out k (by omega) X b _ _ r2 st2 HH.out.1 hI3 (hF3.lt hX)).mono ?_
    rintro e w4 ⟨rfl,hI4,hF4⟩
    go_wp2_with fail
    refine(addPair_any X b s st2 _ _ _ _ _ hI4 (hF4.lt (hF3.lt hX)) hl).mono ?_
    rintro e w5 ⟨rfl,hI5,hF5⟩
    go_wp2_with fail
    go_roundg k
    case measure=>omega
    case rel=>exact⟨by omega,_,_,rfl,HH.out.2,hI5,(hF3.trans hF4).trans hF5⟩
   ·rw [hc] at hm'
    have hc2:=isEmpty_yes hc
    simp at hm'
    obtain⟨rfl,rfl⟩:=hm'
    go_wp2_with (go_at_call 192;refine HS.out.mono ?_;rintro e w2 ⟨rfl,n2,rfl⟩)
    go_ret
    exact⟨rfl,hi.drewN _,hf.drewN _⟩
theorem exprNot_step (s:ByteArray)(n:Nat)(ihs:OKE s 147 2 n)(ihn:OKE s 168 3 n):OKE s 147 2 (n+1):=by
 intro X b st w r st' hM hI hX
 have hM':(if pkS s st !=33 then M s n 3 0 st else(M s n 2 0 (sgn s [33] st)).bind fun r=>addE r.2 ⟨5,st.at_,⟨#[33]⟩,r.1,-1⟩)=some (r,st'):=hM
 clear hM
 have hrd:=hI.rd
 obtain⟨c0,c1,c2,f1,f2,_,_⟩:=id hrd
 cases hc:(pkS s st !=33)
 ·rw [hc] at hM'
  have hc:(pk s st.at_ st.bad !=33)=false:=hc
  obtain⟨⟨r2,st2⟩,h2,h3⟩:=Option.bind_eq_some_iff.1 hM'
  obtain⟨hl,h6⟩:=addE_some h3
  cases h6
  have HH:=hide h2
  clear hM' h2 h3
  go_enter Tryz.func147,Tryz.ntmps147
  go_wp2_with (first|(go_at_call 78;refine(peek_any _ _ _ _ _ hrd).mono ?_;rintro e w2 ⟨rfl,n2,rfl⟩)|(go_at_call 114;refine(sign_any b _ s _ _ _ (by exact hrd.drewN _) (by decide)).mono ?_;rintro e w3 ⟨rfl,hr3,hs3⟩))
  have hI3:=(hI.drewN n2).sc hr3 hs3
  have hF3:=((Fr.refl X w).drewN n2).trans (hs3.fr hI3.nob)
  refine(ihs X b _ _ r2 st2 HH.out hI3 (hF3.lt hX)).mono ?_
  rintro e w4 ⟨rfl,hI4,hF4⟩
  go_wp2_with fail
  refine(addPrefix_any X b s st2 _ _ _ _ hI4 (hF4.lt (hF3.lt hX)) hl).mono ?_
  rintro e w5 ⟨rfl,hI5,hF5⟩
  go_wp2_with fail
  go_ret
  exact⟨rfl,hI5,(hF3.trans hF4).trans hF5⟩
 ·rw [hc] at hM'
  have hc:(pk s st.at_ st.bad !=33)=true:=hc
  have HH:Hid (M s n 3 0 st=some (r,st')):=hide hM'
  clear hM'
  go_enter Tryz.func147,Tryz.ntmps147
  go_wp2_with (go_at_call 78;refine(peek_any _ _ _ _ _ hrd).mono ?_;rintro e w2 ⟨rfl,n2,rfl⟩)
  refine(ihn X b st _ r st' HH.out (hI.drewN _) hX).mono ?_
  rintro e w4 ⟨rfl,hI4,hF4⟩
  go_wp2_with fail
  go_ret
  exact⟨rfl,hI4,((Fr.refl X w).drewN n2).trans hF4⟩
theorem unary_step (s:ByteArray)(n:Nat)(ihs:OKE s 191 6 n)(ihn:OKE s 193 7 n):OKE s 191 6 (n+1):=by
 intro X b st w r st' hM hI hX
 have hM':(if pkS s st !=45 then M s n 7 0 st else(M s n 6 0 (sgn s [45] st)).bind fun r=>addE r.2 ⟨5,st.at_,⟨#[45]⟩,r.1,-1⟩)=some (r,st'):=hM
 clear hM
 have hrd:=hI.rd
 obtain⟨c0,c1,c2,f1,f2,_,_⟩:=id hrd
 cases hc:(pkS s st !=45)
 ·rw [hc] at hM'
  have hc:(pk s st.at_ st.bad !=45)=false:=hc
  obtain⟨⟨r2,st2⟩,h2,h3⟩:=Option.bind_eq_some_iff.1 hM'
  obtain⟨hl,h6⟩:=addE_some h3
  cases h6
  have HH:=hide h2
  clear hM' h2 h3
  go_enter Tryz.func191,Tryz.ntmps191
  go_wp2_with (first|(go_at_call 78;refine(peek_any _ _ _ _ _ hrd).mono ?_;rintro e w2 ⟨rfl,n2,rfl⟩)|(go_at_call 114;refine(sign_any b _ s _ _ _ (by exact hrd.drewN _) (by decide)).mono ?_;rintro e w3 ⟨rfl,hr3,hs3⟩))
  have hI3:=(hI.drewN n2).sc hr3 hs3
  have hF3:=((Fr.refl X w).drewN n2).trans (hs3.fr hI3.nob)
  refine(ihs X b _ _ r2 st2 HH.out hI3 (hF3.lt hX)).mono ?_
  rintro e w4 ⟨rfl,hI4,hF4⟩
  go_wp2_with fail
  refine(addPrefix_any X b s st2 _ _ _ _ hI4 (hF4.lt (hF3.lt hX)) hl).mono ?_
  rintro e w5 ⟨rfl,hI5,hF5⟩
  go_wp2_with fail
  go_ret
  exact⟨rfl,hI5,(hF3.trans hF4).trans hF5⟩
 ·rw [hc] at hM'
  have hc:(pk s st.at_ st.bad !=45)=true:=hc
  have HH:Hid (M s n 7 0 st=some (r,st')):=hide hM'
  clear hM'
  go_enter Tryz.func191,Tryz.ntmps191
  go_wp2_with (go_at_call 78;refine(peek_any _ _ _ _ _ hrd).mono ?_;rintro e w2 ⟨rfl,n2,rfl⟩)
  refine(ihn X b st _ r st' HH.out (hI.drewN _) hX).mono ?_
  rintro e w4 ⟨rfl,hI4,hF4⟩
  go_wp2_with fail
  go_ret
  exact⟨rfl,hI4,((Fr.refl X w).drewN n2).trans hF4⟩
theorem comparison_step (s:ByteArray)(n:Nat)(ih:OKE s 180 4 n):OKE s 168 3 (n+1):=by
 intro X b st w r st' hM hI hX
 have hM':((M s n 4 0 st).bind fun r=>if(comparingM s r.2.at_ r.2.bad).2.2.size==0 then some (r.1,r.2.put3 (comparingM s r.2.at_ r.2.bad)) else(M s n 4 0 (r.2.put3 (comparingM s r.2.at_ r.2.bad))).bind fun q=>addE q.2 ⟨6,r.2.at_,(comparingM s r.2.at_ r.2.bad).2.2,r.1,q.1⟩)=some (r,st'):=hM
 obtain⟨⟨l1,st1⟩,h1,h2⟩:=Option.bind_eq_some_iff.1 hM'
 have H1:=hide h1
 have H2:=hide h2
 clear hM hM' h1 h2
 go_enter Tryz.func168,Tryz.ntmps168
 go_wp2_with fail
 refine(ih X b st w l1 st1 H1.out hI hX).mono ?_
 rintro e w1 ⟨rfl,hI1,hF1⟩
 have hrd:=hI1.rd
 have HS:=fun n2=>comparingSign_any b st1.at_ s st1.bad (w1.drewN n2) (hrd.drewN n2)
 have HS:=hide HS
 obtain⟨c0,c1,c2,f1,f2,_,_⟩:=id hrd
 have h2:=H2.out
 clear H2
 generalize comparingM s st1.at_ st1.bad=c at*
 obtain⟨ca,cd,ct⟩:=c
 simp only at h2
 have HS':Hid (Calls Tryz.prog 181 #[.pointer (some ⟨b,0,none⟩)] w1 fun e w'=>e= .returned (.string ct)∧Rd w' b s ca cd∧Sc b w1 w'):=HS.out 0
 clear HS
 cases hc:(ct.size==0)
 ·rw [hc] at h2
  have hc2:=isEmpty_no hc
  obtain⟨⟨r2,st2⟩,h3,h4⟩:=Option.bind_eq_some_iff.1 h2
  obtain⟨hl,h6⟩:=addE_some h4
  cases h6
  have HH:=hide h3
  clear h2 h3 h4
  go_wp2_with (go_at_call 181;refine HS'.out.mono ?_;rintro e w3 ⟨rfl,hr3,hs3⟩)
  have hI3:=hI1.sc hr3 hs3
  have hF3:=hF1.trans (hs3.fr hI3.nob)
  refine(ih X b _ _ r2 st2 HH.out hI3 (hF3.lt hX)).mono ?_
  rintro e w4 ⟨rfl,hI4,hF4⟩
  go_wp2_with fail
  refine(addPair_any X b s st2 _ _ _ _ _ hI4 (hF4.lt (hF3.lt hX)) hl).mono ?_
  rintro e w5 ⟨rfl,hI5,hF5⟩
  go_wp2_with fail
  go_ret
  exact⟨rfl,hI5,(hF3.trans hF4).trans hF5⟩
 ·rw [hc] at h2
  have hc2:=isEmpty_yes hc
  simp at h2
  obtain⟨rfl,rfl⟩:=h2
  go_wp2_with (go_at_call 181;refine HS'.out.mono ?_;rintro e w3 ⟨rfl,hr3,hs3⟩)
  have hI3:=hI1.sc hr3 hs3
  go_ret
  exact⟨rfl,hI3,hF1.trans (hs3.fr hI3.nob)⟩
theorem eqs_no {c:ByteArray}{l:List UInt8}(h:(c.data.toList==l)=false):(c.toList==l)=false∧ ¬c.toList=l:=by
 rw [ByteArray.toList_eq]
 exact⟨h,by simpa using h⟩
theorem eqs_yes {c:ByteArray}{l:List UInt8}(h:(c.data.toList==l)=true):c.toList=l:=by
 rw [ByteArray.toList_eq]
 simpa using h
theorem exprOne_step (s:ByteArray)(n:Nat)(ih:OKE s 73 0 n):OKE s 193 7 (n+1):=by
 intro X b st w r st' hM hI hX
 have hrd:=hI.rd
 obtain⟨c0,c1,c2,f1,f2,_,_⟩:=id hrd
 rw [M_7] at hM
 cases hd:isDigit (pkS s st)
 ·rw [hd,if_neg (by decide)] at hM
  have hd:isDigit (pk s st.at_ st.bad)=false:=hd
  cases hq:(pkS s st==34)
  ·rw [hq,if_neg (by decide)] at hM
   have hq:(pk s st.at_ st.bad==34)=false:=hq
   cases ha:(pkS s st==64)
   ·rw [ha,if_neg (by decide)] at hM
    have ha:(pk s st.at_ st.bad==64)=false:=ha
    cases hp:(pkS s st==40)
    ·rw [hp,if_neg (by decide)] at hM
     have hp:(pk s st.at_ st.bad==40)=false:=hp
     have HN:=fun m=>name_any b st.at_ s st.bad (w.drewN m) (hrd.drewN m)
     simp only at hM
     generalize nameM s st.at_ st.bad=c at*
     obtain⟨ca,cd,ct⟩:=c
     have HN:Hid (∀m,Calls Tryz.prog 160 #[.pointer (some ⟨b,0,none⟩)] (w.drewN m) fun e w'=>e= .returned (.string ct)∧Rd w' b s ca cd∧Sc b (w.drewN m) w'):=hide HN
     simp only at hM
     cases ht:(ct.data.toList==[116,114,117,101])
     ·cases hf:(ct.data.toList==[102,97,108,115,101])
      ·rw [ht,hf,if_neg (by decide)] at hM
       obtain⟨n1,n1'⟩:=eqs_no ht
       obtain⟨n2',n2''⟩:=eqs_no hf
       clear ht hf
       obtain⟨hl,h6⟩:=addE_some hM
       cases h6
       clear hM
       go_enter Tryz.func193,Tryz.ntmps193
       go_wp2_with (first|(go_at_call 170;refine(atDigit_any _ _ _ _ _ hrd).mono ?_;rintro e w2 ⟨rfl,n2,rfl⟩)|(go_at_call 78;refine(peek_any b st.at_ s st.bad _ (by exact hrd.drewN _)).mono ?_;rintro e w2 ⟨rfl,n3,rfl⟩)|(go_at_call 160;refine(HN.out _).mono ?_;rintro e w3 ⟨rfl,hr3,hs3⟩))
       have hI3:=(hI.drewN _).sc hr3 hs3
       have hF3:=((Fr.refl X w).drewN _).trans (hs3.fr hI3.nob)
       refine(addLeaf_any X b s _ _ _ _ _ hI3 (hF3.lt hX) hl).mono ?_
       rintro e w5 ⟨rfl,hI5,hF5⟩
       go_wp2_with fail
       go_ret
       exact⟨rfl,hI5,hF3.trans hF5⟩
      ·rw [ht,hf,if_pos (by decide)] at hM
       have n1:=eqs_yes hf
       clear ht hf
       obtain⟨hl,h6⟩:=addE_some hM
       cases h6
       clear hM
       go_enter Tryz.func193,Tryz.ntmps193
       go_wp2_with (first|(go_at_call 170;refine(atDigit_any _ _ _ _ _ hrd).mono ?_;rintro e w2 ⟨rfl,n2,rfl⟩)|(go_at_call 78;refine(peek_any b st.at_ s st.bad _ (by exact hrd.drewN _)).mono ?_;rintro e w2 ⟨rfl,n3,rfl⟩)|(go_at_call 160;refine(HN.out _).mono ?_;rintro e w3 ⟨rfl,hr3,hs3⟩))
       have hI3:=(hI.drewN _).sc hr3 hs3
       have hF3:=((Fr.refl X w).drewN _).trans (hs3.fr hI3.nob)
       refine(addLeaf_any X b s _ _ _ _ _ hI3 (hF3.lt hX) hl).mono ?_
       rintro e w5 ⟨rfl,hI5,hF5⟩
       go_wp2_with fail
       go_ret
       exact⟨rfl,hI5,hF3.trans hF5⟩
     ·rw [ht] at hM
      rw [if_pos (by simp)] at hM
      have n1:=eqs_yes ht
      clear ht
      obtain⟨hl,h6⟩:=addE_some hM
      cases h6
      clear hM
      go_enter Tryz.func193,Tryz.ntmps193
      go_wp2_with (first|(go_at_call 170;refine(atDigit_any _ _ _ _ _ hrd).mono ?_;rintro e w2 ⟨rfl,n2,rfl⟩)|(go_at_call 78;refine(peek_any b st.at_ s st.bad _ (by exact hrd.drewN _)).mono ?_;rintro e w2 ⟨rfl,n3,rfl⟩)|(go_at_call 160;refine(HN.out _).mono ?_;rintro e w3 ⟨rfl,hr3,hs3⟩))
      have hI3:=(hI.drewN _).sc hr3 hs3
      have hF3:=((Fr.refl X w).drewN _).trans (hs3.fr hI3.nob)
      refine(addLeaf_any X b s _ _ _ _ _ hI3 (hF3.lt hX) hl).mono ?_
      rintro e w5 ⟨rfl,hI5,hF5⟩
      go_wp2_with fail
      go_ret
      exact⟨rfl,hI5,hF3.trans hF5⟩
    ·rw [hp,if_pos rfl] at hM
     have hp:(pk s st.at_ st.bad==40)=true:=hp
     obtain⟨⟨r2,st2⟩,h2,h3⟩:=Option.bind_eq_some_iff.1 hM
     simp only [Option.some.injEq,Prod.mk.injEq] at h3
     obtain⟨rfl,rfl⟩:=h3
     have HH:=hide h2
     clear hM h2
     go_enter Tryz.func193,Tryz.ntmps193
     go_wp2_with (first|(go_at_call 170;refine(atDigit_any _ _ _ _ _ hrd).mono ?_;rintro e w2 ⟨rfl,n2,rfl⟩)|(go_at_call 78;refine(peek_any b st.at_ s st.bad _ (by exact hrd.drewN _)).mono ?_;rintro e w2 ⟨rfl,n3,rfl⟩)|(go_at_call 114;refine(sign_any b _ s _ _ _ (by exact hrd.drewN _) (by decide)).mono ?_;rintro e w3 ⟨rfl,hr3,hs3⟩))
     have hI3:=(hI.drewN _).sc hr3 hs3
     have hF3:=((Fr.refl X w).drewN _).trans (hs3.fr hI3.nob)
     refine(ih X b _ _ r2 st2 HH.out hI3 (hF3.lt hX)).mono ?_
     rintro e w4 ⟨rfl,hI4,hF4⟩
     have hrd4:=hI4.rd
     go_wp2_with (go_at_call 114;refine(sign_any b _ s _ _ _ hrd4 (by decide)).mono ?_;rintro e w5 ⟨rfl,hr5,hs5⟩)
     go_ret
     exact⟨rfl,hI4.sc hr5 hs5,(hF3.trans hF4).trans (hs5.fr hI4.nob)⟩
   ·rw [ha,if_pos rfl] at hM
    have ha:(pk s st.at_ st.bad==64)=true:=ha
    have hM':addE ((wrd s [64] st).put3 (nameM s (wrd s [64] st).at_ (wrd s [64] st).bad)) ⟨4,st.at_,(nameM s (wrd s [64] st).at_ (wrd s [64] st).bad).2.2,-1,-1⟩=some (r,st'):=hM
    obtain⟨hl,h6⟩:=addE_some hM'
    cases h6
    clear hM hM'
    go_enter Tryz.func193,Tryz.ntmps193
    go_wp2_with (first|(go_at_call 170;refine(atDigit_any _ _ _ _ _ hrd).mono ?_;rintro e w2 ⟨rfl,n2,rfl⟩)|(go_at_call 78;refine(peek_any b st.at_ s st.bad _ (by exact hrd.drewN _)).mono ?_;rintro e w2 ⟨rfl,n3,rfl⟩)|(go_at_call 79;refine(word_any b _ s _ _ _ (by exact hrd.drewN _) (by decide)).mono ?_;rintro e w3 ⟨rfl,hr3,hs3⟩)|(go_at_call 160;refine(name_any b _ s _ _ hr3).mono ?_;rintro e w4 ⟨rfl,hr4,hs4⟩))
    have hI3:=(hI.drewN _).sc hr3 hs3
    have hI4:=hI3.sc hr4 hs4
    have hF3:=(((Fr.refl X w).drewN _).trans (hs3.fr hI3.nob)).trans (hs4.fr hI3.nob)
    refine(addLeaf_any X b s _ _ _ _ _ hI4 (hF3.lt hX) hl).mono ?_
    rintro e w5 ⟨rfl,hI5,hF5⟩
    go_wp2_with fail
    go_ret
    exact⟨rfl,hI5,hF3.trans hF5⟩
  ·rw [hq,if_pos rfl] at hM
   have hq:(pk s st.at_ st.bad==34)=true:=hq
   have hM':addE (st.put3 (quotedM s st.at_ st.bad)) ⟨1,st.at_,(quotedM s st.at_ st.bad).2.2,-1,-1⟩=some (r,st'):=hM
   obtain⟨hl,h6⟩:=addE_some hM'
   cases h6
   clear hM hM'
   go_enter Tryz.func193,Tryz.ntmps193
   go_wp2_with (first|(go_at_call 170;refine(atDigit_any _ _ _ _ _ hrd).mono ?_;rintro e w2 ⟨rfl,n2,rfl⟩)|(go_at_call 78;refine(peek_any b st.at_ s st.bad _ (by exact hrd.drewN _)).mono ?_;rintro e w2 ⟨rfl,n3,rfl⟩)|(go_at_call 196;refine(quoted_any b _ s _ _ (by exact hrd.drewN _)).mono ?_;rintro e w3 ⟨rfl,hr3,hs3⟩))
   have hI3:=(hI.drewN _).sc hr3 hs3
   have hF3:=((Fr.refl X w).drewN _).trans (hs3.fr hI3.nob)
   refine(addLeaf_any X b s _ _ _ _ _ hI3 (hF3.lt hX) hl).mono ?_
   rintro e w5 ⟨rfl,hI5,hF5⟩
   go_wp2_with fail
   go_ret
   exact⟨rfl,hI5,hF3.trans hF5⟩
 ·rw [hd,if_pos rfl] at hM
  have hd:isDigit (pk s st.at_ st.bad)=true:=hd
  have hM':addE (st.put3 (numberM s st.at_ st.bad)) ⟨0,st.at_,(numberM s st.at_ st.bad).2.2,-1,-1⟩=some (r,st'):=hM
  obtain⟨hl,h6⟩:=addE_some hM'
  cases h6
  clear hM hM'
  go_enter Tryz.func193,Tryz.ntmps193
  go_wp2_with (first|(go_at_call 170;refine(atDigit_any _ _ _ _ _ hrd).mono ?_;rintro e w2 ⟨rfl,n2,rfl⟩)|(go_at_call 194;refine(number_any b _ s _ _ (by exact hrd.drewN _)).mono ?_;rintro e w3 ⟨rfl,hr3,hs3⟩))
  have hI3:=(hI.drewN n2).sc hr3 hs3
  have hF3:=((Fr.refl X w).drewN n2).trans (hs3.fr hI3.nob)
  refine(addLeaf_any X b s _ _ _ _ _ hI3 (hF3.lt hX) hl).mono ?_
  rintro e w5 ⟨rfl,hI5,hF5⟩
  go_wp2_with fail
  go_ret
  exact⟨rfl,hI5,hF3.trans hF5⟩
theorem lic_step (s:ByteArray)(n:Nat)(ih: ∀m,m≤n→OKL s 176 1 m):OKL s 161 0 (n+1):=by
 intro X b st w r st' hM hI hX
 rw [ML_0] at hM
 obtain⟨⟨l1,st1⟩,h1,h2⟩:=Option.bind_eq_some_iff.1 hM
 have IH:=hide ih
 have H1:=hide h1
 have H2:=hide h2
 clear hM h1 h2 ih
 go_enter Tryz.func161,Tryz.ntmps161
 go_wp2_with fail
 refine(IH.out n (Nat.le_refl _) X b st w l1 st1 H1.out hI hX).mono ?_
 rintro e w1 ⟨rfl,hI1,hF1⟩
 go_wp2_with fail
 go_loopg [3] n (fun k l wr=>k≤n∧ ∃(lv:Int) (sv:St),l= .int .i64 lv∧Hid (ML s k 10 lv 0 0 [] sv=some (r,st'))∧Inv X wr b s sv∧Fr X w wr)
 case atStart=>exact⟨Nat.le_refl _,l1,st1,rfl,H2,hI1,hF1⟩
 case round=>
  obtain⟨hkn,lv,sv,rfl,hm,hi,hf⟩:=hrel
  cases gk with
  |zero=>exact absurd hm.out (by simp [ML])
  |succ k=>
   have hm':=hm.out
   rw [ML_10] at hm'
   clear hm
   have hrd:=hi.rd
   obtain⟨c0,c1,c2,f1,f2,_,_⟩:=id hrd
   cases hc:(pkS s sv==124)
   ·rw [hc] at hm'
    simp at hm'
    obtain⟨rfl,rfl⟩:=hm'
    have hc:(pk s sv.at_ sv.bad==124)=false:=hc
    go_wp2_with (go_at_call 78;refine(peek_any _ _ _ _ _ hrd).mono ?_;rintro e w2 ⟨rfl,n2,rfl⟩)
    go_ret
    exact⟨rfl,hi.drewN _,hf.drewN _⟩
   ·rw [hc] at hm'
    have hc:(pk s sv.at_ sv.bad==124)=true:=hc
    obtain⟨⟨r2,st2⟩,h2,h3⟩:=Option.bind_eq_some_iff.1 hm'
    obtain⟨⟨r3,st3⟩,h4,h5⟩:=Option.bind_eq_some_iff.1 h3
    obtain⟨hl,h6⟩:=addL_some h4
    cases h6
    have HH:=hide (And.intro h2 h5)
    clear hm' h2 h3 h4 h5
    go_wp2_with (first|(go_at_call 78;refine(peek_any _ _ _ _ _ hrd).mono ?_;rintro e w2 ⟨rfl,n2,rfl⟩)|(go_at_call 114;refine(sign_any b _ s _ _ _ (by exact hrd.drewN _) (by decide)).mono ?_;rintro e w3 ⟨rfl,hr3,hs3⟩))
    have hI3:=(hi.drewN n2).sc hr3 hs3
    have hF3:=(hf.drewN n2).trans (hs3.fr hI3.nob)
    refine(IH.out k (by omega) X b _ _ r2 st2 HH.out.1 hI3 (hF3.lt hX)).mono ?_
    rintro e w4 ⟨rfl,hI4,hF4⟩
    go_wp2_with fail
    refine(addLicPair_any X b s st2 _ _ _ _ hI4 (hF4.lt (hF3.lt hX)) hl).mono ?_
    rintro e w5 ⟨rfl,hI5,hF5⟩
    go_wp2_with fail
    go_roundg k
    case measure=>omega
    case rel=>exact⟨by omega,_,_,rfl,HH.out.2,hI5,(hF3.trans hF4).trans hF5⟩
theorem licAnd_step (s:ByteArray)(n:Nat)(ih: ∀m,m≤n→OKL s 184 2 m):OKL s 176 1 (n+1):=by
 intro X b st w r st' hM hI hX
 rw [ML_1] at hM
 obtain⟨⟨l1,st1⟩,h1,h2⟩:=Option.bind_eq_some_iff.1 hM
 have IH:=hide ih
 have H1:=hide h1
 have H2:=hide h2
 clear hM h1 h2 ih
 go_enter Tryz.func176,Tryz.ntmps176
 go_wp2_with fail
 refine(IH.out n (Nat.le_refl _) X b st w l1 st1 H1.out hI hX).mono ?_
 rintro e w1 ⟨rfl,hI1,hF1⟩
 go_wp2_with fail
 go_loopg [3] n (fun k l wr=>k≤n∧ ∃(lv:Int) (sv:St),l= .int .i64 lv∧Hid (ML s k 11 lv 0 0 [] sv=some (r,st'))∧Inv X wr b s sv∧Fr X w wr)
 case atStart=>exact⟨Nat.le_refl _,l1,st1,rfl,H2,hI1,hF1⟩
 case round=>
  obtain⟨hkn,lv,sv,rfl,hm,hi,hf⟩:=hrel
  cases gk with
  |zero=>exact absurd hm.out (by simp [ML])
  |succ k=>
   have hm':=hm.out
   rw [ML_11] at hm'
   clear hm
   have hrd:=hi.rd
   obtain⟨c0,c1,c2,f1,f2,_,_⟩:=id hrd
   cases hc:(pkS s sv==38)
   ·rw [hc] at hm'
    simp at hm'
    obtain⟨rfl,rfl⟩:=hm'
    have hc:(pk s sv.at_ sv.bad==38)=false:=hc
    go_wp2_with (go_at_call 78;refine(peek_any _ _ _ _ _ hrd).mono ?_;rintro e w2 ⟨rfl,n2,rfl⟩)
    go_ret
    exact⟨rfl,hi.drewN _,hf.drewN _⟩
   ·rw [hc] at hm'
    have hc:(pk s sv.at_ sv.bad==38)=true:=hc
    obtain⟨⟨r2,st2⟩,h2,h3⟩:=Option.bind_eq_some_iff.1 hm'
    obtain⟨⟨r3,st3⟩,h4,h5⟩:=Option.bind_eq_some_iff.1 h3
    obtain⟨hl,h6⟩:=addL_some h4
    cases h6
    have HH:=hide (And.intro h2 h5)
    clear hm' h2 h3 h4 h5
    go_wp2_with (first|(go_at_call 78;refine(peek_any _ _ _ _ _ hrd).mono ?_;rintro e w2 ⟨rfl,n2,rfl⟩)|(go_at_call 114;refine(sign_any b _ s _ _ _ (by exact hrd.drewN _) (by decide)).mono ?_;rintro e w3 ⟨rfl,hr3,hs3⟩))
    have hI3:=(hi.drewN n2).sc hr3 hs3
    have hF3:=(hf.drewN n2).trans (hs3.fr hI3.nob)
    refine(IH.out k (by omega) X b _ _ r2 st2 HH.out.1 hI3 (hF3.lt hX)).mono ?_
    rintro e w4 ⟨rfl,hI4,hF4⟩
    go_wp2_with fail
    refine(addLicPair_any X b s st2 _ _ _ _ hI4 (hF4.lt (hF3.lt hX)) hl).mono ?_
    rintro e w5 ⟨rfl,hI5,hF5⟩
    go_wp2_with fail
    go_roundg k
    case measure=>omega
    case rel=>exact⟨by omega,_,_,rfl,HH.out.2,hI5,(hF3.trans hF4).trans hF5⟩
theorem licOne_step (s:ByteArray)(n:Nat)(ih:OKL s 161 0 n)(iho: ∀(X:Nat→Prop) (b:Nat) (st:St) (w:World) (r:Int) (st':St),ML s n 3 0 0 0 [] st=some (r,st')→isDigit (pkS s st)=true→Inv X w b s st→(∀k,X k→k<w.heap.size)→
  Calls Tryz.prog 190 #[.pointer (some ⟨b,0,none⟩)] w fun e w'=>e= .returned (.int .i64 r)∧Inv X w' b s st'∧Fr X w w'):OKL s 184 2 (n+1):=by
 intro X b st w r st' hM hI hX
 have hrd:=hI.rd
 obtain⟨c0,c1,c2,f1,f2,_,_⟩:=id hrd
 have IHO:=hide iho
 clear iho
 rw [ML_2] at hM
 cases hp:(pkS s st==40)
 ·rw [hp,if_neg (by decide)] at hM
  have hp:(pk s st.at_ st.bad==40)=false:=hp
  cases hd:isDigit (pkS s st)
  ·rw [hd,if_neg (by decide)] at hM
   have hd:isDigit (pk s st.at_ st.bad)=false:=hd
   have hM':addL (st.put3 (nameM s st.at_ st.bad)) ⟨0,(nameM s st.at_ st.bad).2.2,-1,-1,0,0,[]⟩=some (r,st'):=hM
   obtain⟨hl,h6⟩:=addL_some hM'
   cases h6
   clear hM hM'
   go_enter Tryz.func184,Tryz.ntmps184
   go_wp2_with (first|(go_at_call 170;refine(atDigit_any b st.at_ s st.bad _ (by exact hrd.drewN _)).mono ?_;rintro e w2 ⟨rfl,n3,rfl⟩)|(go_at_call 78;refine(peek_any b st.at_ s st.bad _ hrd).mono ?_;rintro e w2 ⟨rfl,n2,rfl⟩))
   refine(name_any b st.at_ s st.bad _ (by exact hrd.drewN _)).mono ?_
   rintro e w3 ⟨rfl,hr3,hs3⟩
   have hI3:=(hI.drewN _).sc hr3 hs3
   have hF3:=((Fr.refl X w).drewN _).trans (hs3.fr hI3.nob)
   have hX3:=hide (hF3.lt hX)
   have HF3:=hide hF3
   have hl3:st.L.length<100000:=hl
   clear hr3 hs3 hI hF3 hX hrd c0 c1 c2 f1 f2 hp hd hl IHO ih
   obtain⟨V,iv,cv,g⟩:=hI3
   obtain⟨i0,hi,hz0,hz1,hz2⟩:=info_parts info160
   have hlt:=g.rows.lt
   have hc:=g.rows.cell 4 (by omega) (by omega)
   have hf:=g.rows.froz 4 (by omega) (by omega)
   have how:=g.rows.own 4 (by omega) (by omega)
   have HG:=hide g
   clear g
   go_wp2_with (at_builtin;go_must (refine wpList_append_lies _ rfl (.tmp 26) (.tmp 29) 50 rfl (b+1) 160 i0 _ 7 80 Tryz.underlying50 hi hz0 hz1 hz2 rfl (by omega) (V 4) st.L.length _ rfl (how.alloc _) ⟨w3.heap.size,0,none⟩ 1 1 (Lc.cells ⟨0,(nameM s st.at_ st.bad).2.2,-1,-1,0,0,[]⟩ (.slice none 0 0)) rfl rfl ?news ?one (by omega) ?mm ?bys ?base (w3.heap.size+1) (by simp) ?rest))
   case news=>exact World.news_of_block (heap_alloc_new w3 _)
   case one=>intro u hu;simp [Lc.cells] at hu;rcases hu with rfl|rfl|rfl|rfl|rfl<;>rfl
   case mm=>unfold maxLen;omega
   case bys=>omega
   case base=>simp;omega
   case rest=>
    intro gb cap w4 hown hgrow hat hlt2
    have hg:=grownBy_trans (World.grownBy_alloc w3 _ _) hgrow
    obtain⟨k1,k2,hfr⟩:=HG.out.grown (o:=4) (by omega) (by omega) hg hX3.out
    have hI5:=HG.out.pushL ⟨0,(nameM s st.at_ st.bad).2.2,-1,-1,0,0,[]⟩ (.slice none 0 0) Side.nil hown hg (fun k e=>by
     have:gb=k:=by simpa [Value.ownBlock] using e
     subst this
     exact hat.imp id fun e=>by omega) hX3.out
    have hfr:=hfr (.slice (some ⟨gb,0,none⟩) (st.L.length+1) cap)
    clear hgrow hat hown hg how
    go_wp2_with fail
    go_ret
    exact⟨by simp [St.put3],hI5,HF3.out.trans hfr⟩
  ·rw [hd,if_pos rfl] at hM
   have hd0:=hide hd
   have hd:isDigit (pk s st.at_ st.bad)=true:=hd
   have HH:=hide hM
   clear hM
   go_enter Tryz.func184,Tryz.ntmps184
   go_wp2_with (first|(go_at_call 170;refine(atDigit_any b st.at_ s st.bad _ (by exact hrd.drewN _)).mono ?_;rintro e w2 ⟨rfl,n3,rfl⟩)|(go_at_call 78;refine(peek_any b st.at_ s st.bad _ hrd).mono ?_;rintro e w2 ⟨rfl,n2,rfl⟩))
   refine(IHO.out X b st _ r st' HH.out hd0.out (hI.drewN _) hX).mono ?_
   rintro e w4 ⟨rfl,hI4,hF4⟩
   go_wp2_with fail
   go_ret
   exact⟨rfl,hI4,((Fr.refl X w).drewN _).trans hF4⟩
 ·rw [hp,if_pos rfl] at hM
  have hp:(pk s st.at_ st.bad==40)=true:=hp
  obtain⟨⟨r2,st2⟩,h2,h3⟩:=Option.bind_eq_some_iff.1 hM
  simp only [Option.some.injEq,Prod.mk.injEq] at h3
  obtain⟨rfl,rfl⟩:=h3
  have HH:=hide h2
  clear hM h2
  go_enter Tryz.func184,Tryz.ntmps184
  go_wp2_with (first|(go_at_call 78;refine(peek_any b st.at_ s st.bad _ hrd).mono ?_;rintro e w2 ⟨rfl,n3,rfl⟩)|(go_at_call 114;refine(sign_any b _ s _ _ _ (by exact hrd.drewN _) (by decide)).mono ?_;rintro e w3 ⟨rfl,hr3,hs3⟩))
  have hI3:=(hI.drewN _).sc hr3 hs3
  have hF3:=((Fr.refl X w).drewN _).trans (hs3.fr hI3.nob)
  refine(ih X b _ _ r2 st2 HH.out hI3 (hF3.lt hX)).mono ?_
  rintro e w4 ⟨rfl,hI4,hF4⟩
  have hrd4:=hI4.rd
  go_wp2_with (go_at_call 114;refine(sign_any b _ s _ _ _ hrd4 (by decide)).mono ?_;rintro e w5 ⟨rfl,hr5,hs5⟩)
  go_ret
  exact⟨rfl,hI4.sc hr5 hs5,(hF3.trans hF4).trans (hs5.fr hI4.nob)⟩
theorem InvV.mono {X Y:Nat→Prop}{w:World}{b:Nat}{s:ByteArray}{st:St}{V:Nat→Value}{iv cv:List Value}(g:InvV X w b s st V iv cv)(hY: ∀k,Y k→X k):InvV Y w b s st V iv cv:=
 ⟨g.rd,g.rows.mono hY,g.il,g.cl,fun i l v h1 h2=>(g.items i l v h1 h2).mono hY,fun i l v h1 h2=>(g.clauses i l v h1 h2).mono hY⟩
structure HeldY (X Y:Nat→Prop)(w0 w:World)(b:Nat)(s:ByteArray)(st:St)(e size:Nat)(v:Value)(n:Nat)(xs:List Value):Prop where
 sub: ∀k,X k→Y k
 lt: ∀k,Y k→k<w.heap.size
 inv:Inv Y w b s st
 own:w.ownsRow (b+1) e size v n xs
 inY: ∀k,v.ownBlock=some k→Y k∧w0.heap.size≤k
 fr:Fr X w0 w
def Held (X:Nat→Prop)(w0 w:World)(b:Nat)(s:ByteArray)(st:St)(e size:Nat)(v:Value)(n:Nat)(xs:List Value):Prop:= ∃Y,HeldY X Y w0 w b s st e size v n xs
section
variable {X Y:Nat→Prop} {w0 w w':World} {b:Nat} {s:ByteArray} {st st':St} {e size:Nat} {v:Value} {n:Nat} {xs:List Value}
theorem HeldY.call (h:HeldY X Y w0 w b s st e size v n xs)(hi:Inv Y w' b s st')(hf:Fr Y w w'):HeldY X Y w0 w' b s st' e size v n xs:=
 ⟨h.sub,hf.lt h.lt,hi,ownsRow_same h.own fun k e=>hf.block k (h.inY k e).1,h.inY,h.fr.trans (hf.mono h.sub)⟩
theorem HeldY.drewN (h:HeldY X Y w0 w b s st e size v n xs)(m:Nat):HeldY X Y w0 (w.drewN m) b s st e size v n xs:=
 ⟨h.sub,h.lt,h.inv.drewN m,h.own,h.inY,h.fr.drewN m⟩
theorem HeldY.sc (h:HeldY X Y w0 w b s st e size v n xs){a:Nat}{d:Bool}(hr:Rd w' b s a d)(hs:Sc b w w'):HeldY X Y w0 w' b s {st with at_:=a,bad:=d} e size v n xs:=
 h.call (h.inv.sc hr hs) (hs.fr h.inv.nob)
theorem HeldY.alloc (h:HeldY X Y w0 w b s st e size v n xs)(o:Obj):HeldY X Y w0 (w.alloc o) b s st e size v n xs:=
 h.call (h.inv.alloc o) ((Fr.refl Y w).alloc h.lt o)
theorem held_made (hI:Inv X w b s st)(hX: ∀k,X k→k<w.heap.size)(hf:Fr X w0 w)(e size:Nat):Held X w0 (w.alloc (.cells #[] e)) b s st e size (.slice (some ⟨w.heap.size,0,none⟩) 0 0) 0 []:=by
 refine⟨fun k=>X k∨k=w.heap.size,fun k x=> .inl x,fun k y=> ?_,hI.allocX _,World.ownsRow_made w #[] 0 hI.lt (by decide) (by simp),fun k e=> ?_,hf.alloc hX _⟩
 ·show k<(w.alloc _).heap.size
  rcases y with y|y
  ·have:=hX k y;simp;omega
  ·simp;omega
 ·have:w.heap.size=k:=by simpa [Value.ownBlock] using e
  subst this
  exact⟨.inr rfl,hf.size⟩
theorem HeldY.grown (h:HeldY X Y w0 w b s st e size v n xs){v':Value}{n':Nat}{xs':List Value}(hown:w'.ownsRow (b+1) e size v' n' xs')(hg:w.grownBy w' v.ownBlock)
  (hat: ∀k,v'.ownBlock=some k→v.ownBlock=some k∨w.heap.size≤k) (hX: ∀k,X k→k<w0.heap.size):HeldY X (fun k=>Y k∨v'.ownBlock=some k) w0 w' b s st e size v' n' xs':=by
 refine⟨fun k x=> .inl (h.sub k x),fun k y=> ?_,?_,hown,fun k e=>⟨.inr e,?_⟩,h.fr.grown hg (fun k x=>h.lt k (h.sub k x)) fun k e x=> ?_⟩
 ·rcases y with y|y
  ·exact Nat.lt_of_lt_of_le (h.lt k y) hg.size
  ·exact(hown.lt k y).2
 ·have h1:Inv (fun k=>Y k∨v'.ownBlock=some k) w b s st:=h.inv.more.mono fun k y=>by
   rcases y with y|y
   ·exact .inl y
   ·rcases hat k y with q|q
    ·exact .inl (h.inY k q).1
    ·exact .inr q
  exact h1.other fun k hk hn=>hg.block k hk fun e=>hn (.inl (h.inY k e.symm).1)
 ·rcases hat k e with q|q
  ·exact(h.inY k q).2
  ·exact Nat.le_trans h.fr.size q
 ·have:=(h.inY k e).2
  have:=hX k x
  omega
theorem HeldY.more (h:HeldY X Y w0 w b s st e size v n xs)(o:Obj):HeldY X (fun k=>Y k∨k=w.heap.size) w0 (w.alloc o) b s st e size v n xs:=
 ⟨fun k x=> .inl (h.sub k x),fun k y=>by
  show k<(w.alloc o).heap.size
  rcases y with y|y
  ·have:=h.lt k y;simp;omega
  ·simp;omega,h.inv.allocX o,h.own.alloc o,fun k e=>⟨.inl (h.inY k e).1,(h.inY k e).2⟩,h.fr.alloc (fun k x=>h.lt k (h.sub k x)) o⟩
theorem HeldY.setCell (h:HeldY X Y w0 w b s st e size v n xs){a:Addr}(ha:Y a.block)(hne:v.ownBlock≠some a.block)(h0:w0.heap.size≤a.block)(hX: ∀k,X k→k<w0.heap.size)(u:Value):HeldY X Y w0 (w.setCell a u) b s st e size v n xs:=
 ⟨h.sub,fun k y=>by have:=h.lt k y;simpa [World.setCell] using this,h.inv.setCell ha u,ownsRow_same h.own fun k e=>Below.heap_setCell _ _ _ _ fun q=>hne (q▸e),h.inY,h.fr.setCell (fun x=>by have:=hX _ x;omega) u⟩
theorem HeldY.side (h:HeldY X Y w0 w b s st e size v n xs)(hX: ∀k,X k→k<w0.heap.size){V:Nat→Value}{iv cv:List Value}(g:InvV Y w b s st V iv cv):Side X w b V e size v n xs:=
 ⟨h.own,fun k e x=>by have:=(h.inY k e).2;have:=hX k x;omega,fun o k h3 h6 e e2=>g.rows.notX o k h3 h6 e2 (h.inY k e).1⟩
end
end Go.Proofs.YtkoohcilbpdgeaaGreatDoor
