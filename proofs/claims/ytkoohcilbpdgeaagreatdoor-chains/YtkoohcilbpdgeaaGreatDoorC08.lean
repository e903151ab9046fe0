import Derived.Test.YtkoohcilbpdgeaaGreatDoorC07
set_option linter.all false
set_option linter.unusedVariables false
set_option linter.unusedSimpArgs false
set_option linter.unnecessarySimpa false
set_option linter.constructorNameAsVariable false
set_option linter.deprecated false
set_option maxRecDepth 100000
set_option maxHeartbeats 6400000
namespace Go.Proofs.YtkoohcilbpdgeaaGreatDoor
open Go Go.RowKit
attribute [local go_sem] wrap64_byte
def RPostL (b:Nat)(s:ByteArray)(st st':St)(r:Int)(w:World)(e:Ending)(w':World):Prop:= ∃(ao:Option Addr) (p':Nat),e= .returned (.pointer ao)∧Rd w' b s p' st'.bad∧Rf b w w'∧skip s p' st'.bad=st'.at_∧
 (st'.bad=false→ ∃(f i:Nat),r=(i:Int)∧i+1=st'.L.length∧RefL b w.heap.size w' st'.L f (.pointer ao) st.L.length i)
def OKRL (s:ByteArray)(op:ByteArray)(tag n:Nat):Prop:= ∀(b:Nat) (st:St) (w:World) (p:Nat) (r:Int) (st':St),ML s n tag 0 0 0 [] st=some (r,st')→Rd w b s p st.bad→skip s p st.bad=st.at_→
 Calls Tryz.prog 136 #[.pointer (some ⟨b,0,none⟩),.string op] w fun e w'=>RPostL b s st st' r w e w'
def OKRO (s:ByteArray)(n:Nat):Prop:= ∀(b:Nat) (st:St) (w:World) (p:Nat) (r:Int) (st':St),ML s n 2 0 0 0 [] st=some (r,st')→Rd w b s p st.bad→skip s p st.bad=st.at_→
 Calls Tryz.prog 164 #[.pointer (some ⟨b,0,none⟩)] w fun e w'=>RPostL b s st st' r w e w'
theorem lic_0 (s:ByteArray)(n:Nat)(ih: ∀m,m≤n→OKRL s ⟨#[38,38]⟩ 1 m):OKRL s ⟨#[124,124]⟩ 0 (n+1):=by
 intro b st w p r st' hM hR hp
 rw [ML_0] at hM
 obtain⟨⟨l1,st1⟩,h1,h2⟩:=Option.bind_eq_some_iff.1 hM
 have HB0:=hide (fun h=>ML_bad s (n+1) 0 0 0 0 [] st (r,st') (by rw [ML_0];exact hM) (by omega) h)
 have IH:=hide ih
 have H1:=hide h1
 have H2:=hide h2
 have HX1:=hide (ML_ext s _ _ _ _ _ _ _ _ h1)
 have HP:=hide hp
 clear hM h1 h2 ih hp
 go_enter Tryz.func136,Tryz.ntmps136
 go_wp2_with fail
 go_loopg [5,6] (n+1) (fun g tv fv wr=>(fv= .bool true∧tv= .pointer none∧wr=w∧g=n+1)∨(fv= .bool false∧g≤n∧ ∃(ao:Option Addr) (q:Nat) (lv:Int) (sv:St),tv= .pointer ao∧Hid (ML s g 10 lv 0 0 [] sv=some (r,st'))∧Rd wr b s q sv.bad∧Hid (skip s q sv.bad=sv.at_)∧Rf b w wr∧Hid (ExtL st sv)∧Hid (sv.bad=false→ ∃(f i:Nat),lv=(i:Int)∧i+1=sv.L.length∧RefL b w.heap.size wr sv.L f (.pointer ao) st.L.length i)))
 case atStart=>exact .inl ⟨rfl,rfl,rfl,rfl⟩
 case round=>
  rcases hrel with⟨rfl,rfl,rfl,rfl⟩|⟨rfl,hgn,ao,q,lv,sv,rfl,hm,hRq,hq,hF,hX,ht⟩
  ·obtain⟨c0,c1,c2,f1,f2,hle,hsz⟩:=id hR
   obtain⟨bd,HBD⟩: ∃bd,Hid (st.bad=bd):=⟨_,rfl⟩
   rw [HBD.out] at c2
   cases bd with
   |true=>
    go_wp2_with fail
    go_ret
    have hs:=HB0.out HBD.out
    have hp0:=HP.out
    rw [HBD.out,skip_bad] at hp0
    refine⟨none,p,rfl,?_,Rf.refl _ _,?_,fun hb=> ?_⟩
    ·rw [hs.1,←HBD.out];exact hR
    ·rw [hs.1,skip_bad,hs.2];exact hp0
    ·rw [hs.1] at hb;cases hb
   |false=>
    go_wp2_with fail
    refine(IH.out n (Nat.le_refl _) b st wr p l1 st1 H1.out hR HP.out).mono ?_
    rintro e w1 ⟨ao1,p1,rfl,hR1,hF1,hp1,ht1⟩
    have HT1:=hide ht1
    have HP1:=hide hp1
    clear ht1 hp1
    go_wp2_with fail
    go_roundg n
    case measure=>omega
    case rel=>exact .inr ⟨rfl,Nat.le_refl _,ao1,p1,l1,st1,rfl,H2,hR1,HP1,hF1,HX1,HT1⟩
  ·cases gk with
   |zero=>exact absurd hm.out (by simp [ML])
   |succ g=>
    have hm':=hm.out
    rw [ML_10] at hm'
    clear hm
    obtain⟨c0,c1,c2,f1,f2,hle,hsz⟩:=id hRq
    obtain⟨bd,HBD⟩: ∃bd,Hid (sv.bad=bd):=⟨_,rfl⟩
    rw [HBD.out] at c2
    cases bd with
    |true=>
     rw [if_neg (by rw [pkS_bad HBD.out];decide)] at hm'
     simp at hm'
     obtain⟨rfl,rfl⟩:=hm'
     go_wp2_with fail
     go_ret
     exact⟨ao,q,rfl,hRq,hF,hq.out,ht.out⟩
    |false=>
     have hsg:=sign1_any b q s 124 sv.bad wr hRq
     rw [hq.out] at hsg
     have HSG:=hide hsg
     clear hsg
     have hpk:pk s sv.at_ sv.bad=pkS s sv:=rfl
     cases hc:(pkS s sv==124)
     ·rw [hc,if_neg (by decide)] at hm'
      simp at hm'
      obtain⟨rfl,rfl⟩:=hm'
      go_wp2_with fail
      refine HSG.out.mono ?_
      rintro e w2 ⟨rfl,hR2,hs2⟩
      have hcc:(pk s sv.at_ sv.bad==((124:UInt8).toNat:Int))=false:=hc
      go_wp2_with fail
      go_ret
      refine⟨ao,sv.at_,rfl,hR2,hF.trans hs2.rf,?_,fun hb=> ?_⟩
      ·have hi:=skip_idem s q sv.bad hle
       rw [hq.out] at hi
       exact hi
      ·obtain⟨f,i,h1,h2,h3⟩:=ht.out hb
       exact⟨f,i,h1,h2,h3.keep hs2.rf⟩
     ·rw [hc,if_pos rfl] at hm'
      obtain⟨⟨r2,st2⟩,h2,h3⟩:=Option.bind_eq_some_iff.1 hm'
      obtain⟨⟨r3,st3⟩,h4,h5⟩:=Option.bind_eq_some_iff.1 h3
      obtain⟨hl,h6⟩:=addL_some h4
      cases h6
      have HH:=hide (And.intro h2 h5)
      have HX2:=hide (ML_ext s _ _ _ _ _ _ _ _ h2)
      clear hm' h2 h3 h4 h5
      go_wp2_with fail
      refine HSG.out.mono ?_
      rintro e w2 ⟨rfl,hR2,hs2⟩
      obtain⟨d0,d1,d2,g1,g2,_,_⟩:=id hR2
      have hcc:(pk s sv.at_ sv.bad==((124:UInt8).toNat:Int))=true:=hc
      go_wp2_with fail
      refine(eat_any b sv.at_ s _ sv.bad _ hR2 (by decide)).mono ?_
      rintro e w3 ⟨rfl,hR3,hs3⟩
      go_wp2_with fail
      refine(IH.out g (by omega) b _ _ _ r2 st2 HH.out.1 hR3 rfl).mono ?_
      rintro e w4 ⟨ao4,p4,rfl,hR4,hF4,hp4,ht4⟩
      have hF24:=(hs2.rf.trans hs3.rf).trans hF4
      have hbl:b<w4.heap.size:=block_lt_of_cell hR4.c0
      have HP4:=hide hp4
      have HT4:=hide ht4
      clear hp4 ht4
      go_wp2_with fail
      go_roundg g
      case measure=>omega
      case rel=>
       refine .inr ⟨rfl,by omega,_,p4,_,_,rfl,HH.out.2,?_,HP4,?_,hide (hX.out.trans ?_),hide fun hb=> ?_⟩
       ·exact hR4.other ((Below.heap_alloc _ _ _ (by simp;omega)).trans (Below.heap_alloc _ _ _ hbl))
       ·exact((hF.trans hF24).alloc _).alloc _
       ·exact HX2.out.trans ⟨⟨[_],rfl⟩,rfl,rfl,rfl⟩
       ·obtain⟨f4,i4,e4,l4,t4⟩:=HT4.out hb
        obtain⟨f0,i0,e0,l0,t0⟩:=ht.out HBD.out
        obtain⟨⟨F,hFE⟩,_,_,_⟩:=HX2.out
        have hFE:st2.L=sv.L++F:=hFE
        have hnode:=node_new hbl [.pointer ao,.pointer ao4] ⟨#[124,124]⟩ ⟨#[]⟩ sv.at_ (by simp)
        refine⟨f0+f4+1,st2.L.length,rfl,by simp,⟨1,⟨#[124,124]⟩,lv,r2,0,0,[]⟩,by simp,?_⟩
        refine .inr (.inl ⟨rfl,.pointer ao,.pointer ao4,i0,i4,_,l4.symm,e0,e4,.inl rfl,(hnode.low (Nat.le_trans hF.size hF24.size)).x,?_,?_⟩)
        ·have q1:=((t0.keep hF24).more F).ups f4
         rw [←hFE] at q1
         exact((q1.keep (((Rf.refl b w4).alloc _).alloc _)).more _)
        ·have q2:=t4.ups f0
         rw [Nat.add_comm f0 f4,l0]
         exact(((q2.low (Nat.le_trans hF.size (hs2.rf.trans hs3.rf).size)).keep (((Rf.refl b w4).alloc _).alloc _)).more _)
theorem lic_1 (s:ByteArray)(n:Nat)(ih: ∀m,m≤n→OKRO s m):OKRL s ⟨#[38,38]⟩ 1 (n+1):=by
 intro b st w p r st' hM hR hp
 rw [ML_1] at hM
 obtain⟨⟨l1,st1⟩,h1,h2⟩:=Option.bind_eq_some_iff.1 hM
 have HB0:=hide (fun h=>ML_bad s (n+1) 1 0 0 0 [] st (r,st') (by rw [ML_1];exact hM) (by omega) h)
 have IH:=hide ih
 have H1:=hide h1
 have H2:=hide h2
 have HX1:=hide (ML_ext s _ _ _ _ _ _ _ _ h1)
 have HP:=hide hp
 clear hM h1 h2 ih hp
 go_enter Tryz.func136,Tryz.ntmps136
 go_wp2_with fail
 go_loopg [5,6] (n+1) (fun g tv fv wr=>(fv= .bool true∧tv= .pointer none∧wr=w∧g=n+1)∨(fv= .bool false∧g≤n∧ ∃(ao:Option Addr) (q:Nat) (lv:Int) (sv:St),tv= .pointer ao∧Hid (ML s g 11 lv 0 0 [] sv=some (r,st'))∧Rd wr b s q sv.bad∧Hid (skip s q sv.bad=sv.at_)∧Rf b w wr∧Hid (ExtL st sv)∧Hid (sv.bad=false→ ∃(f i:Nat),lv=(i:Int)∧i+1=sv.L.length∧RefL b w.heap.size wr sv.L f (.pointer ao) st.L.length i)))
 case atStart=>exact .inl ⟨rfl,rfl,rfl,rfl⟩
 case round=>
  rcases hrel with⟨rfl,rfl,rfl,rfl⟩|⟨rfl,hgn,ao,q,lv,sv,rfl,hm,hRq,hq,hF,hX,ht⟩
  ·obtain⟨c0,c1,c2,f1,f2,hle,hsz⟩:=id hR
   obtain⟨bd,HBD⟩: ∃bd,Hid (st.bad=bd):=⟨_,rfl⟩
   rw [HBD.out] at c2
   cases bd with
   |true=>
    go_wp2_with fail
    go_ret
    have hs:=HB0.out HBD.out
    have hp0:=HP.out
    rw [HBD.out,skip_bad] at hp0
    refine⟨none,p,rfl,?_,Rf.refl _ _,?_,fun hb=> ?_⟩
    ·rw [hs.1,←HBD.out];exact hR
    ·rw [hs.1,skip_bad,hs.2];exact hp0
    ·rw [hs.1] at hb;cases hb
   |false=>
    go_wp2_with fail
    refine(IH.out n (Nat.le_refl _) b st wr p l1 st1 H1.out hR HP.out).mono ?_
    rintro e w1 ⟨ao1,p1,rfl,hR1,hF1,hp1,ht1⟩
    have HT1:=hide ht1
    have HP1:=hide hp1
    clear ht1 hp1
    go_wp2_with fail
    go_roundg n
    case measure=>omega
    case rel=>exact .inr ⟨rfl,Nat.le_refl _,ao1,p1,l1,st1,rfl,H2,hR1,HP1,hF1,HX1,HT1⟩
  ·cases gk with
   |zero=>exact absurd hm.out (by simp [ML])
   |succ g=>
    have hm':=hm.out
    rw [ML_11] at hm'
    clear hm
    obtain⟨c0,c1,c2,f1,f2,hle,hsz⟩:=id hRq
    obtain⟨bd,HBD⟩: ∃bd,Hid (sv.bad=bd):=⟨_,rfl⟩
    rw [HBD.out] at c2
    cases bd with
    |true=>
     rw [if_neg (by rw [pkS_bad HBD.out];decide)] at hm'
     simp at hm'
     obtain⟨rfl,rfl⟩:=hm'
     go_wp2_with fail
     go_ret
     exact⟨ao,q,rfl,hRq,hF,hq.out,ht.out⟩
    |false=>
     have hsg:=sign1_any b q s 38 sv.bad wr hRq
     rw [hq.out] at hsg
     have HSG:=hide hsg
     clear hsg
     have hpk:pk s sv.at_ sv.bad=pkS s sv:=rfl
     cases hc:(pkS s sv==38)
     ·rw [hc,if_neg (by decide)] at hm'
      simp at hm'
      obtain⟨rfl,rfl⟩:=hm'
      go_wp2_with fail
      refine HSG.out.mono ?_
      rintro e w2 ⟨rfl,hR2,hs2⟩
      have hcc:(pk s sv.at_ sv.bad==((38:UInt8).toNat:Int))=false:=hc
      go_wp2_with fail
      go_ret
      refine⟨ao,sv.at_,rfl,hR2,hF.trans hs2.rf,?_,fun hb=> ?_⟩
      ·have hi:=skip_idem s q sv.bad hle
       rw [hq.out] at hi
       exact hi
      ·obtain⟨f,i,h1,h2,h3⟩:=ht.out hb
       exact⟨f,i,h1,h2,h3.keep hs2.rf⟩
     ·rw [hc,if_pos rfl] at hm'
      obtain⟨⟨r2,st2⟩,h2,h3⟩:=Option.bind_eq_some_iff.1 hm'
      obtain⟨⟨r3,st3⟩,h4,h5⟩:=Option.bind_eq_some_iff.1 h3
      obtain⟨hl,h6⟩:=addL_some h4
      cases h6
      have HH:=hide (And.intro h2 h5)
      have HX2:=hide (ML_ext s _ _ _ _ _ _ _ _ h2)
      clear hm' h2 h3 h4 h5
      go_wp2_with fail
      refine HSG.out.mono ?_
      rintro e w2 ⟨rfl,hR2,hs2⟩
      obtain⟨d0,d1,d2,g1,g2,_,_⟩:=id hR2
      have hcc:(pk s sv.at_ sv.bad==((38:UInt8).toNat:Int))=true:=hc
      go_wp2_with fail
      refine(eat_any b sv.at_ s _ sv.bad _ hR2 (by decide)).mono ?_
      rintro e w3 ⟨rfl,hR3,hs3⟩
      go_wp2_with fail
      refine(IH.out g (by omega) b _ _ _ r2 st2 HH.out.1 hR3 rfl).mono ?_
      rintro e w4 ⟨ao4,p4,rfl,hR4,hF4,hp4,ht4⟩
      have hF24:=(hs2.rf.trans hs3.rf).trans hF4
      have hbl:b<w4.heap.size:=block_lt_of_cell hR4.c0
      have HP4:=hide hp4
      have HT4:=hide ht4
      clear hp4 ht4
      go_wp2_with fail
      go_roundg g
      case measure=>omega
      case rel=>
       refine .inr ⟨rfl,by omega,_,p4,_,_,rfl,HH.out.2,?_,HP4,?_,hide (hX.out.trans ?_),hide fun hb=> ?_⟩
       ·exact hR4.other ((Below.heap_alloc _ _ _ (by simp;omega)).trans (Below.heap_alloc _ _ _ hbl))
       ·exact((hF.trans hF24).alloc _).alloc _
       ·exact HX2.out.trans ⟨⟨[_],rfl⟩,rfl,rfl,rfl⟩
       ·obtain⟨f4,i4,e4,l4,t4⟩:=HT4.out hb
        obtain⟨f0,i0,e0,l0,t0⟩:=ht.out HBD.out
        obtain⟨⟨F,hFE⟩,_,_,_⟩:=HX2.out
        have hFE:st2.L=sv.L++F:=hFE
        have hnode:=node_new hbl [.pointer ao,.pointer ao4] ⟨#[38,38]⟩ ⟨#[]⟩ sv.at_ (by simp)
        refine⟨f0+f4+1,st2.L.length,rfl,by simp,⟨1,⟨#[38,38]⟩,lv,r2,0,0,[]⟩,by simp,?_⟩
        refine .inr (.inl ⟨rfl,.pointer ao,.pointer ao4,i0,i4,_,l4.symm,e0,e4,.inr rfl,(hnode.low (Nat.le_trans hF.size hF24.size)).x,?_,?_⟩)
        ·have q1:=((t0.keep hF24).more F).ups f4
         rw [←hFE] at q1
         exact((q1.keep (((Rf.refl b w4).alloc _).alloc _)).more _)
        ·have q2:=t4.ups f0
         rw [Nat.add_comm f0 f4,l0]
         exact(((q2.low (Nat.le_trans hF.size (hs2.rf.trans hs3.rf).size)).keep (((Rf.refl b w4).alloc _).alloc _)).more _)
theorem lone_paren (s:ByteArray)(n:Nat)(b:Nat)(st:St)(w:World)(p:Nat)(r:Int)(st':St)(hM:ML s (n+1) 2 0 0 0 [] st=some (r,st'))(hR:Rd w b s p st.bad)(hp:skip s p st.bad=st.at_)
  (h4:(pkS s st==40)=true) (ih:OKRL s ⟨#[124,124]⟩ 0 n):
  Calls Tryz.prog 164 #[.pointer (some ⟨b,0,none⟩)] w fun e w'=>RPostL b s st st' r w e w':=by
 rw [ML_2,h4,if_pos rfl] at hM
 obtain⟨⟨r2,st2⟩,hm2,hm3⟩:=Option.bind_eq_some_iff.1 hM
 simp only [Option.some.injEq,Prod.mk.injEq] at hm3
 obtain⟨rfl,rfl⟩:=hm3
 have hbl:=blanksR_any b p s st.bad w hR
 rw [hp] at hbl
 have HBL:=hide hbl
 have hv:hereM s st.at_ st.bad=40:=by simpa using (hereM_eq (s:=s) (a:=st.at_) (d:=st.bad) (c:=40) (by omega)).trans h4
 have HMh:=hide hm2
 clear hM hbl hp h4 hm2
 go_enter Tryz.func164,Tryz.ntmps164
 go_wp2_with fail
 refine HBL.out.mono ?_
 rintro e w1 ⟨rfl,hR1,hs1⟩
 obtain⟨c0,c1,c2,f1,f2,_,_⟩:=id hR1
 have hb1:b<w1.heap.size:=block_lt_of_cell hR1.c0
 have hRa:Rd (w1.alloc (.cells #[.string ⟨#[]⟩,.string ⟨#[]⟩,.int .i64 st.at_,.slice none 0 0] 138)) b s st.at_ st.bad:=hR1.other (Below.heap_alloc _ _ _ hb1)
 have hga:=heap_alloc_new w1 (.cells #[.string ⟨#[]⟩,.string ⟨#[]⟩,.int .i64 st.at_,.slice none 0 0] 138)
 have hFa:Rf b w (w1.alloc (.cells #[.string ⟨#[]⟩,.string ⟨#[]⟩,.int .i64 st.at_,.slice none 0 0] 138)):=hs1.rf.alloc _
 have hz1:w.heap.size=w1.heap.size:=hs1.size.symm
 have HA:=hide (And.intro hRa (And.intro hga (And.intro hFa hz1)))
 clear hRa hga hFa hz1 hs1 hR
 go_wp2_with fail
 refine(here_any b st.at_ s st.bad _ HA.out.1).mono ?_
 rintro e w2 ⟨rfl,n2,rfl⟩
 rw [hv]
 go_wp2_with fail
 refine(eat_any b st.at_ s _ st.bad _ (by exact HA.out.1.drewN n2) (by decide)).mono ?_
 rintro e w3 ⟨rfl,hR3,hs3⟩
 have hF3:Rf b w w3:=(HA.out.2.2.1.drewN n2).trans hs3.rf
 go_wp2_with fail
 refine(ih b (sgn s [40] st) _ _ r2 st2 HMh.out hR3 rfl).mono ?_
 rintro e w4 ⟨ao4,p4,rfl,hR4,hF4,hp4,ht4⟩
 have HT4:=hide ht4
 have hb4:=blanksR_any b p4 s st2.bad w4 hR4
 rw [hp4] at hb4
 have HB4:=hide hb4
 clear ht4 hb4
 go_wp2_with fail
 refine HB4.out.mono ?_
 rintro e w5 ⟨rfl,hR5,hs5⟩
 go_wp2_with fail
 refine(eat_any b st2.at_ s _ st2.bad _ hR5 (by decide)).mono ?_
 rintro e w6 ⟨rfl,hR6,hs6⟩
 go_wp2_with fail
 go_ret
 refine⟨ao4,_,rfl,hR6,((hF3.trans hF4).trans hs5.rf).trans hs6.rf,rfl,fun hb=> ?_⟩
 have hb2:st2.bad=false:=by
  cases hq:st2.bad with
  |false=>rfl
  |true=>
   have h2:=(sgn_bad (s:=s) (c:=41) (cs:=[]) hq).1
   rw [h2] at hb
   cases hb
 obtain⟨f,i,q1,q2,q3⟩:=HT4.out hb2
 exact⟨f,i,q1,q2,((q3.low hF3.size).keep hs5.rf).keep hs6.rf⟩
theorem lone_name (s:ByteArray)(n:Nat)(b:Nat)(st:St)(w:World)(p:Nat)(r:Int)(st':St)(hM:ML s (n+1) 2 0 0 0 [] st=some (r,st'))(hR:Rd w b s p st.bad)(hp:skip s p st.bad=st.at_)
  (h1:isDigit (pkS s st)=false) (h4:(pkS s st==40)=false):
  Calls Tryz.prog 164 #[.pointer (some ⟨b,0,none⟩)] w fun e w'=>RPostL b s st st' r w e w':=by
 rw [ML_2,h4,if_neg (by decide),h1,if_neg (by decide)] at hM
 simp only at hM
 have hnm:=nameM_of s st.at_ st.bad
 have hbl:=blanksR_any b p s st.bad w hR
 rw [hp] at hbl
 have HBL:=hide hbl
 have t1:isDigit (hereM s st.at_ st.bad)=false:=(hereM_digit _ _ _).trans h1
 have t4:(hereM s st.at_ st.bad==40)=false:=(hereM_eq (by omega)).trans h4
 have HMh:=hide hM
 have HNM:=hide hnm
 clear hM hnm hbl hp h1 h4
 go_enter Tryz.func164,Tryz.ntmps164
 go_wp2_with fail
 refine HBL.out.mono ?_
 rintro e w1 ⟨rfl,hR1,hs1⟩
 obtain⟨c0,c1,c2,f1,f2,_,_⟩:=id hR1
 have hb1:b<w1.heap.size:=block_lt_of_cell hR1.c0
 have hRa:Rd (w1.alloc (.cells #[.string ⟨#[]⟩,.string ⟨#[]⟩,.int .i64 st.at_,.slice none 0 0] 138)) b s st.at_ st.bad:=hR1.other (Below.heap_alloc _ _ _ hb1)
 have hga:=heap_alloc_new w1 (.cells #[.string ⟨#[]⟩,.string ⟨#[]⟩,.int .i64 st.at_,.slice none 0 0] 138)
 have hFa:Rf b w (w1.alloc (.cells #[.string ⟨#[]⟩,.string ⟨#[]⟩,.int .i64 st.at_,.slice none 0 0] 138)):=hs1.rf.alloc _
 have hz1:w.heap.size=w1.heap.size:=hs1.size.symm
 have HA:=hide (And.intro hRa (And.intro hga (And.intro hFa hz1)))
 clear hRa hga hFa hz1 hs1 hR
 go_wp2_with fail
 refine(here_any b st.at_ s st.bad _ HA.out.1).mono ?_
 rintro e w2 ⟨rfl,n2,rfl⟩
 go_wp2_with fail
 refine(digit_any _ _ (hereM_range _ _ _)).mono ?_
 rintro e w2 ⟨rfl,rfl⟩
 rw [t1]
 go_wp2_with fail
 have hR2:Rd (((w1.alloc (.cells #[.string ⟨#[]⟩,.string ⟨#[]⟩,.int .i64 st.at_,.slice none 0 0] 138)).drewN n2).setCell ⟨w1.heap.size,0,none⟩ (.string ⟨#[110,97,109,101]⟩)) b s st.at_ st.bad:=(HA.out.1.drewN n2).other (Below.heap_setCell _ _ _ _ (by simp;omega))
 refine(nameR_any b st.at_ s st.bad _ hR2).mono ?_
 rintro e w3 ⟨rfl,hR3,hs3⟩
 have hg3:w3.heap[w1.heap.size]?=some (.cells #[.string ⟨#[110,97,109,101]⟩,.string ⟨#[]⟩,.int .i64 st.at_,.slice none 0 0] 138):=(hs3.block w1.heap.size (by omega)).trans (set0 HA.out.2.1 _)
 have hF3:Rf b w w3:=((HA.out.2.2.1.drewN n2).setCell (a:=⟨w1.heap.size,0,none⟩) (by rw [HA.out.2.2.2];exact Nat.le_refl _) _).trans hs3.rf
 obtain⟨y0,y1,y2,y3,yf⟩:=box4' hg3
 have hM:=HMh.out
 rw [HNM.out] at hM
 have hge:w.heap.size≤w1.heap.size:=Nat.le_of_eq HA.out.2.2.2
 have hnb:w1.heap.size≠b:=by omega
 clear HMh HNM HA HBL hR2 hs3 t1 t4 c0 c1 c2 f1 f2 hR1
 generalize nameR s st.at_ st.bad=q at*
 obtain⟨qp,qd,qt⟩:=q
 have hR3:Rd w3 b s qp qd:=hR3
 simp only at hM
 have hR4:=hR3.other (w':=w3.setCell ⟨w1.heap.size,1,none⟩ (.string qt)) (Below.heap_setCell _ _ _ _ (by simp;omega))
 have hg4:=set1 hg3 (.string qt)
 have hF4:=hF3.setCell (a:=⟨w1.heap.size,1,none⟩) hge (.string qt)
 obtain⟨hl,h6⟩:=addL_some hM
 cases h6
 have HF:=hide (And.intro hR4 (And.intro hg4 hF4))
 clear hM hF3 hF4 hR3 hR4 hg3 hg4
 go_wp2_with fail
 go_ret
 refine⟨_,qp,rfl,HF.out.1,HF.out.2.2,rfl,fun hb=> ?_⟩
 refine⟨1,st.L.length,rfl,by simp [St.put3],⟨0,qt,-1,-1,0,0,[]⟩,by simp [St.put3],?_⟩
 have hnode:Node b w.heap.size (w3.setCell ⟨w1.heap.size,1,none⟩ (.string qt)) (.pointer (some ⟨w1.heap.size,0,none⟩)) sName qt st.at_ []:=⟨w1.heap.size,_,rfl,hnb,hge,HF.out.2.1,World.ownsRow_nil _ _ _ _,by simp [Value.ownBlock]⟩
 exact .inl ⟨rfl,rfl,st.at_,hnode.x⟩
def KX (b g:Nat)(kv:Value)(k:Nat):Prop:=k=b∨k≤g∨kv.ownBlock=some k
structure Gr (b g:Nat)(W:World)(op tx:ByteArray)(a:Int)(kv:Value)(vs:List Value):Prop where
 ne:g≠b
 blt:b<W.heap.size
 cells:W.heap[g]?=some (.cells #[.string op,.string tx,.int .i64 a,kv] 138)
 own:W.ownsRow (g+1) 89 1 kv vs.length vs
 nb:kv.ownBlock≠some b
theorem Gr.lt {b g:Nat}{W:World}{op tx:ByteArray}{a:Int}{kv:Value}{vs:List Value}(h:Gr b g W op tx a kv vs):g<W.heap.size:=(Array.getElem?_eq_some_iff.1 h.cells).1
theorem Gr.rf {b g:Nat}{W W':World}{op tx:ByteArray}{a:Int}{kv:Value}{vs:List Value}(h:Gr b g W op tx a kv vs)(r:Rf b W W'):Gr b g W' op tx a kv vs:=
 ⟨h.ne,Nat.lt_of_lt_of_le h.blt r.size,(r.block g h.lt h.ne).trans h.cells,ownsRow_same h.own fun k e=>r.block k (h.own.lt k e).2 fun q=>h.nb (q▸e),h.nb⟩
theorem Gr.node {b g B:Nat}{W:World}{op tx:ByteArray}{a:Int}{kv:Value}{vs:List Value}(h:Gr b g W op tx a kv vs)(hB:B≤g):NodeX (Out b B) W (.pointer (some ⟨g,0,none⟩)) op tx a vs:=by
 refine⟨g,kv,rfl,fun e=> ?_,h.cells,ownsRow_low h.own (Nat.zero_le _),fun k e q=> ?_⟩
 ·have:=h.ne
  unfold Out at e
  omega
 ·have:=(h.own.lt k e).1
  rcases q with q|q
  ·exact h.nb (q▸e)
  ·omega
theorem set3 {w:World}{g:Nat}{a b c d:Value}{t:TypeId}(h:w.heap[g]?=some (.cells #[a,b,c,d] t))(v:Value):(w.setCell ⟨g,3,none⟩ v).heap[g]?=some (.cells #[a,b,c,v] t):=by
 simp only [World.setCell,Array.getElem?_modify,if_true]
 rw [h]
 rfl
theorem Gr.push {b g gb cap:Nat}{W w5:World}{op tx:ByteArray}{a:Int}{kv v:Value}{vs:List Value}(h:Gr b g W op tx a kv vs)
  (hown:w5.ownsRow (g+1) 89 1 (.slice (some ⟨gb,0,none⟩) (vs.length+1) cap) (vs.length+1) (vs++[v])) (hgrow:(W.alloc (.cells #[v] 89)).grownBy w5 kv.ownBlock) (hat:kv.ownBlock=some gb∨gb=W.heap.size+1):
  Gr b g (w5.setCell ⟨g,3,none⟩ (.slice (some ⟨gb,0,none⟩) (vs.length+1) cap)) op tx a (.slice (some ⟨gb,0,none⟩) (vs.length+1) cap) (vs++[v])∧
  SameX (fun k=>KX b g kv k∨W.heap.size≤k) W (w5.setCell ⟨g,3,none⟩ (.slice (some ⟨gb,0,none⟩) (vs.length+1) cap))∧
  (∀k,KX b g (.slice (some ⟨gb,0,none⟩) (vs.length+1) cap) k→KX b g kv k∨W.heap.size≤k)∧
  (w5.setCell ⟨g,3,none⟩ (.slice (some ⟨gb,0,none⟩) (vs.length+1) cap)).heap[b]?=W.heap[b]?∧
  (∀u,Rf b u W→u.heap.size≤g→Rf b u (w5.setCell ⟨g,3,none⟩ (.slice (some ⟨gb,0,none⟩) (vs.length+1) cap)))∧
  w5.cell? ⟨g,3,none⟩=some kv∧w5.frozen? ⟨g,3,none⟩=false:=by
 have hg:=h.lt
 have hb:=h.blt
 have hne:=h.ne
 have hbk: ∀k,k<W.heap.size→some k≠kv.ownBlock→w5.heap[k]?=W.heap[k]?:=fun k hk hn=>(hgrow.block k (by simp;omega) hn).trans (Below.heap_alloc _ _ _ hk)
 have hog:some g≠kv.ownBlock:=fun e=>by have:=(h.own.lt g e.symm).1;omega
 have h5:w5.heap[g]?=some (.cells #[.string op,.string tx,.int .i64 a,kv] 138):=(hbk g hg hog).trans h.cells
 have hgb:g<gb:=by
  rcases hat with e|e
  ·have:=(h.own.lt gb e).1;omega
  ·omega
 have hz:W.heap.size≤w5.heap.size:=Nat.le_trans (by simp) hgrow.size
 refine⟨⟨hne,?_,set3 h5 _,ownsRow_same (by simpa using hown) fun k e=>Below.heap_setCell _ _ _ _ ?_,?_⟩,?_,?_,?_,?_,(box4' h5).2.2.2.1,(box4' h5).2.2.2.2 3⟩
 ·simp [World.setCell];omega
 ·have:gb=k:=by simpa [Value.ownBlock] using e
  simp;omega
 ·intro e
  have e:gb=b:=by simpa [Value.ownBlock] using e
  rcases hat with q|q
  ·exact h.nb (e▸q)
  ·omega
 ·intro k hk hn
  have h1:k≠g:=fun e=>hn (.inl (.inr (.inl (by omega))))
  exact(Below.heap_setCell _ _ _ _ (by simpa using h1)).trans (hbk k hk fun e=>hn (.inl (.inr (.inr e.symm))))
 ·intro k e
  rcases e with e|e|e
  ·exact .inl (.inl e)
  ·exact .inl (.inr (.inl e))
  ·have e:gb=k:=by simpa [Value.ownBlock] using e
   rcases hat with q|q
   ·exact .inl (.inr (.inr (e▸q)))
   ·exact .inr (by omega)
 ·exact(Below.heap_setCell _ _ _ _ (by simpa using hne.symm)).trans (hbk b hb fun e=>h.nb e.symm)
 ·intro u hu hug
  have h1:Rf b W w5→Rf b u w5:=fun r=>hu.trans r
  refine Rf.setCell (a:=⟨g,3,none⟩) ?_ hug _
  exact(hu.alloc _).grown hgrow (fun k e=>by have:=(h.own.lt k e).1;omega)
theorem ownsRow_slc {w:World}{base e size n:Nat}{v:Value}{xs:List Value}(h:w.ownsRow base e size v n xs): ∃a c,v= .slice a n c:=by
 rcases h.2 with⟨h1,h2⟩|⟨g,cap,cur,hv,_⟩
 ·exact⟨none,0,by rw [h1,h2]⟩
 ·exact⟨_,_,hv⟩
theorem Gr.cell {b g:Nat}{W:World}{op tx:ByteArray}{a:Int}{kv:Value}{vs:List Value}(h:Gr b g W op tx a kv vs):W.cell? ⟨g,3,none⟩=some kv∧W.frozen? ⟨g,3,none⟩=false:=⟨(box4' h.cells).2.2.2.1,(box4' h.cells).2.2.2.2 3⟩
theorem seg_push {b g0 Ws:Nat}{w4 w6:World}{kv kv' v:Value}{L F:List Lc}{f f4:Nat}{vs:List Value}{its:List Int}{a e i:Nat}
  (h:SegV (fun v a i=>RefLX (KX b g0 kv) w4 L f v a i) vs its a e) (hn:RefLX (Out b Ws) w4 (L++F) f4 v e i) (hgW:g0<Ws) (hkW: ∀k,kv.ownBlock=some k→k<Ws)
  (hs:SameX (fun k=>KX b g0 kv k∨w4.heap.size≤k) w4 w6) (hk: ∀k,KX b g0 kv' k→KX b g0 kv k∨w4.heap.size≤k):
  SegV (fun v a i=>RefLX (KX b g0 kv') w6 (L++F) (f+f4) v a i) (vs++[v]) (its++[(i:Int)]) a (i+1):=by
 refine SegV.snoc _ _ _ e v i (SegV.imp (fun u c j q=> ?_) _ _ _ _ h) ?_
 ·exact((((q.more F).ups f4).cap).keepX hs).mono hk
 ·have hsub: ∀k,KX b g0 kv k→Out b Ws k:=fun k e=>by
   rcases e with e|e|e
   ·exact .inl e
   ·exact .inr (by omega)
   ·exact .inr (hkW k e)
  have h1:=((hn.ups f).cap).mono (X':=fun k=>KX b g0 kv k∨w4.heap.size≤k) (fun k e=>e.imp (hsub k) id)
  rw [Nat.add_comm f f4]
  exact(h1.keepX hs).mono hk
theorem KX_rf {b g0:Nat}{kv:Value}{w w':World}(h:Rf b w w'):SameX (KX b g0 kv) w w':=h.sameX (.inl rfl)
def OfTo (s:ByteArray)(at0 k:Int)(r:Int)(st':St)(g:Nat)(more:Bool)(its:List Int)(q:Nat)(sv:St):Prop:=
 if more then((ML s g 0 0 0 0 [] sv).bind fun r'=>ML s g 13 0 at0 k (its++[r'.1]) r'.2)=some (r,st') else(q=sv.at_∧addL (sgn s [41] sv) ⟨2,⟨#[]⟩,-1,-1,at0,k,its⟩=some (r,st'))
theorem lone_of (s:ByteArray)(n:Nat)(b:Nat)(st:St)(w:World)(p:Nat)(r:Int)(st':St)(hM:ML s (n+1) 3 0 0 0 [] st=some (r,st'))(hR:Rd w b s p st.bad)(hp:skip s p st.bad=st.at_)
  (h1:isDigit (pkS s st)=true) (h4:(pkS s st==40)=false) (ih: ∀m,m≤n→OKRL s ⟨#[124,124]⟩ 0 m):
  Calls Tryz.prog 164 #[.pointer (some ⟨b,0,none⟩)] w fun e w'=>RPostL b s st st' r w e w':=by
 rw [ML_3] at hM
 obtain⟨hbd,hat⟩:st.bad=false∧st.at_<s.size:=pk_lt (s:=s) (a:=st.at_) (d:=st.bad) (fun e=>by unfold pkS at h1;rw [e] at h1;revert h1;decide)
 obtain⟨c,hc⟩: ∃c:UInt8,hereM s st.at_ st.bad=(c.toNat:Int)∧pkS s st=(c.toNat:Int)∧48≤c.toNat∧c.toNat≤57:=by
  refine⟨s[st.at_],?_,?_,?_⟩
  ·unfold hereM;simp [hbd,hat,pk]
  ·unfold pkS;simp [hbd,hat,pk]
  ·have h:=h1
   unfold pkS pk isDigit at h
   simp [hbd,hat] at h
   omega
 have hbl:=blanksR_any b p s st.bad w hR
 rw [hp] at hbl
 have HBL:=hide hbl
 have t1:isDigit (c.toNat:Int)=true:=by rw [←hc.2.1];exact h1
 have hcv:=hc.1
 have hc40:((c.toNat:Int)==40)=false:=by rw [←hc.2.1];exact h4
 have HMh:=hide hM
 have HC:=hide hc
 have HBD:=hide hbd
 have IH:=hide ih
 have hcl:=c.toNat_lt
 clear hM hbl hp h1 h4 hc hbd ih
 go_enter Tryz.func164,Tryz.ntmps164
 go_wp2_with fail
 refine HBL.out.mono ?_
 rintro e w1 ⟨rfl,hR1,hs1⟩
 obtain⟨c0,c1,c2,f1,f2,_,_⟩:=id hR1
 have hb1:b<w1.heap.size:=block_lt_of_cell hR1.c0
 have hRa:Rd (w1.alloc (.cells #[.string ⟨#[]⟩,.string ⟨#[]⟩,.int .i64 st.at_,.slice none 0 0] 138)) b s st.at_ st.bad:=hR1.other (Below.heap_alloc _ _ _ hb1)
 have hga:=heap_alloc_new w1 (.cells #[.string ⟨#[]⟩,.string ⟨#[]⟩,.int .i64 st.at_,.slice none 0 0] 138)
 have hFa:Rf b w (w1.alloc (.cells #[.string ⟨#[]⟩,.string ⟨#[]⟩,.int .i64 st.at_,.slice none 0 0] 138)):=hs1.rf.alloc _
 have hz1:w.heap.size=w1.heap.size:=hs1.size.symm
 have HA:=hide (And.intro hRa (And.intro hga (And.intro hFa hz1)))
 clear hRa hga hFa hz1 hs1 hR
 go_wp2_with fail
 refine(here_any b st.at_ s st.bad _ HA.out.1).mono ?_
 rintro e w2 ⟨rfl,n2,rfl⟩
 rw [hcv]
 go_wp2_with fail
 refine(digit_any _ _ (by omega)).mono ?_
 rintro e w2 ⟨rfl,rfl⟩
 rw [t1]
 have hnb:w1.heap.size≠b:=by omega
 have hnb2:w1.heap.size+1≠b:=by omega
 have hblk: ∀(o q:Obj) (v:Value),((((w1.alloc o).drewN n2).setCell ⟨w1.heap.size,0,none⟩ v).alloc q).heap[b]?=w1.heap[b]?:=fun o q v=>by
  rw [Below.heap_alloc _ _ _ (by simp [World.drewN,World.setCell];omega),Below.heap_setCell _ _ _ _ (by simp;omega)]
  exact Below.heap_alloc _ _ _ hb1
 have hcz: ∀(o q:Obj) (v:Value),((((w1.alloc o).drewN n2).setCell ⟨w1.heap.size,0,none⟩ v).alloc q).cell? ⟨b,1,none⟩=some (.int .i64 st.at_):=fun o q v=>(World.cell?_of_block (w:=w1) (hblk o q v)).trans c1
 have hfz: ∀(o q:Obj) (v:Value),((((w1.alloc o).drewN n2).setCell ⟨w1.heap.size,0,none⟩ v).alloc q).frozen? ⟨b,1,none⟩=false:=fun o q v=>(World.frozen?_of_block (w:=w1) (hblk o q v)).trans f1
 have hconv: ∀(o:Obj) (v:Value),Sem.run Tryz.prog (convert 142 9 (.slice (some ⟨w1.heap.size+1,0,none⟩) 1 1)) ((((w1.alloc o).drewN n2).setCell ⟨w1.heap.size,0,none⟩ v).alloc (.cells #[.int .u8 c.toNat] 5))= .ok (.string ⟨#[c]⟩) ((((w1.alloc o).drewN n2).setCell ⟨w1.heap.size,0,none⟩ v).alloc (.cells #[.int .u8 c.toNat] 5)):=fun o v=>by
  have h:=heap_alloc_new (((w1.alloc o).drewN n2).setCell ⟨w1.heap.size,0,none⟩ v) (.cells #[.int .u8 c.toNat] 5)
  rw [show(((w1.alloc o).drewN n2).setCell ⟨w1.heap.size,0,none⟩ v).heap.size=w1.heap.size+1 by simp [World.drewN,World.setCell]] at h
  rw [conv1 _ _ c.toNat ((cell_of_row _ _ 0 _ _ _ h).trans rfl)]
  simp
 clear hblk
 go_wp2_with fail
 have hR2:Rd ((((((w1.alloc (.cells #[.string ⟨#[]⟩,.string ⟨#[]⟩,.int .i64 st.at_,.slice none 0 0] 138)).drewN n2).setCell ⟨w1.heap.size,0,none⟩ (.string ⟨#[111,102]⟩)).setCell ⟨w1.heap.size,1,none⟩ (.string ⟨#[c]⟩)).setCell ⟨b,1,none⟩ (.int .i64 (st.at_+1))).alloc (.cells #[.int .u8 c.toNat] 5)) b s (st.at_+1) false:=by
  have h1:=((HA.out.1.drewN n2).other (w':=((w1.alloc (.cells #[.string ⟨#[]⟩,.string ⟨#[]⟩,.int .i64 st.at_,.slice none 0 0] 138)).drewN n2).setCell ⟨w1.heap.size,0,none⟩ (.string ⟨#[111,102]⟩)) (Below.heap_setCell _ _ _ _ (by simp;omega)))
  have h2:=h1.other (w':=(((w1.alloc (.cells #[.string ⟨#[]⟩,.string ⟨#[]⟩,.int .i64 st.at_,.slice none 0 0] 138)).drewN n2).setCell ⟨w1.heap.size,0,none⟩ (.string ⟨#[111,102]⟩)).setCell ⟨w1.heap.size,1,none⟩ (.string ⟨#[c]⟩)) (Below.heap_setCell _ _ _ _ (by simp;omega))
  have h3:=h2.setAt' (st.at_+1) (st.at_+1) (by omega) hat
  rw [HBD.out] at h3
  exact h3.other (Below.heap_alloc _ _ _ (by simp [World.drewN,World.setCell];omega))
 have hG2:Gr b w1.heap.size ((((((w1.alloc (.cells #[.string ⟨#[]⟩,.string ⟨#[]⟩,.int .i64 st.at_,.slice none 0 0] 138)).drewN n2).setCell ⟨w1.heap.size,0,none⟩ (.string ⟨#[111,102]⟩)).setCell ⟨w1.heap.size,1,none⟩ (.string ⟨#[c]⟩)).setCell ⟨b,1,none⟩ (.int .i64 (st.at_+1))).alloc (.cells #[.int .u8 c.toNat] 5)) sOf ⟨#[c]⟩ st.at_ (.slice none 0 0) []:=by
  have h2:=set1 (set0 HA.out.2.1 (.string ⟨#[111,102]⟩)) (.string ⟨#[c]⟩)
  refine⟨hnb,by simp [World.drewN,World.setCell];omega,?_,World.ownsRow_nil _ _ _ _,by simp [Value.ownBlock]⟩
  rw [Below.heap_alloc _ _ _ (by simp [World.drewN,World.setCell]),Below.heap_setCell _ _ _ _ (by simpa using hnb)]
  exact h2
 have hF2:Rf b w ((((((w1.alloc (.cells #[.string ⟨#[]⟩,.string ⟨#[]⟩,.int .i64 st.at_,.slice none 0 0] 138)).drewN n2).setCell ⟨w1.heap.size,0,none⟩ (.string ⟨#[111,102]⟩)).setCell ⟨w1.heap.size,1,none⟩ (.string ⟨#[c]⟩)).setCell ⟨b,1,none⟩ (.int .i64 (st.at_+1))).alloc (.cells #[.int .u8 c.toNat] 5)):=by
  have hz:=HA.out.2.2.2
  exact((((HA.out.2.2.1.drewN n2).setCell (a:=⟨w1.heap.size,0,none⟩) (by rw [hz];exact Nat.le_refl _) _).setCell (a:=⟨w1.heap.size,1,none⟩) (by rw [hz];exact Nat.le_refl _) _).setB 1 _).alloc _
 have hzz:w.heap.size≤w1.heap.size:=Nat.le_of_eq HA.out.2.2.2
 clear hcz hfz hconv HA c0 c1 c2 f1 f2 hR1 HBL
 generalize ((((((w1.alloc (.cells #[.string ⟨#[]⟩,.string ⟨#[]⟩,.int .i64 st.at_,.slice none 0 0] 138)).drewN n2).setCell ⟨w1.heap.size,0,none⟩ (.string ⟨#[111,102]⟩)).setCell ⟨w1.heap.size,1,none⟩ (.string ⟨#[c]⟩)).setCell ⟨b,1,none⟩ (.int .i64 (st.at_+1))).alloc (.cells #[.int .u8 c.toNat] 5))=W0 at*
 refine(eat_any b (st.at_+1) s _ false _ hR2 (by decide)).mono ?_
 rintro e w3 ⟨rfl,hR3,hs3⟩
 have HG3:=hide (hG2.rf hs3.rf)
 have hF3:=hF2.trans hs3.rf
 generalize w1.heap.size=g0 at*
 clear hG2 hF2 hs3
 obtain⟨i0,hi,hz0,hz1,hz2⟩:=info_parts info89
 go_wp2_with fail
 go_loopg [5,6] n (fun g mv _ wr=>g≤n∧ ∃(more:Bool) (kv:Value) (vs:List Value) (its:List Int) (q:Nat) (sv:St),mv= .bool more∧Rd wr b s q sv.bad∧Hid (skip s q sv.bad=sv.at_)∧Hid (Gr b g0 wr sOf ⟨#[c]⟩ st.at_ kv vs)∧Rf b w wr∧Hid (vs.length=its.length)∧Hid (ExtL st sv)∧Hid (sv.bad=false→ ∃f,SegV (fun v a i=>RefLX (KX b g0 kv) wr sv.L f v a i) vs its st.L.length sv.L.length)∧Hid (OfTo s st.at_ (pkS s st - 48) r st' g more its q sv))
 case atStart=>
  have hb0:=HBD.out
  refine⟨Nat.le_refl _,true,_,[],[],(wordM s false [45,111,102,40] (st.at_+1)).1,sgn s [45,111,102,40] {st with at_:=st.at_+1},rfl,?_,?_,HG3,hF3,rfl,hide ⟨⟨[],by simp [sgn,St.put]⟩,rfl,rfl,rfl⟩,hide fun _=>⟨0,rfl⟩,?_⟩
  ·show Rd w3 b s _ (signM s st.bad [45,111,102,40] (st.at_+1)).2
   rw [hb0]
   exact hR3
  ·show skip s _ (signM s st.bad [45,111,102,40] (st.at_+1)).2=(signM s st.bad [45,111,102,40] (st.at_+1)).1
   rw [hb0]
   rfl
  ·show OfTo _ _ _ _ _ _ _ _ _ _
   unfold OfTo
   rw [if_pos rfl]
   exact HMh.out
 case round=>
  obtain⟨hgn,more,kv,vs,its,q,sv,rfl,hRq,hq,hG,hF,hlen,hX,ht,hto⟩:=hrel
  have hto':=hto.out
  clear hto HG3
  unfold OfTo at hto'
  cases more with
  |false=>
   rw [if_neg (by decide)] at hto'
   obtain⟨rfl,hadd⟩:=hto'
   obtain⟨hl,h6⟩:=addL_some hadd
   cases h6
   clear hadd
   go_wp2_with fail
   refine(eat_any b sv.at_ s _ sv.bad _ hRq (by decide)).mono ?_
   rintro e w9 ⟨rfl,hR9,hs9⟩
   go_wp2_with fail
   go_ret
   refine⟨_,_,rfl,hR9,hF.trans hs9.rf,rfl,fun hb=> ?_⟩
   have hb2:sv.bad=false:=by
    cases hq:sv.bad with
    |false=>rfl
    |true=>
     have h2:=(sgn_bad (s:=s) (c:=41) (cs:=[]) hq).1
     rw [h2] at hb
     cases hb
   obtain⟨f,hseg⟩:=ht.out hb2
   have hsz:(sgn s [41] sv).L=sv.L:=rfl
   refine⟨f+1,sv.L.length,rfl,by simp [hsz],⟨2,⟨#[]⟩,-1,-1,st.at_,pkS s st - 48,its⟩,by simp [hsz],?_⟩
   have hh:=HC.out
   refine .inr (.inr ⟨rfl,vs,c,by rw [hh.2.1],hh.2.2.1,hh.2.2.2,(hG.out.rf hs9.rf).node hzz,SegV.imp (fun v a i q=> ?_) _ _ _ _ hseg⟩)
   exact((q.more _).keepX (KX_rf hs9.rf)).mono fun k e=>e.imp id fun e=> .inl (by omega)
  |true=>
   rw [if_pos rfl] at hto'
   obtain⟨⟨r1,st1⟩,hm1,hm2⟩:=Option.bind_eq_some_iff.1 hto'
   simp only at hm2
   obtain⟨c0,c1,c2,f1,f2,hle,hsz⟩:=id hRq
   obtain⟨bd,HBQ⟩: ∃bd,Hid (sv.bad=bd):=⟨_,rfl⟩
   rw [HBQ.out] at c2
   cases bd with
   |true=>
    have k1:=ML_bad s _ _ _ _ _ _ _ _ hm1 (by omega) HBQ.out
    have k2:=ML_bad s _ _ _ _ _ _ _ _ hm2 (by omega) k1.1
    have hb':Hid (st'.bad=true):=hide k2.1
    have hat':Hid (st'.at_=q):=hide (by
     have h:=hq.out
     rw [HBQ.out,skip_bad] at h
     rw [h]
     exact k2.2.trans k1.2)
    have hRq':Rd wr b s q true:=by rw [←HBQ.out];exact hRq
    clear hto' hm1 hm2 k1 k2 hRq
    go_wp2_with fail
    refine(eat_any b q s _ true _ hRq' (by decide)).mono ?_
    rintro e w9 ⟨rfl,hR9,hs9⟩
    rw [wordM_bad] at hR9
    go_wp2_with fail
    go_ret
    refine⟨_,q,rfl,?_,hF.trans hs9.rf,?_,fun hb=> ?_⟩
    ·rw [hb'.out];exact hR9
    ·rw [hb'.out,skip_bad,hat'.out]
    ·rw [hb'.out] at hb;cases hb
   |false=>
    cases gk with
    |zero=>exact absurd hm1 (by simp [ML])
    |succ g=>
     rw [ML_13] at hm2
     have hil:(its++[r1]).length<100000:=by
      by_cases hx:(its++[r1]).length<100000
      ·exact hx
      ·rw [if_neg hx] at hm2;cases hm2
     rw [if_pos hil] at hm2
     simp at hil
     have hvl:vs.length<99999:=by have:=hlen.out;omega
     have HX1:=hide (ML_ext s _ _ _ _ _ _ _ _ hm1)
     have HM1:=hide hm1
     have HM2:=hide hm2
     clear hto' hm1 hm2
     go_wp2_with fail
     refine(IH.out (g+1) hgn b sv _ _ r1 st1 HM1.out hRq hq.out).mono ?_
     rintro e w4 ⟨ao4,p4,rfl,hR4,hF4,hp4,ht4⟩
     have hG4:=hG.out.rf hF4
     obtain⟨a5,k5,rfl⟩:=ownsRow_slc hG4.own
     obtain⟨z1,z2⟩:=hG4.cell
     have how:=hG4.own
     have hglt:=hG4.lt
     have HT4:=hide ht4
     have HP4:=hide hp4
     have HG4:=hide hG4
     clear ht4 hp4 hG4
     go_wp2_with (at_builtin;go_must (refine wpList_append_lies _ rfl (.tmp 71) (.tmp 73) 136 rfl (g0+1) 89 i0 _ 1 8 Tryz.underlying136 hi hz0 hz1 hz2 rfl (by omega) _ vs.length vs rfl (how.alloc _) ⟨w4.heap.size,0,none⟩ 1 1 [.pointer ao4] rfl rfl ?news ?one (by omega) ?mm ?bys ?base (w4.heap.size+1) (by simp) ?rest))
     case news=>exact World.news_of_block (heap_alloc_new w4 _)
     case one=>intro u hu;simp at hu;subst hu;rfl
     case mm=>unfold maxLen;omega
     case bys=>omega
     case base=>simp;omega
     case rest=>
      intro gb cap w5 hown hgrow hat2 hlt2
      have hpush:=HG4.out.push hown hgrow hat2
      obtain⟨hG6,hsame,hkx,hb6,hrf6,y1,y2⟩:=hpush
      have hR6:=hR4.other hb6
      have hF6:=hrf6 w (hF.trans hF4) hzz
      have HG6:=hide hG6
      have HSM:=hide (And.intro hsame hkx)
      have hsg:=sign1_any b p4 s 44 st1.bad _ hR6
      rw [HP4.out] at hsg
      have HSG:=hide hsg
      clear hG6 hsame hkx hb6 hrf6 hown hgrow hat2 hlt2 hsg how z1 z2
      go_wp2_with fail
      have hseg:Hid (st1.bad=false→ ∃(f:Nat) (i:Nat),r1=(i:Int)∧SegV (fun v a i=>RefLX (KX b g0 (.slice (some ⟨gb,0,none⟩) (vs.length+1) cap)) (w5.setCell ⟨g0,3,none⟩ (.slice (some ⟨gb,0,none⟩) (vs.length+1) cap)) st1.L f v a i) (vs++[.pointer ao4]) (its++[r1]) st.L.length st1.L.length):=hide fun hb=>by
       obtain⟨f4,i4,e4,l4,t4⟩:=HT4.out hb
       obtain⟨f0,t0⟩:=ht.out HBQ.out
       obtain⟨⟨F,hFE⟩,_,_,_⟩:=HX1.out
       have hFE:st1.L=sv.L++F:=hFE
       rw [hFE] at t4
       have hp:=seg_push (SegV.imp (fun v a i q=>q.keepX (KX_rf hF4)) _ _ _ _ t0) t4 hG.out.lt (fun k e=>(hG.out.own.lt k e).2) HSM.out.1 HSM.out.2
       refine⟨f0+f4,i4,e4,?_⟩
       rw [←l4,hFE,e4]
       exact hp
      have hX6:=hide (hX.out.trans HX1.out)
      have hLN:Hid ((vs++[Value.pointer ao4]).length=(its++[r1]).length):=hide (by have:=hlen.out;simp;omega)
      clear HSM HT4 HX1 ht hX hlen hG HG4 y1 y2
      refine HSG.out.mono ?_
      rintro e w7 ⟨rfl,hR7,hs7⟩
      have HG7:=hide (HG6.out.rf hs7.rf)
      have hF7:=hF6.trans hs7.rf
      have hm2:=HM2.out
      clear HM2 HM1 HG6
      cases hc:(pkS s st1==44)
      ·rw [hc,if_neg (by decide)] at hm2
       have hcc:(pk s st1.at_ st1.bad==((44:UInt8).toNat:Int))=false:=hc
       rw [hcc]
       have HM2:=hide hm2
       clear hm2 hc
       go_wp2_with fail
       go_roundg g
       case measure=>omega
       case rel=>
        refine⟨by omega,false,_,_,_,st1.at_,st1,rfl,hR7,?_,HG7,hF7,hLN,hX6,hide fun hb=> ?_,?_⟩
        ·have hi:=skip_idem s p4 st1.bad hR4.le
         rw [HP4.out] at hi
         exact hi
        ·obtain⟨f,i,e,q⟩:=hseg.out hb
         exact⟨f,SegV.imp (fun v a i q=>q.keepX (KX_rf hs7.rf)) _ _ _ _ q⟩
        ·show OfTo _ _ _ _ _ _ _ _ _ _
         unfold OfTo
         rw [if_neg (by decide)]
         exact⟨rfl,HM2.out⟩
      ·rw [hc,if_pos rfl] at hm2
       have hcc:(pk s st1.at_ st1.bad==((44:UInt8).toNat:Int))=true:=hc
       rw [hcc]
       have HM2:=hide hm2
       clear hm2 hc
       go_wp2_with fail
       refine(eat_any b st1.at_ s _ st1.bad _ hR7 (by decide)).mono ?_
       rintro e w8 ⟨rfl,hR8,hs8⟩
       go_wp2_with fail
       go_roundg g
       case measure=>omega
       case rel=>
        refine⟨by omega,true,_,_,_,_,sgn s [44] st1,rfl,hR8,rfl,hide (HG7.out.rf hs8.rf),hF7.trans hs8.rf,hLN,hX6,hide fun hb=> ?_,?_⟩
        ·have hb2:st1.bad=false:=by
          cases hq:st1.bad with
          |false=>rfl
          |true=>
           have h2:=(sgn_bad (s:=s) (c:=44) (cs:=[]) hq).1
           rw [h2] at hb
           cases hb
         obtain⟨f,i,e,q⟩:=hseg.out hb2
         exact⟨f,SegV.imp (fun v a i q=>(q.keepX (KX_rf hs7.rf)).keepX (KX_rf hs8.rf)) _ _ _ _ q⟩
        ·show OfTo _ _ _ _ _ _ _ _ _ _
         unfold OfTo
         rw [if_pos rfl]
         exact HM2.out
theorem lone_step (s:ByteArray)(n:Nat)(ih: ∀m,m≤n→OKRL s ⟨#[124,124]⟩ 0 m):OKRO s (n+1):=by
 intro b st w p r st' hM hR hp
 cases h4:(pkS s st==40)
 ·cases h1:isDigit (pkS s st)
  ·exact lone_name s n b st w p r st' hM hR hp h1 h4
  ·rw [ML_2,h4,if_neg (by decide),h1,if_pos rfl] at hM
   cases n with
   |zero=>simp [ML] at hM
   |succ m=>exact lone_of s m b st w p r st' hM hR hp h1 h4 fun k hk=>ih k (by omega)
 ·exact lone_paren s n b st w p r st' hM hR hp h4 (ih n (Nat.le_refl _))
theorem all_RL (s:ByteArray): ∀n,OKRL s ⟨#[124,124]⟩ 0 n∧OKRL s ⟨#[38,38]⟩ 1 n∧OKRO s n:=by
 intro n
 induction n using Nat.strongRecOn with
 |_ n ih=>
  cases n with
  |zero=>exact⟨fun b st w p r st' h=>by simp [ML] at h,fun b st w p r st' h=>by simp [ML] at h,fun b st w p r st' h=>by simp [ML] at h⟩
  |succ n=>exact⟨lic_0 s n fun m h=>(ih m (by omega)).2.1,lic_1 s n fun m h=>(ih m (by omega)).2.2,lone_step s n fun m h=>(ih m (by omega)).1⟩
end Go.Proofs.YtkoohcilbpdgeaaGreatDoor
