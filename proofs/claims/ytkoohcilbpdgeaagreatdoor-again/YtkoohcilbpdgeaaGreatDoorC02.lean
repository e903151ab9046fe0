import Derived.Test.YtkoohcilbpdgeaaGreatDoorProg
import Derived.Deep.LoopGhost
import Derived.Deep.AppendLies
import Derived.Test.YtkoohcilbpdgeaaGreatDoorC01
set_option linter.all false
set_option linter.unusedVariables false
set_option linter.unusedSimpArgs false
set_option linter.unnecessarySimpa false
set_option linter.constructorNameAsVariable false
set_option linter.deprecated false
set_option maxRecDepth 100000
set_option maxHeartbeats 6400000
namespace Go.Proofs.YtkoohcilbpdgeaaGreatDoor
open Go Go.RowKit
attribute [local go_sem] wrap64_byte
theorem z3N (W:World)(H:Nat)(hH:W.heap.size=H)(cs:Array Value)(t:TypeId): ∀j u,cs.toList[j]?=some u→(W.alloc (.cells cs t)).cell? ((⟨H,0,none⟩:Addr).add j)=some u:=by
 subst hH
 exact World.news_of_block (heap_alloc_new _ _)
theorem zdA {w:World}{g:Nat}{a b c d:Value}{t:TypeId}(h:w.heap[g]?=some (.cells #[a,b,c,d] t))(p q r u:Value):
  ((((w.setCell ⟨g,0,none⟩ p).setCell ⟨g,1,none⟩ q).setCell ⟨g,2,none⟩ r).setCell ⟨g,3,none⟩ u).heap[g]?=some (.cells #[p,q,r,u] t):=by
 simp [World.setCell,Array.getElem?_modify,h]
theorem z8l (s:zgS)(n:Nat)(ih: ∀m,m≤n→zfz s m):zfD s (n+1):=by
 intro X b st w r c st' hM hI hX
 rw [z8h] at hM
 obtain⟨⟨l1,k1,st1⟩,h1,h2⟩:=zgD.1 hM
 have IH:=z8 ih
 have H1:=z8 h1
 have H2:=z8 h2
 have HX:=z8 hX
 clear hM h1 h2 ih
 obtain⟨Y,hY⟩:=z5D (e:=156) (size:=4) hI hX (Fr.refl X w)
 clear hX hI
 go_enter Tryz.func162,Tryz.ntmps162
 go_wp2_with fail
 refine(IH.out n (zgH _) Y b _ _ l1 k1 st1 H1.out hY.inv hY.lt).mono ?_
 rintro e w1 ⟨rfl,hI1,hF1⟩
 have hY1:=hY.call hI1 hF1
 clear hY hI1 hF1
 have hw1:=z8 hY1.fr.size
 obtain⟨i0,hi,hz0,hz1,hz2⟩:=info_parts info156
 have how:=hY1.own
 have hbl:=hY1.inv.lt
 go_wp2_with (at_builtin;go_must (refine wpList_append_lies _ rfl (.tmp 8) (.tmp 10) 131 rfl (b+1) 156 i0 _ 4 40 Tryz.underlying131 hi hz0 hz1 hz2 rfl (by omega) _ 0 _ rfl ((how.alloc _).alloc _) ⟨w1.heap.size+1,0,none⟩ 1 1 (Cl.cells k1) rfl rfl ?news ?one (by omega) ?mm ?bys ?base (w1.heap.size+2) (by simp) ?rest))
 case news=>exact z7r w1 _ _ _
 case one=>intro u hu;simp [Cl.cells] at hu;rcases hu with rfl|rfl|rfl|rfl<;>rfl
 case mm=>unfold maxLen;omega
 case bys=>omega
 case base=>simp;omega
 case rest=>
  intro gb cap w2 hown hgrow hat hlt2
  have hH:=(hY1.more (.cells #[.int .i64 k1.test,.int .i64 k1.form,.string k1.result,.int .i64 k1.inner] 156)).grown hown (zW (World.grownBy_alloc _ _ _) hgrow) (fun k e=>by
   have:gb=k:=by simpa [Value.ownBlock] using e
   subst this
   exact hat.imp id fun e=>by simp;omega) HX.out
  have hne:gb≠w1.heap.size:=by
   intro q
   rcases hat with q1|q1
   ·have:w.heap.size=gb:=by simpa [Value.ownBlock] using q1
    have hz:=(how.lt w.heap.size (by simp [Value.ownBlock])).2
    omega
   ·omega
  have hbx:w2.heap[w1.heap.size]?=some (.cells #[.int .i64 k1.test,.int .i64 k1.form,.string k1.result,.int .i64 k1.inner] 156):=by
   have hz:=(how.lt w.heap.size (by simp [Value.ownBlock])).2
   rw [hgrow.block w1.heap.size (by simp;omega) (by simp [Value.ownBlock];omega),zgJ _ _ _ (by simp)]
   exact heap_alloc_new w1 _
  clear hgrow hat hown how hY1 hlt2 hbl
  go_wp2_with fail
  generalize hH1:w1.heap.size=g4 at*
  have HH1:=z8 hH1
  clear hH1
  go_loopg [3] n (fun k v wr=>k≤n∧ ∃(cl:List Cl) (sv:St) (Z:Nat→Prop) (a0 a1 a2 a3:Value),0<cl.length∧Hid (MC s k 2 cl sv=some (r,c,st'))∧HeldY X Z w wr b s sv 156 4 v cl.length ((cl.map Cl.cells).flatten)∧Z g4∧v.ownBlock≠some g4∧wr.heap[g4]?=some (.cells #[a0,a1,a2,a3] 156))
  case atStart=>exact⟨zgH _,[k1],st1,_,_,_,_,_,Nat.zero_lt_one,H2,hH,Or.inl (Or.inr rfl),by simpa [Value.ownBlock] using hne,hbx⟩
  case round=>
   obtain⟨hkn,cl,sv,Z,a0,a1,a2,a3,hpos,hm,hZ,hZ4,hne4,hb4⟩:=hrel
   obtain⟨g5,cap5,rfl,_,_⟩:=hZ.own.form hpos
   cases gk with
   |zero=>exact absurd hm.out (by simp [MC])
   |succ k=>
    have hm':=hm.out
    rw [z7k] at hm'
    clear hm hH hbx hne
    have hil:cl.length<100000:=by
     by_cases hx:cl.length<100000
     ·exact hx
     ·rw [if_neg hx] at hm';cases hm'
    rw [if_pos hil] at hm'
    have hrd:=hZ.inv.rd
    cases hc:(pkS s sv==59)
    ·rw [hc,if_neg (by decide)] at hm'
     have hc:(pk s sv.at_ sv.bad==59)=false:=hc
     obtain⟨⟨r3,st3⟩,h3,h4⟩:=zgD.1 hm'
     obtain⟨hl,h6⟩:=jy h3
     cases h6
     simp only [Option.some.injEq,Prod.mk.injEq] at h4
     obtain⟨rfl,rfl,rfl⟩:=h4
     clear hm' H2 h3
     have hZd:=fun m=>hZ.drewN m
     obtain⟨i1,hi1,hy0,hy1,hy2⟩:=info_parts info133
     obtain⟨V,iv,cv,g⟩:=hZ.inv
     have hlt6:=g.rows.lt
     have hcc:=g.rows.cell 6 (by omega) (by omega)
     have hff:=g.rows.froz 6 (by omega) (by omega)
     have how6:=g.rows.own 6 (by omega) (by omega)
     have HS:=z8 (hZ.side HX.out g)
     have HG:=z8 (g.mono hZ.sub)
     have HX6:=z8 (hZ.fr.lt HX.out)
     have HF6:=z8 hZ.fr
     clear g hZ hZd hb4 hne4
     go_wp2_with (first|(go_at_call 78;refine(zn _ _ _ _ _ hrd).mono ?_;rintro e w5 ⟨rfl,n2,rfl⟩)|(at_builtin;go_must (refine wpList_append_lies _ rfl (.tmp 28) (.tmp 31) 52 rfl (b+1) 133 i1 _ 1 24 Tryz.underlying52 hi1 hy0 hy1 hy2 rfl (by omega) (V 6) sv.C.length _ rfl (by exact how6.alloc _) ⟨wr.heap.size,0,none⟩ 1 1 [.slice (some ⟨g5,0,none⟩) cl.length cap5] rfl rfl ?news2 ?one2 (by omega) ?mm2 ?bys2 ?base2 (wr.heap.size+1) (by simp) ?rest2)))
     case news2=>exact World.news_of_block (heap_alloc_new wr _)
     case one2=>intro x hx;simp at hx;subst hx;rfl
     case mm2=>unfold maxLen;omega
     case bys2=>omega
     case base2=>simp;omega
     case rest2=>
      intro gb cap w7 hown hgrow hat hlt2
      have hg:=zW (World.grownBy_alloc wr _ _) ⟨hgrow.os,hgrow.tape,hgrow.output,hgrow.size,hgrow.block⟩
      obtain⟨q1,q2,hfr⟩:=HG.out.grown (o:=6) (by omega) (by omega) hg HX6.out
      have hI7:=HG.out.pushC cl _ HS.out hown hg (fun k e=>by
       have:gb=k:=by simpa [Value.ownBlock] using e
       subst this
       exact hat.imp id fun e=>by omega) HX6.out
      have hfr:=hfr (.slice (some ⟨gb,0,none⟩) (sv.C.length+1) cap)
      clear hgrow hat hown hg how6
      go_wp2_with fail
      go_ret
      exact⟨by simp,hI7,HF6.out.trans hfr⟩
    ·rw [hc,if_pos rfl] at hm'
     have hc:(pk s sv.at_ sv.bad==59)=true:=hc
     obtain⟨⟨r2,k2,st2⟩,h2,h3⟩:=zgD.1 hm'
     have HH:=z8 (zgI h2 h3)
     clear hm' h2 h3
     go_wp2_with (first|(go_at_call 78;refine(zn _ _ _ _ _ hrd).mono ?_;rintro e w5 ⟨rfl,n2,rfl⟩)|(go_at_call 114;refine(zP b _ s _ _ _ (by exact hrd.drewN _) (by decide)).mono ?_;rintro e w6 ⟨rfl,hr6,hs6⟩))
     have hZ6:=(hZ.drewN n2).sc hr6 hs6
     have hb6:w6.heap[g4]?=some (.cells #[a0,a1,a2,a3] 156):=(hs6.block g4 (fun e=>hZ.inv.nob (e▸hZ4))).trans hb4
     refine(IH.out k (by omega) Z b _ _ r2 k2 st2 HH.out.1 hZ6.inv hZ6.lt).mono ?_
     rintro e w7 ⟨rfl,hI7,hF7⟩
     have hZ7:=hZ6.call hI7 hF7
     have hb7:=(hF7.block g4 hZ4).trans hb6
     clear hZ hr6 hs6 hrd hc hZ6 hI7 hF7 hb6 hb4
     have hw4:w.heap.size≤g4:=hw1.out
     have hZ8:=(((hZ7.setCell (a:=⟨g4,0,none⟩) hZ4 hne4 hw4 HX.out (.int .i64 k2.test)).setCell (a:=⟨g4,1,none⟩) hZ4 hne4 hw4 HX.out (.int .i64 k2.form)).setCell (a:=⟨g4,2,none⟩) hZ4 hne4 hw4 HX.out (.string k2.result)).setCell (a:=⟨g4,3,none⟩) hZ4 hne4 hw4 HX.out (.int .i64 k2.inner)
     have hb8:=zdA hb7 (.int .i64 k2.test) (.int .i64 k2.form) (.string k2.result) (.int .i64 k2.inner)
     obtain⟨d0,d1,d2,d3,df⟩:=zfl hb7
     have how7:=hZ8.own
     have hbl7:=hZ7.inv.lt
     have HZ8:=z8 hZ8
     have HB8:=z8 hb8
     have hg4:=z8 (Array.getElem?_eq_some_iff.1 hb7).1
     clear hZ7 hb7 hZ8 hb8
     go_wp2_with (at_builtin;go_must (refine wpList_append_lies _ rfl (.tmp 19) (.tmp 21) 131 rfl (b+1) 156 i0 _ 4 40 Tryz.underlying131 hi hz0 hz1 hz2 rfl (by omega) _ cl.length _ rfl (how7.alloc _) ⟨w7.heap.size,0,none⟩ 1 1 (Cl.cells k2) rfl rfl ?news3 ?one3 (by omega) ?mm3 ?bys3 ?base3 (w7.heap.size+1) (by simp) ?rest3))
     case news3=>exact z3N _ _ (by simp [World.setCell]) #[.int .i64 k2.test,.int .i64 k2.form,.string k2.result,.int .i64 k2.inner] 156
     case one3=>intro u hu;simp [Cl.cells] at hu;rcases hu with rfl|rfl|rfl|rfl<;>rfl
     case mm3=>unfold maxLen;omega
     case bys3=>omega
     case base3=>simp;omega
     case rest3=>
      intro gb cap w8 hown hgrow hat hlt2
      have hH:=HZ8.out.grown hown (zW (World.grownBy_alloc _ _ _) hgrow) (fun k e=>by
       have:gb=k:=by simpa [Value.ownBlock] using e
       subst this
       exact hat.imp id fun e=>by simp [World.setCell];omega) HX.out
      have hne8:gb≠g4:=by
       intro q
       rcases hat with q1|q1
       ·exact hne4 (by rw [q1,q])
       ·have:=hg4.out;omega
      have hbx:w8.heap[g4]?=some (.cells #[.int .i64 k2.test,.int .i64 k2.form,.string k2.result,.int .i64 k2.inner] 156):=by
       have:=hg4.out
       rw [hgrow.block g4 (by simp [World.setCell];omega) (Ne.symm hne4),zgJ _ _ _ (by simp [World.setCell];omega)]
       exact HB8.out
      clear hgrow hat hown how7 hlt2 hbl7 d0 d1 d2 d3 df
      go_wp2_with fail
      go_roundg k
      case measure=>omega
      case rel=>exact⟨by omega,cl++[k2],st2,_,_,_,_,_,by simp,HH.out.2,by simpa using hH,Or.inl hZ4,by simpa [Value.ownBlock] using hne8,hbx⟩
theorem zeW (s:zgS): ∀n,OKE s 73 0 n∧OKE s 113 1 n∧OKE s 147 2 n∧OKE s 168 3 n∧OKE s 180 4 n∧OKE s 187 5 n∧OKE s 191 6 n∧OKE s 193 7 n:=by
 have hz: ∀f tag,OKE s f tag 0:=fun f tag X b st w r st' h=>by simp [M] at h
 intro n
 induction n using Nat.strongRecOn with
 |_ n ih=>
  cases n with
  |zero=>exact⟨hz _ _,hz _ _,hz _ _,hz _ _,hz _ _,hz _ _,hz _ _,hz _ _⟩
  |succ n=>
   have hn:=ih n (Nat.lt_succ_self n)
   exact⟨z9Q s n fun m h=>(ih m (by omega)).2.1,z68 s n fun m h=>(ih m (by omega)).2.2.1,z5G s n hn.2.2.1 hn.2.2.2.1,z3R s n hn.2.2.2.2.1,
    zaE s n fun m h=>(ih m (by omega)).2.2.2.2.2.1,z6i s n fun m h=>(ih m (by omega)).2.2.2.2.2.2.1,z8w s n hn.2.2.2.2.2.2.1 hn.2.2.2.2.2.2.2,z6c s n hn.1⟩
theorem zg1 (s:zgS): ∀n,OKL s 161 0 n∧OKL s 176 1 n∧OKL s 184 2 n∧zdD s n:=by
 have hz: ∀f tag,OKL s f tag 0:=fun f tag X b st w r st' h=>by simp [ML] at h
 intro n
 induction n using Nat.strongRecOn with
 |_ n ih=>
  cases n with
  |zero=>exact⟨hz _ _,hz _ _,hz _ _,fun X b st w r st' h=>by simp [ML] at h⟩
  |succ n=>
   have hn:=ih n (Nat.lt_succ_self n)
   exact⟨zaK s n fun m h=>(ih m (by omega)).2.1,z6U s n fun m h=>(ih m (by omega)).2.2.1,z6w s n hn.1 hn.2.2.2,z8u s n fun m h=>(ih m (by omega)).1⟩
theorem zfM (s:zgS): ∀n,zfD s n∧zfz s n:=by
 intro n
 induction n using Nat.strongRecOn with
 |_ n ih=>
  cases n with
  |zero=>exact⟨fun X b st w r c st' h=>by simp [MC] at h,fun X b st w r c st' h=>by simp [MC] at h⟩
  |succ n=>exact⟨z8l s n fun m h=>(ih m (by omega)).2,z78 s n (zeW s n).1 (ih n (by omega)).1⟩
theorem z5q (s:zgS)(n:Nat)(X:Nat→Prop)(b:Nat)(st:St)(w:World)(st':St)(hM:MA s n st=some st')(hI:Inv X w b s st)(hX: ∀k,X k→k<w.heap.size):
  Calls Tryz.prog 127 #[.pointer (some ⟨b,0,none⟩)] w fun e w'=>e= .returned (.tuple #[])∧Inv X w' b s st'∧Fr X w w':=by
 unfold MA at hM
 simp only at hM
 obtain⟨⟨r1,st1⟩,h1,h2⟩:=zgD.1 hM
 obtain⟨⟨r2,k2,st2⟩,h3,h4⟩:=zgD.1 h2
 obtain⟨hl,h6⟩:=jl h4
 have H1:=z8 h1
 have H3:=z8 h3
 have H6:=z8 h6
 have HX:=z8 hX
 clear hM h1 h2 h3 h4 h6 hX
 have hrd:=hI.rd
 go_enter Tryz.func127,Tryz.ntmps127
 go_wp2_with fail
 refine(z14 b _ s _ _ _ hrd (by decide)).mono ?_
 rintro e w1 ⟨rfl,hr1,hs1⟩
 have hI1:Inv X w1 b s (zp s [98,121] st):=hI.sc hr1 hs1
 have hF1:Fr X w w1:=hs1.fr hI.nob
 have hrd1:=hI1.rd
 go_wp2_with fail
 refine(z2y b _ s _ _ hrd1).mono ?_
 rintro e w2 ⟨rfl,hr2,hs2⟩
 have hI2:Inv X w2 b s ((zp s [98,121] st).put3 (zw s (zp s [98,121] st).at_ (zp s [98,121] st).bad)):=hI1.sc hr2 hs2
 have hF2:=hF1.trans (hs2.fr hI1.nob)
 have hrd2:=hI2.rd
 clear hr1 hs1 hr2 hs2 hrd hrd1 hI hI1 hF1
 go_wp2_with fail
 refine(jW b _ s _ _ _ hrd2 (by decide)).mono ?_
 rintro e w3 ⟨rfl,hr3,hs3⟩
 have hI3:=hI2.sc hr3 hs3
 have hF3:=hF2.trans (hs3.fr hI2.nob)
 have hrd3:=hI3.rd
 go_wp2_with fail
 refine(z14 b _ s _ _ _ hrd3 (by decide)).mono ?_
 rintro e w4 ⟨rfl,hr4,hs4⟩
 have hI4:=hI3.sc hr4 hs4
 have hF4:=hF3.trans (hs4.fr hI3.nob)
 clear hr3 hs3 hr4 hs4 hrd2 hrd3 hI2 hI3 hF2 hF3
 go_wp2_with fail
 refine((zg1 s n).1 X b _ _ r1 st1 H1.out hI4 (hF4.lt HX.out)).mono ?_
 rintro e w5 ⟨rfl,hI5,hF5⟩
 have hF5:=hF4.trans hF5
 have hrd5:=hI5.rd
 clear hI4 hF4
 go_wp2_with fail
 refine(jW b _ s _ _ _ hrd5 (by decide)).mono ?_
 rintro e w6 ⟨rfl,hr6,hs6⟩
 have hI6:=hI5.sc hr6 hs6
 have hF6:=hF5.trans (hs6.fr hI5.nob)
 have hrd6:=hI6.rd
 go_wp2_with fail
 refine(z14 b _ s _ _ _ hrd6 (by decide)).mono ?_
 rintro e w7 ⟨rfl,hr7,hs7⟩
 have hI7:=hI6.sc hr7 hs7
 have hF7:=hF6.trans (hs7.fr hI6.nob)
 clear hr6 hs6 hr7 hs7 hrd5 hrd6 hI5 hI6 hF5 hF6
 go_wp2_with fail
 refine((zfM s n).1 X b _ _ r2 k2 st2 H3.out hI7 (hF7.lt HX.out)).mono ?_
 rintro e w8 ⟨rfl,hI8,hF8⟩
 have hF8:=hF7.trans hF8
 have hrd8:=hI8.rd
 clear hI7 hF7
 go_wp2_with fail
 refine(jW b _ s _ _ _ hrd8 (by decide)).mono ?_
 rintro e w9 ⟨rfl,hr9,hs9⟩
 have hI9:Inv X w9 b s (wrd s [10] st2):=hI8.sc hr9 hs9
 have HF9:=z8 (hF8.trans (hs9.fr hI8.nob))
 have HX9:=z8 (HF9.out.lt HX.out)
 clear hr9 hs9 hrd8 hI8 hF8
 obtain⟨V,iv,cv,g⟩:=hI9
 obtain⟨i0,hi,hz0,hz1,hz2⟩:=info_parts info84
 have hlt:=g.rows.lt
 have hc:=g.rows.cell 3 (by omega) (by omega)
 have hf:=g.rows.froz 3 (by omega) (by omega)
 have how:=g.rows.own 3 (by omega) (by omega)
 have HG:=z8 g
 have hl:st2.A.length<100000:=hl
 clear g
 generalize hnm:(zw s (zp s [98,121] st).at_ (zp s [98,121] st).bad).2.2=nm at*
 clear hnm
 go_wp2_with (at_builtin;go_must (refine wpList_append_lies _ rfl (.tmp 28) (.tmp 33) 49 rfl (b+1) 84 i0 _ 3 32 Tryz.underlying49 hi hz0 hz1 hz2 rfl (by omega) (V 3) st2.A.length _ rfl (how.alloc _) ⟨w9.heap.size,0,none⟩ 1 1 (As.cells ⟨nm,r1,r2⟩) rfl rfl ?news ?one (by omega) ?mm ?bys ?base (w9.heap.size+1) (by simp) ?rest))
 case news=>exact World.news_of_block (heap_alloc_new w9 _)
 case one=>intro u hu;simp [As.cells] at hu;rcases hu with rfl|rfl|rfl<;>rfl
 case mm=>unfold maxLen;omega
 case bys=>omega
 case base=>simp;omega
 case rest=>
  intro gb cap wa hown hgrow hat hlt2
  have hg:=zW (World.grownBy_alloc w9 _ _) hgrow
  obtain⟨k1,k2,hfr⟩:=HG.out.grown (o:=3) (by omega) (by omega) hg HX9.out
  have hIa:=HG.out.pushA ⟨nm,r1,r2⟩ hown hg (fun k e=>by
   have:gb=k:=by simpa [Value.ownBlock] using e
   subst this
   exact hat.imp id fun e=>by omega) HX9.out
  have hfr:=hfr (.slice (some ⟨gb,0,none⟩) (st2.A.length+1) cap)
  clear hgrow hat hown hg how
  go_wp2_with fail
  go_end0
  exact⟨rfl,by rw [H6.out];exact hIa,HF9.out.trans hfr⟩
def st0:St:=⟨0,false,[],[],[],[]⟩
structure TreeV (w:World)(base:Nat)(st:St)(V:Nat→Value)(iv cv:List Value):Prop where
 own: ∀o,3≤o→o≤6→w.ownsRow base (elT o) (szT o) (V o) (nOf st o) (zdv st iv cv o)
 il:iv.length=st.L.length
 cl:cv.length=st.C.length
 items: ∀(i:Nat) (l:Lc) (v:Value),st.L[i]?=some l→iv[i]?=some v→w.ownsRow base 3 1 v l.items.length (l.items.map (Value.int .i64))
 clauses: ∀(i:Nat) (l:List Cl) (v:Value),st.C[i]?=some l→cv[i]?=some v→w.ownsRow base 156 4 v l.length ((l.map Cl.cells).flatten)
theorem zu {w:World}{base base' e size n:Nat}{v:Value}{xs:List Value}(h:w.ownsRow base e size v n xs)(hb:base'≤base):w.ownsRow base' e size v n xs:=by
 refine⟨h.1,?_⟩
 rcases h.2 with hn|⟨g,cap,cur,hv,hg,r⟩
 ·exact .inl hn
 ·exact .inr ⟨g,cap,cur,hv,zgP hb hg,r⟩
theorem InvV.tree {X:Nat→Prop}{w w':World}{b:Nat}{s:zgS}{st:St}{V:Nat→Value}{iv cv:List Value}(g:InvV X w b s st V iv cv){base:Nat}(hb:base≤b+1)(hk: ∀k,b+1≤k→w'.heap[k]?=w.heap[k]?):TreeV w' base st V iv cv:=
 ⟨fun o h3 h6=>zu (zc (g.rows.own o h3 h6) fun k e=>hk k ((g.rows.own o h3 h6).lt k e).1) hb,g.il,g.cl,
  fun i l v h1 h2=>zu (zc (g.items i l v h1 h2).own fun k e=>hk k ((g.items i l v h1 h2).own.lt k e).1) hb,
  fun i l v h1 h2=>zu (zc (g.clauses i l v h1 h2).own fun k e=>hk k ((g.clauses i l v h1 h2).own.lt k e).1) hb⟩
theorem TreeV.same {w w':World}{base:Nat}{st:St}{V:Nat→Value}{iv cv:List Value}(g:TreeV w base st V iv cv)(hk: ∀k,base≤k→k<w.heap.size→w'.heap[k]?=w.heap[k]?):TreeV w' base st V iv cv:=
 ⟨fun o h3 h6=>zc (g.own o h3 h6) fun k e=>hk k ((g.own o h3 h6).lt k e).1 ((g.own o h3 h6).lt k e).2,g.il,g.cl,
  fun i l v h1 h2=>zc (g.items i l v h1 h2) fun k e=>hk k ((g.items i l v h1 h2).lt k e).1 ((g.items i l v h1 h2).lt k e).2,
  fun i l v h1 h2=>zc (g.clauses i l v h1 h2) fun k e=>hk k ((g.clauses i l v h1 h2).lt k e).1 ((g.clauses i l v h1 h2).lt k e).2⟩
theorem z65 {X:Nat→Prop}{w:World}{b:Nat}{s:zgS}(hs:s.size≤600)(hX: ¬X b)
  (h:w.heap[b]?=some (.cells #[.string s,.int .i64 0,.bool false,.slice none 0 0,.slice none 0 0,.slice none 0 0,.slice none 0 0] 66)):Inv X w b s st0:=by
 have hc: ∀o,3≤o→o≤6→w.cell? ⟨b,o,none⟩=some (.slice none 0 0):=fun o h3 h6=>by
  match o,h3,h6 with
  |3,_,_=>simp [World.cell?,h]
  |4,_,_=>simp [World.cell?,h]
  |5,_,_=>simp [World.cell?,h]
  |6,_,_=>simp [World.cell?,h]
 refine⟨fun _=> .slice none 0 0,[],[],⟨by simp [World.cell?,h],by simp [World.cell?,h,st0],by simp [World.cell?,h,st0],by simp [World.frozen?,h],by simp [World.frozen?,h],zgO _,hs⟩,
  ⟨hc,fun o _ _=>by simp [World.frozen?,h],fun o h3 h6=> ?_,fun o p k _ _ _ _ _ e=>by simp [Value.ownBlock] at e,hX,fun o k _ _ e=>by simp [Value.ownBlock] at e⟩,
  rfl,rfl,fun i l v h1=>by simp [st0] at h1,fun i l v h1=>by simp [st0] at h1⟩
 match o,h3,h6 with
 |3,_,_=>exact World.ownsRow_nil _ _ _ _
 |4,_,_=>exact World.ownsRow_nil _ _ _ _
 |5,_,_=>exact World.ownsRow_nil _ _ _ _
 |6,_,_=>exact World.ownsRow_nil _ _ _ _
theorem z9f {w:World}{g:Nat}{a b c d e f h:Value}{t:TypeId}(hh:w.heap[g]?=some (.cells #[a,b,c,d,e,f,h] t)):
  w.cell? ⟨g,0,none⟩=some a∧w.cell? ⟨g,1,none⟩=some b∧w.cell? ⟨g,2,none⟩=some c∧w.cell? ⟨g,3,none⟩=some d∧w.cell? ⟨g,4,none⟩=some e∧w.cell? ⟨g,5,none⟩=some f∧w.cell? ⟨g,6,none⟩=some h∧(∀o,w.frozen? ⟨g,o,none⟩=false):=by
 simp [World.cell?,World.frozen?,hh]
theorem za {w:World}{base e size n:Nat}{v:Value}{xs:List Value}(h:w.ownsRow base e size v n xs): ∃a c,v= .slice a n c:=by
 rcases h.2 with⟨h1,h2⟩|⟨g,cap,cur,hv,_⟩
 ·exact⟨none,0,by rw [h1,h2]⟩
 ·exact⟨_,_,hv⟩
def zaw (s:zgS)(w:World)(st':St)(e:Ending)(w':World):Prop:= ∃V iv cv,e= .returned (.agg #[.string s,.int .i64 st'.at_,.bool st'.bad,V 3,V 4,V 5,V 6])∧TreeV w' w.heap.size st' V iv cv∧Below w.heap.size w w'
def z28:Array Value:= #[.string ⟨#[]⟩,.int .i64 0,.bool false,.slice none 0 0,.slice none 0 0,.slice none 0 0,.slice none 0 0]
theorem z79 (s:zgS)(n:Nat)(st':St)(w:World)(hM:MR s n st0=some st')(hs:s.size≤600):
  Calls Tryz.prog 84 #[.string s] w fun e w'=>zaw s w st' e w':=by
 have HM:=z8 hM
 clear hM
 have hI0:Inv (fun k=>k≤w.heap.size) ((w.alloc (.cells z28 66)).alloc (.cells #[.string s,.int .i64 0,.bool false,.slice none 0 0,.slice none 0 0,.slice none 0 0,.slice none 0 0] 66)) (w.heap.size+1) s st0:=
  z65 hs (by omega) (by
   have h:=heap_alloc_new (w.alloc (.cells z28 66)) (.cells #[.string s,.int .i64 0,.bool false,.slice none 0 0,.slice none 0 0,.slice none 0 0,.slice none 0 0] 66)
   simp only [World.alloc,Array.size_push] at h
   exact h)
 have hb0:((w.alloc (.cells z28 66)).alloc (.cells #[.string s,.int .i64 0,.bool false,.slice none 0 0,.slice none 0 0,.slice none 0 0,.slice none 0 0] 66)).heap[w.heap.size]?=some (.cells z28 66):=by
  rw [zgJ _ _ _ (by simp)]
  exact heap_alloc_new w _
 have hF0:Fr (fun k=>k<w.heap.size) w ((w.alloc (.cells z28 66)).alloc (.cells #[.string s,.int .i64 0,.bool false,.slice none 0 0,.slice none 0 0,.slice none 0 0,.slice none 0 0] 66)):=
  ((Fr.refl _ w).alloc (fun k h=>h) _).alloc (fun k h=>by have h:k<w.heap.size:=h;simp;omega) _
 unfold z28 at hI0 hb0 hF0
 have HI:=z8 hI0
 have HB:=z8 hb0
 have HF:=z8 hF0
 clear hI0 hb0 hF0
 go_enter Tryz.func84,Tryz.ntmps84
 go_wp2_with fail
 go_loopg [] n (fun k wr=> ∃sv,Hid (MR s k sv=some st')∧Inv (fun k=>k≤w.heap.size) wr (w.heap.size+1) s sv∧Fr (fun k=>k≤w.heap.size) ((w.alloc (.cells z28 66)).alloc (.cells #[.string s,.int .i64 0,.bool false,.slice none 0 0,.slice none 0 0,.slice none 0 0,.slice none 0 0] 66)) wr)
 case atStart=>exact⟨st0,HM,HI.out,Fr.refl _ _⟩
 case round=>
  obtain⟨sv,hm,hi,hf⟩:=hrel
  cases gk with
  |zero=>exact absurd hm.out (by simp [MR])
  |succ k=>
   have hm':=hm.out
   unfold MR at hm'
   clear hm
   have hrd:=hi.rd
   obtain⟨c0,c1,c2,f1,f2,hle,hsz⟩:=id hrd
   by_cases hgo:sv.bad=false∧sv.at_<s.size
   ·obtain⟨hbad,hlt⟩:=hgo
    rw [hbad,if_pos (by simp [hlt])] at hm'
    obtain⟨st1,h1,h2⟩:=zgD.1 hm'
    have HH:=z8 (zgI h1 h2)
    clear hm' h1 h2
    rw [hbad] at c2
    have HBD:=z8 hbad
    clear hbad
    go_wp2_with fail
    refine(z5q s k _ _ sv _ st1 HH.out.1 hi (fun j h=>by have:=hi.lt;have h:j≤w.heap.size:=h;omega)).mono ?_
    rintro e w1 ⟨rfl,hI1,hF1⟩
    go_wp2_with fail
    go_roundg k
    case measure=>omega
    case rel=>exact⟨st1,HH.out.2,hI1,hf.trans hF1⟩
   ·rw [if_neg (by simpa using hgo)] at hm'
    have e1:=Option.some.inj hm'
    subst e1
    clear hm'
    obtain⟨V,iv,cv,g⟩:=hi
    have q3:=g.rows.cell 3 (by omega) (by omega)
    have q4:=g.rows.cell 4 (by omega) (by omega)
    have q5:=g.rows.cell 5 (by omega) (by omega)
    have q6:=g.rows.cell 6 (by omega) (by omega)
    obtain⟨a3,k3,e3⟩:=za (g.rows.own 3 (by omega) (by omega))
    obtain⟨a4,k4,e4⟩:=za (g.rows.own 4 (by omega) (by omega))
    obtain⟨a5,k5,e5⟩:=za (g.rows.own 5 (by omega) (by omega))
    obtain⟨a6,k6,e6⟩:=za (g.rows.own 6 (by omega) (by omega))
    rw [e3] at q3
    rw [e4] at q4
    rw [e5] at q5
    rw [e6] at q6
    obtain⟨b0,b1,b2,b3,b4,b5,b6,bf⟩:=z9f ((hf.block w.heap.size (zgH _)).trans HB.out)
    have hFw:=HF.out.trans (hf.mono fun k (h:k<w.heap.size)=>Nat.le_of_lt h)
    have HBel:Hid (Below w.heap.size w (((((((wr.setCell ⟨w.heap.size,0,none⟩ (.string s)).setCell ⟨w.heap.size,1,none⟩ (.int .i64 sv.at_)).setCell ⟨w.heap.size,2,none⟩ (.bool sv.bad)).setCell ⟨w.heap.size,3,none⟩ (V 3)).setCell ⟨w.heap.size,4,none⟩ (V 4)).setCell ⟨w.heap.size,5,none⟩ (V 5)).setCell ⟨w.heap.size,6,none⟩ (V 6))):=
     z8 (((((((Below.setCell ⟨hFw.os,hFw.tape,hFw.output,hFw.size,hFw.block⟩ (zgH _) _).setCell (zgH _) _).setCell (zgH _) _).setCell (zgH _) _).setCell (zgH _) _).setCell (zgH _) _).setCell (zgH _) _)
    rw [e3,e4,e5,e6] at HBel
    have HE:=z8 (zgI e3 (zgI e4 (zgI e5 e6)))
    have HG:=z8 g
    clear e3 e4 e5 e6 g hf hFw HF HB HI HM hrd
    obtain⟨bd,HBD⟩: ∃bd,Hid (sv.bad=bd):=⟨_,rfl⟩
    rw [HBD.out] at c2 hgo
    cases bd with
    |true=>
     go_wp2_with fail
     refine bodyPost_ret (v:= .agg #[.string s,.int .i64 sv.at_,.bool true,.slice a3 (nOf sv 3) k3,.slice a4 (nOf sv 4) k4,.slice a5 (nOf sv 5) k5,.slice a6 (nOf sv 6) k6]) ?_ rfl ⟨V,iv,cv,?_,?_,?_⟩
     ·simp [results,Tryz.results84,go_sem,b0,b1,b2,b3,b4,b5,b6]
     ·rw [HE.out.1,HE.out.2.1,HE.out.2.2.1,HE.out.2.2.2,HBD.out]
     ·exact HG.out.tree (by omega) fun k hk=>by
       simp only [World.setCell,Array.getElem?_modify]
       repeat rw [if_neg (by omega)]
     ·have h:=HBel.out
      rw [HBD.out] at h
      exact h
    |false=>
     have hge:s.size≤sv.at_:=Nat.le_of_not_lt fun h=>hgo ⟨rfl,h⟩
     go_wp2_with fail
     refine bodyPost_ret (v:= .agg #[.string s,.int .i64 sv.at_,.bool false,.slice a3 (nOf sv 3) k3,.slice a4 (nOf sv 4) k4,.slice a5 (nOf sv 5) k5,.slice a6 (nOf sv 6) k6]) ?_ rfl ⟨V,iv,cv,?_,?_,?_⟩
     ·simp [results,Tryz.results84,go_sem,b0,b1,b2,b3,b4,b5,b6]
     ·rw [HE.out.1,HE.out.2.1,HE.out.2.2.1,HE.out.2.2.2,HBD.out]
     ·exact HG.out.tree (by omega) fun k hk=>by
       simp only [World.setCell,Array.getElem?_modify]
       repeat rw [if_neg (by omega)]
     ·have h:=HBel.out
      rw [HBD.out] at h
      exact h
def zY (b:Bool)(m:Int):Int:=if b then m else 0
def jc (t:zgS):Bool:=t.toList==[61,61]||t.toList==[33,61]||t.toList==[60]||t.toList==[60,61]||t.toList==[62]||t.toList==[62,61]
def zB (t:zgS)(l r:Int):Int:=
 if l !=r then 0
 else if t.toList==[124,124]||t.toList==[38,38] then zY (l==1) 1
 else if jc t then zY (l !=1) 1
 else if t.toList==[46] then zY (l==3) 3
 else zY (l==2) 2
def zv (x:Ex)(l r:Int):Int:=
 if x.form==0||x.form==4 then 2
 else if x.form==1||x.form==3 then 3
 else if x.form==2 then 1
 else if x.form==7 then zY (l==1) 1
 else if x.form==5 then if x.text.toList==[33] then zY (l==1) 1 else zY (l==2) 2
 else if x.form==6 then zB x.text l r
 else 0
def zb (ts:List Int)(i:Int):Int:=if i<0 then 0 else ts.getD i.toNat 0
theorem zR (v:Bool)(m:Int)(w:World):Calls Tryz.prog 116 #[.bool v,.int .i64 m] w fun e w'=>e= .returned (.int .i64 (zY v m))∧w'=w:=by
 cases v
 all_goals
  go_enter Tryz.func116,Tryz.ntmps116
  go_wp2_with fail
  go_ret
  exact⟨rfl,rfl⟩
theorem z4o (t:zgS)(l r:Int)(w:World):Calls Tryz.prog 117 #[.string t,.int .i64 l,.int .i64 r] w fun e w'=>e= .returned (.int .i64 (zB t l r))∧w'=w:=by
 cases h0:(l !=r)
 ·cases h1:(t.toList==[124,124])
  case true=>
   go_enter Tryz.func117,Tryz.ntmps117
   go_wp2_with (go_at_call 116;refine(zR _ _ _).mono ?_;rintro e w1 ⟨rfl,rfl⟩)
   go_ret
   exact⟨by simp [zB,jc,h0,h1],rfl⟩
  cases h2:(t.toList==[38,38])
  case true=>
   go_enter Tryz.func117,Tryz.ntmps117
   go_wp2_with (go_at_call 116;refine(zR _ _ _).mono ?_;rintro e w1 ⟨rfl,rfl⟩)
   go_ret
   exact⟨by simp [zB,jc,h0,h1,h2],rfl⟩
  cases h3:(t.toList==[61,61])
  case true=>
   go_enter Tryz.func117,Tryz.ntmps117
   go_wp2_with (go_at_call 116;refine(zR _ _ _).mono ?_;rintro e w1 ⟨rfl,rfl⟩)
   go_ret
   exact⟨by simp [zB,jc,h0,h1,h2,h3],rfl⟩
  cases h4:(t.toList==[33,61])
  case true=>
   go_enter Tryz.func117,Tryz.ntmps117
   go_wp2_with (go_at_call 116;refine(zR _ _ _).mono ?_;rintro e w1 ⟨rfl,rfl⟩)
   go_ret
   exact⟨by simp [zB,jc,h0,h1,h2,h3,h4],rfl⟩
  cases h5:(t.toList==[60])
  case true=>
   go_enter Tryz.func117,Tryz.ntmps117
   go_wp2_with (go_at_call 116;refine(zR _ _ _).mono ?_;rintro e w1 ⟨rfl,rfl⟩)
   go_ret
   exact⟨by simp [zB,jc,h0,h1,h2,h3,h4,h5],rfl⟩
  cases h6:(t.toList==[60,61])
  case true=>
   go_enter Tryz.func117,Tryz.ntmps117
   go_wp2_with (go_at_call 116;refine(zR _ _ _).mono ?_;rintro e w1 ⟨rfl,rfl⟩)
   go_ret
   exact⟨by simp [zB,jc,h0,h1,h2,h3,h4,h5,h6],rfl⟩
  cases h7:(t.toList==[62])
  case true=>
   go_enter Tryz.func117,Tryz.ntmps117
   go_wp2_with (go_at_call 116;refine(zR _ _ _).mono ?_;rintro e w1 ⟨rfl,rfl⟩)
   go_ret
   exact⟨by simp [zB,jc,h0,h1,h2,h3,h4,h5,h6,h7],rfl⟩
  cases h8:(t.toList==[62,61])
  case true=>
   go_enter Tryz.func117,Tryz.ntmps117
   go_wp2_with (go_at_call 116;refine(zR _ _ _).mono ?_;rintro e w1 ⟨rfl,rfl⟩)
   go_ret
   exact⟨by simp [zB,jc,h0,h1,h2,h3,h4,h5,h6,h7,h8],rfl⟩
  cases h9:(t.toList==[46])
  case true=>
   go_enter Tryz.func117,Tryz.ntmps117
   go_wp2_with (go_at_call 116;refine(zR _ _ _).mono ?_;rintro e w1 ⟨rfl,rfl⟩)
   go_ret
   exact⟨by simp [zB,jc,h0,h1,h2,h3,h4,h5,h6,h7,h8,h9],rfl⟩
  go_enter Tryz.func117,Tryz.ntmps117
  go_wp2_with (go_at_call 116;refine(zR _ _ _).mono ?_;rintro e w1 ⟨rfl,rfl⟩)
  go_ret
  exact⟨by simp [zB,jc,h0,h1,h2,h3,h4,h5,h6,h7,h8,h9],rfl⟩
 ·go_enter Tryz.func117,Tryz.ntmps117
  go_wp2_with fail
  go_ret
  exact⟨by simp [zB,h0],rfl⟩
theorem z82 (x:Ex)(l r:Int)(w:World):Calls Tryz.prog 76 #[.agg #[.int .i64 x.form,.int .i64 x.place,.string x.text,.int .i64 x.left,.int .i64 x.right],.int .i64 l,.int .i64 r] w fun e w'=>e= .returned (.int .i64 (zv x l r))∧Below w.heap.size w w':=by
 have hB:=fun o:Obj=>(zgR w.heap.size w).alloc (zgH _) o
 have HB:=z8 hB
 clear hB
 cases f0:(x.form==0)
 case true=>
  go_enter Tryz.func76,Tryz.ntmps76
  go_wp2_with (go_at_call 116;refine(zR _ _ _).mono ?_;rintro e w1 ⟨rfl,rfl⟩)
  go_ret
  exact⟨by simp [zv,f0],HB.out _⟩
 cases f4:(x.form==4)
 case true=>
  go_enter Tryz.func76,Tryz.ntmps76
  go_wp2_with (go_at_call 116;refine(zR _ _ _).mono ?_;rintro e w1 ⟨rfl,rfl⟩)
  go_ret
  exact⟨by simp [zv,f0,f4],HB.out _⟩
 cases f1:(x.form==1)
 case true=>
  go_enter Tryz.func76,Tryz.ntmps76
  go_wp2_with (go_at_call 116;refine(zR _ _ _).mono ?_;rintro e w1 ⟨rfl,rfl⟩)
  go_ret
  exact⟨by simp [zv,f0,f4,f1],HB.out _⟩
 cases f3:(x.form==3)
 case true=>
  go_enter Tryz.func76,Tryz.ntmps76
  go_wp2_with (go_at_call 116;refine(zR _ _ _).mono ?_;rintro e w1 ⟨rfl,rfl⟩)
  go_ret
  exact⟨by simp [zv,f0,f4,f1,f3],HB.out _⟩
 cases f2:(x.form==2)
 case true=>
  go_enter Tryz.func76,Tryz.ntmps76
  go_wp2_with (go_at_call 116;refine(zR _ _ _).mono ?_;rintro e w1 ⟨rfl,rfl⟩)
  go_ret
  exact⟨by simp [zv,f0,f4,f1,f3,f2],HB.out _⟩
 cases f7:(x.form==7)
 case true=>
  go_enter Tryz.func76,Tryz.ntmps76
  go_wp2_with (go_at_call 116;refine(zR _ _ _).mono ?_;rintro e w1 ⟨rfl,rfl⟩)
  go_ret
  exact⟨by simp [zv,f0,f4,f1,f3,f2,f7],HB.out _⟩
 cases f5:(x.form==5)
 case true=>
  cases ht:(x.text.toList==[33])
  all_goals
   go_enter Tryz.func76,Tryz.ntmps76
   go_wp2_with (go_at_call 116;refine(zR _ _ _).mono ?_;rintro e w1 ⟨rfl,rfl⟩)
   go_ret
   exact⟨by simp [zv,f0,f4,f1,f3,f2,f7,f5,ht],HB.out _⟩
 cases f6:(x.form==6)
 all_goals
  go_enter Tryz.func76,Tryz.ntmps76
  go_wp2_with (go_at_call 117;refine(z4o _ _ _ _).mono ?_;rintro e w1 ⟨rfl,rfl⟩)
  go_ret
  exact⟨by simp [zv,f0,f4,f1,f3,f2,f7,f5,f6],HB.out _⟩
theorem zS {α:Type}(f:α→List Value)(k:Nat)(hf: ∀x,(f x).length=k): ∀(l:List α) (i j:Nat) (x:α),l[i]?=some x→j<k→((l.map f).flatten)[i*k+j]?=(f x)[j]?:=by
 intro l
 induction l with
 |nil=>intro i j x h;simp at h
 |cons y ys ih=>
  intro i j x h hj
  simp only [List.map_cons,List.flatten_cons]
  cases i with
  |zero=>
   simp at h
   subst h
   rw [List.getElem?_append_left (by rw [hf];omega)]
   simp
  |succ i=>
   have h':ys[i]?=some x:=by simpa using h
   rw [List.getElem?_append_right (by rw [hf,Nat.succ_mul];omega),hf,show(i+1)*k+j - k=i*k+j by rw [Nat.succ_mul];omega]
   exact ih i j x h' hj
theorem zl {w:World}{base e size n g cap:Nat}{xs:List Value}(h:w.ownsRow base e size (.slice (some ⟨g,0,none⟩) n cap) n xs)(p:Nat)(u:Value)(hu:xs[p]?=some u):w.cell? ⟨g,p,none⟩=some u:=by
 have:=h.cells (g:=g) rfl p u hu
 rw [show(⟨g,0,none⟩:Addr).add p=⟨g,p,none⟩ by unfold Addr.add;split<;>simp_all] at this
 exact this
theorem z4B (base:Nat)(ts:List Int)(v:Value)(i:Int)(w:World)(h:w.ownsRow base 3 1 v ts.length (ts.map (Value.int .i64)))(hlen:ts.length≤100000):
  Calls Tryz.prog 75 #[v,.int .i64 i] w fun e w'=>e= .returned (.int .i64 (zb ts i))∧w'=w:=by
 obtain⟨a0,c0,rfl⟩:=za h
 by_cases h0:i<0
 ·go_enter Tryz.func75,Tryz.ntmps75
  go_wp2_with fail
  go_ret
  exact⟨by simp [zb,h0],rfl⟩
 ·obtain⟨j,rfl⟩:=Int.eq_ofNat_of_zero_le (show 0≤i by omega)
  by_cases h1:j<ts.length
  ·obtain⟨g,cap,hv,hb,hg⟩:=h.form (by omega)
   have hc:=zl (hv▸h) j (.int .i64 (ts.getD j 0)) (by simp [h1,List.getD])
   injection hv with e1 e2 e3
   subst e1 e3
   have hfin:Hid (zb ts j=ts.getD j 0):=z8 (by unfold zb;rw [if_neg (by omega)];simp)
   generalize ts.getD j 0=z at*
   have h1':(j:Int)<ts.length:=by omega
   go_enter Tryz.func75,Tryz.ntmps75
   go_wp2_with fail
   go_ret
   exact⟨by rw [hfin.out];simp,rfl⟩
  ·have hfin:Hid (zb ts j=0):=z8 (by unfold zb;rw [if_neg (by omega)];simp [List.getElem?_eq_none (Nat.le_of_not_lt h1)])
   go_enter Tryz.func75,Tryz.ntmps75
   go_wp2_with fail
   go_ret
   exact⟨by rw [hfin.out];simp,rfl⟩
def tfM:List Ex→List Int→Int
 |[],_=> -1
 |x::xs,ts=>if zv x (zb ts x.left) (zb ts x.right)==0 then x.place else tfM xs (ts++[zv x (zb ts x.left) (zb ts x.right)])
def cfM:List Lc→Int→Int
 |[],f=>f
 |x::xs,f=>if x.form !=2||(decide (1≤x.count)&&decide (x.count≤x.items.length)) then cfM xs f else if f== -1||decide (x.place<f) then cfM xs x.place else cfM xs f
theorem Ex.cells_len (x:Ex):x.cells.length=5:=rfl
theorem z5a {E:List Ex}{i:Nat}{x:Ex}(h:E[i]?=some x)(ts:List Int):
  tfM (E.drop i) ts=if zv x (zb ts x.left) (zb ts x.right)==0 then x.place else tfM (E.drop (i+1)) (ts++[zv x (zb ts x.left) (zb ts x.right)]):=by
 obtain⟨hl,hx⟩:=zgF.1 h
 rw [zgL hl,hx]
 rfl
theorem z2A (base b:Nat)(E:List Ex)(v5:Value)(w:World)(hc:w.cell? ⟨b,5,none⟩=some v5)(how:w.ownsRow base 120 5 v5 E.length ((E.map Ex.cells).flatten))(hlen:E.length≤100000):
  Calls Tryz.prog 40 #[.pointer (some ⟨b,3,none⟩)] w fun e w'=>e= .returned (.int .i64 (tfM E []))∧Below w.heap.size w w':=by
 obtain⟨a5,k5,rfl⟩:=za how
 have hblt:=zd hc
 obtain⟨i0,hi,hz0,hz1,hz2⟩:=info_parts info3
 have hmade:=World.ownsRow_made (base:=w.heap.size) (e:=3) (size:=1) w #[] 0 (zgH _) (by decide) (by simp)
 have hB0:Below w.heap.size w (w.alloc (.cells #[] 3)):=(zgR _ _).alloc (zgH _) _
 have HM:=z8 hmade
 have HB0:=z8 hB0
 have HW:=z8 how
 clear hmade hB0 how
 go_enter Tryz.func40,Tryz.ntmps40
 go_wp2_with fail
 go_loopg [3,4] (E.length+1) (fun k tv iv wr=> ∃(i:Nat) (ts:List Int),k+i=E.length+1∧i≤E.length∧iv= .int .i64 i∧ts.length=i∧wr.ownsRow w.heap.size 3 1 tv ts.length (ts.map (Value.int .i64))∧Below w.heap.size w wr∧Hid (tfM (E.drop i) ts=tfM E []))
 case atStart=>exact⟨0,[],rfl,zgO _,rfl,rfl,HM.out,HB0.out,rfl⟩
 case round=>
  obtain⟨i,ts,hk,hiE,rfl,hts,hown,hbel,hfin⟩:=hrel
  have hc':wr.cell? ⟨b,5,none⟩=some (.slice a5 E.length k5):=(hbel.cell (p:=⟨b,5,none⟩) hblt).trans hc
  have hHK:=z8 hk
  clear hk
  by_cases hlt:i<E.length
  ·obtain⟨g,cap,hv,hb,hg⟩:=HW.out.form (by omega)
   injection hv with e1 e2 e3
   subst e1 e3
   obtain⟨x,hx⟩: ∃x,E[i]?=some x:=⟨E[i],zgE hlt⟩
   have hcell: ∀j u,x.cells[j]?=some u→j<5→wr.cell? ⟨g,i*5+j,none⟩=some u:=fun j u hu hj=>by
    rw [hbel.cell (p:=⟨g,i*5+j,none⟩) hg]
    exact zl HW.out _ _ ((zS Ex.cells 5 Ex.cells_len E i j x hx hj).trans hu)
   have q0:wr.cell? ⟨g,i*5,none⟩=some (.int .i64 x.form):=hcell 0 _ rfl (by omega)
   have q1:=hcell 1 _ rfl (by omega)
   have q2:=hcell 2 _ rfl (by omega)
   have q3:=hcell 3 _ rfl (by omega)
   have q4:=hcell 4 _ rfl (by omega)
   have hlt':(i:Int)<E.length:=by omega
   have hst:=z8 ((z5a hx ts).symm.trans hfin.out)
   clear hcell hfin hx
   have HOWN:=z8 hown
   have hsz:=z8 hbel.size
   have hB1:=z8 (hbel.alloc hbel.size (.cells #[.int .i64 x.form,.int .i64 x.place,.string x.text,.int .i64 x.left,.int .i64 x.right] 120))
   have hown1:=z8 (hown.alloc (.cells #[.int .i64 x.form,.int .i64 x.place,.string x.text,.int .i64 x.left,.int .i64 x.right] 120))
   clear hown hbel
   go_wp2_with fail
   refine(z4B w.heap.size ts _ _ _ hown1.out (by omega)).mono ?_
   rintro e w1 ⟨rfl,rfl⟩
   go_wp2_with fail
   refine(z4B w.heap.size ts _ _ _ hown1.out (by omega)).mono ?_
   rintro e w1 ⟨rfl,rfl⟩
   go_wp2_with fail
   refine(z82 x _ _ _).mono ?_
   rintro e w2 ⟨rfl,hb2⟩
   have hbx:w2.heap[wr.heap.size]?=some (.cells #[.int .i64 x.form,.int .i64 x.place,.string x.text,.int .i64 x.left,.int .i64 x.right] 120):=(hb2.block wr.heap.size (by simp)).trans (heap_alloc_new wr _)
   have hs2:=hb2.size
   have hown2:w2.ownsRow w.heap.size 3 1 _ ts.length (ts.map (Value.int .i64)):=zc hown1.out fun k e=>hb2.block k (hown1.out.lt k e).2
   have hB2:=z8 (hB1.out.trans (hb2.mono (by simp;have:=hsz.out;omega)))
   have r1:w2.cell? ⟨wr.heap.size,1,none⟩=some (.int .i64 x.place):=by simp [World.cell?,hbx]
   clear hb2 hbx q0 q1 q2 q3 q4
   have hst':=hst.out
   clear hst
   generalize zv x (zb ts x.left) (zb ts x.right)=o at*
   cases ho:(o==0)
   ·rw [ho,if_neg (by decide)] at hst'
    have hst:=z8 hst'
    clear hst'
    have hw2:w.heap.size≤w2.heap.size:=hB2.out.size
    go_wp2_with (at_builtin;go_must (refine wpList_append_lies _ rfl (.tmp 42) (.tmp 44) 60 rfl w.heap.size 3 i0 _ 1 8 Tryz.underlying60 hi hz0 hz1 hz2 rfl (by omega) _ ts.length _ rfl (hown2.alloc _) ⟨w2.heap.size,0,none⟩ 1 1 [.int .i64 o] rfl rfl ?news ?one (by omega) ?mm ?bys ?base (w2.heap.size+1) (by simp) ?rest))
    case news=>exact World.news_of_block (heap_alloc_new w2 _)
    case one=>intro u hu;simp at hu;subst hu;rfl
    case mm=>unfold maxLen;omega
    case bys=>omega
    case base=>simp;omega
    case rest=>
     intro gb cap w3 hown3 hgrow hat hlt2
     have hB3:=z8 (Below.grown (hB2.out.alloc hw2 _) hgrow (by simp;omega) fun k e=>(hown2.lt k e).1)
     clear hgrow hat
     go_wp2_with fail
     have hk:=hHK.out
     go_roundg (E.length - i)
     case measure=>omega
     case rel=>exact⟨i+1,ts++[o],by omega,by omega,by go_num,by simp [hts],by simpa [hts] using hown3,hB3.out,hst⟩
   ·rw [ho,if_pos rfl] at hst'
    have hst:=z8 hst'
    clear hst'
    go_wp2_with fail
    go_ret
    exact⟨by rw [←hst.out];simp,hB2.out⟩
  ·have hz:Hid (tfM E []= -1):=z8 (by rw [←hfin.out,zgK (by omega)];rfl)
   go_wp2_with fail
   go_ret
   exact⟨by rw [hz.out];simp,hbel⟩
theorem zeK (f:Lc→Value→List Value): ∀(L:List Lc) (iv:List Value),List.zipWith f L iv=(L.zip iv).map fun p=>f p.1 p.2:=by
 intro L
 induction L with
 |nil=>intro iv;rfl
 |cons x xs ih=>
  intro iv
  cases iv with
  |nil=>rfl
  |cons v vs=>simp [ih vs]
theorem z55 (L:List Lc)(iv:List Value): ∀(i j:Nat) (x:Lc) (v:Value),L[i]?=some x→iv[i]?=some v→j<7→((List.zipWith Lc.cells L iv).flatten)[i*7+j]?=(x.cells v)[j]?:=by
 intro i j x v h1 h2 hj
 rw [zeK]
 exact zS (fun p:Lc×Value=>p.1.cells p.2) 7 (fun _=>rfl) (L.zip iv) i j (x,v) (by rw [List.getElem?_zip_eq_some];exact⟨h1,h2⟩) hj
theorem zaP {L:List Lc}{i:Nat}{x:Lc}(h:L[i]?=some x)(f:Int):
  cfM (L.drop i) f=if x.form !=2||(decide (1≤x.count)&&decide (x.count≤x.items.length)) then cfM (L.drop (i+1)) f else if f== -1||decide (x.place<f) then cfM (L.drop (i+1)) x.place else cfM (L.drop (i+1)) f:=by
 obtain⟨hl,hx⟩:=zgF.1 h
 rw [zgL hl,hx]
 rfl
theorem z4l (base b:Nat)(L:List Lc)(v4:Value)(ivs:List Value)(w:World)(hc:w.cell? ⟨b,4,none⟩=some v4)(how:w.ownsRow base 160 7 v4 L.length ((List.zipWith Lc.cells L ivs).flatten))(hil:ivs.length=L.length)
  (hits: ∀(i:Nat) (l:Lc) (v:Value),L[i]?=some l→ivs[i]?=some v→w.ownsRow base 3 1 v l.items.length (l.items.map (Value.int .i64))) (hlen:L.length≤100000):
  Calls Tryz.prog 85 #[.pointer (some ⟨b,3,none⟩)] w fun e w'=>e= .returned (.int .i64 (cfM L (-1)))∧Below w.heap.size w w':=by
 obtain⟨a5,k5,rfl⟩:=za how
 have hblt:=zd hc
 have HW:=z8 how
 have HI:=z8 hits
 clear how hits
 go_enter Tryz.func85,Tryz.ntmps85
 go_wp2_with fail
 go_loopg [3,4] (L.length+1) (fun k fv iv wr=> ∃(i:Nat) (f:Int),k+i=L.length+1∧i≤L.length∧iv= .int .i64 i∧fv= .int .i64 f∧Below w.heap.size w wr∧Hid (cfM (L.drop i) f=cfM L (-1)))
 case atStart=>exact⟨0,-1,rfl,zgO _,rfl,rfl,zgR _ _,rfl⟩
 case round=>
  obtain⟨i,f,hk,hiE,rfl,rfl,hbel,hfin⟩:=hrel
  have hc':wr.cell? ⟨b,4,none⟩=some (.slice a5 L.length k5):=(hbel.cell (p:=⟨b,4,none⟩) hblt).trans hc
  have hHK:=z8 hk
  clear hk
  by_cases hlt:i<L.length
  ·obtain⟨g,cap,hv,hb,hg⟩:=HW.out.form (by omega)
   injection hv with e1 e2 e3
   subst e1 e3
   obtain⟨x,hx⟩: ∃x,L[i]?=some x:=⟨L[i],zgE hlt⟩
   obtain⟨u,hu⟩: ∃u,ivs[i]?=some u:=⟨ivs[i]'(by omega),zgE (by omega)⟩
   obtain⟨a6,k6,rfl⟩:=za (HI.out i x u hx hu)
   have hcell: ∀j z,(x.cells (.slice a6 x.items.length k6))[j]?=some z→j<7→wr.cell? ⟨g,i*7+j,none⟩=some z:=fun j z hz hj=>by
    rw [hbel.cell (p:=⟨g,i*7+j,none⟩) hg]
    exact zl HW.out _ _ ((z55 L ivs i j x _ hx hu hj).trans hz)
   have q0:wr.cell? ⟨g,i*7,none⟩=some (.int .i64 x.form):=hcell 0 _ rfl (by omega)
   have q1:=hcell 1 _ rfl (by omega)
   have q2:=hcell 2 _ rfl (by omega)
   have q3:=hcell 3 _ rfl (by omega)
   have q4:=hcell 4 _ rfl (by omega)
   have q5:=hcell 5 _ rfl (by omega)
   have q6:=hcell 6 _ rfl (by omega)
   have hlt':(i:Int)<L.length:=by omega
   have hst:=z8 ((zaP hx f).symm.trans hfin.out)
   have hB1:=z8 (hbel.alloc hbel.size (.cells #[.int .i64 x.form,.string x.text,.int .i64 x.left,.int .i64 x.right,.int .i64 x.place,.int .i64 x.count,.slice a6 x.items.length k6] 160))
   clear hcell hfin hx hu hbel
   have hk:=hHK
   cases hf:(x.form !=2)
   ·by_cases h1:1≤x.count
    ·by_cases h2:x.count≤x.items.length
     ·have hst':Hid (cfM (L.drop (i+1)) f=cfM L (-1)):=z8 (by have:=hst.out;rw [if_pos (by simp [h1,h2])] at this;exact this)
      go_wp2_with fail
      go_roundg (L.length - i)
      case measure=>have:=hk.out;omega
      case rel=>exact⟨i+1,f,by have:=hk.out;omega,by omega,by go_num,rfl,hB1.out,hst'⟩
     ·cases hm:(f== -1)
      ·by_cases hp:x.place<f
       ·have hst':Hid (cfM (L.drop (i+1)) x.place=cfM L (-1)):=z8 (by have:=hst.out;rw [if_neg (by simp [hf,h2]),if_pos (by simp [hp])] at this;exact this)
        go_wp2_with fail
        go_roundg (L.length - i)
        case measure=>have:=hk.out;omega
        case rel=>exact⟨i+1,x.place,by have:=hk.out;omega,by omega,by go_num,rfl,hB1.out,hst'⟩
       ·have hst':Hid (cfM (L.drop (i+1)) f=cfM L (-1)):=z8 (by have:=hst.out;rw [if_neg (by simp [hf,h2]),if_neg (by simp [hp,hm])] at this;exact this)
        go_wp2_with fail
        go_roundg (L.length - i)
        case measure=>have:=hk.out;omega
        case rel=>exact⟨i+1,f,by have:=hk.out;omega,by omega,by go_num,rfl,hB1.out,hst'⟩
      ·have hst':Hid (cfM (L.drop (i+1)) x.place=cfM L (-1)):=z8 (by have:=hst.out;rw [if_neg (by simp [hf,h2]),if_pos (by simp [hm])] at this;exact this)
       go_wp2_with fail
       go_roundg (L.length - i)
       case measure=>have:=hk.out;omega
       case rel=>exact⟨i+1,x.place,by have:=hk.out;omega,by omega,by go_num,rfl,hB1.out,hst'⟩
    ·cases hm:(f== -1)
     ·by_cases hp:x.place<f
      ·have hst':Hid (cfM (L.drop (i+1)) x.place=cfM L (-1)):=z8 (by have:=hst.out;rw [if_neg (by simp [hf,h1]),if_pos (by simp [hp])] at this;exact this)
       go_wp2_with fail
       go_roundg (L.length - i)
       case measure=>have:=hk.out;omega
       case rel=>exact⟨i+1,x.place,by have:=hk.out;omega,by omega,by go_num,rfl,hB1.out,hst'⟩
      ·have hst':Hid (cfM (L.drop (i+1)) f=cfM L (-1)):=z8 (by have:=hst.out;rw [if_neg (by simp [hf,h1]),if_neg (by simp [hp,hm])] at this;exact this)
       go_wp2_with fail
       go_roundg (L.length - i)
       case measure=>have:=hk.out;omega
       case rel=>exact⟨i+1,f,by have:=hk.out;omega,by omega,by go_num,rfl,hB1.out,hst'⟩
     ·have hst':Hid (cfM (L.drop (i+1)) x.place=cfM L (-1)):=z8 (by have:=hst.out;rw [if_neg (by simp [hf,h1]),if_pos (by simp [hm])] at this;exact this)
      go_wp2_with fail
      go_roundg (L.length - i)
      case measure=>have:=hk.out;omega
      case rel=>exact⟨i+1,x.place,by have:=hk.out;omega,by omega,by go_num,rfl,hB1.out,hst'⟩
   ·have hst':Hid (cfM (L.drop (i+1)) f=cfM L (-1)):=z8 (by have:=hst.out;rw [if_pos (by rw [hf];rfl)] at this;exact this)
    go_wp2_with fail
    go_roundg (L.length - i)
    case measure=>have:=hk.out;omega
    case rel=>exact⟨i+1,f,by have:=hk.out;omega,by omega,by go_num,rfl,hB1.out,hst'⟩
  ·have hz:Hid (cfM L (-1)=f):=z8 (by rw [←hfin.out,zgK (by omega)];rfl)
   go_wp2_with fail
   go_ret
   exact⟨by rw [hz.out];simp,hbel⟩
def ckM (s:zgS)(st:St):Int×Int:=
 if 600<s.size then(1,0)
 else if st.bad then(2,st.at_)
 else if 8<st.A.length then(3,0)
 else if cfM st.L (-1) != -1 then(4,cfM st.L (-1))
 else if tfM st.E [] != -1 then(5,tfM st.E [])
 else(0,0)
def z2t (s:zgS)(w:World)(st:St)(e:Ending)(w':World):Prop:= ∃a b c d V iv cv,e= .returned (.agg #[.int .i64 (ckM s st).1,.int .i64 (ckM s st).2,a,b,c,d])∧Below w.heap.size w w'∧
 (∃a1 n1 c1,a= .slice a1 n1 c1)∧(∃a1 n1 c1,b= .slice a1 n1 c1)∧(∃a1 n1 c1,c= .slice a1 n1 c1)∧(∃a1 n1 c1,d= .slice a1 n1 c1)∧
 ((ckM s st).1=0→a=V 3∧b=V 4∧c=V 5∧d=V 6∧TreeV w' w.heap.size st V iv cv)
theorem z8U {w w1:World}(h:Below w.heap.size w w1)(a b c d e f:Value):Below w.heap.size w ((((((w1.setCell ⟨w.heap.size,0,none⟩ a).setCell ⟨w.heap.size,1,none⟩ b).setCell ⟨w.heap.size,2,none⟩ c).setCell ⟨w.heap.size,3,none⟩ d).setCell ⟨w.heap.size,4,none⟩ e).setCell ⟨w.heap.size,5,none⟩ f):=
 (((((h.setCell (zgH _) _).setCell (zgH _) _).setCell (zgH _) _).setCell (zgH _) _).setCell (zgH _) _).setCell (zgH _) _
theorem zbZ {w:World}{g:Nat}{a b c d e f:Value}{t:TypeId}(hh:w.heap[g]?=some (.cells #[a,b,c,d,e,f] t)):
  w.cell? ⟨g,0,none⟩=some a∧w.cell? ⟨g,1,none⟩=some b∧w.cell? ⟨g,2,none⟩=some c∧w.cell? ⟨g,3,none⟩=some d∧w.cell? ⟨g,4,none⟩=some e∧w.cell? ⟨g,5,none⟩=some f∧(∀o,w.frozen? ⟨g,o,none⟩=false):=by
 simp [World.cell?,World.frozen?,hh]
theorem z5J {w1:World}{g:Nat}{x0 x1 x2 x3 x4 x5:Value}{t:TypeId}(h:w1.heap[g]?=some (.cells #[x0,x1,x2,x3,x4,x5] t))(a b c d e f:Value):((((((w1.setCell ⟨g,0,none⟩ a).setCell ⟨g,1,none⟩ b).setCell ⟨g,2,none⟩ c).setCell ⟨g,3,none⟩ d).setCell ⟨g,4,none⟩ e).setCell ⟨g,5,none⟩ f).heap[g]?=some (.cells #[a,b,c,d,e,f] t):=by
 simp [World.setCell,Array.getElem?_modify,h]
theorem z42 {w1:World}{g k:Nat}(a b c d e f:Value)(h:k≠g):((((((w1.setCell ⟨g,0,none⟩ a).setCell ⟨g,1,none⟩ b).setCell ⟨g,2,none⟩ c).setCell ⟨g,3,none⟩ d).setCell ⟨g,4,none⟩ e).setCell ⟨g,5,none⟩ f).heap[k]?=w1.heap[k]?:=by
 simp only [World.setCell,Array.getElem?_modify]
 simp [Ne.symm h]
theorem z2B (s:zgS)(st:St)(w:World)(hs:600<s.size)(hmax:s.size≤maxLen):
  Calls Tryz.prog 45 #[.string s] w fun e w'=>z2t s w st e w':=by
 unfold maxLen at hmax
 have hck:Hid (ckM s st=(1,0)):=z8 (by unfold ckM;rw [if_pos hs])
 have hB:=fun o:Obj=>(zgR w.heap.size w).alloc (zgH _) o
 have HB:=z8 hB
 clear hB
 have hs':(600:Int)<s.size:=by omega
 go_enter Tryz.func45,Tryz.ntmps45
 go_wp2_with fail
 refine bodyPost_ret (v:= .agg #[.int .i64 1,.int .i64 0,.slice none 0 0,.slice none 0 0,.slice none 0 0,.slice none 0 0]) ?_ rfl ⟨.slice none 0 0,.slice none 0 0,.slice none 0 0,.slice none 0 0,fun _=> .nilFunc,[],[],?_,?_,⟨_,_,_,rfl⟩,⟨_,_,_,rfl⟩,⟨_,_,_,rfl⟩,⟨_,_,_,rfl⟩,fun h=> ?_⟩
 ·simp [results,Tryz.results45,go_sem]
 ·rw [hck.out]
 ·exact HB.out _
 ·rw [hck.out] at h;cases h
theorem jz (s:zgS)(n:Nat)(st:St)(w:World)(hM:MR s n st0=some st)(hs:s.size≤600)(hE:st.E.length≤100000)(hL:st.L.length≤100000)(hA:st.A.length≤100000):
  Calls Tryz.prog 45 #[.string s] w fun e w'=>z2t s w st e w':=by
 have HM:=z8 hM
 clear hM
 have hs': ¬(600:Int)<s.size:=by omega
 have hbx:(w.alloc (.cells #[.int .i64 0,.int .i64 0,.slice none 0 0,.slice none 0 0,.slice none 0 0,.slice none 0 0] 78)).heap[w.heap.size]?=some (.cells #[.int .i64 0,.int .i64 0,.slice none 0 0,.slice none 0 0,.slice none 0 0,.slice none 0 0] 78):=heap_alloc_new w _
 have hB0:=(zgR w.heap.size w).alloc (zgH _) (.cells #[.int .i64 0,.int .i64 0,.slice none 0 0,.slice none 0 0,.slice none 0 0,.slice none 0 0] 78)
 have HB0:=z8 hB0
 have HBX:=z8 hbx
 clear hB0 hbx
 go_enter Tryz.func45,Tryz.ntmps45
 go_wp2_with fail
 refine(z79 s n st _ HM.out hs).mono ?_
 rintro e w1 ⟨V,iv,cv,rfl,hT,hB1⟩
 obtain⟨a3,k3,e3⟩: ∃a k,V 3= .slice a st.A.length k:=za (hT.own 3 (by omega) (by omega))
 obtain⟨a4,k4,e4⟩: ∃a k,V 4= .slice a st.L.length k:=za (hT.own 4 (by omega) (by omega))
 obtain⟨a5,k5,e5⟩: ∃a k,V 5= .slice a st.E.length k:=za (hT.own 5 (by omega) (by omega))
 obtain⟨a6,k6,e6⟩: ∃a k,V 6= .slice a st.C.length k:=za (hT.own 6 (by omega) (by omega))
 have HE:=z8 (zgI e3 (zgI e4 (zgI e5 e6)))
 simp only [e3,e4,e5,e6]
 have hB1:Below (w.heap.size+1) (w.alloc (.cells #[.int .i64 0,.int .i64 0,.slice none 0 0,.slice none 0 0,.slice none 0 0,.slice none 0 0] 78)) w1:=by
  have h:=hB1
  simp only [World.alloc,Array.size_push] at h ⊢
  exact h
 have hT:TreeV w1 (w.heap.size+1) st V iv cv:=by
  have h:=hT
  simp only [World.alloc,Array.size_push] at h
  exact h
 have hbx1:=(hB1.block w.heap.size (by omega)).trans HBX.out
 have HB1:=z8 (HB0.out.trans (hB1.mono (by omega)))
 have hlt1:w.heap.size<w1.heap.size:=(Array.getElem?_eq_some_iff.1 hbx1).1
 have hT2:=hT.same (w':=w1.alloc (.cells #[.string s,.int .i64 st.at_,.bool st.bad,.slice a3 st.A.length k3,.slice a4 st.L.length k4,.slice a5 st.E.length k5,.slice a6 st.C.length k6] 66)) fun k _ hk=>zgJ _ _ _ hk
 obtain⟨b0,b1,b2,b3,b4,b5,bf⟩:=zbZ hbx1
 have HB2:=z8 (HB1.out.alloc (Nat.le_of_lt hlt1) (.cells #[.string s,.int .i64 st.at_,.bool st.bad,.slice a3 st.A.length k3,.slice a4 st.L.length k4,.slice a5 st.E.length k5,.slice a6 st.C.length k6] 66))
 have HT:=z8 hT2
 have hnew:w1.heap.size≠w.heap.size:=by omega
 have HBX1:=z8 hbx1
 have HCK:=z8 (show ckM s st=_ from rfl)
 clear hT hT2 hB1 hbx1 e3 e4 e5 e6
 cases hbad:st.bad
 ·by_cases hmany:8<st.A.length
  ·have hck:Hid (ckM s st=(3,0)):=z8 (by unfold ckM;rw [if_neg (by omega),hbad,if_neg (by decide),if_pos hmany])
   clear HCK
   go_wp2_with fail
   refine bodyPost_ret (v:= .agg #[.int .i64 3,.int .i64 0,.slice none 0 0,.slice none 0 0,.slice none 0 0,.slice none 0 0]) ?_ rfl ⟨.slice none 0 0,.slice none 0 0,.slice none 0 0,.slice none 0 0,fun _=> .nilFunc,[],[],?_,?_,⟨_,_,_,rfl⟩,⟨_,_,_,rfl⟩,⟨_,_,_,rfl⟩,⟨_,_,_,rfl⟩,fun h=> ?_⟩
   ·have hz:=zbZ ((zgJ _ (.cells #[.string s,.int .i64 st.at_,.bool false,.slice a3 st.A.length k3,.slice a4 st.L.length k4,.slice a5 st.E.length k5,.slice a6 st.C.length k6] 66) w.heap.size (by simp [World.setCell];omega)).trans (z5J HBX1.out (.int .i64 3) (.int .i64 0) (.slice none 0 0) (.slice none 0 0) (.slice none 0 0) (.slice none 0 0)))
    obtain⟨z0,z1,z2,z3,z4,z5,_⟩:=hz
    simp [results,Tryz.results45,go_sem,z0,z1,z2,z3,z4,z5]
   ·rw [hck.out]
   ·exact(z8U HB1.out _ _ _ _ _ _).alloc (by simp [World.setCell];omega) _
   ·rw [hck.out] at h;cases h
  ·have hbr:(w1.alloc (.cells #[.string s,.int .i64 st.at_,.bool false,.slice a3 st.A.length k3,.slice a4 st.L.length k4,.slice a5 st.E.length k5,.slice a6 st.C.length k6] 66)).heap[w1.heap.size]?=some (.cells #[.string s,.int .i64 st.at_,.bool false,.slice a3 st.A.length k3,.slice a4 st.L.length k4,.slice a5 st.E.length k5,.slice a6 st.C.length k6] 66):=heap_alloc_new w1 _
   rw [hbad] at HB2 HT
   have hcnt:=z4l (w.heap.size+1) w1.heap.size st.L (V 4) iv _ (by rw [HE.out.2.1];exact(z9f hbr).2.2.2.2.1) (HT.out.own 4 (by omega) (by omega)) HT.out.il HT.out.items hL
   have HCN:=z8 hcnt
   have HBR:=z8 hbr
   clear hcnt hbr
   go_wp2_with fail
   refine HCN.out.mono ?_
   rintro e w2 ⟨rfl,hB3⟩
   have hB3:Below (w1.heap.size+1) (w1.alloc (.cells #[.string s,.int .i64 st.at_,.bool false,.slice a3 st.A.length k3,.slice a4 st.L.length k4,.slice a5 st.E.length k5,.slice a6 st.C.length k6] 66)) w2:=by
    have h:=hB3
    simp only [World.alloc,Array.size_push] at h ⊢
    exact h
   have hbx2:w2.heap[w.heap.size]?=some (.cells #[.int .i64 0,.int .i64 0,.slice none 0 0,.slice none 0 0,.slice none 0 0,.slice none 0 0] 78):=by
    rw [hB3.block w.heap.size (by omega),zgJ _ _ _ hlt1]
    exact HBX1.out
   have hbr2:=(hB3.block w1.heap.size (by omega)).trans HBR.out
   have HB3:=z8 (HB2.out.trans (hB3.mono (by omega)))
   have HT3:=z8 (HT.out.same (w':=w2) fun k _ hk=>hB3.block k (by simpa using hk))
   have hlt2:w1.heap.size<w2.heap.size:=(Array.getElem?_eq_some_iff.1 hbr2).1
   clear b0 b1 b2 b3 b4 b5 bf hB3 HB1 HB2 HT HCN HBX HB0 HM
   obtain⟨b0,b1,b2,b3,b4,b5,bf⟩:=zbZ hbx2
   obtain⟨r0,r1,r2,r3,r4,r5,r6,rf⟩:=z9f hbr2
   cases hc:(cfM st.L (-1) != -1)
   ·have hty:=z2A (w.heap.size+1) w1.heap.size st.E (V 5) w2 (by rw [HE.out.2.2.1];exact r5) (HT3.out.own 5 (by omega) (by omega)) hE
    have HTY:=z8 hty
    have HR2:=z8 hbr2
    have HX2:=z8 hbx2
    clear hty hbr2 hbx2
    go_wp2_with fail
    refine HTY.out.mono ?_
    rintro e w3 ⟨rfl,hB4⟩
    have HB4:=z8 (HB3.out.trans (hB4.mono (by omega)))
    have HT4:=z8 (HT3.out.same (w':=w3) fun k _ hk=>hB4.block k hk)
    have hbx3:=(hB4.block w.heap.size (by omega)).trans HX2.out
    have hbr3:=(hB4.block w1.heap.size (by omega)).trans HR2.out
    clear b0 b1 b2 b3 b4 b5 bf r0 r1 r2 r3 r4 r5 r6 rf hB4 HTY HB3 HT3
    obtain⟨b0,b1,b2,b3,b4,b5,bf⟩:=zbZ hbx3
    obtain⟨r0,r1,r2,r3,r4,r5,r6,rf⟩:=z9f hbr3
    clear hbx3 hbr3
    cases ht:(tfM st.E [] != -1)
    ·have hck:Hid (ckM s st=(0,0)):=z8 (by unfold ckM;rw [if_neg (by omega),hbad,if_neg (by decide),if_neg hmany,hc,if_neg (by decide),ht,if_neg (by decide)])
     clear HCK
     go_wp2_with fail
     refine bodyPost_ret (v:= .agg #[.int .i64 0,.int .i64 0,.slice a3 st.A.length k3,.slice a4 st.L.length k4,.slice a5 st.E.length k5,.slice a6 st.C.length k6]) ?_ rfl ⟨_,_,_,_,V,iv,cv,?_,?_,⟨_,_,_,rfl⟩,⟨_,_,_,rfl⟩,⟨_,_,_,rfl⟩,⟨_,_,_,rfl⟩,fun _=>⟨HE.out.1.symm,HE.out.2.1.symm,HE.out.2.2.1.symm,HE.out.2.2.2.symm,?_⟩⟩
     ·simp [results,Tryz.results45,go_sem,b0,b1,b2,b3,b4,b5]
     ·rw [hck.out]
     ·exact z8U HB4.out _ _ _ _ _ _
     ·refine⟨fun o h3 h6=>zu ?_ (Nat.le_succ _),HT4.out.il,HT4.out.cl,fun i l v h1 h2=>zu ?_ (Nat.le_succ _),fun i l v h1 h2=>zu ?_ (Nat.le_succ _)⟩
      ·exact zc (HT4.out.own o h3 h6) fun k e=>z42 _ _ _ _ _ _ (by have:=((HT4.out.own o h3 h6).lt k e).1;omega)
      ·exact zc (HT4.out.items i l v h1 h2) fun k e=>z42 _ _ _ _ _ _ (by have:=((HT4.out.items i l v h1 h2).lt k e).1;omega)
      ·exact zc (HT4.out.clauses i l v h1 h2) fun k e=>z42 _ _ _ _ _ _ (by have:=((HT4.out.clauses i l v h1 h2).lt k e).1;omega)
    ·have hck:Hid (ckM s st=(5,tfM st.E [])):=z8 (by unfold ckM;rw [if_neg (by omega),hbad,if_neg (by decide),if_neg hmany,hc,if_neg (by decide),ht,if_pos rfl])
     clear HCK
     go_wp2_with fail
     refine bodyPost_ret (v:= .agg #[.int .i64 5,.int .i64 (tfM st.E []),.slice none 0 0,.slice none 0 0,.slice none 0 0,.slice none 0 0]) ?_ rfl ⟨.slice none 0 0,.slice none 0 0,.slice none 0 0,.slice none 0 0,fun _=> .nilFunc,[],[],?_,?_,⟨_,_,_,rfl⟩,⟨_,_,_,rfl⟩,⟨_,_,_,rfl⟩,⟨_,_,_,rfl⟩,fun h=> ?_⟩
     ·simp [results,Tryz.results45,go_sem,b0,b1,b2,b3,b4,b5,hnew]
     ·rw [hck.out]
     ·exact z8U HB4.out _ _ _ _ _ _
     ·rw [hck.out] at h;cases h
   ·have hck:Hid (ckM s st=(4,cfM st.L (-1))):=z8 (by unfold ckM;rw [if_neg (by omega),hbad,if_neg (by decide),if_neg hmany,hc,if_pos rfl])
    clear HCK
    go_wp2_with fail
    refine bodyPost_ret (v:= .agg #[.int .i64 4,.int .i64 (cfM st.L (-1)),.slice none 0 0,.slice none 0 0,.slice none 0 0,.slice none 0 0]) ?_ rfl ⟨.slice none 0 0,.slice none 0 0,.slice none 0 0,.slice none 0 0,fun _=> .nilFunc,[],[],?_,?_,⟨_,_,_,rfl⟩,⟨_,_,_,rfl⟩,⟨_,_,_,rfl⟩,⟨_,_,_,rfl⟩,fun h=> ?_⟩
    ·simp [results,Tryz.results45,go_sem,b0,b1,b2,b3,b4,b5,hnew]
    ·rw [hck.out]
    ·exact z8U HB3.out _ _ _ _ _ _
    ·rw [hck.out] at h;cases h
 ·have hck:Hid (ckM s st=(2,(st.at_:Int))):=z8 (by unfold ckM;rw [if_neg (by omega),hbad,if_pos rfl])
  clear HCK
  go_wp2_with fail
  refine bodyPost_ret (v:= .agg #[.int .i64 2,.int .i64 st.at_,.slice none 0 0,.slice none 0 0,.slice none 0 0,.slice none 0 0]) ?_ rfl ⟨.slice none 0 0,.slice none 0 0,.slice none 0 0,.slice none 0 0,fun _=> .nilFunc,[],[],?_,?_,⟨_,_,_,rfl⟩,⟨_,_,_,rfl⟩,⟨_,_,_,rfl⟩,⟨_,_,_,rfl⟩,fun h=> ?_⟩
  ·have hz:=zbZ ((zgJ _ (.cells #[.string s,.int .i64 st.at_,.bool true,.slice a3 st.A.length k3,.slice a4 st.L.length k4,.slice a5 st.E.length k5,.slice a6 st.C.length k6] 66) w.heap.size (by simp [World.setCell];omega)).trans (z5J HBX1.out (.int .i64 2) (.int .i64 st.at_) (.slice none 0 0) (.slice none 0 0) (.slice none 0 0) (.slice none 0 0)))
   obtain⟨z0,z1,z2,z3,z4,z5,_⟩:=hz
   simp [results,Tryz.results45,go_sem,z0,z1,z2,z3,z4,z5]
  ·rw [hck.out]
  ·exact(z8U HB1.out _ _ _ _ _ _).alloc (by simp [World.setCell];omega) _
  ·rw [hck.out] at h;cases h
theorem z7T (s:zgS)(st:St)(w:World)(h:Calls Tryz.prog 45 #[.string s] w fun e w'=>z2t s w st e w'):
  Calls Tryz.prog 25 #[.string s] w fun e w'=>e= .returned (.tuple #[.int .i64 (ckM s st).1,.int .i64 (ckM s st).2])∧Below w.heap.size w w':=by
 have H:=z8 h
 clear h
 go_enter Tryz.func25,Tryz.ntmps25
 go_wp2_with fail
 refine H.out.mono ?_
 rintro e w1 ⟨a,b,c,d,V,iv,cv,rfl,hB,⟨a1,n1,k1,rfl⟩,⟨a2,n2,k2,rfl⟩,⟨a3,n3,k3,rfl⟩,⟨a4,n4,k4,rfl⟩,_⟩
 have HB:=z8 (hB.alloc hB.size (.cells #[.int .i64 (ckM s st).1,.int .i64 (ckM s st).2,.slice a1 n1 k1,.slice a2 n2 k2,.slice a3 n3 k3,.slice a4 n4 k4] 78))
 clear hB
 go_wp2_with fail
 go_quiet (fail)
 go_wp2_with fail
 go_ret2
 exact⟨by simp,⟨HB.out.os,HB.out.tape,HB.out.output,HB.out.size,HB.out.block⟩⟩
def jg (s:zgS)(a:Nat)(d:Bool):Int:=if d then 0 else if h:a<s.size then(s[a].toNat:Int) else 0
theorem zV {s:zgS}{a:Nat}{d:Bool}{c:Int}(hc:0<c):(jg s a d==c)=(pk s a d==c):=by
 have h1:((0:Int)==c)=false:=by rw [beq_eq_false_iff_ne];omega
 have h2:((-1:Int)==c)=false:=by rw [beq_eq_false_iff_ne];omega
 unfold jg pk
 split
 ·rw [h1,h2]
 ·split
  ·rfl
  ·rw [h1,h2]
theorem j9 (s:zgS)(a:Nat)(d:Bool):0≤jg s a d∧jg s a d≤255:=by
 unfold jg
 split
 ·omega
 ·split
  ·have:=(s[a]).toNat_lt;omega
  ·omega
theorem z0G (s:zgS)(a:Nat)(d:Bool):zk (jg s a d)=zk (pk s a d):=by
 unfold jg pk
 split
 ·decide
 ·split
  ·rfl
  ·decide
theorem jC (s:zgS)(a:Nat)(d:Bool):zg (jg s a d)=zg (pk s a d):=by
 unfold jg pk
 split
 ·decide
 ·split
  ·rfl
  ·decide
theorem zQ (b a:Nat)(s:zgS)(d:Bool)(w:World)(h:Rd w b s a d):
  Calls Tryz.prog 96 #[.pointer (some ⟨b,0,none⟩),.int .i64 0] w fun e w'=>e= .returned (.int .u8 (jg s a d))∧ ∃n,w'=w.drewN n:=by
 obtain⟨h0,h1,h2,_,_,ha,hs⟩:=h
 cases d with
 |true=>
  have hp:jg s a true=0:=rfl
  rw [hp]
  clear hp
  go_enter Tryz.func96,Tryz.ntmps96
  go_wp2_with fail
  go_quiet (fail)
  go_wp2_with fail
  go_ret
  exact⟨rfl,_,rfl⟩
 |false=>
  by_cases hlt:a<s.size
  ·have hp:jg s a false=s[a].toNat:=by simp [jg,hlt]
   rw [hp]
   have hwr:IntKind.i64.wrap (a:Int)=(a:Int):=by rw [IntWalk.i64_left,IntWalk.wrap64_in _ (by omega)]
   clear hp ha
   go_enter Tryz.func96,Tryz.ntmps96
   go_wp2_with fail
   go_quiet (fail)
   go_wp2_with fail
   go_quiet (fail)
   go_wp2_with fail
   go_ret
   exact⟨by simp,_,World.drewN_drewN _ _ _⟩
  ·have hp:jg s a false=0:=by simp [jg,hlt]
   rw [hp]
   clear hp
   go_enter Tryz.func96,Tryz.ntmps96
   go_wp2_with fail
   go_quiet (fail)
   go_wp2_with fail
   go_ret
   exact⟨rfl,_,rfl⟩
theorem zK (b a:Nat)(s:zgS)(d:Bool)(w:World)(h:Rd w b s a d):
  Calls Tryz.prog 52 #[.pointer (some ⟨b,0,none⟩)] w fun e w'=>e= .returned (.tuple #[])∧Rd w' b s (skip s a d) d∧Sc b w w':=by
 go_enter Tryz.func52,Tryz.ntmps52
 go_wp2_with fail
 go_loopw [] (fun wr=> ∃k,Rd wr b s k d∧Sc b w wr∧Hid (skip s k d=skip s a d)) (fun wr=>s.size - atOf wr b)
 case atStart=>exact⟨a,h,Sc.refl _ _,rfl⟩
 case round=>
  obtain⟨k,hk,hsc,hsk⟩:=hrel
  have hat:=z8 hk.atOf
  have hk':=hk
  by_cases hb:pk s k d=32
  ·have hlt:=(jT (s:=s) (a:=k) (d:=d) (by omega)).2
   have hset:=fun n=>(hk.drewN n).setAt' (k+1) (k+1) (by omega) hlt
   have hst:=z8 (z0V hb)
   have hb':(jg s k d==32)=true:=by rw [zV (by omega)];simp [hb]
   clear hb
   obtain⟨h0,h1,h2,f1,f2,ha,hs⟩:=hk
   go_wp2_with (go_at_call 96;refine(zQ _ _ _ _ _ hk').mono ?_;rintro e w1 ⟨rfl,n,rfl⟩)
   have hset:=hset n
   go_roundw
   case rel=>exact⟨k+1,hset,(hsc.drewN n).setCell 1 (Or.inl rfl) _,hst.out.trans hsk.out⟩
   case measure=>rw [hset.atOf,hat.out];omega
  ·have hst:=z8 (zI hb)
   have hb':(jg s k d==32)=false:=by rw [zV (by omega)];simp [hb]
   clear hb
   obtain⟨h0,h1,h2,f1,f2,ha,hs⟩:=hk
   go_wp2_with (go_at_call 96;refine(zQ _ _ _ _ _ hk').mono ?_;rintro e w1 ⟨rfl,n,rfl⟩)
   go_end0
   exact⟨rfl,by rw [←hsk.out,hst.out];exact hk'.drewN n,hsc.drewN n⟩
theorem z0W (c:Int)(w:World)(h:0≤c∧c≤255):Calls Tryz.prog 141 #[.int .u8 c] w fun e w'=>e= .returned (.bool (zk c))∧w'=w:=by
 obtain⟨_,_⟩:=h
 by_cases h1:97≤c
 all_goals by_cases h2:c≤122
 all_goals by_cases h3:65≤c
 all_goals by_cases h4:c≤90
 all_goals try omega
 all_goals
  go_enter Tryz.func141,Tryz.ntmps141
  go_wp2_with fail
  go_ret
  exact⟨by simp [zk];first|omega|(rw [Bool.eq_iff_iff];simp;omega),rfl⟩
theorem jG (c:Int)(w:World)(h:0≤c∧c≤255):Calls Tryz.prog 142 #[.int .u8 c] w fun e w'=>e= .returned (.bool (zg c))∧w'=w:=by
 obtain⟨_,_⟩:=h
 by_cases h1:48≤c
 all_goals by_cases h2:c≤57
 all_goals try omega
 all_goals
  go_enter Tryz.func142,Tryz.ntmps142
  go_wp2_with fail
  go_ret
  exact⟨by simp [zg];omega,rfl⟩
theorem zN (b a:Nat)(s t:zgS)(d:Bool)(w:World)(h:Rd w b s a d)(ht:t.size≤600):
  Calls Tryz.prog 95 #[.pointer (some ⟨b,0,none⟩),.string t] w fun e w'=>e= .returned (.tuple #[])∧Rd w' b s (zt s d t.data.toList a).1 (zt s d t.data.toList a).2∧Sc b w w':=by
 go_enter Tryz.func95,Tryz.ntmps95
 go_wp2_with fail
 go_loopw [4] (fun i wr=> ∃k ak:Nat,i= .int .i64 k∧k≤t.size∧Rd wr b s ak d∧Sc b w wr∧Hid (zt s d (t.data.toList.drop k) ak=zt s d t.data.toList a)) (fun i wr=>t.size -(intOf i).toNat)
 case atStart=>exact⟨0,a,rfl,zgO _,h,Sc.refl _ _,rfl⟩
 case round=>
  obtain⟨k,ak,rfl,hkt,hk,hsc,hsk⟩:=hrel
  have hk':=hk
  obtain⟨h0,h1,h2,f1,f2,ha,hs⟩:=hk
  by_cases hlt:k<t.size
  ·have hlti:(k:Int)<t.size:=by omega
   cases d with
   |true=>
    have hst:Hid (zt s true t.data.toList a=(ak,true)):=z8 (by rw [←hsk.out,z02 t k hlt,je (by simp [pk])])
    go_wp2_with fail
    go_end0
    exact⟨rfl,by rw [hst.out];exact hk',hsc⟩
   |false=>
    by_cases hp:ak<s.size
    ·have hpi:(ak:Int)<s.size:=by omega
     have hpk:pk s ak false=s[ak].toNat:=by simp [pk,hp]
     by_cases hb:pk s ak false=(t[k].toNat:Int)
     ·have hset:=fun n=>(hk'.drewN n).setAt' (ak+1) (ak+1) (by omega) hp
      have hst:Hid (zt s false (t.data.toList.drop (k+1)) (ak+1)=zt s false t.data.toList a):=z8 (by rw [←hsk.out,z02 t k hlt,jd hb])
      have hb':((s[ak].toNat:Int) !=(t[k].toNat:Int))=false:=by rw [←hpk];simp [hb]
      clear hb hpk
      go_wp2_with fail
      go_quiet (fail)
      go_wp2_with fail
      have hset:=hset nq
      go_roundw
      case rel=>exact⟨k+1,ak+1,by go_num,by omega,hset,(hsc.drewN nq).setCell 1 (Or.inl rfl) _,hst⟩
      case measure=>simp [intOf];omega
     ·have hst:Hid (zt s false t.data.toList a=(ak,true)):=z8 (by rw [←hsk.out,z02 t k hlt,je hb])
      have hb':((s[ak].toNat:Int) !=(t[k].toNat:Int))=true:=by rw [←hpk];simp [hb]
      have hset:=fun n=>(hk'.drewN n).setBad true
      clear hb hpk
      go_wp2_with fail
      go_quiet (fail)
      go_wp2_with fail
      refine bodyPost_ret (results_none rfl _ _ _) rfl ?_
      exact⟨rfl,by rw [hst.out];exact hset _,(hsc.drewN _).setCell 2 (Or.inr rfl) _⟩
    ·have hpi: ¬(ak:Int)<s.size:=by omega
     have hst:Hid (zt s false t.data.toList a=(ak,true)):=z8 (by rw [←hsk.out,z02 t k hlt,je (by simp [pk,hp])])
     have hset:=fun n=>(hk'.drewN n).setBad true
     go_wp2_with fail
     go_quiet (fail)
     go_wp2_with fail
     refine bodyPost_ret (results_none rfl _ _ _) rfl ?_
     exact⟨rfl,by rw [hst.out];exact hset _,(hsc.drewN _).setCell 2 (Or.inr rfl) _⟩
  ·have hst:Hid (zt s d t.data.toList a=(ak,d)):=z8 (by rw [←hsk.out,zgK (by simpa using hlt)];rfl)
   have hlti: ¬(k:Int)<t.size:=by omega
   go_wp2_with fail
   go_end0
   exact⟨rfl,by rw [hst.out];exact hk',hsc⟩
theorem z5j (b a:Nat)(s t:zgS)(d:Bool)(w:World)(h:Rd w b s a d)(ht:t.size≤600):
  Calls Tryz.prog 134 #[.pointer (some ⟨b,0,none⟩),.string t] w fun e w'=>e= .returned (.tuple #[])∧
   Rd w' b s (jo s (zt s d t.data.toList a).2 [32] (zt s d t.data.toList a).1).1 (jo s (zt s d t.data.toList a).2 [32] (zt s d t.data.toList a).1).2∧Sc b w w':=by
 go_enter Tryz.func134,Tryz.ntmps134
 go_wp2_with fail
 refine(zN _ _ _ _ _ _ h ht).mono ?_
 rintro e w1 ⟨rfl,hr1,hs1⟩
 go_wp2_with fail
 refine(zN _ _ _ _ _ _ hr1 (by decide)).mono ?_
 rintro e w2 ⟨rfl,hr2,hs2⟩
 go_wp2_with fail
 refine(zK _ _ _ _ _ hr2).mono ?_
 rintro e w3 ⟨rfl,hr3,hs3⟩
 go_wp2_with fail
 go_end0
 exact⟨rfl,hr3,(hs1.trans hs2).trans hs3⟩
theorem z6r (b a:Nat)(s:zgS)(d:Bool)(w:World)(h:Rd w b s a d):
  Calls Tryz.prog 135 #[.pointer (some ⟨b,0,none⟩)] w fun e w'=>e= .returned (.tuple #[])∧Rd w' b s (zt s d [10] (skip s a d)).1 (zt s d [10] (skip s a d)).2∧Sc b w w':=by
 go_enter Tryz.func135,Tryz.ntmps135
 go_wp2_with fail
 refine(zK _ _ _ _ _ h).mono ?_
 rintro e w1 ⟨rfl,hr1,hs1⟩
 go_wp2_with fail
 refine(zN _ _ _ _ _ _ hr1 (by decide)).mono ?_
 rintro e w2 ⟨rfl,hr2,hs2⟩
 go_wp2_with fail
 go_end0
 exact⟨rfl,hr2,hs1.trans hs2⟩
theorem z2k (s:zgS)(i j:Nat):(s.extract i j).toList=(s.data.toList.drop i).take (j - i):=by
 rw [zgG,ByteArray.data_extract,Array.toList_extract,List.extract_eq_take_drop]
theorem z5u (s:zgS)(p:Nat)(h:p<s.size):s.data.toList.drop p=s[p]::s.data.toList.drop (p+1):=z02 s p h
theorem zgq {s:zgS}{p:Nat}(h:p+1≤s.size):(s.extract p (p+1)).toList=[s[p]]:=by
 rw [z2k,z5u s p (by omega),show p+1 - p=1 by omega]
 rfl
theorem zgx {s:zgS}{p:Nat}(h:p+2≤s.size):(s.extract p (p+2)).toList=[s[p],s[p+1]]:=by
 rw [z2k,z5u s p (by omega),z5u s (p+1) (by omega),show p+2 - p=2 by omega]
 rfl
theorem z5A (x c:UInt8):(x==c)=((x.toNat:Int)==(c.toNat:Int)):=by
 rw [Bool.eq_iff_iff]
 simp only [beq_iff_eq]
 constructor
 ·intro h;rw [h]
 ·intro h;exact UInt8.toNat_inj.1 (by omega)
theorem zgs {s:zgS}{p:Nat}(c:UInt8)(h:p+1≤s.size):((s.extract p (p+1)).toList==[c])=(pk s p false==(c.toNat:Int)):=by
 rw [zgq h,show pk s p false=(s[p].toNat:Int) by simp [pk,show p<s.size by omega],←z5A]
 simp
theorem zgt {s:zgS}{p:Nat}(h:p+2≤s.size):((s.extract p (p+2)).toList==[45,62])=zz s p false:=by
 unfold zz
 rw [zgx h,show pk s p false=(s[p].toNat:Int) by simp [pk,show p<s.size by omega],show pk s (p+1) false=(s[p+1].toNat:Int) by simp [pk,show p+1<s.size by omega]]
 rw [show((s[p].toNat:Int)==45)=(s[p]==45) from(z5A s[p] 45).symm,show((s[p+1].toNat:Int)==62)=(s[p+1]==62) from(z5A s[p+1] 62).symm]
 simp
theorem jH (b a:Nat)(s:zgS)(c:UInt8)(d:Bool)(w:World)(h:Rd w b s a d):
  Calls Tryz.prog 138 #[.pointer (some ⟨b,0,none⟩),.string ⟨#[c]⟩] w fun e w'=>e= .returned (.bool (pk s (skip s a d) d==(c.toNat:Int)))∧Rd w' b s (skip s a d) d∧Sc b w w':=by
 have HB:=z8 (zK b a s d w h)
 clear h
 generalize skip s a d=p at*
 go_enter Tryz.func138,Tryz.ntmps138
 go_wp2_with fail
 refine HB.out.mono ?_
 rintro e w1 ⟨rfl,hr1,hs1⟩
 obtain⟨h0,h1,h2,f1,f2,ha,hs⟩:=id hr1
 cases d with
 |true=>
  have hv:Hid ((pk s p true==(c.toNat:Int))=false):=z8 (by simp [pk])
  go_wp2_with fail
  go_quiet (fail)
  go_wp2_with fail
  go_ret
  exact⟨by rw [hv.out];simp,hr1.drewN _,hs1.drewN _⟩
 |false=>
  by_cases hp:p+1≤s.size
  ·have hpi:(p:Int)+1≤s.size:=by omega
   have hwr:IntKind.i64.wrap ((p:Int)+1)=(p:Int)+1:=by rw [IntWalk.i64_left,IntWalk.wrap64_in _ (by omega)]
   go_wp2_with fail
   go_quiet (fail)
   go_wp2_with fail
   go_ret
   exact⟨by rw [←zgs c hp];simp,hr1.drewN _,hs1.drewN _⟩
  ·have hpi: ¬(p:Int)+1≤s.size:=by omega
   have hv:Hid ((pk s p false==(c.toNat:Int))=false):=z8 (by simp [pk,show ¬p<s.size by omega])
   have hwr:IntKind.i64.wrap ((p:Int)+1)=(p:Int)+1:=by rw [IntWalk.i64_left,IntWalk.wrap64_in _ (by omega)]
   have hd:decide ((p:Int)+1≤s.size)=false:=by simp;omega
   go_wp2_with fail
   go_quiet (fail)
   go_wp2_with fail
   go_ret
   exact⟨by rw [hv.out];simp,hr1.drewN _,hs1.drewN _⟩
theorem z96 (b a:Nat)(s:zgS)(d:Bool)(w:World)(h:Rd w b s a d):
  Calls Tryz.prog 138 #[.pointer (some ⟨b,0,none⟩),.string ⟨#[45,62]⟩] w fun e w'=>e= .returned (.bool (zz s (skip s a d) d))∧Rd w' b s (skip s a d) d∧Sc b w w':=by
 have HB:=z8 (zK b a s d w h)
 clear h
 generalize skip s a d=p at*
 go_enter Tryz.func138,Tryz.ntmps138
 go_wp2_with fail
 refine HB.out.mono ?_
 rintro e w1 ⟨rfl,hr1,hs1⟩
 obtain⟨h0,h1,h2,f1,f2,ha,hs⟩:=id hr1
 cases d with
 |true=>
  have hv:Hid (zz s p true=false):=z8 (by simp [zz,pk])
  go_wp2_with fail
  go_quiet (fail)
  go_wp2_with fail
  go_ret
  exact⟨by rw [hv.out];simp,hr1.drewN _,hs1.drewN _⟩
 |false=>
  have hwr:IntKind.i64.wrap ((p:Int)+2)=(p:Int)+2:=by rw [IntWalk.i64_left,IntWalk.wrap64_in _ (by omega)]
  by_cases hp:p+2≤s.size
  ·have hpi:(p:Int)+2≤s.size:=by omega
   go_wp2_with fail
   go_quiet (fail)
   go_wp2_with fail
   go_ret
   exact⟨by rw [←zgt hp];simp,hr1.drewN _,hs1.drewN _⟩
  ·have hpi: ¬(p:Int)+2≤s.size:=by omega
   have hv:Hid (zz s p false=false):=z8 (by simp [zz,pk,show ¬p+1<s.size by omega])
   have hd:decide ((p:Int)+2≤s.size)=false:=by simp;omega
   go_wp2_with fail
   go_quiet (fail)
   go_wp2_with fail
   go_ret
   exact⟨by rw [hv.out];simp,hr1.drewN _,hs1.drewN _⟩
def z19 (s:zgS)(a:Nat)(d:Bool):Nat×Bool×zgS:=
 let r:=run zk s d 8 a
 if r==a||zk (pk s r d) then(r,true,⟨#[]⟩) else(r,d,s.extract a r)
theorem z5L {s:zgS}{a k:Nat}{d:Bool}(hr:run zk s d 8 a=k)(h:k=a∨zk (pk s k d)=true):z19 s a d=(k,true,⟨#[]⟩):=by
 unfold z19
 simp only [hr]
 rw [if_pos]
 rcases h with rfl|h<;>simp [*]
theorem z7u {s:zgS}{a k:Nat}{d:Bool}(hr:run zk s d 8 a=k)(h:k≠a)(h2:zk (pk s k d)=false):z19 s a d=(k,d,s.extract a k):=by
 unfold z19
 simp only [hr]
 rw [if_neg]
 simp [*]
theorem z0A (b a:Nat)(s:zgS)(d:Bool)(w:World)(h:Rd w b s a d):
  Calls Tryz.prog 97 #[.pointer (some ⟨b,0,none⟩)] w fun e w'=>e= .returned (.string (z19 s a d).2.2)∧Rd w' b s (z19 s a d).1 (z19 s a d).2.1∧Sc b w w':=by
 have hle:=h.le
 have hsz:=h.sz
 obtain⟨h0,h1,h2,f1,f2,_,_⟩:=id h
 go_enter Tryz.func97,Tryz.ntmps97
 go_wp2_with fail
 go_loopw [] (fun wr=> ∃k,Rd wr b s k d∧Sc b w wr∧a≤k∧k≤a+8∧Hid (run zk s d (8 -(k - a)) k=run zk s d 8 a)) (fun wr=>s.size - atOf wr b)
 case atStart=>exact⟨a,h,Sc.refl _ _,zgH _,by omega,by simp [Hid]⟩
 case round=>
  obtain⟨k,hk,hsc,hak,hk8,hsk⟩:=hrel
  have hat:=z8 hk.atOf
  have hk':=hk
  clear h0 h1 h2 f1 f2
  obtain⟨h0,h1,h2,f1,f2,ha,hs⟩:=hk
  have hend:k - a<8→zk (pk s k d)=true∨Hid (run zk s d 8 a=k):=by
   intro h8
   cases hb:zk (pk s k d)
   ·exact .inr (z8 (by rw [←hsk.out];exact ju hb))
   ·exact .inl rfl
  by_cases hgo:k - a<8∧zk (pk s k d)=true
  ·obtain⟨h8,hb⟩:=hgo
   have h8':(k:Int)- a<8:=by omega
   have hne:pk s k d≠ -1:=fun e=>by rw [e] at hb;exact absurd hb (by decide)
   have hlt:=(jT hne).2
   have hset:=fun n=>(hk'.drewN n).setAt' (k+1) (k+1) (by omega) hlt
   have hst:Hid (run zk s d (8 -(k+1 - a)) (k+1)=run zk s d 8 a):=z8 (by
    rw [←hsk.out,show 8 -(k - a)=(8 -(k+1 - a))+1 by omega,z1q hb])
   have hb2:zk (jg s k d)=true:=(z0G s k d).trans hb
   clear hne hend
   go_wp2_with (first|(go_at_call 96;refine(zQ b k s d _ (by first|exact hk'|exact hk'.drewN _)).mono ?_;rintro e w1 ⟨rfl,n,rfl⟩)|(go_at_call 141;refine(z0W _ _ (j9 _ _ _)).mono ?_;rintro e w1 ⟨rfl,rfl⟩))
   have hset:=hset n
   go_roundw
   case rel=>exact⟨k+1,hset,(hsc.drewN n).setCell 1 (Or.inl rfl) _,by omega,by omega,hst⟩
   case measure=>rw [hset.atOf,hat.out];omega
  ·have hrun:Hid (run zk s d 8 a=k):=by
    by_cases h8:k - a<8
    ·exact(hend h8).resolve_left fun e=>hgo ⟨h8,e⟩
    ·exact z8 (by rw [←hsk.out,show 8 -(k - a)=0 by omega];rfl)
   clear hend hsk hat hk8
   by_cases h8:k - a<8
   ·have h8':(k:Int)- a<8:=by omega
    have hb:zk (pk s k d)=false:=by cases hc:zk (pk s k d) with|false=>rfl|true=>exact absurd ⟨h8,hc⟩ hgo
    have hb2:zk (jg s k d)=false:=(z0G s k d).trans hb
    clear hgo
    by_cases hka:k=a
    ·have hfin:=z8 (z5L hrun.out (.inl hka))
     have hka':((k:Int)==a)=true:=by simp [hka]
     clear hka
     go_wp2_with (first|(go_at_call 96;refine(zQ b k s d _ (by first|exact hk'|exact hk'.drewN _)).mono ?_;rintro e w1 ⟨rfl,n,rfl⟩)|(go_at_call 141;refine(z0W _ _ (j9 _ _ _)).mono ?_;rintro e w1 ⟨rfl,rfl⟩))
     go_ret
     exact⟨by rw [hfin.out];rfl,by rw [hfin.out];exact(hk'.drewN _).setBad true,(hsc.drewN _).setCell 2 (Or.inr rfl) _⟩
    ·have hfin:=z8 (z7u hrun.out hka hb)
     have hka':((k:Int)==a)=false:=by simp;omega
     clear hka
     go_wp2_with (first|(go_at_call 96;refine(zQ b k s d _ (by first|exact hk'|exact hk'.drewN _)).mono ?_;rintro e w1 ⟨rfl,n,rfl⟩)|(go_at_call 141;refine(z0W _ _ (j9 _ _ _)).mono ?_;rintro e w1 ⟨rfl,rfl⟩))
     go_quiet (fail)
     go_wp2_with fail
     go_ret
     exact⟨by rw [hfin.out];simp,by rw [hfin.out];exact(hk'.drewN _).drewN _,(hsc.drewN _).drewN _⟩
   ·have h8': ¬(k:Int)- a<8:=by omega
    clear hgo
    have hka':((k:Int)==a)=false:=by simp;omega
    cases hb:zk (pk s k d)
    ·have hfin:=z8 (z7u hrun.out (by omega) hb)
     have hb2:zk (jg s k d)=false:=(z0G s k d).trans hb
     go_wp2_with (first|(go_at_call 96;refine(zQ b k s d _ (by first|exact hk'|exact hk'.drewN _)).mono ?_;rintro e w1 ⟨rfl,n,rfl⟩)|(go_at_call 141;refine(z0W _ _ (j9 _ _ _)).mono ?_;rintro e w1 ⟨rfl,rfl⟩))
     go_quiet (fail)
     go_wp2_with fail
     go_ret
     exact⟨by rw [hfin.out];simp,by rw [hfin.out];exact(hk'.drewN _).drewN _,(hsc.drewN _).drewN _⟩
    ·have hfin:=z8 (z5L hrun.out (.inr hb))
     have hb2:zk (jg s k d)=true:=(z0G s k d).trans hb
     go_wp2_with (first|(go_at_call 96;refine(zQ b k s d _ (by first|exact hk'|exact hk'.drewN _)).mono ?_;rintro e w1 ⟨rfl,n,rfl⟩)|(go_at_call 141;refine(z0W _ _ (j9 _ _ _)).mono ?_;rintro e w1 ⟨rfl,rfl⟩))
     go_ret
     exact⟨by rw [hfin.out];rfl,by rw [hfin.out];exact(hk'.drewN _).setBad true,(hsc.drewN _).setCell 2 (Or.inr rfl) _⟩
structure Rf (b:Nat)(w w':World):Prop where
 os:w'.os=w.os
 tape:w'.tape=w.tape
 output:w'.output=w.output
 size:w.heap.size≤w'.heap.size
 block: ∀k,k<w.heap.size→k≠b→w'.heap[k]?=w.heap[k]?
theorem Rf.refl (b:Nat)(w:World):Rf b w w:=⟨rfl,rfl,rfl,zgH _,fun _ _ _=>rfl⟩
theorem Rf.trans {b:Nat}{u v w:World}(h:Rf b u v)(k:Rf b v w):Rf b u w:=
 ⟨k.os.trans h.os,k.tape.trans h.tape,k.output.trans h.output,zgP h.size k.size,fun i hi hn=>(k.block i (zgN hi h.size) hn).trans (h.block i hi hn)⟩
theorem Rf.drewN {b:Nat}{u w:World}(h:Rf b u w)(n:Nat):Rf b u (w.drewN n):=⟨h.os,h.tape,h.output,h.size,h.block⟩
theorem Rf.alloc {b:Nat}{u w:World}(h:Rf b u w)(o:Obj):Rf b u (w.alloc o):=h.trans ⟨rfl,rfl,rfl,by simp,fun k hk _=>zgJ _ _ _ hk⟩
theorem Sc.rf {b:Nat}{w w':World}(h:Sc b w w'):Rf b w w':=⟨h.os,h.tape,h.output,Nat.le_of_eq h.size.symm,fun k _ hn=>h.block k hn⟩
theorem Rf.setCell {b:Nat}{u w:World}(h:Rf b u w){a:Addr}(ha:u.heap.size≤a.block)(v:Value):Rf b u (w.setCell a v):=
 ⟨h.os,h.tape,h.output,by simpa [World.setCell] using h.size,fun k hk hn=>(zgQ _ _ _ _ (by omega)).trans (h.block k hk hn)⟩
theorem Rf.grown {b:Nat}{u w w':World}{row:Option Nat}(h:Rf b u w)(hg:w.grownBy w' row)(hr: ∀k,row=some k→u.heap.size≤k):Rf b u w':=
 ⟨hg.os.trans h.os,hg.tape.trans h.tape,hg.output.trans h.output,zgP h.size hg.size,fun k hk hn=>(hg.block k (zgN hk h.size) fun e=>by have:=hr k e.symm;omega).trans (h.block k hk hn)⟩
structure Node (b B:Nat)(w:World)(v:Value)(op tx:zgS)(at_:Int)(kids:List Value):Prop where
 ex: ∃g kv,v= .pointer (some ⟨g,0,none⟩)∧g≠b∧B≤g∧w.heap[g]?=some (.cells #[.string op,.string tx,.int .i64 at_,kv] 138)∧w.ownsRow B 89 1 kv kids.length kids∧kv.ownBlock≠some b
def z2D (b B:Nat)(w w':World):Prop:= ∀k,B≤k→k<w.heap.size→k≠b→w'.heap[k]?=w.heap[k]?
theorem Rf.same {b:Nat}{w w':World}(h:Rf b w w')(B:Nat):z2D b B w w':=fun k _ hk hn=>h.block k hk hn
theorem Node.keepS {b B:Nat}{w w':World}{v:Value}{op tx:zgS}{a:Int}{kids:List Value}(h:Node b B w v op tx a kids)(hr:z2D b B w w'):Node b B w' v op tx a kids:=by
 obtain⟨g,kv,h1,h2,h0,h3,h4,h5⟩:=h.ex
 refine⟨g,kv,h1,h2,h0,(hr g h0 (Array.getElem?_eq_some_iff.1 h3).1 h2).trans h3,zc h4 fun k e=>hr k (h4.lt k e).1 (h4.lt k e).2 fun q=>h5 (q▸e),h5⟩
theorem z0a {w:World}{base base' e size n:Nat}{v:Value}{xs:List Value}(h:w.ownsRow base e size v n xs)(hb:base'≤base):w.ownsRow base' e size v n xs:=by
 refine⟨h.1,?_⟩
 rcases h.2 with hn|⟨g,cap,cur,hv,hg,r⟩
 ·exact .inl hn
 ·exact .inr ⟨g,cap,cur,hv,zgP hb hg,r⟩
theorem Node.low {b B B':Nat}{w:World}{v:Value}{op tx:zgS}{a:Int}{kids:List Value}(h:Node b B w v op tx a kids)(hB:B'≤B):Node b B' w v op tx a kids:=by
 obtain⟨g,kv,h1,h2,h0,h3,h4,h5⟩:=h.ex
 exact⟨g,kv,h1,h2,zgP hB h0,h3,z0a h4 hB,h5⟩
def zfv:zgS:=⟨#[110,117,109]⟩
def zfi:zgS:=⟨#[115,116,114]⟩
def zaI:zgS:=⟨#[97,116,116,114]⟩
def sAt:zgS:=⟨#[97,116]⟩
def z4g:zgS:=⟨#[110,97,109,101]⟩
def sOf:zgS:=⟨#[111,102]⟩
def sIf:zgS:=⟨#[105,102]⟩
def zdu:zgS:=⟨#[97,108,108]⟩
def sN:zgS:=⟨#[110]⟩
def zct:zgS:=⟨#[33]⟩
def RefE (b B:Nat)(w:World)(E:List Ex):Nat→Value→Nat→Nat→Prop
 |0,_,_,_=>False
 |f+1,v,a,i=> ∃x,E[i]?=some x∧(
   (x.form=0∧a=i∧ ∃p,Node b B w v zfv x.text p [])∨
   (x.form=1∧a=i∧ ∃p,Node b B w v zfi x.text p [])∨
   (x.form=2∧a=i∧(x.text.data.toList=[116,114,117,101]∨x.text.data.toList=[102,97,108,115,101])∧ ∃p,Node b B w v x.text x.text p [])∨
   (x.form=3∧a=i∧ ∃p,Node b B w v zaI x.text p [])∨
   (x.form=4∧a=i∧ ∃p,Node b B w v sAt x.text p [])∨
   (x.form=5∧ ∃(v1:Value) (j:Nat),i=j+1∧x.left=(j:Int)∧(x.text=⟨#[33]⟩∧Node b B w v zct ⟨#[]⟩ x.place [v1]∨x.text=⟨#[45]⟩∧Node b B w v sN ⟨#[]⟩ x.place [v1])∧RefE b B w E f v1 a j)∨
   (x.form=6∧ ∃(v1 v2:Value) (j k:Nat),i=k+1∧x.left=(j:Int)∧x.right=(k:Int)∧Node b B w v x.text ⟨#[]⟩ x.place [v1,v2]∧RefE b B w E f v1 a j∧RefE b B w E f v2 (j+1) k))
theorem RefE.keepS {b B:Nat}{w w':World}{E:List Ex}(hr:z2D b B w w'): ∀{f:Nat} {v:Value} {a i:Nat},RefE b B w E f v a i→RefE b B w' E f v a i:=by
 intro f
 induction f with
 |zero=>intro v a i h;exact h
 |succ f ih=>
  intro v a i h
  obtain⟨x,hx,h⟩:=h
  refine⟨x,hx,?_⟩
  rcases h with⟨h1,h2,p,h3⟩|⟨h1,h2,p,h3⟩|⟨h1,h2,h4,p,h3⟩|⟨h1,h2,p,h3⟩|⟨h1,h2,p,h3⟩|⟨h1,v1,j,h2,h3,h4,h5⟩|⟨h1,v1,v2,j,k,h2,h3,h4,h5,h6,h7⟩
  ·exact .inl ⟨h1,h2,p,h3.keepS hr⟩
  ·exact .inr (.inl ⟨h1,h2,p,h3.keepS hr⟩)
  ·exact .inr (.inr (.inl ⟨h1,h2,h4,p,h3.keepS hr⟩))
  ·exact .inr (.inr (.inr (.inl ⟨h1,h2,p,h3.keepS hr⟩)))
  ·exact .inr (.inr (.inr (.inr (.inl ⟨h1,h2,p,h3.keepS hr⟩))))
  ·exact .inr (.inr (.inr (.inr (.inr (.inl ⟨h1,v1,j,h2,h3,h4.imp (fun q=>⟨q.1,q.2.keepS hr⟩) (fun q=>⟨q.1,q.2.keepS hr⟩),ih h5⟩)))))
  ·exact .inr (.inr (.inr (.inr (.inr (.inr ⟨h1,v1,v2,j,k,h2,h3,h4,h5.keepS hr,ih h6,ih h7⟩)))))
theorem RefE.low {b B B':Nat}{w:World}{E:List Ex}(hr:B'≤B): ∀{f:Nat} {v:Value} {a i:Nat},RefE b B w E f v a i→RefE b B' w E f v a i:=by
 intro f
 induction f with
 |zero=>intro v a i h;exact h
 |succ f ih=>
  intro v a i h
  obtain⟨x,hx,h⟩:=h
  refine⟨x,hx,?_⟩
  rcases h with⟨h1,h2,p,h3⟩|⟨h1,h2,p,h3⟩|⟨h1,h2,h4,p,h3⟩|⟨h1,h2,p,h3⟩|⟨h1,h2,p,h3⟩|⟨h1,v1,j,h2,h3,h4,h5⟩|⟨h1,v1,v2,j,k,h2,h3,h4,h5,h6,h7⟩
  ·exact .inl ⟨h1,h2,p,h3.low hr⟩
  ·exact .inr (.inl ⟨h1,h2,p,h3.low hr⟩)
  ·exact .inr (.inr (.inl ⟨h1,h2,h4,p,h3.low hr⟩))
  ·exact .inr (.inr (.inr (.inl ⟨h1,h2,p,h3.low hr⟩)))
  ·exact .inr (.inr (.inr (.inr (.inl ⟨h1,h2,p,h3.low hr⟩))))
  ·exact .inr (.inr (.inr (.inr (.inr (.inl ⟨h1,v1,j,h2,h3,h4.imp (fun q=>⟨q.1,q.2.low hr⟩) (fun q=>⟨q.1,q.2.low hr⟩),ih h5⟩)))))
  ·exact .inr (.inr (.inr (.inr (.inr (.inr ⟨h1,v1,v2,j,k,h2,h3,h4,h5.low hr,ih h6,ih h7⟩)))))
theorem RefE.keep {b B:Nat}{w w':World}{E:List Ex}(hr:Rf b w w'){f:Nat}{v:Value}{a i:Nat}(h:RefE b B w E f v a i):RefE b B w' E f v a i:=h.keepS (hr.same B)
theorem RefE.more {b B:Nat}{w:World}{E:List Ex}(F:List Ex): ∀{f:Nat} {v:Value} {a i:Nat},RefE b B w E f v a i→RefE b B w (E++F) f v a i:=by
 intro f
 induction f with
 |zero=>intro v a i h;exact h
 |succ f ih=>
  intro v a i h
  obtain⟨x,hx,h⟩:=h
  refine⟨x,by rw [List.getElem?_append_left (zgF.1 hx).1];exact hx,?_⟩
  rcases h with h|h|h|h|h|⟨h1,v1,j,h2,h3,h4,h5⟩|⟨h1,v1,v2,j,k,h2,h3,h4,h5,h6,h7⟩
  ·exact .inl h
  ·exact .inr (.inl h)
  ·exact .inr (.inr (.inl h))
  ·exact .inr (.inr (.inr (.inl h)))
  ·exact .inr (.inr (.inr (.inr (.inl h))))
  ·exact .inr (.inr (.inr (.inr (.inr (.inl ⟨h1,v1,j,h2,h3,h4,ih h5⟩)))))
  ·exact .inr (.inr (.inr (.inr (.inr (.inr ⟨h1,v1,v2,j,k,h2,h3,h4,h5,ih h6,ih h7⟩)))))
theorem RefE.up {b B:Nat}{w:World}{E:List Ex}: ∀{f:Nat} {v:Value} {a i:Nat},RefE b B w E f v a i→RefE b B w E (f+1) v a i:=by
 intro f
 induction f with
 |zero=>intro v a i h;exact absurd h id
 |succ f ih=>
  intro v a i h
  obtain⟨x,hx,h⟩:=h
  refine⟨x,hx,?_⟩
  rcases h with h|h|h|h|h|⟨h1,v1,j,h2,h3,h4,h5⟩|⟨h1,v1,v2,j,k,h2,h3,h4,h5,h6,h7⟩
  ·exact .inl h
  ·exact .inr (.inl h)
  ·exact .inr (.inr (.inl h))
  ·exact .inr (.inr (.inr (.inl h)))
  ·exact .inr (.inr (.inr (.inr (.inl h))))
  ·exact .inr (.inr (.inr (.inr (.inr (.inl ⟨h1,v1,j,h2,h3,h4,ih h5⟩)))))
  ·exact .inr (.inr (.inr (.inr (.inr (.inr ⟨h1,v1,v2,j,k,h2,h3,h4,h5,ih h6,ih h7⟩)))))
theorem RefE.ups {b B:Nat}{w:World}{E:List Ex}{f:Nat}(g:Nat){v:Value}{a i:Nat}(h:RefE b B w E f v a i):RefE b B w E (f+g) v a i:=by
 induction g with
 |zero=>exact h
 |succ g ih=>exact ih.up
def j8 (k:Nat):List zgS:=
 if k=0 then [⟨#[124,124]⟩] else if k=1 then [⟨#[38,38]⟩] else if k=3 then [⟨#[43]⟩,⟨#[45]⟩,⟨#[46]⟩] else if k=4 then [⟨#[42]⟩,⟨#[47]⟩,⟨#[37]⟩] else []
def jO (o:zgS):UInt8:=o.data.toList.headD 0
def jK (s:zgS)(a:Nat)(d:Bool):List zgS→zgS
 |[]=>⟨#[]⟩
 |o::os=>if(pk s a d==((jO o).toNat:Int))&& !zz s a d then o else jK s a d os
theorem z8i (k:Nat)(hk:k=0∨k=1∨k=3∨k=4)(w:World):
  Calls Tryz.prog 140 #[.int .i64 k] w fun e w'=>e= .returned (.slice (some ⟨w.heap.size,0,none⟩) (j8 k).length (j8 k).length)∧w'=w.alloc (.cells ((j8 k).map Value.string).toArray 9):=by
 rcases hk with rfl|rfl|rfl|rfl
 all_goals
  go_enter Tryz.func140,Tryz.ntmps140
  go_wp2_with fail
  go_ret
  exact⟨rfl,rfl⟩
theorem jp (s:zgS)(a:Nat)(d:Bool)(h:a≤s.size):skip s (skip s a d) d=skip s a d:=by
 have key: ∀k a,a≤s.size→s.size - a=k→skip s (skip s a d) d=skip s a d:=by
  intro k
  induction k with
  |zero=>
   intro a h hk
   have e:skip s a d=a:=by have:=z56 (s:=s) (a:=a) (d:=d) h;omega
   rw [e,e]
  |succ k ih=>
   intro a h hk
   by_cases hp:pk s a d=32
   ·have hl:=(jT (s:=s) (a:=a) (d:=d) (by omega)).2
    rw [←z0V hp]
    exact ih (a+1) hl (by omega)
   ·rw [zI hp,zI hp]
 exact key _ a h rfl
theorem z36 (k:Nat)(hk:k=0∨k=1∨k=3∨k=4)(o:zgS)(h:o∈j8 k):o.extract 0 1=⟨#[jO o]⟩∧1≤o.size∧o.size≤2:=by
 rcases hk with rfl|rfl|rfl|rfl
 ·have:o=⟨#[124,124]⟩:=by simpa [j8] using h
  subst this
  decide
 ·have:o=⟨#[38,38]⟩:=by simpa [j8] using h
  subst this
  decide
 ·have:o=⟨#[43]⟩∨o=⟨#[45]⟩∨o=⟨#[46]⟩:=by simpa [j8] using h
  rcases this with rfl|rfl|rfl<;>decide
 ·have:o=⟨#[42]⟩∨o=⟨#[47]⟩∨o=⟨#[37]⟩:=by simpa [j8] using h
  rcases this with rfl|rfl|rfl<;>decide
theorem z8r {s:zgS}{a:Nat}{d:Bool}{L:List zgS}{i:Nat}{o:zgS}(h:L[i]?=some o):jK s a d (L.drop i)=if(pk s a d==((jO o).toNat:Int))&& !zz s a d then o else jK s a d (L.drop (i+1)):=by
 obtain⟨hl,hx⟩:=zgF.1 h
 rw [zgL hl,hx]
 rfl
theorem zal (k:Nat)(hk:k=0∨k=1∨k=3∨k=4)(b p:Nat)(s:zgS)(d:Bool)(w:World)(h:Rd w b s p d):
  Calls Tryz.prog 94 #[.pointer (some ⟨b,0,none⟩),.int .i64 k] w fun e w'=>e= .returned (.string (jK s (skip s p d) d (j8 k)))∧Rd w' b s (skip s p d) d∧Rf b w w':=by
 have hple:=h.le
 have hblt:=zd h.c0
 have hlen:(j8 k).length≤3∧1≤(j8 k).length:=by rcases hk with rfl|rfl|rfl|rfl<;>decide
 obtain⟨hlen,hlen1⟩:=hlen
 have hmem:=z36 k hk
 have HL:=z8 (z8i k hk w)
 have HM:=z8 hmem
 clear hmem
 generalize j8 k=L at*
 have hR0:Rd (w.alloc (.cells (L.map Value.string).toArray 9)) b s p d:=h.other (zgJ _ _ _ hblt)
 have hF0:Rf b w (w.alloc (.cells (L.map Value.string).toArray 9)):=(Rf.refl b w).alloc _
 have hcells: ∀i o,L[i]?=some o→(w.alloc (.cells (L.map Value.string).toArray 9)).cell? ⟨w.heap.size,i,none⟩=some (.string o):=fun i o hi=>by
  rw [cell_of_row _ _ _ _ _ _ (heap_alloc_new w _)]
  simp [hi]
 have HC:=z8 hcells
 clear hcells
 go_enter Tryz.func94,Tryz.ntmps94
 go_wp2_with fail
 refine HL.out.mono ?_
 rintro e w1 ⟨rfl,rfl⟩
 go_wp2_with fail
 go_loopg [6] (L.length+1) (fun k iv wr=> ∃(i q:Nat),k+i=L.length+1∧i≤L.length∧iv= .int .i64 i∧Rd wr b s q d∧Hid (skip s q d=skip s p d)∧(0<i→q=skip s p d)∧Rf b w wr∧Sc b (w.alloc (.cells (L.map Value.string).toArray 9)) wr∧Hid (jK s (skip s p d) d (L.drop i)=jK s (skip s p d) d L))
 case atStart=>exact⟨0,p,rfl,zgO _,rfl,hR0,rfl,fun h=>absurd h (Nat.lt_irrefl _),hF0,Sc.refl _ _,rfl⟩
 case round=>
  obtain⟨i,q,hgk,hiL,rfl,hr,hq,hq0,hf,hsc,hn⟩:=hrel
  have HGK:=z8 hgk
  have HQ0:=z8 hq0
  clear hgk hq0
  by_cases hlt:i<L.length
  ·obtain⟨o,ho⟩: ∃o,L[i]?=some o:=⟨L[i],zgE hlt⟩
   obtain⟨he,ho1,ho2⟩:=HM.out o (zgM ho)
   have hc:wr.cell? ⟨w.heap.size,i,none⟩=some (.string o):=(World.cell?_of_block (w:=w.alloc (.cells (L.map Value.string).toArray 9)) (hsc.block w.heap.size (by omega))).trans (HC.out i o ho)
   have hlti:(i:Int)<L.length:=by omega
   have hst:=z8 ((z8r (s:=s) (a:=skip s p d) (d:=d) ho).symm.trans hn.out)
   have hsi:=z8 (jp s p d hple)
   clear hn ho
   have HS1:Hid (Calls Tryz.prog 138 #[.pointer (some ⟨b,0,none⟩),.string ⟨#[jO o]⟩] wr fun e w'=>e= .returned (.bool (pk s (skip s p d) d==((jO o).toNat:Int)))∧Rd w' b s (skip s p d) d∧Sc b wr w'):=z8 (by
    have h:=jH b q s (jO o) d wr hr
    rw [hq.out] at h
    exact h)
   have HS2:Hid (∀w2,Rd w2 b s (skip s p d) d→Calls Tryz.prog 138 #[.pointer (some ⟨b,0,none⟩),.string ⟨#[45,62]⟩] w2 fun e w'=>e= .returned (.bool (zz s (skip s p d) d))∧Rd w' b s (skip s p d) d∧Sc b w2 w'):=z8 (fun w2 h2=>by
    have h:=z96 b (skip s p d) s d w2 h2
    rw [hsi.out] at h
    exact h)
   have hst':=hst.out
   have HSI:=hsi
   clear hst hsi hq
   cases hA:(pk s (skip s p d) d==((jO o).toNat:Int))
   ·rw [hA,if_neg (by simp)] at hst'
    have hst2:=z8 hst'
    clear hst'
    go_wp2_with fail
    refine HS1.out.mono ?_
    rintro e w2 ⟨rfl,hr2,hs2⟩
    have hc2:w2.cell? ⟨w.heap.size,i,none⟩=some (.string o):=(World.cell?_of_block (w:=wr) (hs2.block w.heap.size (by omega))).trans hc
    go_wp2_with fail
    refine(HS2.out _ hr2).mono ?_
    rintro e w3 ⟨rfl,hr3,hs3⟩
    have hc3:w3.cell? ⟨w.heap.size,i,none⟩=some (.string o):=(World.cell?_of_block (w:=w2) (hs3.block w.heap.size (by omega))).trans hc2
    have hf3:=z8 (hf.trans (hs2.trans hs3).rf)
    have hsc3:=z8 (hsc.trans (hs2.trans hs3))
    clear hc hc2 hs2 hs3 hr2 hf hsc hr
    go_wp2_with fail
    go_roundg (L.length - i)
    case measure=>have:=HGK.out;omega
    case rel=>exact⟨i+1,_,by have:=HGK.out;omega,by omega,by go_num,hr3,z8 HSI.out,fun _=>rfl,hf3.out,hsc3.out,hst2⟩
   ·cases hB:zz s (skip s p d) d
    ·rw [hA,hB,if_pos (by simp)] at hst'
     have hst2:=z8 hst'
     clear hst'
     go_wp2_with fail
     refine HS1.out.mono ?_
     rintro e w2 ⟨rfl,hr2,hs2⟩
     have hc2:w2.cell? ⟨w.heap.size,i,none⟩=some (.string o):=(World.cell?_of_block (w:=wr) (hs2.block w.heap.size (by omega))).trans hc
     go_wp2_with fail
     refine(HS2.out _ hr2).mono ?_
     rintro e w3 ⟨rfl,hr3,hs3⟩
     have hc3:w3.cell? ⟨w.heap.size,i,none⟩=some (.string o):=(World.cell?_of_block (w:=w2) (hs3.block w.heap.size (by omega))).trans hc2
     have hf3:=z8 (hf.trans (hs2.trans hs3).rf)
     have hsc3:=z8 (hsc.trans (hs2.trans hs3))
     clear hc hc2 hs2 hs3 hr2 hf hsc hr
     go_wp2_with fail
     go_ret
     exact⟨by rw [←hst2.out];simp,hr3,hf3.out⟩
    ·rw [hA,hB,if_neg (by simp)] at hst'
     have hst2:=z8 hst'
     clear hst'
     go_wp2_with fail
     refine HS1.out.mono ?_
     rintro e w2 ⟨rfl,hr2,hs2⟩
     have hc2:w2.cell? ⟨w.heap.size,i,none⟩=some (.string o):=(World.cell?_of_block (w:=wr) (hs2.block w.heap.size (by omega))).trans hc
     go_wp2_with fail
     refine(HS2.out _ hr2).mono ?_
     rintro e w3 ⟨rfl,hr3,hs3⟩
     have hc3:w3.cell? ⟨w.heap.size,i,none⟩=some (.string o):=(World.cell?_of_block (w:=w2) (hs3.block w.heap.size (by omega))).trans hc2
     have hf3:=z8 (hf.trans (hs2.trans hs3).rf)
     have hsc3:=z8 (hsc.trans (hs2.trans hs3))
     clear hc hc2 hs2 hs3 hr2 hf hsc hr
     go_wp2_with fail
     go_roundg (L.length - i)
     case measure=>have:=HGK.out;omega
     case rel=>exact⟨i+1,_,by have:=HGK.out;omega,by omega,by go_num,hr3,z8 HSI.out,fun _=>rfl,hf3.out,hsc3.out,hst2⟩
  ·have hz:Hid (jK s (skip s p d) d L=⟨#[]⟩):=z8 (by rw [←hn.out,zgK (by omega)];rfl)
   have hlti: ¬(i:Int)<L.length:=by omega
   have hqe:=z8 (HQ0.out (by omega))
   go_wp2_with fail
   go_ret
   exact⟨by rw [hz.out];simp,by rw [←hqe.out];exact hr,hf⟩
def ExtE (st st':St):Prop:=(∃F,st'.E=st.E++F)∧st'.A=st.A∧st'.L=st.L∧st'.C=st.C
theorem ExtE.refl (st:St):ExtE st st:=⟨⟨[],by simp⟩,rfl,rfl,rfl⟩
theorem ExtE.trans {a b c:St}(h:ExtE a b)(k:ExtE b c):ExtE a c:=by
 obtain⟨⟨F,h1⟩,h2,h3,h4⟩:=h
 obtain⟨⟨G,k1⟩,k2,k3,k4⟩:=k
 exact⟨⟨F++G,by rw [k1,h1,List.append_assoc]⟩,k2.trans h2,k3.trans h3,k4.trans h4⟩
theorem ExtE.put3 {st st':St}(p:Nat×Bool×zgS)(h:ExtE (st.put3 p) st'):ExtE st st':=h
theorem ExtE.sgn {s:zgS}{l:List UInt8}{st st':St}(h:ExtE (sgn s l st) st'):ExtE st st':=h
theorem z0s {st:St}{x:Ex}{r:Int×St}(h:jQ st x=some r):ExtE st r.2:=by
 obtain⟨_,rfl⟩:=zj h
 exact⟨⟨[x],rfl⟩,rfl,rfl,rfl⟩
theorem z1z (s:zgS): ∀n tag l st r,M s n tag l st=some r→ExtE st r.2:=by
 intro n
 induction n with
 |zero=>intro tag l st r h;simp [M] at h
 |succ n ih=>
  intro tag l st r h
  have two: ∀{t1 t2:Nat} {st0:St},((M s n t1 0 st0).bind fun r=>M s n t2 r.1 r.2)=some r→ExtE st0 r.2:=fun h=>by
   obtain⟨q,h1,h2⟩:=zgD.1 h
   exact(ih _ _ _ _ h1).trans (ih _ _ _ _ h2)
  have three: ∀{t1 t2:Nat} {st0:St} {x:Int×St→Ex},((M s n t1 0 st0).bind fun r=>(jQ r.2 (x r)).bind fun q=>M s n t2 q.1 q.2)=some r→ExtE st0 r.2:=fun h=>by
   obtain⟨q,h1,h2⟩:=zgD.1 h
   obtain⟨q2,h3,h4⟩:=zgD.1 h2
   exact((ih _ _ _ _ h1).trans (z0s h3)).trans (ih _ _ _ _ h4)
  have one: ∀{t1:Nat} {st0:St} {x:Int×St→Ex},((M s n t1 0 st0).bind fun r=>jQ r.2 (x r))=some r→ExtE st0 r.2:=fun h=>by
   obtain⟨q,h1,h2⟩:=zgD.1 h
   exact(ih _ _ _ _ h1).trans (z0s h2)
  match tag,h with
  |0,h=>rw [M_0] at h;exact two h
  |1,h=>rw [M_1] at h;exact two h
  |4,h=>rw [M_4] at h;exact two h
  |5,h=>rw [M_5] at h;exact two h
  |10,h=>
   rw [z71] at h
   split at h
   ·exact(three h).sgn
   ·cases h;exact .refl _
  |11,h=>
   rw [z7h] at h
   split at h
   ·exact(three h).sgn
   ·cases h;exact .refl _
  |14,h=>
   rw [z6x] at h
   simp only at h
   split at h
   ·cases h;exact .refl _
   ·exact(three h).sgn
  |15,h=>
   rw [z7L] at h
   simp only at h
   split at h
   ·cases h;exact .refl _
   ·exact(three h).sgn
  |2,h=>
   rw [M_2] at h
   split at h
   ·exact ih _ _ _ _ h
   ·exact(one h).sgn
  |6,h=>
   rw [M_6] at h
   split at h
   ·exact ih _ _ _ _ h
   ·exact(one h).sgn
  |3,h=>
   rw [M_3] at h
   obtain⟨q,h1,h2⟩:=zgD.1 h
   simp only at h2
   split at h2
   ·have k:=ih _ _ _ _ h1;cases h2;exact k
   ·exact(ih _ _ _ _ h1).trans ((one h2).put3)
  |7,h=>
   rw [M_7] at h
   simp only at h
   split at h
   ·exact(z0s h).put3
   ·split at h
    ·exact(z0s h).put3
    ·split at h
     ·have k:=z0s h;exact k
     ·split at h
      ·obtain⟨q,h1,h2⟩:=zgD.1 h
       have k:=ih _ _ _ _ h1
       cases h2
       exact k
      ·split at h
       ·exact(z0s h).put3
       ·exact(z0s h).put3
  |8,h=>simp [M] at h
  |9,h=>simp [M] at h
  |12,h=>simp [M] at h
  |13,h=>simp [M] at h
  |t+16,h=>simp [M] at h
theorem z45 (s:zgS)(c:UInt8)(cs:List UInt8)(a:Nat):zt s true (c::cs) a=(a,true):=je (by simp [pk])
theorem z3O (s:zgS)(c:UInt8)(cs:List UInt8)(a:Nat):jo s true (c::cs) a=(a,true):=by
 unfold jo
 rw [z45]
 simp [jJ]
def zfr (st st':St):Prop:=st'.bad=true∧st'.at_=st.at_
theorem z12 (s:zgS)(a:Nat):zw s a true=(a,true,⟨#[]⟩):=z4O (ju (by simp [pk];decide)) (.inl rfl)
theorem z0b {s:zgS}{c:UInt8}{cs:List UInt8}{st:St}(h:st.bad=true):(sgn s (c::cs) st).bad=true∧(sgn s (c::cs) st).at_=st.at_:=by
 unfold sgn St.put
 rw [h,z3O]
 exact⟨rfl,rfl⟩
theorem z0L {s:zgS}{c:UInt8}{cs:List UInt8}{st:St}(h:st.bad=true):(wrd s (c::cs) st).bad=true∧(wrd s (c::cs) st).at_=st.at_:=by
 unfold wrd St.put
 rw [h,z45]
 exact⟨rfl,rfl⟩
theorem z2I {s:zgS}{st:St}(h:st.bad=true):pkS s st= -1:=by simp [pkS,pk,h]
theorem zZ {st:St}{x:Ex}{r:Int×St}(h:jQ st x=some r):r.2.bad=st.bad∧r.2.at_=st.at_:=by
 obtain⟨_,rfl⟩:=zj h
 exact⟨rfl,rfl⟩
theorem z0R {st:St}{x:Lc}{r:Int×St}(h:z2H st x=some r):r.2.bad=st.bad∧r.2.at_=st.at_:=by
 obtain⟨_,rfl⟩:=zJ h
 exact⟨rfl,rfl⟩
theorem zeR (s:zgS): ∀n tag l st r,M s n tag l st=some r→st.bad=true→zfr st r.2:=by
 intro n
 induction n with
 |zero=>intro tag l st r h;simp [M] at h
 |succ n ih=>
  intro tag l st r h hb
  have hpk:=z2I (s:=s) hb
  have two: ∀{t1 t2:Nat},((M s n t1 0 st).bind fun r=>M s n t2 r.1 r.2)=some r→zfr st r.2:=fun h=>by
   obtain⟨q,h1,h2⟩:=zgD.1 h
   have k1:=ih _ _ _ _ h1 hb
   have k2:=ih _ _ _ _ h2 k1.1
   exact⟨k2.1,k2.2.trans k1.2⟩
  match tag,h with
  |0,h=>rw [M_0] at h;exact two h
  |1,h=>rw [M_1] at h;exact two h
  |4,h=>rw [M_4] at h;exact two h
  |5,h=>rw [M_5] at h;exact two h
  |10,h=>
   rw [z71,if_neg (by rw [hpk];decide)] at h
   cases h;exact⟨hb,rfl⟩
  |11,h=>
   rw [z7h,if_neg (by rw [hpk];decide)] at h
   cases h;exact⟨hb,rfl⟩
  |14,h=>
   rw [z6x] at h
   simp only at h
   rw [if_pos (by simp [zr,zz,pk,hb];decide)] at h
   cases h;exact⟨hb,rfl⟩
  |15,h=>
   rw [z7L] at h
   simp only at h
   rw [if_pos (by simp [zh,pk,hb];decide)] at h
   cases h;exact⟨hb,rfl⟩
  |2,h=>
   rw [M_2,if_pos (by rw [hpk];decide)] at h
   exact ih _ _ _ _ h hb
  |6,h=>
   rw [M_6,if_pos (by rw [hpk];decide)] at h
   exact ih _ _ _ _ h hb
  |3,h=>
   rw [M_3] at h
   obtain⟨q,h1,h2⟩:=zgD.1 h
   have k1:=ih _ _ _ _ h1 hb
   simp only at h2
   have hc:ze s q.2.at_ q.2.bad=(q.2.at_,true,⟨#[]⟩):=by simp [ze,pk,k1.1]
   rw [hc,if_pos (show(((q.snd.at_,true,(⟨#[]⟩:zgS)).snd.snd.size==0)=true) from rfl)] at h2
   cases h2
   exact⟨rfl,k1.2⟩
  |7,h=>
   rw [M_7] at h
   simp only at h
   rw [if_neg (by rw [hpk];decide),if_neg (by rw [hpk];decide),if_neg (by rw [hpk];decide),if_neg (by rw [hpk];decide)] at h
   rw [hb,z12,if_neg (by simp)] at h
   have:=zZ h
   exact⟨this.1,this.2⟩
  |8,h=>simp [M] at h
  |9,h=>simp [M] at h
  |12,h=>simp [M] at h
  |13,h=>simp [M] at h
  |t+16,h=>simp [M] at h
def z3i (b:Nat)(s:zgS)(st st':St)(r:Int)(w:World)(e:Ending)(w':World):Prop:= ∃(ao:Option Addr) (p':Nat),e= .returned (.pointer ao)∧Rd w' b s p' st'.bad∧Rf b w w'∧skip s p' st'.bad=st'.at_∧
 (st'.bad=false→ ∃(f i:Nat),r=(i:Int)∧i+1=st'.E.length∧RefE b w.heap.size w' st'.E f (.pointer ao) st.E.length i)
def OKR (s:zgS)(k tag n:Nat):Prop:= ∀(b:Nat) (st:St) (w:World) (p:Nat) (r:Int) (st':St),M s n tag 0 st=some (r,st')→Rd w b s p st.bad→skip s p st.bad=st.at_→
 Calls Tryz.prog 51 #[.pointer (some ⟨b,0,none⟩),.int .i64 k] w fun e w'=>z3i b s st st' r w e w'
def z8G (s:zgS)(f tag n:Nat):Prop:= ∀(b:Nat) (st:St) (w:World) (p:Nat) (r:Int) (st':St),M s n tag 0 st=some (r,st')→Rd w b s p st.bad→skip s p st.bad=st.at_→
 Calls Tryz.prog f #[.pointer (some ⟨b,0,none⟩)] w fun e w'=>z3i b s st st' r w e w'
theorem za1 (s:zgS)(a:Nat): ∀L:List zgS,jK s a true L=⟨#[]⟩:=by
 intro L
 induction L with
 |nil=>rfl
 |cons o os ih=>
  unfold jK
  rw [if_neg (by simp [pk]),ih]
theorem z9M (s:zgS)(a:Nat)(d:Bool): ∀L:List zgS,jK s a d L=⟨#[]⟩∨jK s a d L∈L:=by
 intro L
 induction L with
 |nil=>exact .inl rfl
 |cons o os ih=>
  unfold jK
  split
  ·exact .inr (List.mem_cons_self ..)
  ·rcases ih with h|h
   ·exact .inl h
   ·exact .inr (List.mem_cons_of_mem _ h)
theorem z7Z (s:zgS)(a:Nat)(d:Bool)(k:Nat)(hk:k=0∨k=1∨k=3∨k=4):(jK s a d (j8 k)).size≤600:=by
 rcases z9M s a d (j8 k) with h|h
 ·rw [h];decide
 ·have:=z36 k hk _ h;omega
theorem z5l {W:World}{b:Nat}(hb:b<W.heap.size)(kids:List Value)(op tx:zgS)(a:Int)(hm:kids.length≤2):
  Node b W.heap.size ((W.alloc (.cells kids.toArray 89)).alloc (.cells #[.string op,.string tx,.int .i64 a,.slice (some ⟨W.heap.size,0,none⟩) kids.length kids.length] 138)) (.pointer (some ⟨W.heap.size+1,0,none⟩)) op tx a kids:=by
 have h1:=heap_alloc_new (W.alloc (.cells kids.toArray 89)) (.cells #[.string op,.string tx,.int .i64 a,.slice (some ⟨W.heap.size,0,none⟩) kids.length kids.length] 138)
 simp only [World.alloc,Array.size_push] at h1
 refine⟨W.heap.size+1,_,rfl,by omega,by omega,h1,⟨by simp,.inr ⟨W.heap.size,kids.length,kids.toArray,rfl,zgH _,?_,zgH _,?_,by simp,by simp⟩⟩,?_⟩
 ·exact(zgJ _ _ _ (by simp)).trans (heap_alloc_new W _)
 ·unfold maxLen;omega
 ·simp [Value.ownBlock];omega
theorem z1J (s:zgS)(k tag loop ctag n:Nat)(hk:k=0∨k=1∨k=3∨k=4)
  (hT: ∀n st,M s (n+1) tag 0 st=(M s n ctag 0 st).bind fun r=>M s n loop r.1 r.2)
  (hL: ∀n l st,M s (n+1) loop l st=if(jK s st.at_ st.bad (j8 k)).size==0 then some (l,st) else(M s n ctag 0 (sgn s (jK s st.at_ st.bad (j8 k)).data.toList st)).bind fun r=>(jQ r.2 ⟨6,st.at_,jK s st.at_ st.bad (j8 k),l,r.1⟩).bind fun q=>M s n loop q.1 q.2)
  (ih: ∀m,m≤n→OKR s (k+1) ctag m):OKR s k tag (n+1):=by
 intro b st w p r st' hM hR hp
 rw [hT] at hM
 obtain⟨⟨l1,st1⟩,h1,h2⟩:=zgD.1 hM
 have IH:=z8 ih
 have H1:=z8 h1
 have H2:=z8 h2
 have HL:=z8 hL
 have HX1:=z8 (z1z s _ _ _ _ _ h1)
 clear hM h1 h2 ih hT hL
 have k2:((k:Int)==2)=false:=by rw [beq_eq_false_iff_ne];omega
 have k5:((k:Int)==5)=false:=by rw [beq_eq_false_iff_ne];omega
 have k4:k≤4:=by omega
 go_enter Tryz.func51,Tryz.ntmps51
 go_wp2_with fail
 have hcast:((k:Int)+1)=((k+1:Nat):Int):=by omega
 rw [hcast]
 refine(IH.out n (zgH _) b st w p l1 st1 H1.out hR hp).mono ?_
 rintro e w1 ⟨ao1,p1,rfl,hR1,hF1,hp1,ht1⟩
 clear hcast
 go_wp2_with fail
 go_loopg [5] n (fun g tv wr=>g≤n∧ ∃(ao:Option Addr) (q:Nat) (lv:Int) (sv:St),tv= .pointer ao∧Hid (M s g loop lv sv=some (r,st'))∧Rd wr b s q sv.bad∧Hid (skip s q sv.bad=sv.at_)∧Rf b w wr∧Hid (ExtE st sv)∧Hid (sv.bad=false→ ∃(f i:Nat),lv=(i:Int)∧i+1=sv.E.length∧RefE b w.heap.size wr sv.E f (.pointer ao) st.E.length i))
 case atStart=>exact⟨zgH _,ao1,p1,l1,st1,rfl,H2,hR1,hp1,hF1,HX1,ht1⟩
 case round=>
  obtain⟨hgn,ao,q,lv,sv,rfl,hm,hRq,hq,hF,hX,ht⟩:=hrel
  cases gk with
  |zero=>exact absurd hm.out (by simp [M])
  |succ g=>
   have hm':=hm.out
   rw [HL.out] at hm'
   clear hm
   obtain⟨c0,c1,c2,f1,f2,hle,hsz⟩:=id hRq
   obtain⟨bd,HBD⟩: ∃bd,Hid (sv.bad=bd):=⟨_,rfl⟩
   rw [HBD.out] at c2
   cases bd with
   |true=>
    rw [HBD.out,za1,if_pos (by decide)] at hm'
    simp at hm'
    obtain⟨rfl,rfl⟩:=hm'
    go_wp2_with fail
    go_ret
    exact⟨ao,q,rfl,hRq,hF,hq.out,ht.out⟩
   |false=>
    have hnx:=zal k hk b q s sv.bad wr hRq
    rw [hq.out] at hnx
    have hnsz:(jK s sv.at_ sv.bad (j8 k)).size≤600:=z7Z s _ _ k hk
    generalize jK s sv.at_ sv.bad (j8 k)=op at*
    have HNX:=z8 hnx
    clear hnx
    cases hc:(op.size==0)
    ·rw [hc,if_neg (by decide)] at hm'
     have hc2:=z1E hc
     obtain⟨⟨r2,st2⟩,h2,h3⟩:=zgD.1 hm'
     obtain⟨⟨r3,st3⟩,h4,h5⟩:=zgD.1 h3
     obtain⟨hl,h6⟩:=zj h4
     cases h6
     have HH:=z8 (zgI h2 h5)
     have HX2:=z8 (z1z s _ _ _ _ _ h2)
     clear hm' h2 h3 h4 h5
     go_wp2_with fail
     refine HNX.out.mono ?_
     rintro e w2 ⟨rfl,hR2,hF2⟩
     obtain⟨d0,d1,d2,g1,g2,_,_⟩:=id hR2
     go_wp2_with fail
     refine(zN b sv.at_ s op sv.bad _ hR2 hnsz).mono ?_
     rintro e w3 ⟨rfl,hR3,hs3⟩
     go_wp2_with fail
     have hcast:((k:Int)+1)=((k+1:Nat):Int):=by omega
     rw [hcast]
     refine(IH.out g (by omega) b _ _ _ r2 st2 HH.out.1 hR3 rfl).mono ?_
     rintro e w4 ⟨ao4,p4,rfl,hR4,hF4,hp4,ht4⟩
     clear hcast
     have hF24:=(hF2.trans hs3.rf).trans hF4
     have hbl:b<w4.heap.size:=zd hR4.c0
     have HP4:=z8 hp4
     have HT4:=z8 ht4
     clear hp4 ht4
     go_wp2_with fail
     go_roundg g
     case measure=>omega
     case rel=>
      refine⟨by omega,_,p4,_,_,rfl,HH.out.2,?_,HP4,?_,z8 (hX.out.trans ?_),z8 fun hb=> ?_⟩
      ·exact hR4.other ((zgJ _ _ _ (by simp;omega)).trans (zgJ _ _ _ hbl))
      ·exact((hF.trans hF24).alloc _).alloc _
      ·exact HX2.out.trans ⟨⟨[_],rfl⟩,rfl,rfl,rfl⟩
      ·obtain⟨f4,i4,e4,l4,t4⟩:=HT4.out hb
       obtain⟨f0,i0,e0,l0,t0⟩:=ht.out HBD.out
       obtain⟨⟨F,hFE⟩,_,_,_⟩:=HX2.out
       have hFE:st2.E=sv.E++F:=hFE
       have hnode:=z5l hbl [.pointer ao,.pointer ao4] op ⟨#[]⟩ sv.at_ (by simp)
       refine⟨f0+f4+1,st2.E.length,rfl,by simp,⟨6,sv.at_,op,lv,r2⟩,by simp,?_⟩
       refine .inr (.inr (.inr (.inr (.inr (.inr ⟨rfl,.pointer ao,.pointer ao4,i0,i4,l4.symm,e0,e4,hnode.low (zgP hF.size hF24.size),?_,?_⟩)))))
       ·have q1:=((t0.keep hF24).more F).ups f4
        rw [←hFE] at q1
        exact((q1.keep (((Rf.refl b w4).alloc _).alloc _)).more _)
       ·have q2:=t4.ups f0
        rw [Nat.add_comm f0 f4,l0]
        exact(((q2.low (zgP hF.size (hF2.trans hs3.rf).size)).keep (((Rf.refl b w4).alloc _).alloc _)).more _)
    ·rw [hc,if_pos rfl] at hm'
     have hc2:=z1e hc
     simp at hm'
     obtain⟨rfl,rfl⟩:=hm'
     go_wp2_with (go_at_call 94;refine HNX.out.mono ?_;rintro e w2 ⟨rfl,hR2,hF2⟩)
     go_ret
     refine⟨ao,sv.at_,rfl,hR2,hF.trans hF2,?_,fun hb=> ?_⟩
     ·have hi:=jp s q sv.bad hle
      rw [hq.out] at hi
      exact hi
     ·obtain⟨f,i,h1,h2,h3⟩:=ht.out hb
      exact⟨f,i,h1,h2,h3.keep hF2⟩
theorem info89:(Tryz.prog.info? 89).map (fun i=>(i.zero,i.size,i.bytes))=some (some (.pointer none),1,8):=by kernel_rfl
theorem z7x {W:World}{b B g:Nat}{op tx:zgS}{a:Int}{kv0 kv:Value}{kids:List Value}(hg:W.heap[g]?=some (.cells #[.string op,.string tx,.int .i64 a,kv0] 138))(hb:g≠b)(hB:B≤g)
  (how:W.ownsRow B 89 1 kv kids.length kids) (h1:kv.ownBlock≠some b) (h2:kv.ownBlock≠some g):Node b B (W.setCell ⟨g,3,none⟩ kv) (.pointer (some ⟨g,0,none⟩)) op tx a kids:=by
 refine⟨g,kv,rfl,hb,hB,?_,zc how fun k e=>zgQ _ _ _ _ fun q=>h2 (e.trans (congrArg some q)),h1⟩
 simp [World.setCell,Array.getElem?_modify,hg]
theorem zg7 (s:zgS)(a:Nat)(d:Bool):jK s a d (j8 0)=if pk s a d==124 then⟨#[124,124]⟩ else⟨#[]⟩:=by
 unfold j8 jK jK zz
 cases h:(pk s a d==124)
 ·simp [jO] at h ⊢;intro h2;exact absurd h2 h
 ·have:pk s a d=124:=by simpa using h
  simp [jO,this]
theorem zfO (s:zgS)(a:Nat)(d:Bool):jK s a d (j8 1)=if pk s a d==38 then⟨#[38,38]⟩ else⟨#[]⟩:=by
 unfold j8 jK jK zz
 cases h:(pk s a d==38)
 ·simp [jO] at h ⊢;intro h2;exact absurd h2 h
 ·have:pk s a d=38:=by simpa using h
  simp [jO,this]
theorem zfV (s:zgS)(a:Nat)(d:Bool):jK s a d (j8 3)=zr s a d:=by
 unfold j8 zr
 simp only [show ¬(3:Nat)=0 by omega,show ¬(3:Nat)=1 by omega,if_false,if_true]
 unfold jK jK jK jK
 cases zz s a d<;>simp [jO]
theorem zfx (s:zgS)(a:Nat)(d:Bool):jK s a d (j8 4)=zh s a d:=by
 unfold j8 zh
 simp only [show ¬(4:Nat)=0 by omega,show ¬(4:Nat)=1 by omega,show ¬(4:Nat)=3 by omega,if_false,if_true]
 unfold jK jK jK jK zz
 by_cases h1:pk s a d=42
 ·simp [jO,h1]
 ·by_cases h2:pk s a d=47
  ·simp [jO,h2]
  ·by_cases h3:pk s a d=37
   ·simp [jO,h3]
   ·simp [jO,h1,h2,h3]
theorem zgB (s:zgS)(n:Nat)(ih: ∀m,m≤n→OKR s 1 1 m):OKR s 0 0 (n+1):=
 z1J s 0 0 10 1 n (.inl rfl) (fun n st=>M_0 s n 0 st) (fun n l st=>by
  rw [z71,zg7]
  unfold pkS
  cases pk s st.at_ st.bad==124<;>rfl) ih
theorem zgo (s:zgS)(n:Nat)(ih: ∀m,m≤n→OKR s 2 2 m):OKR s 1 1 (n+1):=
 z1J s 1 1 11 2 n (.inr (.inl rfl)) (fun n st=>M_1 s n 0 st) (fun n l st=>by
  rw [z7h,zfO]
  unfold pkS
  cases pk s st.at_ st.bad==38<;>rfl) ih
theorem zgw (s:zgS)(n:Nat)(ih: ∀m,m≤n→OKR s 4 5 m):OKR s 3 4 (n+1):=
 z1J s 3 4 14 5 n (.inr (.inr (.inl rfl))) (fun n st=>M_4 s n 0 st) (fun n l st=>by rw [z6x,zfV]) ih
theorem zgv (s:zgS)(n:Nat)(ih: ∀m,m≤n→OKR s 5 6 m):OKR s 4 5 (n+1):=
 z1J s 4 5 15 6 n (.inr (.inr (.inr rfl))) (fun n st=>M_5 s n 0 st) (fun n l st=>by rw [z7L,zfx]) ih
theorem zgA (s:zgS)(n:Nat)(ih:z8G s 92 2 n):OKR s 2 2 n:=by
 intro b st w p r st' hM hR hp
 have H:=z8 (ih b st w p r st' hM hR hp)
 clear hM ih
 go_enter Tryz.func51,Tryz.ntmps51
 go_wp2_with fail
 refine H.out.mono ?_
 rintro e w1 ⟨ao1,p1,rfl,hR1,hF1,hp1,ht1⟩
 go_wp2_with fail
 go_ret
 exact⟨ao1,p1,rfl,hR1,hF1,hp1,ht1⟩
theorem zgk (s:zgS)(n:Nat)(ih:z8G s 93 6 n):OKR s 5 6 n:=by
 intro b st w p r st' hM hR hp
 have H:=z8 (ih b st w p r st' hM hR hp)
 clear hM ih
 go_enter Tryz.func51,Tryz.ntmps51
 go_wp2_with fail
 refine H.out.mono ?_
 rintro e w1 ⟨ao1,p1,rfl,hR1,hF1,hp1,ht1⟩
 go_wp2_with fail
 go_ret
 exact⟨ao1,p1,rfl,hR1,hF1,hp1,ht1⟩
theorem jN {w:World}{g:Nat}{a b c d:Value}{t:TypeId}(h:w.heap[g]?=some (.cells #[a,b,c,d] t)):
  w.cell? ⟨g,0,none⟩=some a∧w.cell? ⟨g,1,none⟩=some b∧w.cell? ⟨g,2,none⟩=some c∧w.cell? ⟨g,3,none⟩=some d∧(∀o,w.frozen? ⟨g,o,none⟩=false):=by
 simp [World.cell?,World.frozen?,h]
theorem z4r {b:Nat}{w w1 w4 w5:World}{s:zgS}{st st2:St}{p4:Nat}{op tx:zgS}{r2:Int}{ao4:Option Addr}{gb cap:Nat}
  (hop:tx=⟨#[33]⟩∧op=zct∨tx=⟨#[45]⟩∧op=sN)
  (hF1:Rf b w w1) (hb1:b<w1.heap.size) (hF4:Rf b (w1.alloc (.cells #[.string op,.string ⟨#[]⟩,.int .i64 st.at_,.slice none 0 0] 138)) w4) (hR4:Rd w4 b s p4 st2.bad) (hp4:skip s p4 st2.bad=st2.at_)
  (ht4:st2.bad=false→ ∃(f i:Nat),r2=(i:Int)∧i+1=st2.E.length∧RefE b (w1.heap.size+1) w4 st2.E f (.pointer ao4) st.E.length i)
  (hown:w5.ownsRow (w1.heap.size+1) 89 1 (.slice (some ⟨gb,0,none⟩) 1 cap) 1 [.pointer ao4]) (hgrow:(w4.alloc (.cells #[.pointer ao4] 89)).grownBy w5 none) (hat:gb=w4.heap.size+1):
  z3i b s st {st2 with E:=st2.E++[⟨5,st.at_,tx,r2,-1⟩]} st2.E.length w (.returned (.pointer (some ⟨w1.heap.size,0,none⟩))) (w5.setCell ⟨w1.heap.size,3,none⟩ (.slice (some ⟨gb,0,none⟩) 1 cap)):=by
 have hs4:=hF4.size
 simp only [World.alloc,Array.size_push] at hs4
 have hgr:Rf b w4 w5:=((Rf.refl b w4).alloc _).grown hgrow (fun k e=>by cases e)
 have hg4:w4.heap[w1.heap.size]?=some (.cells #[.string op,.string ⟨#[]⟩,.int .i64 st.at_,.slice none 0 0] 138):=(hF4.block w1.heap.size (by simp) (by omega)).trans (heap_alloc_new w1 _)
 have hb4:w5.heap[b]?=w4.heap[b]?:=by
  rw [hgrow.block b (by simp;omega) (by simp)]
  exact zgJ _ _ _ (by omega)
 have hg5:w5.heap[w1.heap.size]?=some (.cells #[.string op,.string ⟨#[]⟩,.int .i64 st.at_,.slice none 0 0] 138):=(hgr.block _ (by omega) (by omega)).trans hg4
 have hnode:Node b w.heap.size (w5.setCell ⟨w1.heap.size,3,none⟩ (.slice (some ⟨gb,0,none⟩) 1 cap)) (.pointer (some ⟨w1.heap.size,0,none⟩)) op ⟨#[]⟩ st.at_ [.pointer ao4]:=
  z7x hg5 (by omega) hF1.size (z0a hown (by have:=hF1.size;omega)) (by simp [Value.ownBlock];omega) (by simp [Value.ownBlock];omega)
 have hF:Rf b w (w5.setCell ⟨w1.heap.size,3,none⟩ (.slice (some ⟨gb,0,none⟩) 1 cap)):=by
  have h1:=((hF1.alloc (.cells #[.string op,.string ⟨#[]⟩,.int .i64 st.at_,.slice none 0 0] 138)).trans hF4).trans hgr
  exact h1.setCell (a:=⟨w1.heap.size,3,none⟩) hF1.size _
 refine⟨_,p4,rfl,(hR4.other hb4).other (zgQ _ _ _ _ (by simp;omega)),hF,hp4,fun hb=> ?_⟩
 obtain⟨f,i,h1,h2,h3⟩:=ht4 hb
 refine⟨f+1,st2.E.length,rfl,by simp,⟨5,st.at_,tx,r2,-1⟩,by simp,?_⟩
 have hsm:z2D b (w1.heap.size+1) w4 (w5.setCell ⟨w1.heap.size,3,none⟩ (.slice (some ⟨gb,0,none⟩) 1 cap)):=fun k hk1 hk2 hk3=>(zgQ _ _ _ _ (by simp;omega)).trans (hgr.block k hk2 hk3)
 have hE:RefE b w.heap.size (w5.setCell ⟨w1.heap.size,3,none⟩ (.slice (some ⟨gb,0,none⟩) 1 cap)) (st2.E++[⟨5,st.at_,tx,r2,-1⟩]) f (.pointer ao4) st.E.length i:=((h3.keepS hsm).low (by have:=hF1.size;omega)).more _
 refine .inr (.inr (.inr (.inr (.inr (.inl ⟨rfl,.pointer ao4,i,h2.symm,h1,?_,hE⟩)))))
 rcases hop with⟨e1,e2⟩|⟨e1,e2⟩
 ·exact .inl ⟨e1,e2▸hnode⟩
 ·exact .inr ⟨e1,e2▸hnode⟩
theorem zcx (s:zgS)(n:Nat)(ihs:z8G s 93 6 n)(ihn:z8G s 139 7 n):z8G s 93 6 (n+1):=by
 intro b st w p r st' hM hR hp
 rw [M_6] at hM
 have hs1:=jH b p s 45 st.bad w hR
 rw [hp] at hs1
 have HS1:=z8 hs1
 have hple:=hR.le
 have hidem:Hid (skip s st.at_ st.bad=st.at_):=z8 (by have h:=jp s p st.bad hple;rw [hp] at h;exact h)
 clear hs1 hp hR
 cases hc:(pkS s st !=45)
 ·rw [hc,if_neg (by decide)] at hM
  have hc2:(pk s st.at_ st.bad==((45:UInt8).toNat:Int))=true:=by simpa [pkS] using hc
  obtain⟨⟨r2,st2⟩,h2,h3⟩:=zgD.1 hM
  obtain⟨hl,h6⟩:=zj h3
  cases h6
  have HH:=z8 h2
  clear hM h2 h3
  obtain⟨i0,hi,hz0,hz1,hz2⟩:=info_parts info89
  go_enter Tryz.func93,Tryz.ntmps93
  go_wp2_with fail
  refine HS1.out.mono ?_
  rintro e w1 ⟨rfl,hR1,hsc1⟩
  rw [hc2]
  obtain⟨c0,c1,c2,f1,f2,_,_⟩:=id hR1
  have hbl:b<w1.heap.size:=zd hR1.c0
  have hRa:Rd (w1.alloc (.cells #[.string ⟨#[110]⟩,.string ⟨#[]⟩,.int .i64 st.at_,.slice none 0 0] 138)) b s st.at_ st.bad:=hR1.other (zgJ _ _ _ hbl)
  go_wp2_with fail
  refine(zN b st.at_ s _ st.bad _ hRa (by decide)).mono ?_
  rintro e w3 ⟨rfl,hR3,hs3⟩
  have hz3:w3.heap.size=w1.heap.size+1:=by have:=hs3.size;simpa using this
  go_wp2_with fail
  refine(ihs b (sgn s [45] st) _ _ r2 st2 HH.out hR3 rfl).mono ?_
  rintro e w4 ⟨ao4,p4,rfl,hR4,hF4,hp4,ht4⟩
  rw [hz3] at ht4
  have hF34:=hs3.rf.trans hF4
  have hg4:w4.heap[w1.heap.size]?=some (.cells #[.string ⟨#[110]⟩,.string ⟨#[]⟩,.int .i64 st.at_,.slice none 0 0] 138):=(hF34.block w1.heap.size (by simp) (by omega)).trans (heap_alloc_new w1 _)
  obtain⟨d0,d1,d2,d3,df⟩:=jN hg4
  have hz4:=hF34.size
  simp at hz4
  have HX:=z8 (zgI hsc1.rf (zgI hF34 (zgI hR4 (zgI hp4 ht4))))
  clear hp4 ht4 hF4 hs3 hR3 hRa hF34 hsc1 hR4
  go_wp2_with (at_builtin;go_must (refine wpList_append_lies _ rfl (.tmp 23) (.tmp 25) 136 rfl (w1.heap.size+1) 89 i0 _ 1 8 Tryz.underlying136 hi hz0 hz1 hz2 rfl (by omega) (.slice none 0 0) 0 [] rfl (World.ownsRow_nil _ _ _ _) ⟨w4.heap.size,0,none⟩ 1 1 [.pointer ao4] rfl rfl ?news ?one (by omega) ?mm ?bys ?base (w4.heap.size+1) (by simp) ?rest))
  case news=>exact World.news_of_block (heap_alloc_new w4 _)
  case one=>intro u hu;simp at hu;subst hu;rfl
  case mm=>unfold maxLen;omega
  case bys=>omega
  case base=>simp;omega
  case rest=>
   intro gb cap w5 hown hgrow hat hlt2
   have hat:gb=w4.heap.size+1:=by
    rcases hat with q|q
    ·simp [Value.ownBlock] at q
    ·exact q
   have hgrow:(w4.alloc (.cells #[.pointer ao4] 89)).grownBy w5 none:=hgrow
   have hfin:=z4r (tx:=⟨#[45]⟩) (op:=sN) (st:=st) (.inr ⟨rfl,rfl⟩) HX.out.1 hbl HX.out.2.1 HX.out.2.2.1 HX.out.2.2.2.1 HX.out.2.2.2.2 hown hgrow hat
   have HF:=z8 hfin
   have hcell5:w5.cell? ⟨w1.heap.size,3,none⟩=some (.slice none 0 0)∧w5.frozen? ⟨w1.heap.size,3,none⟩=false:=by
    have e1:w5.heap[w1.heap.size]?=w4.heap[w1.heap.size]?:=(hgrow.block _ (by simp;omega) (by simp)).trans (zgJ _ _ _ (by omega))
    exact⟨(World.cell?_of_block (w:=w4) e1).trans d3,(World.frozen?_of_block (w:=w4) e1).trans (df 3)⟩
   obtain⟨z1,z2⟩:=hcell5
   clear hfin hgrow hown hat d0 d1 d2 d3 df
   go_wp2_with fail
   go_ret
   exact HF.out
 ·rw [hc,if_pos rfl] at hM
  have hc2:(pk s st.at_ st.bad==((45:UInt8).toNat:Int))=false:=by simpa [pkS] using hc
  have HM:=z8 hM
  clear hM
  go_enter Tryz.func93,Tryz.ntmps93
  go_wp2_with fail
  refine HS1.out.mono ?_
  rintro e w1 ⟨rfl,hR1,hsc1⟩
  rw [hc2]
  go_wp2_with fail
  refine(ihn b st _ _ r st' HM.out hR1 hidem.out).mono ?_
  rintro e w4 ⟨ao4,p4,rfl,hR4,hF4,hp4,ht4⟩
  rw [hsc1.size] at ht4
  go_wp2_with fail
  go_ret
  exact⟨ao4,p4,rfl,hR4,hsc1.rf.trans hF4,hp4,ht4⟩
theorem z1D {b g B:Nat}{w w1 w6 w7:World}{s:zgS}{st st1 st2:St}{p6:Nat}{op:zgS}{at_ l1 r2:Int}{ao1 ao2:Option Addr}{gb cap:Nat}
  (hF1:Rf b w w1) (ht1:st1.bad=false→ ∃(f i:Nat),l1=(i:Int)∧i+1=st1.E.length∧RefE b w.heap.size w1 st1.E f (.pointer ao1) st.E.length i)
  (hF16:Rf b w1 w6) (hg1:w1.heap.size≤g) (hgb:g≠b) (hg6:w6.heap[g]?=some (.cells #[.string op,.string ⟨#[]⟩,.int .i64 at_,.slice none 0 0] 138)) (hb6:b<w6.heap.size)
  (hR6:Rd w6 b s p6 st2.bad) (hp6:skip s p6 st2.bad=st2.at_) (hbad:st2.bad=false→st1.bad=false) (hext:ExtE st1 st2)
  (ht6:st2.bad=false→ ∃(f i:Nat),r2=(i:Int)∧i+1=st2.E.length∧RefE b B w6 st2.E f (.pointer ao2) st1.E.length i) (hgB:g<B)
  (hown:w7.ownsRow (w1.heap.size) 89 1 (.slice (some ⟨gb,0,none⟩) 2 cap) 2 [.pointer ao1,.pointer ao2]) (hgrow:(w6.alloc (.cells #[.pointer ao1,.pointer ao2] 89)).grownBy w7 none) (hat:gb=w6.heap.size+1):
  z3i b s st {st2 with E:=st2.E++[⟨6,at_,op,l1,r2⟩]} st2.E.length w (.returned (.pointer (some ⟨g,0,none⟩))) (w7.setCell ⟨g,3,none⟩ (.slice (some ⟨gb,0,none⟩) 2 cap)):=by
 have hgl:g<w6.heap.size:=(Array.getElem?_eq_some_iff.1 hg6).1
 have hgr:Rf b w6 w7:=((Rf.refl b w6).alloc _).grown hgrow (fun k e=>by cases e)
 have hb7:w7.heap[b]?=w6.heap[b]?:=by
  rw [hgrow.block b (by simp;omega) (by simp)]
  exact zgJ _ _ _ (by omega)
 have hg7:=(hgr.block g hgl hgb).trans hg6
 have hnode:Node b w.heap.size (w7.setCell ⟨g,3,none⟩ (.slice (some ⟨gb,0,none⟩) 2 cap)) (.pointer (some ⟨g,0,none⟩)) op ⟨#[]⟩ at_ [.pointer ao1,.pointer ao2]:=
  z7x hg7 hgb (zgP hF1.size hg1) (z0a hown hF1.size) (by simp [Value.ownBlock];omega) (by simp [Value.ownBlock];omega)
 have hF17:Rf b w1 (w7.setCell ⟨g,3,none⟩ (.slice (some ⟨gb,0,none⟩) 2 cap)):=(hF16.trans hgr).setCell (a:=⟨g,3,none⟩) hg1 _
 refine⟨_,p6,rfl,(hR6.other hb7).other (zgQ _ _ _ _ (by simp;omega)),hF1.trans hF17,hp6,fun hb=> ?_⟩
 obtain⟨f2,i2,e2,l2,t2⟩:=ht6 hb
 obtain⟨f1,i1,e1,k1,t1⟩:=ht1 (hbad hb)
 obtain⟨⟨F,hFE⟩,_,_,_⟩:=hext
 have hsm:z2D b B w6 (w7.setCell ⟨g,3,none⟩ (.slice (some ⟨gb,0,none⟩) 2 cap)):=fun k hk1 hk2 hk3=>(zgQ _ _ _ _ (by simp;omega)).trans (hgr.block k hk2 hk3)
 refine⟨f1+f2+1,st2.E.length,rfl,by simp,⟨6,at_,op,l1,r2⟩,by simp,?_⟩
 refine .inr (.inr (.inr (.inr (.inr (.inr ⟨rfl,.pointer ao1,.pointer ao2,i1,i2,l2.symm,e1,e2,hnode,?_,?_⟩)))))
 ·have q1:=((t1.keep hF17).more F).ups f2
  rw [←hFE] at q1
  exact q1.more _
 ·have q2:=((t2.keepS hsm).low (zgP hF1.size (zgP hg1 (Nat.le_of_lt hgB)))).ups f1
  rw [Nat.add_comm f1 f2,k1]
  exact q2.more _
theorem z0r {s:zgS}{a:Nat}(h:a<s.size)(hc:(pk s a false==61)=true∨(pk s a false==33)=true∨(pk s a false==60)=true∨(pk s a false==62)=true):
  ze s a false=if(pk s a false==61||pk s a false==33||pk s (a+1) false==61) then(skip s (zt s false [61] (a+1)).1 (zt s false [61] (a+1)).2,(zt s false [61] (a+1)).2,⟨#[s[a],61]⟩) else(skip s (a+1) false,false,⟨#[s[a]]⟩):=by
 have hpk:pk s a false=(s[a].toNat:Int):=by simp [pk,h]
 have hb: ∀c:UInt8,(pk s a false==(c.toNat:Int))=true→s[a]=c:=fun c hc=>by
  rw [hpk,←z5A] at hc
  simpa using hc
 have hword: ∀(c:UInt8) (cs:List UInt8),(pk s a false==(c.toNat:Int))=true→zt s false (c::cs) a=zt s false cs (a+1):=fun c cs hc=>jd (by simpa using hc)
 unfold ze zx jo
 rcases hc with h1|h1|h1|h1
 ·rw [h1,hword 61 [61] h1,hb 61 h1]
  simp
 ·have e:pk s a false=33:=by simpa using h1
  have n1:(pk s a false==61)=false:=by simp [e]
  rw [n1,h1,hword 33 [61] h1,hb 33 h1]
  simp
 ·have e:pk s a false=60:=by simpa using h1
  have n1:(pk s a false==61)=false:=by simp [e]
  have n2:(pk s a false==33)=false:=by simp [e]
  rw [n1,n2,h1,hb 60 h1]
  simp only [Bool.false_eq_true,if_false,if_true,Bool.or_false,Bool.false_or]
  rw [show zt s false (⟨#[60]⟩:zgS).data.toList a=(a+1,false) from hword 60 [] h1]
  cases h2:(pk s (a+1) false==61)
  ·simp only [bne,h2,Bool.not_false,if_true];simp
  ·simp only [bne,h2,Bool.not_true];simp
 ·have e:pk s a false=62:=by simpa using h1
  have n1:(pk s a false==61)=false:=by simp [e]
  have n2:(pk s a false==33)=false:=by simp [e]
  have n3:(pk s a false==60)=false:=by simp [e]
  rw [n1,n2,n3,h1,hb 62 h1]
  simp only [Bool.false_eq_true,if_false,if_true,Bool.or_false,Bool.false_or]
  rw [show zt s false (⟨#[62]⟩:zgS).data.toList a=(a+1,false) from hword 62 [] h1]
  cases h2:(pk s (a+1) false==61)
  ·simp only [bne,h2,Bool.not_false,if_true];simp
  ·simp only [bne,h2,Bool.not_true];simp
theorem z3y {s:zgS}{a:Nat}{d:Bool}(h1:(pk s a d==61)=false)(h2:(pk s a d==33)=false)(h3:(pk s a d==60)=false)(h4:(pk s a d==62)=false):ze s a d=(a,d,⟨#[]⟩):=by
 unfold ze
 rw [h1,h2,h3,h4]
 simp
end Go.Proofs.YtkoohcilbpdgeaaGreatDoor
