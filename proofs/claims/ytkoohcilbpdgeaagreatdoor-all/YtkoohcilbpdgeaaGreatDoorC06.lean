import Derived.Test.YtkoohcilbpdgeaaGreatDoorProg
import Derived.Deep.RegionWith
import Derived.RegionTactic
import Derived.ChangeAlike
import Derived.Test.YtkoohcilbpdgeaaGreatDoorC05
set_option linter.all false
set_option linter.unusedVariables false
set_option linter.unusedSimpArgs false
set_option linter.unnecessarySimpa false
set_option linter.constructorNameAsVariable false
set_option linter.deprecated false
set_option maxRecDepth 100000
set_option maxHeartbeats 6400000
namespace Go.Proofs.YtkoohcilbpdgeaaGreatDoor
open Go Go.RowKit
def Sz (st:St):Prop:=(∀x∈st.E,x.text.size≤600)∧(∀x∈st.L,x.text.size≤600)∧(∀cls∈st.C,∀c∈cls,c.result.size≤600)∧(∀x∈st.A,x.by_.size≤600)
theorem z0U {st:St}{x:Ex}{r:Int×St}(h:z0e st x=some r)(hg:Sz st)(hx:x.text.size≤600):Sz r.2:=by
 obtain⟨_,rfl⟩:=zt h
 refine⟨fun y hy=> ?_,hg.2⟩
 rcases List.mem_append.1 hy with hy|hy
 ·exact hg.1 y hy
 ·have:y=x:=by simpa using hy
  rw [this];exact hx
theorem z6Y {st:St}{x:Lc}{r:Int×St}(h:z3P st x=some r)(hg:Sz st)(hx:x.text.size≤600):Sz r.2:=by
 obtain⟨_,rfl⟩:=jl h
 refine⟨hg.1,fun y hy=> ?_,hg.2.2⟩
 rcases List.mem_append.1 hy with hy|hy
 ·exact hg.2.1 y hy
 ·have:y=x:=by simpa using hy
  rw [this];exact hx
theorem zbZ {st:St}{x:List Cl}{r:Int×St}(h:zad st x=some r)(hg:Sz st)(hx: ∀c∈x,c.result.size≤600):Sz r.2:=by
 obtain⟨_,rfl⟩:=z0j h
 refine⟨hg.1,hg.2.1,fun y hy=> ?_,hg.2.2.2⟩
 rcases List.mem_append.1 hy with hy|hy
 ·exact hg.2.2.1 y hy
 ·have:y=x:=by simpa using hy
  rw [this];exact hx
theorem zcx {st:St}{x:As}{r:St}(h:zcH st x=some r)(hg:Sz st)(hx:x.by_.size≤600):Sz r:=by
 obtain⟨_,rfl⟩:=z0i h
 refine⟨hg.1,hg.2.1,hg.2.2.1,fun y hy=> ?_⟩
 rcases List.mem_append.1 hy with hy|hy
 ·exact hg.2.2.2 y hy
 ·have:y=x:=by simpa using hy
  rw [this];exact hx
theorem zbO (s:zeV)(a b:Nat)(h:s.size≤600):(s.extract a b).size≤600:=by
 rw [ByteArray.size_extract];omega
theorem z9f (p:Int→Bool)(m:Nat)(s:zeV)(a:Nat)(d:Bool)(h:s.size≤600):(z7a p m s a d).2.2.size≤600:=by
 unfold z7a
 simp only
 split
 ·show ByteArray.size ⟨#[]⟩≤600;decide
 ·exact zbO s _ _ h
theorem z1K (s:zeV)(a:Nat)(d:Bool)(h:s.size≤600):(jg s a d).2.2.size≤600:=z9f _ _ _ _ _ h
theorem z8u (s:zeV)(a:Nat)(d:Bool)(h:s.size≤600):(jD s a d).2.2.size≤600:=z9f _ _ _ _ _ h
theorem z8k (s:zeV)(a:Nat)(d:Bool)(h:s.size≤600):(z01 s a d).2.2.size≤600:=zbO s _ _ h
theorem z32 (s x y:zeV)(a:Nat)(d:Bool)(hx:x.size≤600)(hy:y.size≤600):(zQ s x y a d).2.2.size≤600:=by
 unfold zQ
 simp only
 split
 ·exact hx
 ·exact hy
theorem z5p (s:zeV)(a:Nat)(d:Bool):(zk s a d).2.2.size≤600:=by
 unfold zk
 split
 ·show ByteArray.size ⟨#[61,61]⟩≤600;decide
 ·split
  ·show ByteArray.size ⟨#[33,61]⟩≤600;decide
  ·split
   ·exact z32 _ _ _ _ _ (by decide) (by decide)
   ·split
    ·exact z32 _ _ _ _ _ (by decide) (by decide)
    ·show ByteArray.size ⟨#[]⟩≤600;decide
theorem zeq (s:zeV)(h600:s.size≤600): ∀n tag l st r,M s n tag l st=some r→Sz st→Sz r.2:=by
 intro n
 induction n with
 |zero=>intro tag l st r h;simp [M] at h
 |succ n ih=>
  intro tag l st r h hg
  have two: ∀{t1 t2:Nat} {st0:St},Sz st0→((M s n t1 0 st0).bind fun r=>M s n t2 r.1 r.2)=some r→Sz r.2:=fun hg h=>by
   obtain⟨q,h1,h2⟩:=zeG.1 h
   exact ih _ _ _ _ h2 (ih _ _ _ _ h1 hg)
  have three: ∀{t1 t2:Nat} {st0:St} {x:Int×St→Ex},Sz st0→(∀r,(x r).text.size≤600)→((M s n t1 0 st0).bind fun r=>(z0e r.2 (x r)).bind fun q=>M s n t2 q.1 q.2)=some r→Sz r.2:=fun hg hx h=>by
   obtain⟨q,h1,h2⟩:=zeG.1 h
   obtain⟨q2,h3,h4⟩:=zeG.1 h2
   exact ih _ _ _ _ h4 (z0U h3 (ih _ _ _ _ h1 hg) (hx q))
  match tag,h with
  |0,h=>rw [M_0] at h;exact two hg h
  |1,h=>rw [M_1] at h;exact two hg h
  |4,h=>rw [M_4] at h;exact two hg h
  |5,h=>rw [M_5] at h;exact two hg h
  |10,h=>
   rw [zbz] at h
   split at h
   ·exact three (st0:=sgn s [124,124] st) (x:=fun r=>⟨6,st.at_,⟨#[124,124]⟩,l,r.1⟩) hg (fun r=>by show ByteArray.size ⟨#[124,124]⟩≤600;decide) h
   ·cases h;exact hg
  |11,h=>
   rw [zbC] at h
   split at h
   ·exact three (st0:=sgn s [38,38] st) (x:=fun r=>⟨6,st.at_,⟨#[38,38]⟩,l,r.1⟩) hg (fun r=>by show ByteArray.size ⟨#[38,38]⟩≤600;decide) h
   ·cases h;exact hg
  |14,h=>
   rw [zbL] at h
   simp only at h
   split at h
   ·cases h;exact hg
   ·rename_i hs
    exact three (st0:=sgn s (zB s st.at_ st.bad).data.toList st) (x:=fun r=>⟨6,st.at_,zB s st.at_ st.bad,l,r.1⟩) hg (fun r=>z2w _ _ _) h
  |15,h=>
   rw [zcp] at h
   simp only at h
   split at h
   ·cases h;exact hg
   ·rename_i hs
    exact three (st0:=sgn s (zl s st.at_ st.bad).data.toList st) (x:=fun r=>⟨6,st.at_,zl s st.at_ st.bad,l,r.1⟩) hg (fun r=>z11 _ _ _) h
  |2,h=>
   rw [M_2] at h
   split at h
   ·exact ih _ _ _ _ h hg
   ·obtain⟨q,h1,h2⟩:=zeG.1 h
    have hq:=ih _ _ _ _ h1 (show Sz (sgn s [33] st) from hg)
    exact z0U h2 hq (by show ByteArray.size ⟨#[33]⟩≤600;decide)
  |6,h=>
   rw [M_6] at h
   split at h
   ·exact ih _ _ _ _ h hg
   ·obtain⟨q,h1,h2⟩:=zeG.1 h
    have hq:=ih _ _ _ _ h1 (show Sz (sgn s [45] st) from hg)
    exact z0U h2 hq (by show ByteArray.size ⟨#[45]⟩≤600;decide)
  |3,h=>
   rw [M_3] at h
   obtain⟨q,h1,h2⟩:=zeG.1 h
   have k1:=ih _ _ _ _ h1 hg
   simp only at h2
   split at h2
   ·cases h2;exact k1
   ·rename_i hs
    obtain⟨q2,h3,h4⟩:=zeG.1 h2
    have hq:=ih _ _ _ _ h3 (show Sz (q.2.put3 _) from k1)
    exact z0U h4 hq (z5p _ _ _)
  |7,h=>
   rw [M_7] at h
   simp only at h
   split at h
   ·exact z0U h (show Sz (st.put3 _) from hg) (z8u _ _ _ h600)
   ·split at h
    ·exact z0U h (show Sz (st.put3 _) from hg) (z8k _ _ _ h600)
    ·split at h
     ·exact z0U h (show Sz ((wrd s [64] st).put3 _) from hg) (z1K _ _ _ h600)
     ·split at h
      ·obtain⟨q,h1,h2⟩:=zeG.1 h
       have hq:=ih _ _ _ _ h1 (show Sz (sgn s [40] st) from hg)
       cases h2
       exact hq
      ·split at h
       ·exact z0U h (show Sz (st.put3 _) from hg) (z1K _ _ _ h600)
       ·exact z0U h (show Sz (st.put3 _) from hg) (z1K _ _ _ h600)
  |8,h=>simp [M] at h
  |9,h=>simp [M] at h
  |12,h=>simp [M] at h
  |13,h=>simp [M] at h
  |t+16,h=>simp [M] at h
theorem zdX (s:zeV)(h600:s.size≤600): ∀n tag cls st r,MC s n tag cls st=some r→Sz st→(∀c∈cls,c.result.size≤600)→Sz r.2.2∧r.2.1.result.size≤600:=by
 intro n
 induction n with
 |zero=>intro tag cls st r h;simp [MC] at h
 |succ n ih=>
  intro tag cls st r h hg hc
  match tag,h with
  |0,h=>
   rw [zaa] at h
   obtain⟨q,h1,h2⟩:=zeG.1 h
   have k1:=ih _ _ _ _ h1 hg (by simp)
   refine ih _ _ _ _ h2 k1.1 fun c hm=> ?_
   have:c=q.2.1:=by simpa using hm
   rw [this];exact k1.2
  |2,h=>
   rw [zae] at h
   split at h
   ·split at h
    ·obtain⟨q,h1,h2⟩:=zeG.1 h
     have k1:=ih _ _ _ _ h1 (show Sz (sgn s [59] st) from hg) (by simp)
     refine ih _ _ _ _ h2 k1.1 fun c hm=> ?_
     rcases List.mem_append.1 hm with hm|hm
     ·exact hc c hm
     ·have:c=q.2.1:=by simpa using hm
      rw [this];exact k1.2
    ·obtain⟨q,h1,h2⟩:=zeG.1 h
     cases h2
     exact⟨zbZ h1 hg hc,by show ByteArray.size ⟨#[]⟩≤600;decide⟩
   ·cases h
  |1,h=>
   rw [zcL] at h
   obtain⟨q,h1,h2⟩:=zeG.1 h
   obtain⟨q2,h3,h4⟩:=zeG.1 h2
   have k1:=zeq s h600 _ _ _ _ _ h1 hg
   have k2:=z0U h3 k1 (by show ByteArray.size ⟨#[]⟩≤600;decide)
   split at h4
   ·cases h4;exact⟨k2,by show ByteArray.size ⟨#[]⟩≤600;decide⟩
   ·simp only at h4
    split at h4
    ·obtain⟨v,h7,h8⟩:=zeG.1 h4
     cases h8
     have kk:=ih _ _ _ _ h7 (show Sz (sgn s [123] (sgn s [45,62] q2.2)) from k2) (by simp)
     exact⟨kk.1,by show ByteArray.size ⟨#[]⟩≤600;decide⟩
    ·cases h4
     exact⟨k2,z1K _ _ _ h600⟩
  |t+3,h=>simp [MC] at h
theorem ze1 (s:zeV)(h600:s.size≤600): ∀n tag l p k its st r,ML s n tag l p k its st=some r→Sz st→Sz r.2:=by
 intro n
 induction n with
 |zero=>intro tag l p k its st r h;simp [ML] at h
 |succ n ih=>
  intro tag l p k its st r h hg
  have three: ∀{t1 t2:Nat} {st0:St} {x:Int×St→Lc},Sz st0→(∀r,(x r).text.size≤600)→((ML s n t1 0 0 0 [] st0).bind fun r=>(z3P r.2 (x r)).bind fun q=>ML s n t2 q.1 0 0 [] q.2)=some r→Sz r.2:=fun hg hx h=>by
   obtain⟨q,h1,h2⟩:=zeG.1 h
   obtain⟨q2,h3,h4⟩:=zeG.1 h2
   exact ih _ _ _ _ _ _ _ h4 (z6Y h3 (ih _ _ _ _ _ _ _ h1 hg) (hx q))
  match tag,h with
  |0,h=>
   rw [zb2] at h
   obtain⟨q,h1,h2⟩:=zeG.1 h
   exact ih _ _ _ _ _ _ _ h2 (ih _ _ _ _ _ _ _ h1 hg)
  |1,h=>
   rw [zaT] at h
   obtain⟨q,h1,h2⟩:=zeG.1 h
   exact ih _ _ _ _ _ _ _ h2 (ih _ _ _ _ _ _ _ h1 hg)
  |10,h=>
   rw [z5w] at h
   split at h
   ·exact three (st0:=sgn s [124,124] st) (x:=fun r=>⟨1,⟨#[124,124]⟩,l,r.1,0,0,[]⟩) hg (fun r=>by show ByteArray.size ⟨#[124,124]⟩≤600;decide) h
   ·cases h;exact hg
  |11,h=>
   rw [z63] at h
   split at h
   ·exact three (st0:=sgn s [38,38] st) (x:=fun r=>⟨1,⟨#[38,38]⟩,l,r.1,0,0,[]⟩) hg (fun r=>by show ByteArray.size ⟨#[38,38]⟩≤600;decide) h
   ·cases h;exact hg
  |2,h=>
   rw [zac] at h
   simp only at h
   split at h
   ·obtain⟨q,h1,h2⟩:=zeG.1 h
    have hq:=ih _ _ _ _ _ _ _ h1 (show Sz (sgn s [40] st) from hg)
    cases h2
    exact hq
   ·split at h
    ·exact ih _ _ _ _ _ _ _ h hg
    ·exact z6Y h (show Sz (st.put3 _) from hg) (z1K _ _ _ h600)
  |3,h=>
   rw [zce] at h
   obtain⟨q,h1,h2⟩:=zeG.1 h
   have hq:=ih _ _ _ _ _ _ _ h1 (show Sz (sgn s [45,111,102,40] {st with at_:=st.at_+1}) from hg)
   exact ih _ _ _ _ _ _ _ h2 hq
  |13,h=>
   rw [z5V] at h
   split at h
   ·split at h
    ·obtain⟨u,h1,h2⟩:=zeG.1 h
     have hq:=ih _ _ _ _ _ _ _ h1 (show Sz (sgn s [44] st) from hg)
     exact ih _ _ _ _ _ _ _ h2 hq
    ·exact z6Y h (show Sz (sgn s [41] st) from hg) (by show ByteArray.size ⟨#[]⟩≤600;decide)
   ·cases h
  |4,h=>simp [ML] at h
  |5,h=>simp [ML] at h
  |6,h=>simp [ML] at h
  |7,h=>simp [ML] at h
  |8,h=>simp [ML] at h
  |9,h=>simp [ML] at h
  |12,h=>simp [ML] at h
  |t+14,h=>simp [ML] at h
theorem zee {s:zeV}(h600:s.size≤600){n:Nat}{st st':St}(h:MA s n st=some st')(hg:Sz st):Sz st':=by
 unfold MA at h
 simp only at h
 obtain⟨⟨r1,st1⟩,h1,hM2⟩:=zeG.1 h
 obtain⟨⟨r2,cl2,st2⟩,h2,hM3⟩:=zeG.1 hM2
 have k1:Sz st1:=ze1 s h600 _ _ _ _ _ _ _ _ h1 hg
 have k2:Sz st2:=(zdX s h600 _ _ _ _ _ h2 (show Sz (j6 s [105,102] (wrd s [10] st1)) from k1) (by simp)).1
 exact zcx hM3 (show Sz (wrd s [10] st2) from k2) (z1K _ _ _ h600)
theorem zan (s:zeV)(h600:s.size≤600): ∀n st st',MR s n st=some st'→Sz st→Sz st':=by
 intro n
 induction n with
 |zero=>intro st st' h;simp [MR] at h
 |succ n ih=>
  intro st st' h hg
  unfold MR at h
  split at h
  ·obtain⟨u,h1,h2⟩:=zeG.1 h
   exact ih _ _ h2 (zee h600 h1 hg)
  ·cases h;exact hg
attribute [local go_sem] wrap64_byte
theorem zb4: ∀k:Fin 10,(⟨#[48,49,50,51,52,53,54,55,56,57,97,98,99,100,101,102,103,104,105,106,107,108,109,110,111,112,113,114,115,116,117,118,119,120,121,122]⟩:zeV).extract k.val (k.val+1)=⟨#[(k.val+48).toUInt8]⟩:=by decide
theorem za7 (c:UInt8)(w:World)(h1:48≤c.toNat)(h2:c.toNat≤57):
  Calls Tryz.prog 155 #[.int .i64 ((c.toNat:Int)- 48)] w fun e w'=>e= .returned (.string ⟨#[c]⟩)∧w'=w:=by
 obtain⟨k,hk⟩: ∃k:Nat,c.toNat=k+48:=⟨c.toNat - 48,by omega⟩
 have hc:c=(k+48).toUInt8:=by rw [←hk];simp
 have he:(c.toNat:Int)- 48=(k:Int):=by omega
 rw [he]
 have hk9:k<10:=by omega
 have hfin:Hid (c=(k+48).toUInt8):=z8 hc
 clear hk hc he h1 h2
 go_enter Tryz.func155,Tryz.ntmps155
 go_wp2_with fail
 go_ret
 exact⟨by rw [hfin.out];exact congrArg _ (congrArg _ (zb4 ⟨k,hk9⟩)),rfl⟩
theorem z5a (c:UInt8)(w:World)(h1:48≤c.toNat)(h2:c.toNat≤57):
  Calls Tryz.prog 126 #[.int .i64 ((c.toNat:Int)- 48),.int .i64 10] w fun e w'=>e= .returned (.string ⟨#[c]⟩)∧w'=w:=by
 have H:=z8 (za7 c w h1 h2)
 have e1:0≤(c.toNat:Int)- 48:=by omega
 have e2:(c.toNat:Int)- 48<100:=by omega
 generalize (c.toNat:Int)- 48=z at*
 go_enter Tryz.func126,Tryz.ntmps126
 go_wp2_with fail
 refine H.out.mono ?_
 rintro e w1 ⟨rfl,rfl⟩
 go_wp2_with fail
 go_ret
 exact⟨rfl,rfl⟩
theorem z9B (c:UInt8)(w:World)(h1:48≤c.toNat)(h2:c.toNat≤57):
  Calls Tryz.prog 111 #[.int .i64 ((c.toNat:Int)- 48)] w fun e w'=>e= .returned (.string ⟨#[c]⟩)∧w'=w:=by
 have H:=z8 (z5a c w h1 h2)
 have e1:0≤(c.toNat:Int)- 48:=by omega
 have e2:(c.toNat:Int)- 48<100:=by omega
 generalize (c.toNat:Int)- 48=z at*
 go_enter Tryz.func111,Tryz.ntmps111
 go_wp2_with fail
 refine H.out.mono ?_
 rintro e w1 ⟨rfl,rfl⟩
 go_wp2_with fail
 go_ret
 exact⟨rfl,rfl⟩
theorem z7x (c:UInt8)(w:World)(h1:48≤c.toNat)(h2:c.toNat≤57):
  Calls Tryz.prog 70 #[.int .i64 ((c.toNat:Int)- 48)] w fun e w'=>e= .returned (.string ⟨#[c]⟩)∧w'=w:=by
 have H:=z8 (z9B c w h1 h2)
 have e1:0≤(c.toNat:Int)- 48:=by omega
 have e2:(c.toNat:Int)- 48<100:=by omega
 generalize (c.toNat:Int)- 48=z at*
 go_enter Tryz.func70,Tryz.ntmps70
 go_wp2_with fail
 refine H.out.mono ?_
 rintro e w1 ⟨rfl,rfl⟩
 go_wp2_with fail
 go_ret
 exact⟨rfl,rfl⟩
def z3F (l s r:zeV):zeV:=((((((⟨#[40]⟩:zeV)++l)++⟨#[32]⟩)++s)++⟨#[32]⟩)++r)++⟨#[41]⟩
theorem z2k (l s r:zeV)(w:World)(h1:l.size≤1000000000)(h2:s.size≤1000000000)(h3:r.size≤1000000000):
  Calls Tryz.prog 128 #[.string l,.string s,.string r] w fun e w'=>e= .returned (.string (z3F l s r))∧Below w.heap.size w w':=by
 have HB:=z8 (zeU w.heap.size w)
 go_enter Tryz.func128,Tryz.ntmps128
 go_wp2_with fail
 go_ret
 exact⟨rfl,HB.out⟩
structure TP (w:World)(b:Nat)(st:St)(V:Nat→Value)(iv cv:List Value):Prop where
 c3:w.cell? ⟨b,2,none⟩=some (V 3)
 c4:w.cell? ⟨b,3,none⟩=some (V 4)
 c5:w.cell? ⟨b,4,none⟩=some (V 5)
 c6:w.cell? ⟨b,5,none⟩=some (V 6)
 t: ∃base,TreeV w base st V iv cv
 el:st.E.length≤100000
 ll:st.L.length≤100000
 cl:st.C.length≤100000
 al:st.A.length≤100000
theorem TP.keep {w w':World}{b:Nat}{st:St}{V:Nat→Value}{iv cv:List Value}(h:TP w b st V iv cv)(hb:Below w.heap.size w w'):TP w' b st V iv cv:=by
 have hlt:=zd h.c3
 obtain⟨base,ht⟩:=h.t
 exact⟨(hb.cell (p:=⟨b,2,none⟩) hlt).trans h.c3,(hb.cell (p:=⟨b,3,none⟩) hlt).trans h.c4,(hb.cell (p:=⟨b,4,none⟩) hlt).trans h.c5,(hb.cell (p:=⟨b,5,none⟩) hlt).trans h.c6,⟨base,ht.same fun k _ hk=>hb.block k hk⟩,h.el,h.ll,h.cl,h.al⟩
theorem z8f (b:Nat)(st:St)(V:Nat→Value)(iv cv:List Value)(i:Nat)(x:Ex)(w:World)(hT:TP w b st V iv cv)(hx:st.E[i]?=some x):
  Calls Tryz.prog 179 #[.pointer (some ⟨b,2,none⟩),.int .i64 i] w fun e w'=>e= .returned (.agg #[.int .i64 x.form,.int .i64 x.place,.string x.text,.int .i64 x.left,.int .i64 x.right])∧Below w.heap.size w w':=by
 have HB:=z8 (zeU w.heap.size w)
 have hel:=hT.el
 have hc:=hT.c5
 have hblt:=zd hc
 obtain⟨base,ht⟩:=hT.t
 have how:=ht.own 5 (by omega) (by omega)
 have hlt:i<st.E.length:=(zeI.1 hx).1
 obtain⟨a5,k5,e5⟩: ∃a k,V 5= .slice a st.E.length k:=za how
 have how:w.ownsRow base 120 5 (.slice a5 st.E.length k5) st.E.length ((st.E.map Ex.cells).flatten):=e5▸how
 rw [e5] at hc
 obtain⟨g,cap,hv,hb,hg⟩:=how.form (by omega)
 injection hv with e1 e2 e3
 subst e1 e3
 have hcell: ∀j u,x.cells[j]?=some u→j<5→w.cell? ⟨g,i*5+j,none⟩=some u:=fun j u hu hj=>
  zf how _ _ ((zI Ex.cells 5 Ex.cells_len st.E i j x hx hj).trans hu)
 have q0:w.cell? ⟨g,i*5,none⟩=some (.int .i64 x.form):=hcell 0 _ rfl (by omega)
 have q1:=hcell 1 _ rfl (by omega)
 have q2:=hcell 2 _ rfl (by omega)
 have q3:=hcell 3 _ rfl (by omega)
 have q4:=hcell 4 _ rfl (by omega)
 have hlt':(i:Int)<st.E.length:=by omega
 clear hcell how hx ht hT e5
 go_enter Tryz.func179,Tryz.ntmps179
 go_wp2_with fail
 exact bodyPost_ret (v:= .agg #[.int .i64 x.form,.int .i64 x.place,.string x.text,.int .i64 x.left,.int .i64 x.right]) (by simp [results,Tryz.results179,go_sem]) rfl ⟨rfl,HB.out.alloc (zeK _) _⟩
def zcX (x:Lc)(w:World)(e:Ending)(w':World):Prop:= ∃a k base,e= .returned (.agg #[.int .i64 x.form,.string x.text,.int .i64 x.left,.int .i64 x.right,.int .i64 x.place,.int .i64 x.count,.slice a x.items.length k])∧w.ownsRow base 3 1 (.slice a x.items.length k) x.items.length (x.items.map (Value.int .i64))∧Below w.heap.size w w'
def zcS (x:List Cl)(w:World)(e:Ending)(w':World):Prop:= ∃a k base,e= .returned (.agg #[.slice a x.length k])∧w.ownsRow base 156 4 (.slice a x.length k) x.length ((x.map Cl.cells).flatten)∧Below w.heap.size w w'
theorem z8U (b:Nat)(st:St)(V:Nat→Value)(iv cv:List Value)(i:Nat)(x:Lc)(w:World)(hT:TP w b st V iv cv)(hx:st.L[i]?=some x):
  Calls Tryz.prog 112 #[.pointer (some ⟨b,2,none⟩),.int .i64 i] w fun e w'=>zcX x w e w':=by
 have HB:=z8 (zeU w.heap.size w)
 have hel:=hT.ll
 have hc:=hT.c4
 have hblt:=zd hc
 obtain⟨base,ht⟩:=hT.t
 have how:=ht.own 4 (by omega) (by omega)
 have hlt:i<st.L.length:=(zeI.1 hx).1
 obtain⟨u,hu⟩: ∃u,iv[i]?=some u:=⟨iv[i]'(by have:=ht.il;omega),zeH (by have:=ht.il;omega)⟩
 have hit:=ht.items i x u hx hu
 obtain⟨a6,k6,rfl⟩:=za hit
 have HIT:=z8 hit
 obtain⟨a5,k5,e5⟩: ∃a k,V 4= .slice a st.L.length k:=za how
 have how:w.ownsRow base 160 7 (.slice a5 st.L.length k5) st.L.length ((List.zipWith Lc.cells st.L iv).flatten):=e5▸how
 rw [e5] at hc
 obtain⟨g,cap,hv,hb,hg⟩:=how.form (by omega)
 injection hv with e1 e2 e3
 subst e1 e3
 have hcell: ∀j z,(x.cells (.slice a6 x.items.length k6))[j]?=some z→j<7→w.cell? ⟨g,i*7+j,none⟩=some z:=fun j z hz hj=>
  zf how _ _ ((z5f st.L iv i j x _ hx hu hj).trans hz)
 have q0:w.cell? ⟨g,i*7,none⟩=some (.int .i64 x.form):=hcell 0 _ rfl (by omega)
 have q1:=hcell 1 _ rfl (by omega)
 have q2:=hcell 2 _ rfl (by omega)
 have q3:=hcell 3 _ rfl (by omega)
 have q4:=hcell 4 _ rfl (by omega)
 have q5:=hcell 5 _ rfl (by omega)
 have q6:=hcell 6 _ rfl (by omega)
 have hlt':(i:Int)<st.L.length:=by omega
 clear hcell how hx ht hT e5 hit hu
 go_enter Tryz.func112,Tryz.ntmps112
 go_wp2_with fail
 exact bodyPost_ret (v:= .agg #[.int .i64 x.form,.string x.text,.int .i64 x.left,.int .i64 x.right,.int .i64 x.place,.int .i64 x.count,.slice a6 x.items.length k6]) (by simp [results,Tryz.results112,go_sem]) rfl ⟨a6,k6,base,rfl,HIT.out,HB.out.alloc (zeK _) _⟩
theorem z6x (b:Nat)(st:St)(V:Nat→Value)(iv cv:List Value)(i:Nat)(x:List Cl)(w:World)(hT:TP w b st V iv cv)(hx:st.C[i]?=some x):
  Calls Tryz.prog 130 #[.pointer (some ⟨b,2,none⟩),.int .i64 i] w fun e w'=>zcS x w e w':=by
 have HB:=z8 (zeU w.heap.size w)
 have hel:=hT.cl
 have hc:=hT.c6
 have hblt:=zd hc
 obtain⟨base,ht⟩:=hT.t
 have how:=ht.own 6 (by omega) (by omega)
 have hlt:i<st.C.length:=(zeI.1 hx).1
 obtain⟨u,hu⟩: ∃u,cv[i]?=some u:=⟨cv[i]'(by have:=ht.cl;omega),zeH (by have:=ht.cl;omega)⟩
 have hit:=ht.clauses i x u hx hu
 obtain⟨a6,k6,rfl⟩:=za hit
 have HIT:=z8 hit
 obtain⟨a5,k5,e5⟩: ∃a k,V 6= .slice a st.C.length k:=za how
 have how:w.ownsRow base 133 1 (.slice a5 st.C.length k5) st.C.length cv:=e5▸how
 rw [e5] at hc
 obtain⟨g,cap,hv,hb,hg⟩:=how.form (by omega)
 injection hv with e1 e2 e3
 subst e1 e3
 have q0:w.cell? ⟨g,i,none⟩=some (.slice a6 x.length k6):=zf how _ _ hu
 have hlt':(i:Int)<st.C.length:=by omega
 clear how hx ht hT e5 hit hu
 go_enter Tryz.func130,Tryz.ntmps130
 go_wp2_with fail
 exact bodyPost_ret (v:= .agg #[.slice a6 x.length k6]) (by simp [results,Tryz.results130,go_sem]) rfl ⟨a6,k6,base,rfl,HIT.out,HB.out.alloc (zeK _) _⟩
def PrE (E:List Ex):Nat→Int→zeV→Prop
 |0,_,_=>False
 |f+1,i,t=>t.size≤1000000000∧ ∃(n:Nat) (x:Ex),i=(n:Int)∧E[n]?=some x∧x.text.size≤600∧(
   ((x.form=0∨x.form=2∨x.form=3)∧t=x.text)∨
   (x.form=1∧t=((⟨#[34]⟩:zeV)++x.text)++⟨#[34]⟩)∨
   (x.form=4∧t=(⟨#[64]⟩:zeV)++x.text)∨
   (x.form=5∧ ∃t1,PrE E f x.left t1∧t=x.text++t1)∨
   (x.form=6∧ ∃t1 t2,PrE E f x.left t1∧PrE E f x.right t2∧t=z3F t1 x.text t2)∨
   (x.form=7∧PrE E f x.left t))
theorem PrE.sz {E:List Ex}{f:Nat}{i:Int}{t:zeV}(h:PrE E f i t):t.size≤1000000000:=by
 cases f with
 |zero=>exact absurd h id
 |succ f=>exact h.1
theorem Below.drew1 (w:World):Below w.heap.size w w.drew:=⟨rfl,rfl,rfl,zeK _,fun _ _=>rfl⟩
theorem TP.drew {w:World}{b:Nat}{st:St}{V:Nat→Value}{iv cv:List Value}(h:TP w b st V iv cv):TP w.drew b st V iv cv:=h.keep (Below.drew1 w)
theorem z8o {a W W2:World}(h:Below a.heap.size a W)(k:Below W.drew.heap.size W.drew W2):Below a.heap.size a W2:=
 h.trans ((Below.drew1 W).trans k|>.mono h.size)
def jA (t:zeV)(w:World)(e:Ending)(w':World):Prop:=e= .returned (.string t)∧Below w.heap.size w w'
theorem z5o (b:Nat)(st:St)(V:Nat→Value)(iv cv:List Value): ∀(f:Nat) (i:Int) (t:zeV) (w:World),TP w b st V iv cv→PrE st.E f i t→
  Calls Tryz.prog 163 #[.pointer (some ⟨b,2,none⟩),.int .i64 i] w fun e w'=>jA t w e w':=by
 intro f
 induction f with
 |zero=>intro i t w _ h;exact absurd h id
 |succ f ih=>
  intro i t w hT ⟨hsz,n,x,hi,hx,hxs,h⟩
  subst hi
  have HE:=z8 (z8f b st V iv cv n x w hT hx)
  have HT:=z8 hT
  have IH:=z8 ih
  clear ih hT hx
  rcases h with⟨h1,h2⟩|⟨h1,h2⟩|⟨h1,h2⟩|⟨h1,t1,h2,h3⟩|⟨h1,t1,t2,h2,h3,h4⟩|⟨h1,h2⟩
  ·subst h2
   go_enter Tryz.func163,Tryz.ntmps163
   go_wp2_with fail
   refine HE.out.mono ?_
   rintro e w1 ⟨rfl,hB⟩
   have hB1:=z8 (hB.alloc hB.size (.cells #[.int .i64 x.form,.int .i64 x.place,.string x.text,.int .i64 x.left,.int .i64 x.right] 120))
   rcases h1 with h1|h1|h1
   ·rw [h1] at hB1 ⊢
    go_wp2_with fail
    go_ret
    exact⟨rfl,hB1.out⟩
   ·rw [h1] at hB1 ⊢
    go_wp2_with fail
    go_ret
    exact⟨rfl,hB1.out⟩
   ·rw [h1] at hB1 ⊢
    go_wp2_with fail
    go_ret
    exact⟨rfl,hB1.out⟩
  ·subst h2
   go_enter Tryz.func163,Tryz.ntmps163
   go_wp2_with fail
   refine HE.out.mono ?_
   rintro e w1 ⟨rfl,hB⟩
   have hB1:=z8 (hB.alloc hB.size (.cells #[.int .i64 x.form,.int .i64 x.place,.string x.text,.int .i64 x.left,.int .i64 x.right] 120))
   rw [h1] at hB1 ⊢
   go_wp2_with fail
   go_ret
   exact⟨rfl,hB1.out⟩
  ·subst h2
   go_enter Tryz.func163,Tryz.ntmps163
   go_wp2_with fail
   refine HE.out.mono ?_
   rintro e w1 ⟨rfl,hB⟩
   have hB1:=z8 (hB.alloc hB.size (.cells #[.int .i64 x.form,.int .i64 x.place,.string x.text,.int .i64 x.left,.int .i64 x.right] 120))
   rw [h1] at hB1 ⊢
   go_wp2_with fail
   go_ret
   exact⟨rfl,hB1.out⟩
  ·have hs1:=h2.sz
   subst h3
   go_enter Tryz.func163,Tryz.ntmps163
   go_wp2_with fail
   refine HE.out.mono ?_
   rintro e w1 ⟨rfl,hB⟩
   have hB1:=z8 (hB.alloc hB.size (.cells #[.int .i64 x.form,.int .i64 x.place,.string x.text,.int .i64 x.left,.int .i64 x.right] 120))
   have hT1:=HT.out.keep (hB.alloc hB.size (.cells #[.int .i64 x.form,.int .i64 x.place,.string x.text,.int .i64 x.left,.int .i64 x.right] 120))
   rw [h1] at hB1 hT1 ⊢
   have HT1:=z8 hT1
   have hbx:=heap_alloc_new w1 (.cells #[.int .i64 5,.int .i64 x.place,.string x.text,.int .i64 x.left,.int .i64 x.right] 120)
   have HBX:=z8 hbx
   clear hT1 hB hbx
   go_wp2_with fail
   have HTd:=z8 (HT1.out.drew)
   go_region_with (go_at_call 163;refine(IH.out _ _ _ HTd.out h2).mono ?_;rintro e w2 ⟨rfl,hB2⟩;(have hbx2:=(hB2.block w1.heap.size (by show w1.heap.size<(w1.alloc _).heap.size;simp)).trans HBX.out);(have hc2:w2.cell? ⟨w1.heap.size,2,none⟩=some (.string x.text):=by simp [World.cell?,hbx2]);(have HB2:=z8 hB2);(clear hB2 hbx2))
   all_goals go_wp2_with fail
   all_goals go_ret
   all_goals exact⟨rfl,z8o hB1.out HB2.out⟩
  ·have hs1:=h2.sz
   have hs2:=h3.sz
   subst h4
   go_enter Tryz.func163,Tryz.ntmps163
   go_wp2_with fail
   refine HE.out.mono ?_
   rintro e w1 ⟨rfl,hB⟩
   have hB1:=z8 (hB.alloc hB.size (.cells #[.int .i64 x.form,.int .i64 x.place,.string x.text,.int .i64 x.left,.int .i64 x.right] 120))
   have hT1:=HT.out.keep (hB.alloc hB.size (.cells #[.int .i64 x.form,.int .i64 x.place,.string x.text,.int .i64 x.left,.int .i64 x.right] 120))
   rw [h1] at hB1 hT1 ⊢
   have HC:=z8 (IH.out _ _ _ hT1 h2)
   have hbx:=heap_alloc_new w1 (.cells #[.int .i64 6,.int .i64 x.place,.string x.text,.int .i64 x.left,.int .i64 x.right] 120)
   have HBX:=z8 hbx
   have HT1:=z8 hT1
   clear hT1 hB hbx
   go_wp2_with fail
   refine HC.out.mono ?_
   rintro e w2 ⟨rfl,hB2⟩
   have hT2:=HT1.out.keep hB2
   have hB2':=z8 (hB1.out.trans (hB2.mono hB1.out.size))
   have hbx2:=(hB2.block w1.heap.size (by simp)).trans HBX.out
   have hc2:w2.cell? ⟨w1.heap.size,2,none⟩=some (.string x.text):=by simp [World.cell?,hbx2]
   have hc4:w2.cell? ⟨w1.heap.size,4,none⟩=some (.int .i64 x.right):=by simp [World.cell?,hbx2]
   have HBX2:=z8 hbx2
   have HC2:=z8 (IH.out _ _ _ hT2 h3)
   clear hT2 hB2 hbx2
   go_wp2_with fail
   refine HC2.out.mono ?_
   rintro e w3 ⟨rfl,hB3⟩
   have hB3':=z8 (hB2'.out.trans (hB3.mono hB2'.out.size))
   have hlt:w1.heap.size<w2.heap.size:=(Array.getElem?_eq_some_iff.1 HBX2.out).1
   have hbx3:=(hB3.block w1.heap.size hlt).trans HBX2.out
   have hc3:w3.cell? ⟨w1.heap.size,2,none⟩=some (.string x.text):=by simp [World.cell?,hbx3]
   clear hB3 hbx3
   go_wp2_with fail
   refine(z2k t1 x.text t2 w3 hs1 (by omega) hs2).mono ?_
   rintro e w4 ⟨rfl,hB4⟩
   have hB4':=z8 (hB3'.out.trans (hB4.mono hB3'.out.size))
   clear hB4
   go_wp2_with fail
   go_ret
   exact⟨rfl,hB4'.out⟩
  ·have hs1:=h2.sz
   go_enter Tryz.func163,Tryz.ntmps163
   go_wp2_with fail
   refine HE.out.mono ?_
   rintro e w1 ⟨rfl,hB⟩
   have hB1:=z8 (hB.alloc hB.size (.cells #[.int .i64 x.form,.int .i64 x.place,.string x.text,.int .i64 x.left,.int .i64 x.right] 120))
   have hT1:=HT.out.keep (hB.alloc hB.size (.cells #[.int .i64 x.form,.int .i64 x.place,.string x.text,.int .i64 x.left,.int .i64 x.right] 120))
   rw [h1] at hB1 hT1 ⊢
   have HC:=z8 (IH.out _ _ _ hT1 h2)
   clear hT1 hB
   go_wp2_with fail
   refine HC.out.mono ?_
   rintro e w2 ⟨rfl,hB2⟩
   have hB2':=z8 (hB1.out.trans (hB2.mono hB1.out.size))
   clear hB2
   go_wp2_with fail
   go_ret
   exact⟨rfl,hB2'.out⟩
def jk (sep:zeV)(ts:List zeV):Nat→zeV
 |0=>⟨#[]⟩
 |k+1=>(if k=0 then jk sep ts k else jk sep ts k++sep)++ts.getD k ⟨#[]⟩
theorem zca (sep:zeV)(ts:List zeV)(k:Nat):(jk sep ts k).size≤(jk sep ts (k+1)).size:=by
 simp only [jk]
 split<;>simp only [ByteArray.size_append]<;>omega
theorem z6K (sep:zeV)(ts:List zeV){k n:Nat}(h:k≤n):(jk sep ts k).size≤(jk sep ts n).size:=by
 induction n with
 |zero=>
   have:k=0:=by omega
   subst this;exact zeK _
 |succ n ih=>
  by_cases hk:k=n+1
  ·subst hk;exact zeK _
  ·exact zeS (ih (by omega)) (zca sep ts n)
def All2 {α:Type}(P:α→zeV→Prop):List α→List zeV→Prop
 |[],[]=>True
 |x::xs,t::ts=>P x t∧All2 P xs ts
 |_,_=>False
theorem All2.len {α:Type}{P:α→zeV→Prop}: ∀{xs:List α} {ts:List zeV},All2 P xs ts→xs.length=ts.length:=by
 intro xs
 induction xs with
 |nil=>intro ts h;cases ts with
  |nil=>rfl
  |cons t ts=>exact absurd h id
 |cons x xs ih=>intro ts h;cases ts with
  |nil=>exact absurd h id
  |cons t ts=>simp [ih h.2]
theorem All2.get {α:Type}{P:α→zeV→Prop}: ∀{xs:List α} {ts:List zeV} (i:Nat) (x:α),All2 P xs ts→xs[i]?=some x→P x (ts.getD i ⟨#[]⟩):=by
 intro xs
 induction xs with
 |nil=>intro ts i x _ h;simp at h
 |cons y ys ih=>intro ts i x h hx;cases ts with
  |nil=>exact absurd h id
  |cons t ts=>
   cases i with
   |zero=>simp at hx;subst hx;exact h.1
   |succ i=>exact ih i x h.2 (by simpa using hx)
def PrL (L:List Lc):Nat→Int→zeV→Prop
 |0,_,_=>False
 |f+1,i,t=>t.size≤1000000000∧ ∃(n:Nat) (x:Lc),i=(n:Int)∧L[n]?=some x∧x.text.size≤600∧(
   (x.form=0∧t=x.text)∨
   (x.form=1∧ ∃t1 t2,PrL L f x.left t1∧PrL L f x.right t2∧t=z3F t1 x.text t2)∨
   (x.form=2∧ ∃(c:UInt8) (ts:List zeV),(c.toNat:Int)- 48=x.count∧48≤c.toNat∧c.toNat≤57∧x.items.length≤100000∧All2 (fun i t=>PrL L f i t) x.items ts∧(jk ⟨#[44,32]⟩ ts ts.length).size≤1000000000∧t=(((⟨#[c]⟩:zeV)++⟨#[45,111,102,40]⟩)++jk ⟨#[44,32]⟩ ts ts.length)++⟨#[41]⟩))
theorem PrL.sz {L:List Lc}{f:Nat}{i:Int}{t:zeV}(h:PrL L f i t):t.size≤1000000000:=by
 cases f with
 |zero=>exact absurd h id
 |succ f=>exact h.1
def zen (b:Nat)(st:St)(V:Nat→Value)(iv cv:List Value)(f:Nat):Prop:= ∀(i:Int) (t:zeV) (w:World),TP w b st V iv cv→PrL st.L f i t→
  Calls Tryz.prog 86 #[.pointer (some ⟨b,2,none⟩),.int .i64 i] w fun e w'=>jA t w e w'
theorem z4U (b:Nat)(st:St)(V:Nat→Value)(iv cv:List Value)(f:Nat)(ih:zen b st V iv cv f)(its:List Int)(ts:List zeV)(a:Option Addr)(k base:Nat)(w:World)(hT:TP w b st V iv cv)
  (hown:w.ownsRow base 3 1 (.slice a its.length k) its.length (its.map (Value.int .i64))) (hlen:its.length≤100000) (hall:All2 (fun i t=>PrL st.L f i t) its ts) (hsz:(jk ⟨#[44,32]⟩ ts ts.length).size≤1000000000):
  Calls Tryz.prog 129 #[.pointer (some ⟨b,2,none⟩),.slice a its.length k] w fun e w'=>jA (jk ⟨#[44,32]⟩ ts ts.length) w e w':=by
 have HT:=z8 hT
 have HW:=z8 hown
 have IH:=z8 ih
 have HA:=z8 hall
 have hl2:=z8 hall.len
 have hmono: ∀i,i≤its.length→(jk ⟨#[44,32]⟩ ts i).size≤1000000000:=fun i hi=>zeS (z6K _ _ (by have:=hl2.out;omega)) hsz
 have HM:=z8 hmono
 clear hT hown ih hall hmono hsz
 go_enter Tryz.func129,Tryz.ntmps129
 go_wp2_with fail
 go_loopg [5,6] (its.length+1) (fun n ov nv wr=> ∃i:Nat,n+i=its.length+1∧i≤its.length∧ov= .string (jk ⟨#[44,32]⟩ ts i)∧nv= .int .i64 i∧Below w.heap.size w wr)
 case atStart=>exact⟨0,rfl,zeR _,rfl,rfl,zeU _ _⟩
 case round=>
  obtain⟨i,hk,hiE,rfl,rfl,hbel⟩:=hrel
  have hHK:=z8 hk
  clear hk
  by_cases hlt:i<its.length
  ·obtain⟨g,cap,hv,hb,hg⟩:=HW.out.form (by omega)
   injection hv with e1 e2 e3
   subst e1 e3
   obtain⟨x,hx⟩: ∃x,its[i]?=some x:=⟨its[i],zeH hlt⟩
   have q0:wr.cell? ⟨g,i,none⟩=some (.int .i64 x):=by
    rw [hbel.cell (p:=⟨g,i,none⟩) hg]
    exact zf HW.out _ _ (by simp [hx])
   have hlt':(i:Int)<its.length:=by omega
   have hP:=HA.out.get i x hx
   have hs1:=hP.sz
   have hs0:=HM.out i hiE
   have HC:=z8 (IH.out _ _ _ (HT.out.keep hbel) hP)
   have HB:=z8 hbel
   have hj:=z8 (show jk ⟨#[44,32]⟩ ts (i+1)=(if i=0 then jk ⟨#[44,32]⟩ ts i else jk ⟨#[44,32]⟩ ts i++⟨#[44,32]⟩)++ts.getD i ⟨#[]⟩ from rfl)
   clear hP hbel hx
   generalize ts.getD i ⟨#[]⟩=u at*
   by_cases hi0:i=0
   ·have hj':=z8 (hj.out.trans (by rw [if_pos hi0]))
    subst hi0
    generalize jk ⟨#[44,32]⟩ ts 0=p at*
    go_wp2_with fail
    refine HC.out.mono ?_
    rintro e w2 ⟨rfl,hB2⟩
    have hB3:=z8 (HB.out.trans (hB2.mono HB.out.size))
    clear hB2
    go_wp2_with fail
    go_roundg its.length
    case measure=>have:=hHK.out;omega
    case rel=>exact⟨0+1,by have:=hHK.out;omega,by omega,by rw [hj'.out],by go_num,hB3.out⟩
   ·have hj':=z8 (hj.out.trans (by rw [if_neg hi0]))
    generalize jk ⟨#[44,32]⟩ ts i=p at*
    have hi0':(0:Int)<(i:Int):=by omega
    go_wp2_with fail
    refine HC.out.mono ?_
    rintro e w2 ⟨rfl,hB2⟩
    have hB3:=z8 (HB.out.trans (hB2.mono HB.out.size))
    clear hB2
    go_wp2_with fail
    go_roundg (its.length - i)
    case measure=>have:=hHK.out;omega
    case rel=>exact⟨i+1,by have:=hHK.out;omega,by omega,by rw [hj'.out],by go_num,hB3.out⟩
  ·have hz:Hid (i=ts.length):=z8 (by have:=hl2.out;omega)
   go_wp2_with fail
   go_ret
   exact⟨by rw [hz.out];rfl,hbel⟩
theorem z5W (b:Nat)(st:St)(V:Nat→Value)(iv cv:List Value): ∀(f:Nat),zen b st V iv cv f:=by
 intro f
 induction f with
 |zero=>intro i t w _ h;exact absurd h id
 |succ f ih=>
  intro i t w hT ⟨hsz,n,x,hi,hx,hxs,h⟩
  subst hi
  have HE:=z8 (z8U b st V iv cv n x w hT hx)
  have HT:=z8 hT
  have IH:=z8 ih
  clear ih hT hx
  rcases h with⟨h1,h2⟩|⟨h1,t1,t2,h2,h3,h4⟩|⟨h1,c,ts,h2,h3,h4,h5,h6,h7,h8⟩
  ·subst h2
   go_enter Tryz.func86,Tryz.ntmps86
   go_wp2_with fail
   refine HE.out.mono ?_
   rintro e w1 ⟨a,k,base,rfl,_,hB⟩
   have hB1:=z8 (hB.alloc hB.size (.cells #[.int .i64 x.form,.string x.text,.int .i64 x.left,.int .i64 x.right,.int .i64 x.place,.int .i64 x.count,.slice a x.items.length k] 160))
   rw [h1] at hB1 ⊢
   clear hB
   go_wp2_with fail
   go_ret
   exact⟨rfl,hB1.out⟩
  ·have hs1:=h2.sz
   have hs2:=h3.sz
   subst h4
   go_enter Tryz.func86,Tryz.ntmps86
   go_wp2_with fail
   refine HE.out.mono ?_
   rintro e w1 ⟨a,k,base,rfl,_,hB⟩
   have hB1:=z8 (hB.alloc hB.size (.cells #[.int .i64 x.form,.string x.text,.int .i64 x.left,.int .i64 x.right,.int .i64 x.place,.int .i64 x.count,.slice a x.items.length k] 160))
   have hT1:=HT.out.keep (hB.alloc hB.size (.cells #[.int .i64 x.form,.string x.text,.int .i64 x.left,.int .i64 x.right,.int .i64 x.place,.int .i64 x.count,.slice a x.items.length k] 160))
   rw [h1] at hB1 hT1 ⊢
   have HC:=z8 (IH.out _ _ _ hT1 h2)
   have hbx:=heap_alloc_new w1 (.cells #[.int .i64 1,.string x.text,.int .i64 x.left,.int .i64 x.right,.int .i64 x.place,.int .i64 x.count,.slice a x.items.length k] 160)
   have HBX:=z8 hbx
   have HT1:=z8 hT1
   clear hT1 hB hbx
   go_wp2_with fail
   refine HC.out.mono ?_
   rintro e w2 ⟨rfl,hB2⟩
   have hT2:=HT1.out.keep hB2
   have hB2':=z8 (hB1.out.trans (hB2.mono hB1.out.size))
   have hbx2:=(hB2.block w1.heap.size (by simp)).trans HBX.out
   have hc2:w2.cell? ⟨w1.heap.size,1,none⟩=some (.string x.text):=by simp [World.cell?,hbx2]
   have hc4:w2.cell? ⟨w1.heap.size,3,none⟩=some (.int .i64 x.right):=by simp [World.cell?,hbx2]
   have HBX2:=z8 hbx2
   have HC2:=z8 (IH.out _ _ _ hT2 h3)
   clear hT2 hB2 hbx2
   go_wp2_with fail
   refine HC2.out.mono ?_
   rintro e w3 ⟨rfl,hB3⟩
   have hB3':=z8 (hB2'.out.trans (hB3.mono hB2'.out.size))
   have hlt:w1.heap.size<w2.heap.size:=(Array.getElem?_eq_some_iff.1 HBX2.out).1
   have hbx3:=(hB3.block w1.heap.size hlt).trans HBX2.out
   have hc3:w3.cell? ⟨w1.heap.size,1,none⟩=some (.string x.text):=by simp [World.cell?,hbx3]
   clear hB3 hbx3
   go_wp2_with fail
   refine(z2k t1 x.text t2 w3 hs1 (by omega) hs2).mono ?_
   rintro e w4 ⟨rfl,hB4⟩
   have hB4':=z8 (hB3'.out.trans (hB4.mono hB3'.out.size))
   clear hB4
   go_wp2_with fail
   go_ret
   exact⟨rfl,hB4'.out⟩
  ·subst h8
   go_enter Tryz.func86,Tryz.ntmps86
   go_wp2_with fail
   refine HE.out.mono ?_
   rintro e w1 ⟨a,k,base,rfl,how,hB⟩
   have how1:=zb how (w':=w1.alloc (.cells #[.int .i64 x.form,.string x.text,.int .i64 x.left,.int .i64 x.right,.int .i64 x.place,.int .i64 x.count,.slice a x.items.length k] 160)) fun q e=>((hB.alloc hB.size (.cells #[.int .i64 x.form,.string x.text,.int .i64 x.left,.int .i64 x.right,.int .i64 x.place,.int .i64 x.count,.slice a x.items.length k] 160)).block q (how.lt q e).2)
   have hB1:=z8 (hB.alloc hB.size (.cells #[.int .i64 x.form,.string x.text,.int .i64 x.left,.int .i64 x.right,.int .i64 x.place,.int .i64 x.count,.slice a x.items.length k] 160))
   have hT1:=HT.out.keep (hB.alloc hB.size (.cells #[.int .i64 x.form,.string x.text,.int .i64 x.left,.int .i64 x.right,.int .i64 x.place,.int .i64 x.count,.slice a x.items.length k] 160))
   rw [h1] at hB1 hT1 how1 ⊢
   have HC:=z8 (z4U b st V iv cv f IH.out x.items ts a k base _ hT1 how1 h5 h6 h7)
   have hbx:=heap_alloc_new w1 (.cells #[.int .i64 2,.string x.text,.int .i64 x.left,.int .i64 x.right,.int .i64 x.place,.int .i64 x.count,.slice a x.items.length k] 160)
   have HBX:=z8 hbx
   clear hT1 hB hbx how how1
   go_wp2_with fail
   refine HC.out.mono ?_
   rintro e w2 ⟨rfl,hB2⟩
   have hB2':=z8 (hB1.out.trans (hB2.mono hB1.out.size))
   have hbx2:=(hB2.block w1.heap.size (by simp)).trans HBX.out
   have hc2:w2.cell? ⟨w1.heap.size,5,none⟩=some (.int .i64 x.count):=by simp [World.cell?,hbx2]
   clear hB2 hbx2
   have HI:=z8 (z7x c w2 h3 h4)
   rw [h2] at HI
   go_wp2_with fail
   refine HI.out.mono ?_
   rintro e w3 ⟨rfl,rfl⟩
   go_wp2_with fail
   go_ret
   exact⟨rfl,hB2'.out⟩
def zdI (E:List Ex)(sub:Int→zeV→Prop)(f:Nat)(c:Cl)(t:zeV):Prop:=
 t.size≤1000000000∧ ∃t1,PrE E f c.test t1∧(
  (c.form=0∧t=t1)∨
  (c.form=1∧c.result.size≤600∧t=(t1++(⟨#[32,45,62,32]⟩:zeV))++c.result)∨
  (c.form=2∧ ∃t2,sub c.inner t2∧t2.size≤1000000000∧t=((t1++(⟨#[32,45,62,32,123]⟩:zeV))++t2)++⟨#[125]⟩))
def PrC (E:List Ex)(C:List (List Cl)):Nat→Int→zeV→Prop
 |0,_,_=>False
 |f+1,i,t=>t.size≤1000000000∧ ∃(n:Nat) (cls:List Cl) (ts:List zeV),i=(n:Int)∧C[n]?=some cls∧cls.length≤100000∧All2 (fun c t=>zdI E (fun i t=>PrC E C f i t) f c t) cls ts∧t=jk ⟨#[59,32]⟩ ts ts.length
def zem (b:Nat)(st:St)(V:Nat→Value)(iv cv:List Value)(f:Nat):Prop:= ∀(i:Int) (t:zeV) (w:World),TP w b st V iv cv→PrC st.E st.C f i t→
  Calls Tryz.prog 87 #[.pointer (some ⟨b,2,none⟩),.int .i64 i] w fun e w'=>jA t w e w'
theorem z4c (b:Nat)(st:St)(V:Nat→Value)(iv cv:List Value)(f:Nat)(ih:zem b st V iv cv f)(c:Cl)(t:zeV)(w:World)(hT:TP w b st V iv cv)(h:zdI st.E (fun i t=>PrC st.E st.C f i t) f c t):
  Calls Tryz.prog 131 #[.pointer (some ⟨b,2,none⟩),.agg #[.int .i64 c.test,.int .i64 c.form,.string c.result,.int .i64 c.inner]] w fun e w'=>jA t w e w':=by
 obtain⟨hsz,t1,h1,h⟩:=h
 have hs1:=h1.sz
 have hB1:=z8 ((zeU w.heap.size w).alloc (zeK _) (.cells #[.int .i64 c.test,.int .i64 c.form,.string c.result,.int .i64 c.inner] 156))
 have hT1:=hT.keep hB1.out
 have HC:=z8 (z5o b st V iv cv f c.test t1 _ hT1 h1)
 have HT1:=z8 hT1
 have IH:=z8 ih
 have hbx:=heap_alloc_new w (.cells #[.int .i64 c.test,.int .i64 c.form,.string c.result,.int .i64 c.inner] 156)
 have HBX:=z8 hbx
 clear hT1 hbx ih h1 hT
 go_enter Tryz.func131,Tryz.ntmps131
 go_wp2_with fail
 refine HC.out.mono ?_
 rintro e w2 ⟨rfl,hB2⟩
 have hT2:=HT1.out.keep hB2
 have hB2':=z8 (hB1.out.trans (hB2.mono hB1.out.size))
 have hbx2:=(hB2.block w.heap.size (by simp)).trans HBX.out
 have hc1:w2.cell? ⟨w.heap.size,1,none⟩=some (.int .i64 c.form):=by simp [World.cell?,hbx2]
 have hc2:w2.cell? ⟨w.heap.size,2,none⟩=some (.string c.result):=by simp [World.cell?,hbx2]
 have hc3:w2.cell? ⟨w.heap.size,3,none⟩=some (.int .i64 c.inner):=by simp [World.cell?,hbx2]
 have HT2:=z8 hT2
 clear hB2 hbx2 hT2
 rcases h with⟨h1,h2⟩|⟨h1,h2,h3⟩|⟨h1,t2,h2,h3,h4⟩
 ·subst h2
  rw [h1] at hc1
  go_wp2_with fail
  go_ret
  exact⟨rfl,hB2'.out⟩
 ·subst h3
  rw [h1] at hc1
  go_wp2_with fail
  go_ret
  exact⟨rfl,hB2'.out⟩
 ·subst h4
  rw [h1] at hc1
  have HC2:=z8 (IH.out _ _ _ HT2.out h2)
  go_wp2_with fail
  refine HC2.out.mono ?_
  rintro e w3 ⟨rfl,hB3⟩
  have hB3':=z8 (hB2'.out.trans (hB3.mono hB2'.out.size))
  clear hB3
  go_wp2_with fail
  go_ret
  exact⟨rfl,hB3'.out⟩
theorem z49 (b:Nat)(st:St)(V:Nat→Value)(iv cv:List Value): ∀(f:Nat),zem b st V iv cv f:=by
 intro f
 induction f with
 |zero=>intro i t w _ h;exact absurd h id
 |succ f ih=>
  intro i t w hT ⟨hsz,n,cls,ts,hi,hx,hlen,hall,ht⟩
  subst hi ht
  have HE:=z8 (z6x b st V iv cv n cls w hT hx)
  have HT:=z8 hT
  have IH:=z8 ih
  have HA:=z8 hall
  have hl2:=z8 hall.len
  have hmono: ∀i,i≤cls.length→(jk ⟨#[59,32]⟩ ts i).size≤1000000000:=fun i hi=>zeS (z6K _ _ (by have:=hl2.out;omega)) hsz
  have HM:=z8 hmono
  clear ih hT hx hall hmono hsz
  go_enter Tryz.func87,Tryz.ntmps87
  go_wp2_with fail
  refine HE.out.mono ?_
  rintro e w1 ⟨a,k,base,rfl,how,hB⟩
  have HW:=z8 how
  have HB1:=z8 hB
  clear how hB
  have hfd: ∀w:World,(Instr.field 133 (.agg #[.slice a cls.length k]) 0).run Tryz.prog w= .ok (.slice a cls.length k) w:=fun _=>by kernel_rfl
  go_wp2_with fail
  go_loopg [6,7] (cls.length+1) (fun n ov nv wr=> ∃i:Nat,n+i=cls.length+1∧i≤cls.length∧ov= .string (jk ⟨#[59,32]⟩ ts i)∧nv= .int .i64 i∧Below w.heap.size w wr)
  case atStart=>exact⟨0,rfl,zeR _,rfl,rfl,HB1.out⟩
  case round=>
   obtain⟨i,hk,hiE,rfl,rfl,hbel⟩:=hrel
   have hHK:=z8 hk
   clear hk hfd
   by_cases hlt:i<cls.length
   ·obtain⟨g,cap,hv,hb,hg⟩:=HW.out.form (by omega)
    injection hv with e1 e2 e3
    subst e1 e3
    obtain⟨x,hx⟩: ∃x,cls[i]?=some x:=⟨cls[i],zeH hlt⟩
    have hcell: ∀j u,x.cells[j]?=some u→j<4→wr.cell? ⟨g,i*4+j,none⟩=some u:=fun j u hu hj=>by
     rw [hbel.cell (p:=⟨g,i*4+j,none⟩) hg]
     exact zf HW.out _ _ ((zI Cl.cells 4 (fun _=>rfl) cls i j x hx hj).trans hu)
    have q0:wr.cell? ⟨g,i*4,none⟩=some (.int .i64 x.test):=hcell 0 _ rfl (by omega)
    have q1:=hcell 1 _ rfl (by omega)
    have q2:=hcell 2 _ rfl (by omega)
    have q3:=hcell 3 _ rfl (by omega)
    have hlt':(i:Int)<cls.length:=by omega
    have hP:=HA.out.get i x hx
    have hs1:=hP.1
    have hs0:=HM.out i hiE
    have HC:=z8 (z4c b st V iv cv f IH.out x _ _ (HT.out.keep hbel) hP)
    have HB:=z8 hbel
    have hj:=z8 (show jk ⟨#[59,32]⟩ ts (i+1)=(if i=0 then jk ⟨#[59,32]⟩ ts i else jk ⟨#[59,32]⟩ ts i++⟨#[59,32]⟩)++ts.getD i ⟨#[]⟩ from rfl)
    clear hP hbel hx hcell
    generalize ts.getD i ⟨#[]⟩=u at*
    by_cases hi0:i=0
    ·have hj':=z8 (hj.out.trans (by rw [if_pos hi0]))
     subst hi0
     simp only [Nat.zero_mul,Nat.zero_add] at q0 q1 q2 q3
     generalize jk ⟨#[59,32]⟩ ts 0=p at*
     go_wp2_with fail
     refine HC.out.mono ?_
     rintro e w2 ⟨rfl,hB2⟩
     have hB3:=z8 (HB.out.trans (hB2.mono HB.out.size))
     clear hB2
     go_wp2_with fail
     go_roundg cls.length
     case measure=>have:=hHK.out;omega
     case rel=>exact⟨0+1,by have:=hHK.out;omega,by omega,by rw [hj'.out],by go_num,hB3.out⟩
    ·have hj':=z8 (hj.out.trans (by rw [if_neg hi0]))
     generalize jk ⟨#[59,32]⟩ ts i=p at*
     have hi0':(0:Int)<(i:Int):=by omega
     go_wp2_with fail
     refine HC.out.mono ?_
     rintro e w2 ⟨rfl,hB2⟩
     have hB3:=z8 (HB.out.trans (hB2.mono HB.out.size))
     clear hB2
     go_wp2_with fail
     go_roundg (cls.length - i)
     case measure=>have:=hHK.out;omega
     case rel=>exact⟨i+1,by have:=hHK.out;omega,by omega,by rw [hj'.out],by go_num,hB3.out⟩
   ·have hz:Hid (i=ts.length):=z8 (by have:=hl2.out;omega)
    go_wp2_with fail
    go_ret
    exact⟨by rw [hz.out];rfl,hbel⟩
theorem PrC.sz {E:List Ex}{C:List (List Cl)}{f:Nat}{i:Int}{t:zeV}(h:PrC E C f i t):t.size≤1000000000:=by
 cases f with
 |zero=>exact absurd h id
 |succ f=>exact h.1
def z41 (b t1 t2:zeV):zeV:=((((((⟨#[98,121,32]⟩:zeV)++b)++⟨#[10,116,111,32]⟩)++t1)++⟨#[10,105,102,32]⟩)++t2)++⟨#[10]⟩
def PrA (st:St)(f:Nat)(x:As)(t:zeV):Prop:=x.by_.size≤600∧ ∃t1 t2,PrL st.L f x.to_ t1∧PrC st.E st.C f x.conds t2∧t=z41 x.by_ t1 t2
def cat (ts:List zeV):Nat→zeV
 |0=>⟨#[]⟩
 |k+1=>cat ts k++ts.getD k ⟨#[]⟩
def PrS (st:St)(t:zeV):Prop:= ∃f ts,All2 (fun x t=>PrA st f x t) st.A ts∧t=cat ts ts.length
theorem z5M (b:Nat)(st:St)(V:Nat→Value)(iv cv:List Value)(t:zeV)(w:World)(hT:TP w b st V iv cv)(h:PrS st t):
  Calls Tryz.prog 46 #[.pointer (some ⟨b,2,none⟩)] w fun e w'=>jA t w e w':=by
 obtain⟨f,ts,hall,ht⟩:=h
 subst ht
 have hc:=hT.c3
 have hblt:=zd hc
 have hel:=hT.al
 obtain⟨base,htv⟩:=hT.t
 have how:=htv.own 3 (by omega) (by omega)
 obtain⟨a5,k5,e5⟩: ∃a k,V 3= .slice a st.A.length k:=za how
 have how:w.ownsRow base 84 3 (.slice a5 st.A.length k5) st.A.length ((st.A.map As.cells).flatten):=e5▸how
 rw [e5] at hc
 have HW:=z8 how
 have HT:=z8 hT
 have HA:=z8 hall
 have hl2:=z8 hall.len
 have hc0:=z8 hc
 clear how hT hall htv e5 hc
 go_enter Tryz.func46,Tryz.ntmps46
 go_wp2_with fail
 go_loopg [3,4] (st.A.length+1) (fun n ov nv wr=> ∃i:Nat,n+i=st.A.length+1∧i≤st.A.length∧ov= .string (cat ts i)∧(cat ts i).size≤i*2100000000∧nv= .int .i64 i∧Below w.heap.size w wr)
 case atStart=>exact⟨0,rfl,zeR _,rfl,zeR _,rfl,zeU _ _⟩
 case round=>
  obtain⟨i,hk,hiE,rfl,hs0,rfl,hbel⟩:=hrel
  have hHK:=z8 hk
  clear hk
  have hc:wr.cell? ⟨b,2,none⟩=some (.slice a5 st.A.length k5):=(hbel.cell (p:=⟨b,2,none⟩) hblt).trans hc0.out
  have hblt2:b<wr.heap.size:=zd hc
  by_cases hlt:i<st.A.length
  ·obtain⟨g,cap,hv,hb,hg⟩:=HW.out.form (by omega)
   injection hv with e1 e2 e3
   subst e1 e3
   obtain⟨x,hx⟩: ∃x,st.A[i]?=some x:=⟨st.A[i],zeH hlt⟩
   have hcell: ∀j u,x.cells[j]?=some u→j<3→wr.cell? ⟨g,i*3+j,none⟩=some u:=fun j u hu hj=>by
    rw [hbel.cell (p:=⟨g,i*3+j,none⟩) hg]
    exact zf HW.out _ _ ((zI As.cells 3 (fun _=>rfl) st.A i j x hx hj).trans hu)
   have q0:wr.cell? ⟨g,i*3,none⟩=some (.string x.by_):=hcell 0 _ rfl (by omega)
   have q1:=hcell 1 _ rfl (by omega)
   have q2:=hcell 2 _ rfl (by omega)
   have hlt':(i:Int)<st.A.length:=by omega
   obtain⟨hby,t1,t2,hP1,hP2,hpc⟩:=HA.out.get i x hx
   have hs1:=hP1.sz
   have hs2:=hP2.sz
   have hj:=z8 (show cat ts (i+1)=cat ts i++z41 x.by_ t1 t2 from by show cat ts i++ts.getD i ⟨#[]⟩=_;rw [hpc])
   have hB1:=z8 (hbel.alloc hbel.size (.cells #[.string x.by_,.int .i64 x.to_,.int .i64 x.conds] 84))
   have HT1:=z8 (HT.out.keep hB1.out)
   have HC:=z8 (z5W b st V iv cv f x.to_ t1 _ HT1.out hP1)
   have HBX:=z8 (heap_alloc_new wr (.cells #[.string x.by_,.int .i64 x.to_,.int .i64 x.conds] 84))
   clear hbel hx hcell hpc
   generalize cat ts i=p at*
   go_wp2_with fail
   refine HC.out.mono ?_
   rintro e w2 ⟨rfl,hB2⟩
   have HT2:=z8 (HT1.out.keep hB2)
   have hB2':=z8 (hB1.out.trans (hB2.mono hB1.out.size))
   have hbx2:=(hB2.block wr.heap.size (by simp)).trans HBX.out
   have hc2:w2.cell? ⟨wr.heap.size,2,none⟩=some (.int .i64 x.conds):=by simp [World.cell?,hbx2]
   have HBX2:=z8 hbx2
   clear hB2 hbx2 q0 q1 q2 hc
   have HC2:=z8 (z49 b st V iv cv f x.conds t2 _ HT2.out hP2)
   go_wp2_with fail
   refine HC2.out.mono ?_
   rintro e w3 ⟨rfl,hB3⟩
   have hB3':=z8 (hB2'.out.trans (hB3.mono hB2'.out.size))
   have hlt2:wr.heap.size<w2.heap.size:=(Array.getElem?_eq_some_iff.1 HBX2.out).1
   have hbx3:=(hB3.block wr.heap.size hlt2).trans HBX2.out
   have hc3:w3.cell? ⟨wr.heap.size,0,none⟩=some (.string x.by_):=by simp [World.cell?,hbx3]
   clear hB3 hbx3
   go_wp2_with fail
   go_roundg (st.A.length - i)
   case measure=>have:=hHK.out;omega
   case rel=>exact⟨i+1,by have:=hHK.out;omega,by omega,by rw [hj.out];rfl,by rw [hj.out];unfold z41;simp only [ByteArray.size_append];have e1:ByteArray.size ⟨#[98,121,32]⟩=3:=rfl;have e2:ByteArray.size ⟨#[10,116,111,32]⟩=4:=rfl;have e3:ByteArray.size ⟨#[10,105,102,32]⟩=4:=rfl;have e4:ByteArray.size ⟨#[10]⟩=1:=rfl;omega,by go_num,hB3'.out⟩
  ·have hz:Hid (i=ts.length):=z8 (by have:=hl2.out;omega)
   go_wp2_with fail
   go_ret
   exact⟨by rw [hz.out];rfl,hbel⟩
def z4j (t:zeV)(k:Int)(w:World)(e:Ending)(w':World):Prop:=e= .returned (.tuple #[.string t,.int .i64 k])∧Below w.heap.size w w'
theorem z7o (s:zeV)(st:St)(w:World)(h:Calls Tryz.prog 45 #[.string s] w fun e w'=>z2V s w st e w')(hn:(ckM s st).1≠0):
  Calls Tryz.prog 22 #[.string s] w fun e w'=>z4j ⟨#[]⟩ (ckM s st).1 w e w':=by
 have H:=z8 h
 clear h
 go_enter Tryz.func22,Tryz.ntmps22
 go_wp2_with fail
 refine H.out.mono ?_
 rintro e w1 ⟨a,b,c,d,V,iv,cv,rfl,hB,⟨a1,n1,k1,rfl⟩,⟨a2,n2,k2,rfl⟩,⟨a3,n3,k3,rfl⟩,⟨a4,n4,k4,rfl⟩,_⟩
 have HB:=z8 (hB.alloc hB.size (.cells #[.int .i64 (ckM s st).1,.int .i64 (ckM s st).2,.slice a1 n1 k1,.slice a2 n2 k2,.slice a3 n3 k3,.slice a4 n4 k4] 78))
 clear hB
 go_wp2_with fail
 go_quiet (fail)
 go_wp2_with fail
 go_ret2
 exact⟨by simp,⟨HB.out.os,HB.out.tape,HB.out.output,HB.out.size,HB.out.block⟩⟩
theorem z9T (s:zeV)(st:St)(t:zeV)(w:World)(h:Calls Tryz.prog 45 #[.string s] w fun e w'=>z2V s w st e w')(hn:(ckM s st).1=0)(hp:PrS st t)
  (hE:st.E.length≤100000) (hL:st.L.length≤100000) (hC:st.C.length≤100000) (hA:st.A.length≤100000):
  Calls Tryz.prog 22 #[.string s] w fun e w'=>z4j t 0 w e w':=by
 have H:=z8 h
 clear h
 go_enter Tryz.func22,Tryz.ntmps22
 go_wp2_with fail
 refine H.out.mono ?_
 rintro e w1 ⟨a,b,c,d,V,iv,cv,rfl,hB,⟨a1,n1,k1,ha⟩,⟨a2,n2,k2,hb⟩,⟨a3,n3,k3,hc⟩,⟨a4,n4,k4,hd⟩,htr⟩
 obtain⟨e3,e4,e5,e6,hT⟩:=htr hn
 rw [hn]
 rw [ha] at e3;rw [hb] at e4;rw [hc] at e5;rw [hd] at e6
 subst ha hb hc hd
 have HB:=z8 (hB.alloc hB.size (.cells #[.int .i64 0,.int .i64 (ckM s st).2,.slice a1 n1 k1,.slice a2 n2 k2,.slice a3 n3 k3,.slice a4 n4 k4] 78))
 have hbx:=heap_alloc_new w1 (.cells #[.int .i64 0,.int .i64 (ckM s st).2,.slice a1 n1 k1,.slice a2 n2 k2,.slice a3 n3 k3,.slice a4 n4 k4] 78)
 obtain⟨z0,z1,z2,z3,z4,z5,_⟩:=zbB hbx
 have hTP:TP (w1.alloc (.cells #[.int .i64 0,.int .i64 (ckM s st).2,.slice a1 n1 k1,.slice a2 n2 k2,.slice a3 n3 k3,.slice a4 n4 k4] 78)) w1.heap.size st V iv cv:=
  ⟨z2.trans (by rw [e3]),z3.trans (by rw [e4]),z4.trans (by rw [e5]),z5.trans (by rw [e6]),⟨_,hT.same fun k _ hk=>zeM _ _ _ hk⟩,hE,hL,hC,hA⟩
 have HC:=z8 (z5M w1.heap.size st V iv cv t _ hTP hp)
 clear hB hbx z0 z1 z2 z3 z4 z5 hTP hT e3 e4 e5 e6 hn htr
 go_wp2_with fail
 refine HC.out.mono ?_
 rintro e w2 ⟨rfl,hB2⟩
 have hB2':=z8 (HB.out.trans (hB2.mono HB.out.size))
 clear hB2
 go_wp2_with fail
 go_ret2
 exact⟨by simp,hB2'.out⟩
theorem z4y (sep:zeV)(ts:List zeV)(a:Option Addr)(k base:Nat)(w:World)(hown:w.ownsRow base 9 1 (.slice a ts.length k) ts.length (ts.map Value.string))(hlen:ts.length≤100000)(hsp:sep.size≤600)
  (hts: ∀i,(ts.getD i ⟨#[]⟩).size≤1000000000) (hsz:(jk sep ts ts.length).size≤1000000000):
  Calls Tryz.prog 91 #[.slice a ts.length k,.string sep] w fun e w'=>e= .returned (.string (jk sep ts ts.length))∧w'=w:=by
 have HW:=z8 hown
 have HM:=z8 (show ∀i,i≤ts.length→(jk sep ts i).size≤1000000000 from fun i hi=>zeS (z6K _ _ hi) hsz)
 have HTS:=z8 hts
 clear hown hts hsz
 go_enter Tryz.func91,Tryz.ntmps91
 go_wp2_with fail
 go_loopg [5,6] (ts.length+1) (fun n ov nv wr=> ∃i:Nat,n+i=ts.length+1∧i≤ts.length∧ov= .string (jk sep ts i)∧nv= .int .i64 i∧wr=w)
 case atStart=>exact⟨0,rfl,zeR _,rfl,rfl,rfl⟩
 case round=>
  obtain⟨i,hk,hiE,rfl,rfl,rfl⟩:=hrel
  have hHK:=z8 hk
  clear hk
  by_cases hlt:i<ts.length
  ·obtain⟨g,cap,hv,hb,hg⟩:=HW.out.form (by omega)
   injection hv with e1 e2 e3
   subst e1 e3
   have q0:wr.cell? ⟨g,i,none⟩=some (.string (ts.getD i ⟨#[]⟩)):=zf HW.out _ _ (by simp [hlt])
   have hlt':(i:Int)<ts.length:=by omega
   have hs1:=HTS.out i
   have hs0:=HM.out i hiE
   have hj:=z8 (show jk sep ts (i+1)=(if i=0 then jk sep ts i else jk sep ts i++sep)++ts.getD i ⟨#[]⟩ from rfl)
   generalize ts.getD i ⟨#[]⟩=u at*
   by_cases hi0:i=0
   ·have hj':=z8 (hj.out.trans (by rw [if_pos hi0]))
    subst hi0
    generalize jk sep ts 0=p at*
    go_wp2_with fail
    go_roundg ts.length
    case measure=>have:=hHK.out;omega
    case rel=>exact⟨0+1,by have:=hHK.out;omega,by omega,by rw [hj'.out],by go_num,rfl⟩
   ·have hj':=z8 (hj.out.trans (by rw [if_neg hi0]))
    generalize jk sep ts i=p at*
    have hi0':(0:Int)<(i:Int):=by omega
    go_wp2_with fail
    go_roundg (ts.length - i)
    case measure=>have:=hHK.out;omega
    case rel=>exact⟨i+1,by have:=hHK.out;omega,by omega,by rw [hj'.out],by go_num,rfl⟩
  ·have hz:Hid (i=ts.length):=z8 (by omega)
   go_wp2_with fail
   go_ret
   exact⟨by rw [hz.out];rfl,rfl⟩
def z0v (op:zeV):Bool:=op.toList==[110,97,109,101]||op.toList==[97,116,116,114]||op.toList==[110,117,109]||op.toList==[116,114,117,101]||op.toList==[102,97,108,115,101]
def z0k (op tx:zeV)(ts:List zeV)(ak:Bool):zeV:=
 if z0v op then tx
 else if op.toList==[115,116,114] then((⟨#[34]⟩:zeV)++tx)++⟨#[34]⟩
 else if op.toList==[97,116] then(⟨#[64]⟩:zeV)++tx
 else if op.toList==[110] then(⟨#[45]⟩:zeV)++ts.getD 0 ⟨#[]⟩
 else if op.toList==[33] then(⟨#[33]⟩:zeV)++ts.getD 0 ⟨#[]⟩
 else if op.toList==[111,102] then((tx++(⟨#[45,111,102,40]⟩:zeV))++jk ⟨#[44,32]⟩ ts ts.length)++⟨#[41]⟩
 else if op.toList==[97,108,108] then jk ⟨#[59,32]⟩ ts ts.length
 else if op.toList==[105,102] then(if ts.length=1 then ts.getD 0 ⟨#[]⟩ else if ak then((ts.getD 0 ⟨#[]⟩++(⟨#[32,45,62,32,123]⟩:zeV))++ts.getD 1 ⟨#[]⟩)++⟨#[125]⟩ else(ts.getD 0 ⟨#[]⟩++(⟨#[32,45,62,32]⟩:zeV))++ts.getD 1 ⟨#[]⟩)
 else z3F (ts.getD 0 ⟨#[]⟩) op (ts.getD 1 ⟨#[]⟩)
def plain (op:zeV):Bool:=z0v op||op.toList==[115,116,114]||op.toList==[97,116]||op.toList==[110]||op.toList==[33]||op.toList==[111,102]||op.toList==[97,108,108]||op.toList==[105,102]
def Sec (w:World)(vs:List Value)(ak:Bool):Prop:= ∃v2 g2 op2,vs[1]?=some v2∧v2= .pointer (some ⟨g2,0,none⟩)∧w.cell? ⟨g2,0,none⟩=some (.string op2)∧(op2.toList==[97,108,108])=ak
structure ShN (w:World)(op tx:zeV)(vs:List Value)(ts:List zeV)(ak:Bool):Prop where
 htx:tx.size≤600
 hop:op.size≤600
 len:ts.length=vs.length
 ll:vs.length≤100000
 hts: ∀i,(ts.getD i ⟨#[]⟩).size≤1000000000
 one:(op.toList==[110]||op.toList==[33])=true→1≤ts.length
 of:(op.toList==[111,102])=true→(jk ⟨#[44,32]⟩ ts ts.length).size≤1000000000
 all:(op.toList==[97,108,108])=true→(jk ⟨#[59,32]⟩ ts ts.length).size≤1000000000
 if_:(op.toList==[105,102])=true→ts.length=1∨(ts.length=2∧Sec w vs ak)
 two:plain op=false→2≤ts.length
theorem zdg {w:World}{base k:Nat}{a:Option Addr}{ts:List zeV}(h:w.ownsRow base 9 1 (.slice a ts.length k) ts.length (ts.map Value.string))(h1:1≤ts.length):
  ∃g,a=some ⟨g,0,none⟩∧w.cell? ⟨g,0,none⟩=some (.string (ts.getD 0 ⟨#[]⟩))∧(2≤ts.length→w.cell? ⟨g,1,none⟩=some (.string (ts.getD 1 ⟨#[]⟩))):=by
 obtain⟨g,cap,hv,hb,hg⟩:=h.form (by omega)
 injection hv with e1 e2 e3
 subst e1 e3
 exact⟨g,rfl,zf h 0 _ (by rw [List.getElem?_map,List.getD_eq_getElem?_getD,zeH h1];rfl),fun h2=>zf h 1 _ (by rw [List.getElem?_map,List.getD_eq_getElem?_getD,zeH h2];rfl)⟩
theorem jz {X:Nat→Prop}{w:World}{v:Value}{op tx:zeV}{a:Int}{vs:List Value}(h:NodeX X w v op tx a vs)(ts:List zeV)(ak:Bool)(hn:ShN w op tx vs ts ak)
  (hk: ∀(i:Nat) (vi:Value) (wr:World),vs[i]?=some vi→Below w.heap.size w wr→Calls Tryz.prog 50 #[vi] wr fun e w'=>jA (ts.getD i ⟨#[]⟩) wr e w'):
  Calls Tryz.prog 50 #[v] w fun e w'=>jA (z0k op tx ts ak) w e w':=by
 obtain⟨g,kv,rfl,hh,hg,how⟩:=zL h
 obtain⟨a5,k5,rfl⟩:=zO how
 have HK:=z8 hk
 have HH:=z8 hh
 have HOW:=z8 how
 have HN:=z8 hn
 have hlen:=hn.ll
 have HTL:=z8 hn.len
 obtain⟨i0,hi,hz0,hz1,hz2⟩:=info_parts info9
 clear hk h hh how hn
 go_enter Tryz.func50,Tryz.ntmps50
 go_wp2_with fail
 go_loopg [3,4,5] (vs.length+1) (fun k lv nv _ wr=> ∃i:Nat,k+i=vs.length+1∧i≤vs.length∧nv= .int .i64 i∧wr.ownsRow w.heap.size 9 1 lv (ts.take i).length ((ts.take i).map Value.string)∧Below w.heap.size w wr)
 case atStart=>exact⟨0,rfl,zeR _,rfl,World.ownsRow_nil _ _ _ _,zeU _ _⟩
 case round=>
  obtain⟨i,hgk,hile,rfl,hown,hbel⟩:=hrel
  obtain⟨y0,y1,y2,y3,yf⟩:=zR ((hbel.block g hg).trans HH.out)
  have HGK:=z8 hgk
  have hbz:w.heap.size≤wr.heap.size:=hbel.size
  clear hgk
  have htk:(ts.take i).length=i:=by rw [List.length_take];have:=HTL.out;omega
  rw [htk] at hown
  obtain⟨a6,k6,rfl⟩:=zO hown
  have HTK:=z8 htk
  clear htk
  by_cases hlt:i<vs.length
  ·obtain⟨vi,hvi⟩: ∃vi,vs[i]?=some vi:=⟨vs[i],zeH hlt⟩
   obtain⟨gk,capk,hv,hb,hgl⟩:=HOW.out.form (by omega)
   injection hv with e1 e2 e3
   subst e1 e3
   have hcell:wr.cell? ⟨gk,i,none⟩=some vi:=by
    rw [hbel.cell (p:=⟨gk,i,none⟩) hgl]
    exact zf HOW.out _ _ hvi
   have hlti:(i:Int)<vs.length:=by omega
   have HC:=z8 (HK.out i vi wr hvi hbel)
   have hi100:i≤100000:=by omega
   have HOWN:=z8 hown
   have HB:=z8 hbel
   have hts:=z8 (show ts.take (i+1)=ts.take i++[ts.getD i ⟨#[]⟩] from by
    have hl:i<ts.length:=by have:=HTL.out;omega
    rw [List.take_add_one,zeH hl,List.getD_eq_getElem?_getD,zeH hl];rfl)
   clear hown hbel hvi
   generalize ts.getD i ⟨#[]⟩=u at*
   go_wp2_with fail
   refine HC.out.mono ?_
   rintro e w1 ⟨rfl,hb1⟩
   have hB1:Below w.heap.size w w1:=HB.out.trans (hb1.mono hbz)
   have hown1:w1.ownsRow w.heap.size 9 1 (.slice a6 i k6) i ((ts.take i).map Value.string):=zb HOWN.out fun k e=>hb1.block k (HOWN.out.lt k e).2
   obtain⟨y0,y1,y2,y3,yf⟩:=zR ((hB1.block g hg).trans HH.out)
   have HB1:=z8 hB1
   have hbz1:w.heap.size≤w1.heap.size:=hB1.size
   clear hb1 hB1 HC HOWN HB hcell
   go_wp2_with (at_builtin;go_must (refine wpList_append_lies _ rfl (.tmp 24) (.tmp 26) 56 rfl w.heap.size 9 i0 _ 1 16 Tryz.underlying56 hi hz0 hz1 hz2 rfl (by omega) _ i _ rfl (hown1.alloc _) ⟨w1.heap.size,0,none⟩ 1 1 [.string u] rfl rfl ?news ?one (by omega) ?mm ?bys ?base (w1.heap.size+1) (by simp) ?rest))
   case news=>exact World.news_of_block (heap_alloc_new w1 _)
   case one=>intro u hu;simp at hu;subst hu;rfl
   case mm=>unfold maxLen;omega
   case bys=>omega
   case base=>simp;omega
   case rest=>
    intro gb cap w3 hown3 hgrow hat hlt2
    have hB3:=Below.grown (HB1.out.alloc hbz1 _) hgrow (by simp;omega) fun k e=>(hown1.lt k e).1
    have HB3:=z8 hB3
    have HO3:=z8 hown3
    clear hgrow hat hown3 hB3 hown1
    go_wp2_with fail
    go_roundg (vs.length - i)
    case measure=>have:=HGK.out;omega
    case rel=>exact⟨i+1,by have:=HGK.out;omega,by omega,by go_num,by have h:=HO3.out;rw [←List.map_take] at h;rw [hts.out,List.map_append,List.length_append,HTK.out];exact h,HB3.out⟩
  ·have hin:i=ts.length:=by have:=HTL.out;omega
   subst hin
   have hlti: ¬(ts.length:Int)<vs.length:=by omega
   have hall:ts.take ts.length=ts:=List.take_of_length_le (zeK _)
   rw [hall] at hown
   have HOWN:=z8 hown
   have HB:=z8 hbel
   have hn:=HN.out
   have htx:=hn.htx
   have hop:=hn.hop
   have hts0:=hn.hts 0
   have hts1:=hn.hts 1
   clear hown hbel hall
   cases h_name:(op.toList==[110,97,109,101])
   case true=>
    have hf:Hid (z0k op tx ts ak=tx):=z8 (by unfold z0k z0v;rw [h_name];rfl)
    go_wp2_with fail
    go_ret
    exact⟨by rw [hf.out];rfl,HB.out⟩
   cases h_attr:(op.toList==[97,116,116,114])
   case true=>
    have hf:Hid (z0k op tx ts ak=tx):=z8 (by unfold z0k z0v;rw [h_name,h_attr];rfl)
    go_wp2_with fail
    go_ret
    exact⟨by rw [hf.out];rfl,HB.out⟩
   cases h_num:(op.toList==[110,117,109])
   case true=>
    have hf:Hid (z0k op tx ts ak=tx):=z8 (by unfold z0k z0v;rw [h_name,h_attr,h_num];rfl)
    go_wp2_with fail
    go_ret
    exact⟨by rw [hf.out];rfl,HB.out⟩
   cases h_true:(op.toList==[116,114,117,101])
   case true=>
    have hf:Hid (z0k op tx ts ak=tx):=z8 (by unfold z0k z0v;rw [h_name,h_attr,h_num,h_true];rfl)
    go_wp2_with fail
    go_ret
    exact⟨by rw [hf.out];rfl,HB.out⟩
   cases h_false:(op.toList==[102,97,108,115,101])
   case true=>
    have hf:Hid (z0k op tx ts ak=tx):=z8 (by unfold z0k z0v;rw [h_name,h_attr,h_num,h_true,h_false];rfl)
    go_wp2_with fail
    go_ret
    exact⟨by rw [hf.out];rfl,HB.out⟩
   cases h_str:(op.toList==[115,116,114])
   case true=>
    have hf:Hid (z0k op tx ts ak=((⟨#[34]⟩:zeV)++tx)++⟨#[34]⟩):=z8 (by unfold z0k z0v;rw [h_name,h_attr,h_num,h_true,h_false,h_str];rfl)
    go_wp2_with fail
    go_ret
    exact⟨by rw [hf.out];rfl,HB.out⟩
   cases h_at:(op.toList==[97,116])
   case true=>
    have hf:Hid (z0k op tx ts ak=(⟨#[64]⟩:zeV)++tx):=z8 (by unfold z0k z0v;rw [h_name,h_attr,h_num,h_true,h_false,h_str,h_at];rfl)
    go_wp2_with fail
    go_ret
    exact⟨by rw [hf.out];rfl,HB.out⟩
   cases h_n:(op.toList==[110])
   case true=>
    have hf:Hid (z0k op tx ts ak=(⟨#[45]⟩:zeV)++ts.getD 0 ⟨#[]⟩):=z8 (by unfold z0k z0v;rw [h_name,h_attr,h_num,h_true,h_false,h_str,h_at,h_n];rfl)
    have h1:1≤ts.length:=hn.one (by simp [h_n])
    obtain⟨gl,hgl,hl0,_⟩:=zdg HOWN.out h1
    subst hgl
    have hlt0:(0:Int)<ts.length:=by omega
    generalize ts.getD 0 ⟨#[]⟩=u0 at*
    go_wp2_with fail
    go_ret
    exact⟨by rw [hf.out];rfl,HB.out⟩
   cases h_no:(op.toList==[33])
   case true=>
    have hf:Hid (z0k op tx ts ak=(⟨#[33]⟩:zeV)++ts.getD 0 ⟨#[]⟩):=z8 (by unfold z0k z0v;rw [h_name,h_attr,h_num,h_true,h_false,h_str,h_at,h_n,h_no];rfl)
    have h1:1≤ts.length:=hn.one (by simp [h_no])
    obtain⟨gl,hgl,hl0,_⟩:=zdg HOWN.out h1
    subst hgl
    have hlt0:(0:Int)<ts.length:=by omega
    generalize ts.getD 0 ⟨#[]⟩=u0 at*
    go_wp2_with fail
    go_ret
    exact⟨by rw [hf.out];rfl,HB.out⟩
   cases h_of:(op.toList==[111,102])
   case true=>
    have hf:Hid (z0k op tx ts ak=((tx++(⟨#[45,111,102,40]⟩:zeV))++jk ⟨#[44,32]⟩ ts ts.length)++⟨#[41]⟩):=z8 (by unfold z0k z0v;rw [h_name,h_attr,h_num,h_true,h_false,h_str,h_at,h_n,h_no,h_of];rfl)
    have hsz:=hn.of h_of
    have HJ:=z8 (z4y ⟨#[44,32]⟩ ts a6 k6 w.heap.size wr HOWN.out (by have:=HTL.out;omega) (by decide) hn.hts hsz)
    go_wp2_with fail
    refine HJ.out.mono ?_
    rintro e w2 ⟨rfl,rfl⟩
    go_wp2_with fail
    go_ret
    exact⟨by rw [hf.out];rfl,HB.out⟩
   cases h_all:(op.toList==[97,108,108])
   case true=>
    have hf:Hid (z0k op tx ts ak=jk ⟨#[59,32]⟩ ts ts.length):=z8 (by unfold z0k z0v;rw [h_name,h_attr,h_num,h_true,h_false,h_str,h_at,h_n,h_no,h_of,h_all];rfl)
    have hsz:=hn.all h_all
    have HJ:=z8 (z4y ⟨#[59,32]⟩ ts a6 k6 w.heap.size wr HOWN.out (by have:=HTL.out;omega) (by decide) hn.hts hsz)
    go_wp2_with fail
    refine HJ.out.mono ?_
    rintro e w2 ⟨rfl,rfl⟩
    go_wp2_with fail
    go_ret
    exact⟨by rw [hf.out];rfl,HB.out⟩
   cases h_if:(op.toList==[105,102])
   case true=>
    rcases hn.if_ h_if with h1|⟨h2,v2,g2,op2,hv2,rfl,hc2,hak⟩
    ·have hf:Hid (z0k op tx ts ak=ts.getD 0 ⟨#[]⟩):=z8 (by unfold z0k z0v;rw [h_name,h_attr,h_num,h_true,h_false,h_str,h_at,h_n,h_no,h_of,h_all,h_if];simp only [Bool.or_self,Bool.false_eq_true,if_false,if_true,h1])
     obtain⟨gl,hgl,hl0,_⟩:=zdg HOWN.out (by omega)
     subst hgl
     generalize ts.getD 0 ⟨#[]⟩=u0 at*
     go_wp2_with fail
     go_ret
     exact⟨by rw [hf.out];rfl,HB.out⟩
    ·have hvl:vs.length=2:=by have:=HTL.out;omega
     have hne: ¬(2:Nat)=1:=by omega
     obtain⟨gl,hgl,hl0,hl1⟩:=zdg HOWN.out (by omega)
     subst hgl
     have hl1:=hl1 (by omega)
     obtain⟨gk,capk,hv,hb,hgl2⟩:=HOW.out.form (by omega)
     injection hv with e1 e2 e3
     subst e1 e3
     have hcell:wr.cell? ⟨gk,1,none⟩=some (.pointer (some ⟨g2,0,none⟩)):=by
      rw [HB.out.cell (p:=⟨gk,1,none⟩) hgl2]
      exact zf HOW.out _ _ hv2
     have hc2':wr.cell? ⟨g2,0,none⟩=some (.string op2):=(HB.out.cell (p:=⟨g2,0,none⟩) (zd hc2)).trans hc2
     clear hc2 hv2
     cases ak
     ·have hf:Hid (z0k op tx ts false=(ts.getD 0 ⟨#[]⟩++(⟨#[32,45,62,32]⟩:zeV))++ts.getD 1 ⟨#[]⟩):=z8 (by unfold z0k z0v;rw [h_name,h_attr,h_num,h_true,h_false,h_str,h_at,h_n,h_no,h_of,h_all,h_if];simp only [Bool.or_self,Bool.false_eq_true,if_false,if_true,h2,hne])
      generalize ts.getD 0 ⟨#[]⟩=u0 at*
      generalize ts.getD 1 ⟨#[]⟩=u1 at*
      go_wp2_with fail
      go_quiet (fail)
      go_wp2_with fail
      go_ret
      exact⟨by rw [hf.out];rfl,⟨HB.out.os,HB.out.tape,HB.out.output,HB.out.size,HB.out.block⟩⟩
     ·have hf:Hid (z0k op tx ts true=((ts.getD 0 ⟨#[]⟩++(⟨#[32,45,62,32,123]⟩:zeV))++ts.getD 1 ⟨#[]⟩)++⟨#[125]⟩):=z8 (by unfold z0k z0v;rw [h_name,h_attr,h_num,h_true,h_false,h_str,h_at,h_n,h_no,h_of,h_all,h_if];simp only [Bool.or_self,Bool.false_eq_true,if_false,if_true,h2,hne])
      generalize ts.getD 0 ⟨#[]⟩=u0 at*
      generalize ts.getD 1 ⟨#[]⟩=u1 at*
      go_wp2_with fail
      go_quiet (fail)
      go_wp2_with fail
      go_ret
      exact⟨by rw [hf.out];rfl,⟨HB.out.os,HB.out.tape,HB.out.output,HB.out.size,HB.out.block⟩⟩
   have hf:Hid (z0k op tx ts ak=z3F (ts.getD 0 ⟨#[]⟩) op (ts.getD 1 ⟨#[]⟩)):=z8 (by unfold z0k z0v;rw [h_name,h_attr,h_num,h_true,h_false,h_str,h_at,h_n,h_no,h_of,h_all,h_if];rfl)
   have h2:2≤ts.length:=hn.two (by unfold plain z0v;rw [h_name,h_attr,h_num,h_true,h_false,h_str,h_at,h_n,h_no,h_of,h_all,h_if];rfl)
   obtain⟨gl,hgl,hl0,hl1⟩:=zdg HOWN.out (by omega)
   subst hgl
   have hl1:=hl1 h2
   have hlt0:(0:Int)<ts.length:=by omega
   have hlt1:(1:Int)<ts.length:=by omega
   generalize ts.getD 0 ⟨#[]⟩=u0 at*
   generalize ts.getD 1 ⟨#[]⟩=u1 at*
   go_wp2_with fail
   go_quiet (fail)
   go_wp2_with fail
   go_ret
   exact⟨by rw [hf.out];rfl,⟨HB.out.os,HB.out.tape,HB.out.output,HB.out.size,HB.out.block⟩⟩
theorem z1l {op:zeV}{l:List UInt8}(h:op.data.toList=l)(m:List UInt8):(op.toList==m)=(l==m):=by rw [zeJ,h]
theorem z4L {w:World}{op tx:zeV}(l:List UInt8)(h:op.data.toList=l)(htx:tx.size≤600)(hl:l.length≤600)
  (h0:(l==[110]||l==[33])=false) (h1:(l==[111,102])=false) (h2:(l==[97,108,108])=false) (h3:(l==[105,102])=false) (h4:plain op=true):ShN w op tx [] [] false:=by
 refine⟨htx,?_,rfl,by simp,fun i=>by simp;decide,fun e=> ?_,fun e=> ?_,fun e=> ?_,fun e=> ?_,fun e=> ?_⟩
 ·have:op.size=op.data.toList.length:=by simp
  rw [this,h];exact hl
 ·rw [z1l h,z1l h,h0] at e;cases e
 ·rw [z1l h,h1] at e;cases e
 ·rw [z1l h,h2] at e;cases e
 ·rw [z1l h,h3] at e;cases e
 ·rw [h4] at e;cases e
theorem z73 {w:World}{ts:List zeV}: ∀(i:Nat) (vi:Value) (wr:World),([]:List Value)[i]?=some vi→Below w.heap.size w wr→Calls Tryz.prog 50 #[vi] wr fun e w'=>jA (ts.getD i ⟨#[]⟩) wr e w':=fun i vi wr h=>by simp at h
theorem jy {op:zeV}{l:List UInt8}(h:op.data.toList=l):z0v op=(l==[110,97,109,101]||l==[97,116,116,114]||l==[110,117,109]||l==[116,114,117,101]||l==[102,97,108,115,101]):=by
 unfold z0v;simp only [z1l h]
theorem z9s {op tx:zeV}{l:List UInt8}(h:op.data.toList=l)(ts:List zeV)(ak:Bool)(hl:(l==[110,97,109,101]||l==[97,116,116,114]||l==[110,117,109]||l==[116,114,117,101]||l==[102,97,108,115,101])=true):z0k op tx ts ak=tx:=by
 unfold z0k;rw [jy h,hl];rfl
theorem z8h {op:zeV}(h:z0v op=true):plain op=true:=by unfold plain;rw [h];simp
theorem z0x {X:Nat→Prop}{w:World}{v:Value}{op tx:zeV}{a:Int}(h:NodeX X w v op tx a [])(l:List UInt8)(hl:op.data.toList=l)(htx:tx.size≤600)(hlen:l.length≤600)
  (h0:(l==[110]||l==[33])=false) (h1:(l==[111,102])=false) (h2:(l==[97,108,108])=false) (h3:(l==[105,102])=false) (h5:(l==[110,97,109,101]||l==[97,116,116,114]||l==[110,117,109]||l==[116,114,117,101]||l==[102,97,108,115,101])=true):
  Calls Tryz.prog 50 #[v] w fun e w'=>jA tx w e w':=by
 have:=jz h [] false (z4L l hl htx hlen h0 h1 h2 h3 (z8h (by rw [jy hl];exact h5))) z73
 rw [z9s hl _ _ h5] at this
 exact this
theorem jo {op:zeV}(h:zG op=true)(l:List UInt8)(hl:(l==[124,124]||l==[38,38]||l==[61,61]||l==[33,61]||l==[60]||l==[60,61]||l==[62]||l==[62,61]||l==[43]||l==[45]||l==[46]||l==[42]||l==[47]||l==[37])=false):(op.toList==l)=false:=by
 cases e:(op.toList==l)
 ·rfl
 ·have:=eq_of_beq e
  unfold zG at h
  rw [this,hl] at h
  cases h
theorem z8B {op:zeV}(h:zG op=true):z0v op=false∧plain op=false:=by
 have e:z0v op=false:=by
  unfold z0v
  rw [jo h _ (by decide),jo h _ (by decide),jo h _ (by decide),jo h _ (by decide),jo h _ (by decide)];rfl
 refine⟨e,?_⟩
 unfold plain
 rw [e,jo h _ (by decide),jo h _ (by decide),jo h _ (by decide),jo h _ (by decide),jo h _ (by decide),jo h _ (by decide),jo h _ (by decide)];rfl
theorem z95 {op tx:zeV}(h:zG op=true)(ts:List zeV)(ak:Bool):z0k op tx ts ak=z3F (ts.getD 0 ⟨#[]⟩) op (ts.getD 1 ⟨#[]⟩):=by
 unfold z0k
 rw [(z8B h).1,jo h [115,116,114] (by decide),jo h [97,116] (by decide),jo h [110] (by decide),jo h [33] (by decide),jo h [111,102] (by decide),jo h [97,108,108] (by decide),jo h [105,102] (by decide)]
 rfl
theorem zbY {t1 t2:zeV}(h1:t1.size≤1000000000)(h2:t2.size≤1000000000)(i:Nat):(([t1,t2]:List zeV).getD i ⟨#[]⟩).size≤1000000000:=by
 match i with
 |0=>exact h1
 |1=>exact h2
 |i+2=>show ByteArray.size ⟨#[]⟩≤_;decide
theorem zbT {t1:zeV}(h1:t1.size≤1000000000)(i:Nat):(([t1]:List zeV).getD i ⟨#[]⟩).size≤1000000000:=by
 match i with
 |0=>exact h1
 |i+1=>show ByteArray.size ⟨#[]⟩≤_;decide
theorem z4B {X:Nat→Prop}{w:World}{v v1 v2:Value}{op:zeV}{a:Int}{t1 t2:zeV}(h:NodeX X w v op ⟨#[]⟩ a [v1,v2])(hs:zG op=true)(hop:op.size≤600)(hs1:t1.size≤1000000000)(hs2:t2.size≤1000000000)
  (hk1: ∀wr,Below w.heap.size w wr→Calls Tryz.prog 50 #[v1] wr fun e w'=>jA t1 wr e w') (hk2: ∀wr,Below w.heap.size w wr→Calls Tryz.prog 50 #[v2] wr fun e w'=>jA t2 wr e w'):
  Calls Tryz.prog 50 #[v] w fun e w'=>jA (z3F t1 op t2) w e w':=by
 have:=jz h [t1,t2] false ⟨by decide,hop,rfl,by simp,zbY hs1 hs2,fun _=>by simp,fun e=>(by rw [jo hs _ (by decide)] at e;cases e),fun e=>(by rw [jo hs _ (by decide)] at e;cases e),fun e=>(by rw [jo hs _ (by decide)] at e;cases e),fun _=>by simp⟩ (fun i vi wr hvi hb=>by
  match i,hvi with
  |0,hvi=>
    have e:v1=vi:=by simpa using hvi
    subst e;exact hk1 wr hb
  |1,hvi=>
    have e:v2=vi:=by simpa using hvi
    subst e;exact hk2 wr hb
  |i+2,hvi=>simp at hvi)
 rw [z95 hs] at this
 exact this
theorem zcB {X:Nat→Prop}{E:List Ex}(hg:jh E): ∀(f g:Nat) (v:Value) (a i:Nat) (t:zeV) (w:World),RefEX X w E f v a i→PrE E g (i:Int) t→Calls Tryz.prog 50 #[v] w fun e w'=>jA t w e w':=by
 intro f
 induction f with
 |zero=>intro g v a i t w h;exact absurd h id
 |succ f ih=>
  intro g v a i t w ⟨x,hx,h⟩ hp
  cases g with
  |zero=>exact absurd hp id
  |succ g=>
   obtain⟨hsz,n,y,hi,hy,hys,hp⟩:=hp
   have hi:i=n:=by omega
   subst hi
   have hxy:x=y:=by rw [hx] at hy;exact Option.some.inj hy
   subst hxy
   rcases h with⟨h1,h2,p,h3⟩|⟨h1,h2,p,h3⟩|⟨h1,h2,h4,p,h3⟩|⟨h1,h2,p,h3⟩|⟨h1,h2,p,h3⟩|⟨h1,v1,j,h2,h3,h4,h5⟩|⟨h1,v1,v2,j,k,h2,h3,h4,h5,h6,h7⟩
   ·obtain rfl:t=x.text:=by
     rcases hp with⟨_,q⟩|⟨q,_⟩|⟨q,_⟩|⟨q,_⟩|⟨q,_⟩|⟨q,_⟩
     ·exact q
     all_goals rw [h1] at q;cases q
    exact z0x h3 [110,117,109] rfl hys (by decide) (by decide) (by decide) (by decide) (by decide) (by decide)
   ·obtain rfl:t=((⟨#[34]⟩:zeV)++x.text)++⟨#[34]⟩:=by
     rcases hp with⟨q,_⟩|⟨_,q⟩|⟨q,_⟩|⟨q,_⟩|⟨q,_⟩|⟨q,_⟩
     ·rcases q with q|q|q<;>rw [h1] at q<;>cases q
     ·exact q
     all_goals rw [h1] at q;cases q
    have:=jz h3 [] false (z4L [115,116,114] rfl hys (by decide) (by decide) (by decide) (by decide) (by decide) (by unfold plain;rw [jy (op:=zbj) (l:=[115,116,114]) rfl];simp only [z1l (op:=zbj) (l:=[115,116,114]) rfl];decide)) z73
    have e:z0k zbj x.text [] false=((⟨#[34]⟩:zeV)++x.text)++⟨#[34]⟩:=by
     unfold z0k;rw [jy (op:=zbj) (l:=[115,116,114]) rfl,z1l (op:=zbj) (l:=[115,116,114]) rfl [115,116,114]];rfl
    rw [e] at this
    exact this
   ·obtain rfl:t=x.text:=by
     rcases hp with⟨_,q⟩|⟨q,_⟩|⟨q,_⟩|⟨q,_⟩|⟨q,_⟩|⟨q,_⟩
     ·exact q
     all_goals rw [h1] at q;cases q
    rcases h4 with h4|h4
    ·exact z0x h3 _ h4 hys (by decide) (by decide) (by decide) (by decide) (by decide) (by decide)
    ·exact z0x h3 _ h4 hys (by decide) (by decide) (by decide) (by decide) (by decide) (by decide)
   ·obtain rfl:t=x.text:=by
     rcases hp with⟨_,q⟩|⟨q,_⟩|⟨q,_⟩|⟨q,_⟩|⟨q,_⟩|⟨q,_⟩
     ·exact q
     all_goals rw [h1] at q;cases q
    exact z0x h3 [97,116,116,114] rfl hys (by decide) (by decide) (by decide) (by decide) (by decide) (by decide)
   ·obtain rfl:t=(⟨#[64]⟩:zeV)++x.text:=by
     rcases hp with⟨q,_⟩|⟨q,_⟩|⟨_,q⟩|⟨q,_⟩|⟨q,_⟩|⟨q,_⟩
     ·rcases q with q|q|q<;>rw [h1] at q<;>cases q
     ·rw [h1] at q;cases q
     ·exact q
     all_goals rw [h1] at q;cases q
    have:=jz h3 [] false (z4L [97,116] rfl hys (by decide) (by decide) (by decide) (by decide) (by decide) (by unfold plain;rw [jy (op:=sAt) (l:=[97,116]) rfl];simp only [z1l (op:=sAt) (l:=[97,116]) rfl];decide)) z73
    have e:z0k sAt x.text [] false=(⟨#[64]⟩:zeV)++x.text:=by
     unfold z0k;rw [jy (op:=sAt) (l:=[97,116]) rfl,z1l (op:=sAt) (l:=[97,116]) rfl [115,116,114],z1l (op:=sAt) (l:=[97,116]) rfl [97,116]];rfl
    rw [e] at this
    exact this
   ·obtain⟨t1,hp1,ht⟩: ∃t1,PrE E g x.left t1∧t=x.text++t1:=by
     rcases hp with⟨q,_⟩|⟨q,_⟩|⟨q,_⟩|⟨_,q⟩|⟨q,_⟩|⟨q,_⟩
     ·rcases q with q|q|q<;>rw [h1] at q<;>cases q
     ·rw [h1] at q;cases q
     ·rw [h1] at q;cases q
     ·exact q
     all_goals rw [h1] at q;cases q
    subst ht
    rw [h3] at hp1
    have hk: ∀(i:Nat) (vi:Value) (wr:World),[v1][i]?=some vi→Below w.heap.size w wr→Calls Tryz.prog 50 #[vi] wr fun e w'=>jA (([t1]:List zeV).getD i ⟨#[]⟩) wr e w':=fun i vi wr hvi hb=>by
     match i,hvi with
     |0,hvi=>
      have e:v1=vi:=by simpa using hvi
      subst e
      exact ih g v1 a j t1 wr (h5.keepX (zi hb)) hp1
     |i+1,hvi=>simp at hvi
    have hs1:=hp1.sz
    rcases h4 with⟨q1,q2⟩|⟨q1,q2⟩
    ·have e: ∀m,(z8J.toList==m)=(([33]:List UInt8)==m):=z1l (op:=z8J) (l:=[33]) rfl
     have:=jz q2 [t1] false ⟨by decide,by decide,rfl,by simp,zbT hs1,fun _=>by simp,fun q=>(by rw [e] at q;cases q),fun q=>(by rw [e] at q;cases q),fun q=>(by rw [e] at q;cases q),fun q=>by unfold plain at q;rw [jy (op:=z8J) (l:=[33]) rfl] at q;simp only [e] at q;exact absurd q (by decide)⟩ hk
     have e2:z0k z8J ⟨#[]⟩ [t1] false=x.text++t1:=by
      rw [q1];unfold z0k;rw [jy (op:=z8J) (l:=[33]) rfl];simp only [e];rfl
     rw [e2] at this
     exact this
    ·have e: ∀m,(sN.toList==m)=(([110]:List UInt8)==m):=z1l (op:=sN) (l:=[110]) rfl
     have:=jz q2 [t1] false ⟨by decide,by decide,rfl,by simp,zbT hs1,fun _=>by simp,fun q=>(by rw [e] at q;cases q),fun q=>(by rw [e] at q;cases q),fun q=>(by rw [e] at q;cases q),fun q=>by unfold plain at q;rw [jy (op:=sN) (l:=[110]) rfl] at q;simp only [e] at q;exact absurd q (by decide)⟩ hk
     have e2:z0k sN ⟨#[]⟩ [t1] false=x.text++t1:=by
      rw [q1];unfold z0k;rw [jy (op:=sN) (l:=[110]) rfl];simp only [e];rfl
     rw [e2] at this
     exact this
   ·obtain⟨t1,t2,hp1,hp2,ht⟩: ∃t1 t2,PrE E g x.left t1∧PrE E g x.right t2∧t=z3F t1 x.text t2:=by
     rcases hp with⟨q,_⟩|⟨q,_⟩|⟨q,_⟩|⟨q,_⟩|⟨_,q⟩|⟨q,_⟩
     ·rcases q with q|q|q<;>rw [h1] at q<;>cases q
     ·rw [h1] at q;cases q
     ·rw [h1] at q;cases q
     ·rw [h1] at q;cases q
     ·exact q
     ·rw [h1] at q;cases q
    subst ht
    rw [h3] at hp1
    rw [h4] at hp2
    exact z4B h5 ((hg x (z14 hx)).2 h1) hys hp1.sz hp2.sz (fun wr hb=>ih g v1 a j t1 wr (h6.keepX (zi hb)) hp1) (fun wr hb=>ih g v2 (j+1) k t2 wr (h7.keepX (zi hb)) hp2)
theorem zah {P:Value→Nat→Nat→Prop}: ∀(vs:List Value) (is:List Int) (a e k:Nat) (v:Value),SegV P vs is a e→vs[k]?=some v→ ∃a' j:Nat,is[k]?=some (j:Int)∧P v a' j:=by
 intro vs
 induction vs with
 |nil=>intro is a e k v _ h;simp at h
 |cons u vs ih=>
  intro is a e k v h hv
  cases is with
  |nil=>exact absurd h id
  |cons i is=>
   obtain⟨j,h1,h2,h3⟩:=h
   cases k with
   |zero=>
    have:u=v:=by simpa using hv
    subst this
    exact⟨a,j,by simp [h1],h2⟩
   |succ k=>exact ih is _ _ k v h3 (by simpa using hv)
theorem z9W {α:Type}{P:α→zeV→Prop}(hP: ∀x t,P x t→t.size≤1000000000): ∀{xs:List α} {ts:List zeV},All2 P xs ts→ ∀i,(ts.getD i ⟨#[]⟩).size≤1000000000:=by
 intro xs ts h i
 by_cases hi:i<xs.length
 ·exact hP _ _ (h.get i xs[i] (zeH hi))
 ·rw [List.getD_eq_getElem?_getD,List.getElem?_eq_none (by rw [←h.len];omega)]
  show ByteArray.size ⟨#[]⟩≤_
  decide
theorem zbX {X:Nat→Prop}{L:List Lc}: ∀(f g:Nat) (v:Value) (a i:Nat) (t:zeV) (w:World),RefLX X w L f v a i→PrL L g (i:Int) t→Calls Tryz.prog 50 #[v] w fun e w'=>jA t w e w':=by
 intro f
 induction f with
 |zero=>intro g v a i t w h;exact absurd h id
 |succ f ih=>
  intro g v a i t w ⟨x,hx,h⟩ hp
  cases g with
  |zero=>exact absurd hp id
  |succ g=>
   obtain⟨hsz,n,y,hi,hy,hys,hp⟩:=hp
   have hi:i=n:=by omega
   subst hi
   have hxy:x=y:=by rw [hx] at hy;exact Option.some.inj hy
   subst hxy
   rcases h with⟨h1,h2,p,h3⟩|⟨h1,v1,v2,j,k,p,h2,h3,h4,h8,h5,h6,h7⟩|⟨h1,vs,c,h2,h3,h4,h5,h6⟩
   ·obtain rfl:t=x.text:=by
     rcases hp with⟨_,q⟩|⟨q,_⟩|⟨q,_⟩
     ·exact q
     all_goals rw [h1] at q;cases q
    exact z0x h3 [110,97,109,101] rfl hys (by decide) (by decide) (by decide) (by decide) (by decide) (by decide)
   ·obtain⟨t1,t2,hp1,hp2,ht⟩: ∃t1 t2,PrL L g x.left t1∧PrL L g x.right t2∧t=z3F t1 x.text t2:=by
     rcases hp with⟨q,_⟩|⟨_,q⟩|⟨q,_⟩
     ·rw [h1] at q;cases q
     ·exact q
     ·rw [h1] at q;cases q
    subst ht
    rw [h3] at hp1
    rw [h4] at hp2
    have hs:zG x.text=true:=by
     rcases h8 with q|q
     ·rw [q];unfold zG;rw [zeJ];rfl
     ·rw [q];unfold zG;rw [zeJ];rfl
    exact z4B h5 hs hys hp1.sz hp2.sz (fun wr hb=>ih g v1 a j t1 wr (h6.keepX (zi hb)) hp1) (fun wr hb=>ih g v2 (j+1) k t2 wr (h7.keepX (zi hb)) hp2)
   ·obtain⟨c',ts,g1,g2,g3,g4,hall,hj,ht⟩: ∃(c:UInt8) (ts:List zeV),(c.toNat:Int)- 48=x.count∧48≤c.toNat∧c.toNat≤57∧x.items.length≤100000∧All2 (fun i t=>PrL L g i t) x.items ts∧(jk ⟨#[44,32]⟩ ts ts.length).size≤1000000000∧t=(((⟨#[c]⟩:zeV)++⟨#[45,111,102,40]⟩)++jk ⟨#[44,32]⟩ ts ts.length)++⟨#[41]⟩:=by
     rcases hp with⟨q,_⟩|⟨q,_⟩|⟨_,q⟩
     ·rw [h1] at q;cases q
     ·rw [h1] at q;cases q
     ·exact q
    have hcc:c=c':=by
     apply UInt8.toNat_inj.1
     omega
    subst hcc
    have hl:=SegV.length _ _ _ _ h6
    have hl2:=hall.len
    have e: ∀m,(sOf.toList==m)=(([111,102]:List UInt8)==m):=z1l (op:=sOf) (l:=[111,102]) rfl
    have:=jz h5 ts false ⟨by show ByteArray.size ⟨#[c]⟩≤600;show(1:Nat)≤600;decide,by decide,by omega,by omega,z9W (fun _ _ q=>q.sz) hall,fun q=>(by rw [e,e] at q;exact absurd q (by decide)),fun _=>hj,fun q=>(by rw [e] at q;cases q),fun q=>(by rw [e] at q;cases q),fun q=>(by unfold plain at q;rw [jy (op:=sOf) (l:=[111,102]) rfl] at q;simp only [e] at q;exact absurd q (by decide))⟩ (fun k vi wr hvi hb=>by
     obtain⟨a',j,q1,q2⟩:=zah _ _ _ _ k vi h6 hvi
     exact ih g vi a' j _ wr (q2.keepX (zi hb)) (hall.get k _ q1))
    have e2:z0k sOf ⟨#[c]⟩ ts false=t:=by
     rw [ht];unfold z0k;rw [jy (op:=sOf) (l:=[111,102]) rfl];simp only [e];rfl
    rw [e2] at this
    exact this
theorem zbM {X:Nat→Prop}{w:World}{v1 v2:Value}{op tx:zeV}{a:Int}{kids:List Value}{ak:Bool}(h:NodeX X w v2 op tx a kids)(hk:(op.toList==[97,108,108])=ak):Sec w [v1,v2] ak:=by
 obtain⟨g,kv,h1,hh,_,_⟩:=zL h
 obtain⟨y0,_⟩:=zR hh
 exact⟨v2,g,op,rfl,h1,y0,hk⟩
theorem zaA {X:Nat→Prop}{E:List Ex}(hg:jh E){C:List (List Cl)}{f g:Nat}(ih: ∀(v:Value) (ci a e:Nat) (t:zeV) (w:World),RefCX X w E C f v ci a e→PrC E C g (ci:Int) t→Calls Tryz.prog 50 #[v] w fun e w'=>jA t w e w')
  (v:Value) (c:Cl) (a e:Nat) (t:zeV) (w:World) (h:ClX X w E f (fun v ci a e=>RefCX X w E C f v ci a e) v c a e) (hp:zdI E (fun i t=>PrC E C g i t) g c t):Calls Tryz.prog 50 #[v] w fun e w'=>jA t w e w':=by
 obtain⟨v1,i,x,h1,h2,h3,h4,h5,h6⟩:=h
 obtain⟨hsz,t1,hp1,hp⟩:=hp
 have hs1:=hp1.sz
 rw [h5] at hp1
 have hk1: ∀wr,Below w.heap.size w wr→Calls Tryz.prog 50 #[v1] wr fun e w'=>jA t1 wr e w':=by
  intro wr hb
  cases g with
  |zero=>exact absurd hp1 id
  |succ g=>
   obtain⟨_,n,y,hi,hy,_,hq⟩:=hp1
   have hi:i+1=n:=by omega
   subst hi
   have hxy:x=y:=by rw [h2] at hy;exact Option.some.inj hy
   subst hxy
   have hq:PrE E g x.left t1:=by
    rcases hq with⟨q,_⟩|⟨q,_⟩|⟨q,_⟩|⟨q,_⟩|⟨q,_⟩|⟨_,q⟩
    ·rcases q with q|q|q<;>rw [h3] at q<;>cases q
    ·rw [h3] at q;cases q
    ·rw [h3] at q;cases q
    ·rw [h3] at q;cases q
    ·rw [h3] at q;cases q
    ·exact q
   rw [h4] at hq
   exact zcB hg f g v1 a i t1 wr (h1.keepX (zi hb)) hq
 have hb: ∀m,(sIf.toList==m)=(([105,102]:List UInt8)==m):=z1l (op:=sIf) (l:=[105,102]) rfl
 rcases h6 with⟨q1,q2,q3⟩|⟨q1,v2,p,q2,q3,q4⟩|⟨q1,v2,ci,q2,q3,q4⟩
 ·obtain rfl:t=t1:=by
   rcases hp with⟨_,q⟩|⟨q,_⟩|⟨q,_⟩
   ·exact q
   all_goals rw [q1] at q;cases q
  have:=jz q2 [t] false ⟨by decide,by decide,rfl,by simp,zbT hs1,fun _=>by simp,fun q=>(by rw [hb] at q;cases q),fun q=>(by rw [hb] at q;cases q),fun _=> .inl rfl,fun q=>(by unfold plain at q;rw [jy (op:=sIf) (l:=[105,102]) rfl] at q;simp only [hb] at q;exact absurd q (by decide))⟩ (fun k vi wr hvi hbel=>by
   match k,hvi with
   |0,hvi=>
    have e:v1=vi:=by simpa using hvi
    subst e
    exact hk1 wr hbel
   |k+1,hvi=>simp at hvi)
  have e2:z0k sIf ⟨#[]⟩ [t] false=t:=by
   unfold z0k;rw [jy (op:=sIf) (l:=[105,102]) rfl];simp only [hb];rfl
  rw [e2] at this
  exact this
 ·obtain⟨hr,ht⟩:c.result.size≤600∧t=(t1++(⟨#[32,45,62,32]⟩:zeV))++c.result:=by
   rcases hp with⟨q,_⟩|⟨_,q⟩|⟨q,_⟩
   ·rw [q1] at q;cases q
   ·exact q
   ·rw [q1] at q;cases q
  have:=jz q2 [t1,c.result] false ⟨by decide,by decide,rfl,by simp,zbY hs1 (by omega),fun _=>by simp,fun q=>(by rw [hb] at q;cases q),fun q=>(by rw [hb] at q;cases q),fun _=> .inr ⟨rfl,zbM q3 (by rw [z1l (op:=z1g) (l:=[110,97,109,101]) rfl];rfl)⟩,fun q=>(by unfold plain at q;rw [jy (op:=sIf) (l:=[105,102]) rfl] at q;simp only [hb] at q;exact absurd q (by decide))⟩ (fun k vi wr hvi hbel=>by
   match k,hvi with
   |0,hvi=>
    have e:v1=vi:=by simpa using hvi
    subst e
    exact hk1 wr hbel
   |1,hvi=>
    have e:v2=vi:=by simpa using hvi
    subst e
    exact z0x (q3.keepX (zi hbel)) [110,97,109,101] rfl hr (by decide) (by decide) (by decide) (by decide) (by decide) (by decide)
   |k+2,hvi=>simp at hvi)
  have e2:z0k sIf ⟨#[]⟩ [t1,c.result] false=t:=by
   rw [ht];unfold z0k;rw [jy (op:=sIf) (l:=[105,102]) rfl];simp only [hb];rfl
  rw [e2] at this
  exact this
 ·obtain⟨t2,hp2,hr,ht⟩: ∃t2,PrC E C g c.inner t2∧t2.size≤1000000000∧t=((t1++(⟨#[32,45,62,32,123]⟩:zeV))++t2)++⟨#[125]⟩:=by
   rcases hp with⟨q,_⟩|⟨q,_⟩|⟨_,q⟩
   ·rw [q1] at q;cases q
   ·rw [q1] at q;cases q
   ·exact q
  rw [q2] at hp2
  have hsec:Sec w [v1,v2] true:=by
   cases f with
   |zero=>exact absurd q4 id
   |succ f=>
    obtain⟨cls,vs,p,_,hn,_⟩:=q4
    exact zbM hn (by rw [z1l (op:=z5q) (l:=[97,108,108]) rfl];rfl)
  have:=jz q3 [t1,t2] true ⟨by decide,by decide,rfl,by simp,zbY hs1 hr,fun _=>by simp,fun q=>(by rw [hb] at q;cases q),fun q=>(by rw [hb] at q;cases q),fun _=> .inr ⟨rfl,hsec⟩,fun q=>(by unfold plain at q;rw [jy (op:=sIf) (l:=[105,102]) rfl] at q;simp only [hb] at q;exact absurd q (by decide))⟩ (fun k vi wr hvi hbel=>by
   match k,hvi with
   |0,hvi=>
    have e:v1=vi:=by simpa using hvi
    subst e
    exact hk1 wr hbel
   |1,hvi=>
    have e:v2=vi:=by simpa using hvi
    subst e
    exact ih v2 ci _ _ t2 wr (q4.keepX (zi hbel)) hp2
   |k+2,hvi=>simp at hvi)
  have e2:z0k sIf ⟨#[]⟩ [t1,t2] true=t:=by
   rw [ht];unfold z0k;rw [jy (op:=sIf) (l:=[105,102]) rfl];simp only [hb];rfl
  rw [e2] at this
  exact this
theorem zch {X:Nat→Prop}{E:List Ex}(hg:jh E){C:List (List Cl)}: ∀(f g:Nat) (v:Value) (ci a e:Nat) (t:zeV) (w:World),RefCX X w E C f v ci a e→PrC E C g (ci:Int) t→Calls Tryz.prog 50 #[v] w fun e w'=>jA t w e w':=by
 intro f
 induction f with
 |zero=>intro g v ci a e t w h;exact absurd h id
 |succ f ih=>
  intro g v ci a e t w ⟨cls,vs,p,h1,h2,h3⟩ hp
  cases g with
  |zero=>exact absurd hp id
  |succ g=>
   obtain⟨hsz,n,cls',ts,hi,hc,hlen,hall,ht⟩:=hp
   have hi:ci=n:=by omega
   subst hi
   have hcc:cls=cls':=by rw [h1] at hc;exact Option.some.inj hc
   subst hcc
   have hl:=z4N _ _ _ _ h3
   have hl2:=hall.len
   have hb: ∀m,(z5q.toList==m)=(([97,108,108]:List UInt8)==m):=z1l (op:=z5q) (l:=[97,108,108]) rfl
   have:=jz h2 ts false ⟨by decide,by decide,by omega,by omega,z9W (fun _ _ q=>q.1) hall,fun q=>(by rw [hb,hb] at q;exact absurd q (by decide)),fun q=>(by rw [hb] at q;cases q),fun _=>by rw [←ht];exact hsz,fun q=>(by rw [hb] at q;cases q),fun q=>(by unfold plain at q;rw [jy (op:=z5q) (l:=[97,108,108]) rfl] at q;simp only [hb] at q;exact absurd q (by decide))⟩ (fun k vi wr hvi hbel=>by
    obtain⟨c,a',e',q1,q2⟩:=z4W _ _ _ _ k vi h3 hvi
    exact zaA hg (ih g) vi c a' e' _ wr (q2.keepX (zi hbel) fun _ _ _ _ q=>q.keepX (zi hbel)) (hall.get k c q1))
   have e2:z0k z5q ⟨#[]⟩ ts false=t:=by
    rw [ht];unfold z0k;rw [jy (op:=z5q) (l:=[97,108,108]) rfl];simp only [hb];rfl
   rw [e2] at this
   exact this
theorem z4u (l s r:zeV):(z3F l s r).size=l.size+s.size+r.size+4:=by
 unfold z3F
 simp only [ByteArray.size_append]
 have e1:ByteArray.size ⟨#[40]⟩=1:=rfl
 have e2:ByteArray.size ⟨#[32]⟩=1:=rfl
 have e3:ByteArray.size ⟨#[41]⟩=1:=rfl
 omega
theorem exE {X:Nat→Prop}{w:World}{E:List Ex}(hs: ∀x∈E,x.text.size≤600)(hl:E.length≤100000): ∀(f:Nat) (v:Value) (a i:Nat),RefEX X w E f v a i→a≤i∧ ∃t,PrE E f (i:Int) t∧t.size+10≤700*(i+1 - a):=by
 intro f
 induction f with
 |zero=>intro v a i h;exact absurd h id
 |succ f ih=>
  intro v a i ⟨x,hx,h⟩
  have hxs:=hs x (zeP hx)
  have hil:i<E.length:=(zeI.1 hx).1
  have e1:ByteArray.size ⟨#[34]⟩=1:=rfl
  have e2:ByteArray.size ⟨#[64]⟩=1:=rfl
  rcases h with⟨h1,h2,p,h3⟩|⟨h1,h2,p,h3⟩|⟨h1,h2,h4,p,h3⟩|⟨h1,h2,p,h3⟩|⟨h1,h2,p,h3⟩|⟨h1,v1,j,h2,h3,h4,h5⟩|⟨h1,v1,v2,j,k,h2,h3,h4,h5,h6,h7⟩
  ·exact⟨by omega,x.text,⟨by omega,i,x,rfl,hx,hxs,.inl ⟨.inl h1,rfl⟩⟩,by omega⟩
  ·have hz:(((⟨#[34]⟩:zeV)++x.text)++⟨#[34]⟩).size=x.text.size+2:=by simp only [ByteArray.size_append];omega
   exact⟨by omega,_,⟨by omega,i,x,rfl,hx,hxs,.inr (.inl ⟨h1,rfl⟩)⟩,by omega⟩
  ·exact⟨by omega,x.text,⟨by omega,i,x,rfl,hx,hxs,.inl ⟨.inr (.inl h1),rfl⟩⟩,by omega⟩
  ·exact⟨by omega,x.text,⟨by omega,i,x,rfl,hx,hxs,.inl ⟨.inr (.inr h1),rfl⟩⟩,by omega⟩
  ·have hz:((⟨#[64]⟩:zeV)++x.text).size=x.text.size+1:=by simp only [ByteArray.size_append];omega
   exact⟨by omega,_,⟨by omega,i,x,rfl,hx,hxs,.inr (.inr (.inl ⟨h1,rfl⟩))⟩,by omega⟩
  ·obtain⟨hle,t1,q1,q2⟩:=ih v1 a j h5
   have hz:(x.text++t1).size=x.text.size+t1.size:=by simp only [ByteArray.size_append]
   exact⟨by omega,_,⟨by omega,i,x,rfl,hx,hxs,.inr (.inr (.inr (.inl ⟨h1,t1,by rw [h3];exact q1,rfl⟩)))⟩,by omega⟩
  ·obtain⟨hle,t1,q1,q2⟩:=ih v1 a j h6
   obtain⟨hle2,t2,q3,q4⟩:=ih v2 (j+1) k h7
   have hz:=z4u t1 x.text t2
   exact⟨by omega,_,⟨by omega,i,x,rfl,hx,hxs,.inr (.inr (.inr (.inr (.inl ⟨h1,t1,t2,by rw [h3];exact q1,by rw [h4];exact q3,rfl⟩))))⟩,by omega⟩
def sm (ts:List zeV):Nat→Nat
 |0=>0
 |k+1=>sm ts k+(ts.getD k ⟨#[]⟩).size+2
theorem zd0 (sep:zeV)(ts:List zeV)(h:sep.size≤2): ∀k,(jk sep ts k).size≤sm ts k:=by
 intro k
 induction k with
 |zero=>exact zeK _
 |succ k ih=>
  simp only [jk,sm]
  split<;>simp only [ByteArray.size_append]<;>omega
theorem z97 (t:zeV)(ts:List zeV): ∀k,sm (t::ts) (k+1)=t.size+2+sm ts k:=by
 intro k
 induction k with
 |zero=>simp [sm]
 |succ k ih=>
  have e:sm (t::ts) (k+2)=sm (t::ts) (k+1)+((t::ts).getD (k+1) ⟨#[]⟩).size+2:=rfl
  have e2:(t::ts).getD (k+1) ⟨#[]⟩=ts.getD k ⟨#[]⟩:=by simp [List.getD_eq_getElem?_getD]
  rw [e,ih,e2]
  show _=t.size+2+(sm ts k+(ts.getD k ⟨#[]⟩).size+2)
  omega
theorem ze2 {P:Value→Nat→Nat→Prop}{Q:Int→zeV→Prop}(h: ∀v a i,P v a i→a≤i∧ ∃t,Q (i:Int) t∧t.size+10≤700*(i+1 - a)): ∀(vs:List Value) (is:List Int) (a e:Nat),SegV P vs is a e→a≤e∧ ∃ts,All2 Q is ts∧sm ts ts.length≤700*(e - a):=by
 intro vs
 induction vs with
 |nil=>intro is a e hq;cases is with
  |nil=>
    have hq:a=e:=hq
    exact⟨by omega,[],trivial,zeR _⟩
  |cons i is=>exact absurd hq id
 |cons v vs ih=>
  intro is a e hq
  cases is with
  |nil=>exact absurd hq id
  |cons i is=>
   obtain⟨j,h1,h2,h3⟩:=hq
   obtain⟨k1,t,k2,k3⟩:=h _ _ _ h2
   obtain⟨k4,ts,k5,k6⟩:=ih is _ _ h3
   refine⟨by omega,t::ts,⟨by rw [h1];exact k2,k5⟩,?_⟩
   rw [List.length_cons,z97]
   omega
theorem exL {X:Nat→Prop}{w:World}{L:List Lc}(hs: ∀x∈L,x.text.size≤600)(hg:z2p L)(hl:L.length≤100000): ∀(f:Nat) (v:Value) (a i:Nat),RefLX X w L f v a i→a≤i∧ ∃t,PrL L f (i:Int) t∧t.size+10≤700*(i+1 - a):=by
 intro f
 induction f with
 |zero=>intro v a i h;exact absurd h id
 |succ f ih=>
  intro v a i ⟨x,hx,h⟩
  have hxs:=hs x (zeP hx)
  have hil:i<L.length:=(zeI.1 hx).1
  rcases h with⟨h1,h2,p,h3⟩|⟨h1,v1,v2,j,k,p,h2,h3,h4,h8,h5,h6,h7⟩|⟨h1,vs,c,h2,h3,h4,h5,h6⟩
  ·exact⟨by omega,x.text,⟨by omega,i,x,rfl,hx,hxs,.inl ⟨h1,rfl⟩⟩,by omega⟩
  ·obtain⟨hle,t1,q1,q2⟩:=ih v1 a j h6
   obtain⟨hle2,t2,q3,q4⟩:=ih v2 (j+1) k h7
   have hz:=z4u t1 x.text t2
   exact⟨by omega,_,⟨by omega,i,x,rfl,hx,hxs,.inr (.inl ⟨h1,t1,t2,by rw [h3];exact q1,by rw [h4];exact q3,rfl⟩)⟩,by omega⟩
  ·obtain⟨hle,ts,q1,q2⟩:=ze2 (Q:=fun i t=>PrL L f i t) (fun v a i q=>ih v a i q) _ _ _ _ h6
   have hj:=zd0 ⟨#[44,32]⟩ ts (by decide) ts.length
   have hz:((((⟨#[c]⟩:zeV)++⟨#[45,111,102,40]⟩)++jk ⟨#[44,32]⟩ ts ts.length)++⟨#[41]⟩).size=(jk ⟨#[44,32]⟩ ts ts.length).size+6:=by
    simp only [ByteArray.size_append]
    have e1:ByteArray.size ⟨#[c]⟩=1:=rfl
    have e2:ByteArray.size ⟨#[45,111,102,40]⟩=4:=rfl
    have e3:ByteArray.size ⟨#[41]⟩=1:=rfl
    omega
   exact⟨hle,_,⟨by omega,i,x,rfl,hx,hxs,.inr (.inr ⟨h1,c,ts,h2,h3,h4,(hg x (zeP hx)).1,q1,by omega,rfl⟩)⟩,by omega⟩
theorem All2.imp {α:Type}{P Q:α→zeV→Prop}(h: ∀x t,P x t→Q x t): ∀{xs:List α} {ts:List zeV},All2 P xs ts→All2 Q xs ts:=by
 intro xs
 induction xs with
 |nil=>intro ts q;cases ts with
  |nil=>trivial
  |cons t ts=>exact absurd q id
 |cons x xs ih=>intro ts q;cases ts with
  |nil=>exact absurd q id
  |cons t ts=>exact⟨h _ _ q.1,ih q.2⟩
theorem zcR {L:List Lc}: ∀{f:Nat} {i:Int} {t:zeV},PrL L f i t→PrL L (f+1) i t:=by
 intro f
 induction f with
 |zero=>intro i t h;exact absurd h id
 |succ f ih=>
  intro i t ⟨h0,n,x,h1,h2,h3,h⟩
  refine⟨h0,n,x,h1,h2,h3,?_⟩
  rcases h with q|⟨q,t1,t2,q1,q2,q3⟩|⟨q,c,ts,q1,q2,q3,q4,q5,q6,q7⟩
  ·exact .inl q
  ·exact .inr (.inl ⟨q,t1,t2,ih q1,ih q2,q3⟩)
  ·exact .inr (.inr ⟨q,c,ts,q1,q2,q3,q4,q5.imp fun _ _=>ih,q6,q7⟩)
theorem zdh {P:Value→Cl→Nat→Nat→Prop}{Q:Cl→zeV→Prop}{N:Nat}: ∀(vs:List Value) (cs:List Cl) (a e:Nat),(∀v c a e,c∈cs→a≤N→P v c a e→a≤e∧e≤N∧ ∃t,Q c t∧t.size+10≤700*(e - a))→a≤N→SegC P vs cs a e→a≤e∧e≤N∧ ∃ts,All2 Q cs ts∧sm ts ts.length≤700*(e - a):=by
 intro vs
 induction vs with
 |nil=>intro cs a e h ha hq;cases cs with
  |nil=>
    have hq:a=e:=hq
    exact⟨by omega,by omega,[],trivial,zeR _⟩
  |cons i is=>exact absurd hq id
 |cons v vs ih=>
  intro cs a e h ha hq
  cases cs with
  |nil=>exact absurd hq id
  |cons c cs=>
   obtain⟨m,h2,h3⟩:=hq
   obtain⟨k1,k0,t,k2,k3⟩:=h _ _ _ _ (by simp) ha h2
   obtain⟨k4,k7,ts,k5,k6⟩:=ih cs _ _ (fun v c a e hc=>h v c a e (by simp [hc])) k0 h3
   refine⟨by omega,k7,t::ts,⟨k2,k5⟩,?_⟩
   rw [List.length_cons,z97]
   omega
theorem exC {X:Nat→Prop}{w:World}{E:List Ex}{C:List (List Cl)}(hs: ∀x∈E,x.text.size≤600)(hl:E.length≤100000)(hr: ∀cls∈C,∀c∈cls,c.result.size≤600)(hg:z5L C): ∀(f:Nat) (v:Value) (ci a e:Nat),a≤E.length→RefCX X w E C f v ci a e→a≤e∧e≤E.length∧ ∃t,PrC E C (f+1) (ci:Int) t∧t.size≤700*(e - a):=by
 intro f
 induction f with
 |zero=>intro v ci a e _ h;exact absurd h id
 |succ f ih=>
  intro v ci a e he ⟨cls,vs,p,h1,h2,h3⟩
  have hmem:=zeP h1
  have each: ∀v c a e,c∈cls→a≤E.length→ClX X w E f (fun v ci a e=>RefCX X w E C f v ci a e) v c a e→a≤e∧e≤E.length∧ ∃t,zdI E (fun i t=>PrC E C (f+1) i t) (f+1) c t∧t.size+10≤700*(e - a):=by
   intro v c a e hc ha ⟨v1,i,x,q1,q2,q3,q4,q5,q6⟩
   obtain⟨k1,t1,k2,k3⟩:=exE hs hl f v1 a i q1
   have hi:i+1<E.length:=(zeI.1 q2).1
   have hp:PrE E (f+1) c.test t1:=⟨by omega,i+1,x,q5,q2,hs x (zeP q2),.inr (.inr (.inr (.inr (.inr ⟨q3,by rw [q4];exact k2⟩))))⟩
   have hres:=hr cls hmem c hc
   rcases q6 with⟨r1,r2,r3⟩|⟨r1,v2,p,r2,r3,r4⟩|⟨r1,v2,ci,r2,r3,r4⟩
   ·exact⟨by omega,by omega,t1,⟨by omega,t1,hp,.inl ⟨r1,rfl⟩⟩,by omega⟩
   ·have hz:((t1++(⟨#[32,45,62,32]⟩:zeV))++c.result).size=t1.size+4+c.result.size:=by
     simp only [ByteArray.size_append]
     have e1:ByteArray.size ⟨#[32,45,62,32]⟩=4:=rfl
     omega
    exact⟨by omega,by omega,_,⟨by omega,t1,hp,.inr (.inl ⟨r1,hres,rfl⟩)⟩,by omega⟩
   ·obtain⟨g1,g2,t2,g3,g4⟩:=ih v2 ci (i+2) e (by omega) r4
    have hz:(((t1++(⟨#[32,45,62,32,123]⟩:zeV))++t2)++⟨#[125]⟩).size=t1.size+6+t2.size:=by
     simp only [ByteArray.size_append]
     have e1:ByteArray.size ⟨#[32,45,62,32,123]⟩=5:=rfl
     have e2:ByteArray.size ⟨#[125]⟩=1:=rfl
     omega
    exact⟨by omega,by omega,_,⟨by omega,t1,hp,.inr (.inr ⟨r1,t2,by rw [r2];exact g3,by omega,rfl⟩)⟩,by omega⟩
  obtain⟨k1,k0,ts,k2,k3⟩:=zdh vs cls a e each he h3
  have hj:=zd0 ⟨#[59,32]⟩ ts (by decide) ts.length
  have hlt:=hg cls hmem
  exact⟨k1,k0,_,⟨by omega,ci,cls,ts,rfl,h1,by omega,k2,rfl⟩,by omega⟩
theorem exA {X:Nat→Prop}{w:World}{st:St}(hz:Sz st)(hg:z6h st)(hE:st.E.length≤100000)(hL:st.L.length≤100000)(f:Nat): ∀(ps:List PP) (xs:List As) (a b e g:Nat),(∀x∈xs,x.by_.size≤600)→b≤st.E.length→SegA (fun p x a b e g=>AsX X w st.L st.E st.C f p x a b e g) ps xs a b e g→ ∃ts,All2 (fun x t=>PrA st (f+1) x t) xs ts:=by
 intro ps
 induction ps with
 |nil=>intro xs a b e g hx hb hq;cases xs with
  |nil=>exact⟨[],trivial⟩
  |cons i is=>exact absurd hq id
 |cons p ps ih=>
  intro xs a b e g hx hb hq
  cases xs with
  |nil=>exact absurd hq id
  |cons x xs=>
   obtain⟨m,n,⟨i,ci,q1,q2,q3,q4,q5⟩,h3⟩:=hq
   obtain⟨_,t1,k1,_⟩:=exL hz.2.1 hg.l hL f _ _ _ q4
   obtain⟨_,k0,t2,k2,_⟩:=exC hz.1 hE hz.2.2.1 hg.c f _ _ _ _ hb q5
   obtain⟨ts,k3⟩:=ih xs _ _ _ _ (fun y hy=>hx y (by simp [hy])) k0 h3
   exact⟨_::ts,⟨hx x (by simp),t1,t2,by rw [q1];exact zcR k1,by rw [q2];exact k2,rfl⟩,k3⟩
theorem zdB {s:zeV}{n:Nat}{st:St}(hM:MR s n st0=some st)(hs:s.size≤600)(hE:st.E.length≤100000)(hL:st.L.length≤100000)(h0:(ckM s st).1=0)(w:World): ∃t,PrS st t:=by
 obtain⟨e,w',fr,⟨lv,_,_,_,h⟩,_⟩:=z02 s n st w hM hs []
 obtain⟨f,ps,_,h⟩:=h h0
 have hz:Sz st:=zan s hs n st0 st hM ⟨fun x h=>(by cases h),fun x h=>(by cases h),fun x h=>(by cases h),fun x h=>(by cases h)⟩
 have hg:z6h st:=z2I s n st0 st hM z8x
 obtain⟨ts,hts⟩:=exA hz hg hE hL f ps st.A 0 0 _ _ hz.2.2.2 (zeR _) h
 exact⟨_,f+1,ts,hts,rfl⟩
theorem z61 (s:zeV)(st:St)(w:World)(h:Calls Tryz.prog 49 #[.string s] w fun e w'=>z2T s st w e w')(hn:(ckM s st).1≠0):
  Calls Tryz.prog 29 #[.string s] w fun e w'=>z4j ⟨#[]⟩ (ckM s st).1 w e w':=by
 have H:=z8 h
 clear h
 go_enter Tryz.func29,Tryz.ntmps29
 go_wp2_with fail
 refine H.out.mono ?_
 rintro e w1 ⟨lv,rfl,hB,⟨a1,n1,k1,rfl⟩,_⟩
 have HB:=z8 hB
 clear hB
 go_wp2_with fail
 go_ret2
 exact⟨by simp,HB.out⟩
theorem zaO (p b t1 t2:zeV):((((((p++(⟨#[98,121,32]⟩:zeV))++b)++⟨#[10,116,111,32]⟩)++t1)++⟨#[10,105,102,32]⟩)++t2)++⟨#[10]⟩=p++z41 b t1 t2:=by
 unfold z41;simp only [ByteArray.append_assoc]
theorem z8p (s:zeV)(st:St)(t:zeV)(w:World)(h:Calls Tryz.prog 49 #[.string s] w fun e w'=>z2T s st w e w')(hn:(ckM s st).1=0)(hp:PrS st t)(hg:jh st.E)(hA:st.A.length≤100000):
  Calls Tryz.prog 29 #[.string s] w fun e w'=>z4j t 0 w e w':=by
 obtain⟨f,ts,hall,ht⟩:=hp
 subst ht
 have H:=z8 h
 have HG:=z8 hg
 have HA:=z8 hall
 have hl2:=z8 hall.len
 clear h hall
 go_enter Tryz.func29,Tryz.ntmps29
 go_wp2_with fail
 refine H.out.mono ?_
 rintro e w1 ⟨lv,rfl,hB,⟨a1,n1,k1,hlv⟩,htr⟩
 obtain⟨f2,ps,how,hseg⟩:=htr hn
 have hn1:n1=st.A.length:=by
  obtain⟨a2,k2,e2⟩:=zO how
  rw [hlv] at e2
  injection e2
 subst hn1
 rw [hlv] at how
 subst hlv
 rw [hn]
 have HW:=z8 how
 have HS:=z8 hseg
 have HB1:=z8 hB
 have hpl:=z8 (SegA.len _ _ _ _ _ _ hseg)
 clear how hseg hB htr hn
 go_wp2_with fail
 go_loopg [7,8,9,10] (st.A.length+1) (fun n ov nv _ _ wr=> ∃i:Nat,n+i=st.A.length+1∧i≤st.A.length∧ov= .string (cat ts i)∧(cat ts i).size≤i*2100000000∧nv= .int .i64 i∧Below w1.heap.size w1 wr)
 case atStart=>exact⟨0,rfl,zeR _,rfl,zeR _,rfl,zeU _ _⟩
 case round=>
  obtain⟨i,hk,hiE,rfl,hs0,rfl,hbel⟩:=hrel
  have hHK:=z8 hk
  clear hk
  by_cases hlt:i<st.A.length
  ·obtain⟨g,cap,hv,hb,hgl⟩:=HW.out.form (by omega)
   injection hv with e1 e2 e3
   subst e1 e3
   obtain⟨pp,hpp⟩: ∃pp,ps[i]?=some pp:=⟨ps[i]'(by have:=hpl.out;omega),zeH _⟩
   obtain⟨x,a',b',e',g',hx,li,ci,r1,r2,r3,r4,r5⟩:=SegA.get _ _ _ _ _ _ i pp HS.out hpp
   have hcw: ∀j u,(z1k (pp,x.by_))[j]?=some u→j<3→w1.cell? ⟨g,i*3+j,none⟩=some u:=fun j u hu hj=>
    zf HW.out _ _ ((z0b hpp hx hj).trans hu)
   have c0:w1.cell? ⟨g,i*3,none⟩=some (.string x.by_):=hcw 0 _ rfl (by omega)
   have c1:=hcw 1 _ rfl (by omega)
   have c2:=hcw 2 _ rfl (by omega)
   have q0:=(hbel.cell (p:=⟨g,i*3,none⟩) hgl).trans c0
   have q1:=(hbel.cell (p:=⟨g,i*3+1,none⟩) hgl).trans c1
   have hlt':(i:Int)<st.A.length:=by omega
   obtain⟨hby,t1,t2,hP1,hP2,hpc⟩:=HA.out.get i x hx
   have hs1:=hP1.sz
   have hs2:=hP2.sz
   rw [r1] at hP1
   rw [r2] at hP2
   have hj:=z8 (show cat ts (i+1)=cat ts i++z41 x.by_ t1 t2 from by show cat ts i++ts.getD i ⟨#[]⟩=_;rw [hpc])
   have HB2:=z8 hbel
   have HC:=z8 (zbX f2 f _ a' li t1 wr (r4.keepX (zi hbel)) hP1)
   have HR5:=z8 r5
   have HP2:=z8 hP2
   have C0:=z8 c0
   have C2:=z8 c2
   clear hbel hx hcw hpc hpp r4 r5 hP1 hP2 c0 c1 c2
   generalize cat ts i=p at*
   go_wp2_with fail
   refine HC.out.mono ?_
   rintro e w2 ⟨rfl,hB2⟩
   have hB2':=z8 (HB2.out.trans (hB2.mono HB2.out.size))
   have q2:=(hB2'.out.cell (p:=⟨g,i*3+2,none⟩) hgl).trans C2.out
   have HC2:=z8 (zch HG.out f2 f _ ci b' g' t2 w2 (HR5.out.keepX (zi hB2'.out)) HP2.out)
   clear hB2 q0 q1
   go_wp2_with fail
   refine HC2.out.mono ?_
   rintro e w3 ⟨rfl,hB3⟩
   have hB3':=z8 (hB2'.out.trans (hB3.mono hB2'.out.size))
   have q0:=(hB3'.out.cell (p:=⟨g,i*3,none⟩) hgl).trans C0.out
   clear hB3 q2
   go_wp2_with fail
   go_roundg (st.A.length - i)
   case measure=>have:=hHK.out;omega
   case rel=>exact⟨i+1,by have:=hHK.out;omega,by omega,by rw [hj.out,zaO],by rw [hj.out];unfold z41;simp only [ByteArray.size_append];have e1:ByteArray.size ⟨#[98,121,32]⟩=3:=rfl;have e2:ByteArray.size ⟨#[10,116,111,32]⟩=4:=rfl;have e3:ByteArray.size ⟨#[10,105,102,32]⟩=4:=rfl;have e4:ByteArray.size ⟨#[10]⟩=1:=rfl;omega,by go_num,hB3'.out⟩
  ·have hz:Hid (i=ts.length):=z8 (by have:=hl2.out;omega)
   have HB2:=z8 (HB1.out.trans (hbel.mono HB1.out.size))
   go_wp2_with fail
   go_ret2
   exact⟨by rw [hz.out];simp,HB2.out⟩
theorem z83 (s:zeV)(hmax:s.size≤maxLen): ∃(t:zeV) (k:Int),(∀w,Calls Tryz.prog 22 #[.string s] w fun e w'=>z4j t k w e w')∧(∀w,Calls Tryz.prog 29 #[.string s] w fun e w'=>z4j t k w e w'):=by
 by_cases hs:s.size≤600
 ·obtain⟨n,st,hM,hA,hL,hE,hC⟩:=z7V s hs
  have h1: ∀w,Calls Tryz.prog 45 #[.string s] w fun e w'=>z2V s w st e w':=fun w=>z0c s n st w hM hs (by omega) (by omega) (by omega)
  have h2: ∀w,Calls Tryz.prog 49 #[.string s] w fun e w'=>z2T s st w e w':=fun w=>z02 s n st w hM hs
  by_cases h0:(ckM s st).1=0
  ·obtain⟨t,ht⟩:=zdB hM hs (by omega) (by omega) h0 (World.holding Tryz.prog default ⟨#[],#[],[]⟩)
   exact⟨t,0,fun w=>z9T s st t w (h1 w) h0 ht (by omega) (by omega) (by omega) (by omega),fun w=>z8p s st t w (h2 w) h0 ht (z2I s n st0 st hM z8x).e (by omega)⟩
  ·exact⟨⟨#[]⟩,(ckM s st).1,fun w=>z7o s st w (h1 w) h0,fun w=>z61 s st w (h2 w) h0⟩
 ·have h0:(ckM s st0).1≠0:=by
   unfold ckM;rw [if_pos (by omega)];decide
  exact⟨⟨#[]⟩,(ckM s st0).1,fun w=>z7o s st0 w (z2o s st0 w (by omega) hmax) h0,fun w=>z61 s st0 w (z5I s st0 w (by omega) hmax) h0⟩
theorem z6z (n:Int)(S A V Q:zeV)(hmax:S.size≤maxLen)(w:World):
  Calls Tryz.prog 18 #[.agg #[.int .i64 2,.int .i64 n,.string S,.string A,.string V,.string Q]] w fun e w'=>e= .returned (.bool true)∧Below w.heap.size w w':=by
 obtain⟨t,k,h7,h8⟩:=z83 S hmax
 have H:=z8 (zeL h7 h8)
 clear h7 h8 hmax
 have hB0:Below w.heap.size w (w.alloc (.cells #[.int .i64 2,.int .i64 n,.string S,.string A,.string V,.string Q] 27)):=(zeU _ _).alloc (zeK _) _
 have hg0:=heap_alloc_new w (.cells #[.int .i64 2,.int .i64 n,.string S,.string A,.string V,.string Q] 27)
 have hz0:w.heap.size<(w.alloc (.cells #[.int .i64 2,.int .i64 n,.string S,.string A,.string V,.string Q] 27)).heap.size:=by simp
 have H0:=z8 (zeL hB0 (zeL hg0 hz0))
 clear hB0 hg0 hz0
 go_enter Tryz.func18,Tryz.ntmps18
 go_wp2_with fail
 obtain⟨hB0,hg0,hz0⟩:=H0.out
 clear H0
 generalize (w.alloc (.cells #[.int .i64 2,.int .i64 n,.string S,.string A,.string V,.string Q] 27))=W0 at*
 refine(H.out.1 W0).mono ?_
 rintro e w1 ⟨rfl,hB1⟩
 have hg1:=(hB1.block _ hz0).trans hg0
 have hB01:=hB0.trans (hB1.mono (Nat.le_of_lt hz0))
 obtain⟨y0,y1,y2,y3,y4,y5⟩:=z88 hg1
 have HB1:=z8 hB01
 have hz1:w.heap.size≤w1.heap.size:=hB01.size
 clear hB1 hB01 hg1 hg0 hB0 hz0
 go_wp2_with fail
 refine(H.out.2 w1).mono ?_
 rintro e w2 ⟨rfl,hB2⟩
 have HB2:=z8 (HB1.out.trans (hB2.mono hz1))
 clear hB2
 go_wp2_with (go_at_call 23;refine(z2N _ _).mono ?_;rintro e w3 ⟨rfl,rfl⟩)
 go_ret
 exact⟨by simp,HB2.out⟩
def zD (c:Int):Bool:=(c != -1)&&(c !=59)&&(c !=34)
def z1n (s:zeV)(a:Nat)(d:Bool):Bool:=d||decide (a<s.size)
theorem z2H (b a:Nat)(s:zeV)(d:Bool)(w:World)(h:Rd w b s a d):
  Calls Tryz.prog 74 #[.pointer (some ⟨b,0,none⟩)] w fun e w'=>e= .returned (.tuple #[])∧Rd w' b s a (z1n s a d)∧Sc b w w':=by
 have h':=h
 obtain⟨h0,h1,h2,f1,f2,ha,hs⟩:=h
 by_cases hlt:a<s.size
 ·have hlt':(a:Int)<s.size:=by omega
  have he:Hid (z1n s a d=true):=z8 (by simp [z1n,hlt])
  go_enter Tryz.func74,Tryz.ntmps74
  go_wp2_with fail
  go_quiet (fail)
  go_wp2_with (go_at_call 81;refine(z0r b a s d _ (by exact h'.drewN _)).mono ?_;rintro e w1 ⟨rfl,hr1,hs1⟩)
  go_end0
  exact⟨rfl,by rw [he.out];exact hr1,((Sc.refl _ _).drewN _).trans hs1⟩
 ·have hlt': ¬(a:Int)<s.size:=by omega
  have he:Hid (z1n s a d=d):=z8 (by simp [z1n,hlt])
  go_enter Tryz.func74,Tryz.ntmps74
  go_wp2_with fail
  go_quiet (fail)
  go_wp2_with fail
  go_end0
  exact⟨rfl,by rw [he.out];exact h'.drewN _,(Sc.refl _ _).drewN _⟩
theorem z1Y (b a:Nat)(s:zeV)(d:Bool)(w:World)(h:Rd w b s a d):
  Calls Tryz.prog 119 #[.pointer (some ⟨b,0,none⟩)] w fun e w'=>e= .returned (.bool (zD (pk s a d)))∧ ∃n,w'=w.drewN n:=by
 have hr:=z3k s a d
 generalize hp:pk s a d=c at*
 have hP:=zm b a s d w h
 rw [hp] at hP
 have HP:=z8 hP
 clear hP hp
 cases h1:(c != -1)
 all_goals cases h2:(c !=59)
 all_goals cases h3:(c !=34)
 all_goals
  go_enter Tryz.func119,Tryz.ntmps119
  go_wp2_with (go_at_call 78;refine HP.out.mono ?_;rintro e w1 ⟨rfl,n,rfl⟩)
  go_ret
  exact⟨by simp [zD,h1,h2,h3],_,rfl⟩
def je (s:zeV)(a:Nat)(d:Bool):Nat×Bool×zeV×zeV:=
 let v:=zo s a d
 let u:=zy s v.2.1 [61] v.1
 let r:=run zD s u.2 20 u.1
 (r,u.2,v.2.2,s.extract u.1 r)
theorem Rd.alloc {w:World}{b:Nat}{s:zeV}{a:Nat}{d:Bool}(h:Rd w b s a d)(o:Obj):Rd (w.alloc o) b s a d:=h.other (zeM _ _ _ (zd h.c0))
theorem z2v (b a:Nat)(s:zeV)(d:Bool)(w:World)(h:Rd w b s a d):
  Calls Tryz.prog 77 #[.pointer (some ⟨b,0,none⟩)] w fun e w'=>e= .returned (.agg #[.string (je s a d).2.2.1,.string (je s a d).2.2.2])∧Rd w' b s (je s a d).1 (je s a d).2.1∧Rf b w w':=by
 have hle:=h.le
 have hsz:=h.sz
 unfold je
 have HN:=z8 (z1y b a s d _ (h.alloc (.cells #[.string ⟨#[]⟩,.string ⟨#[]⟩] 123)))
 have hblt:=zd h.c0
 have HG0:=z8 (heap_alloc_new w (.cells #[.string ⟨#[]⟩,.string ⟨#[]⟩] 123))
 have HR0:=z8 ((Rf.refl b w).alloc (.cells #[.string ⟨#[]⟩,.string ⟨#[]⟩] 123))
 generalize zo s a d=v at*
 obtain⟨an,dn,nm⟩:=v
 simp only at*
 have HW:=z8 (fun w1 hr=>jX b an s ⟨#[61]⟩ dn w1 hr (by decide))
 rw [show(ByteArray.mk #[61]).data.toList=[61] from rfl] at HW
 generalize zy s dn [61] an=v at*
 obtain⟨av,dv⟩:=v
 simp only at*
 go_enter Tryz.func77,Tryz.ntmps77
 go_wp2_with fail
 refine HN.out.mono ?_
 rintro e w1 ⟨rfl,hr1,hs1⟩
 go_wp2_with fail
 refine(HW.out w1 hr1).mono ?_
 rintro e w2 ⟨rfl,hr2,hs2⟩
 have hr2:Rd w2 b s av dv:=hr2
 have hg2:=(hs2.block w.heap.size (by omega)).trans ((hs1.block w.heap.size (by omega)).trans HG0.out)
 have hs2:=(HR0.out.trans hs1.rf).trans hs2.rf
 have HG2:=z8 hg2
 clear hg2
 have hav:=hr2.le
 clear hs1 hr1
 obtain⟨h0,h1,h2,f1,f2,_,_⟩:=id hr2
 go_wp2_with fail
 go_loopw [] (fun wr=> ∃k,Rd wr b s k dv∧Rf b w wr∧Hid (wr.heap[w.heap.size]?=some (.cells #[.string ⟨#[]⟩,.string ⟨#[]⟩] 123))∧av≤k∧k≤av+20∧Hid (run zD s dv (20 -(k - av)) k=run zD s dv 20 av)) (fun wr=>s.size - atOf wr b)
 case atStart=>exact⟨av,hr2,hs2,HG2,zeK _,by omega,by simp [Hid]⟩
 case round=>
  obtain⟨k,hk,hsc,hgx,hak,hk8,hsk⟩:=hrel
  have hat:=z8 hk.atOf
  have hk':=hk
  clear h0 h1 h2 f1 f2
  obtain⟨h0,h1,h2,f1,f2,ha,hs⟩:=hk
  by_cases hgo:k - av<20∧zD (pk s k dv)=true
  ·obtain⟨h8,hb⟩:=hgo
   have h8':(k:Int)- av<20:=by omega
   have hne:pk s k dv≠ -1:=fun e=>by rw [e] at hb;exact absurd hb (by decide)
   have hlt:=(z06 hne).2
   have hset:=fun n=>(hk'.drewN n).setAt' (k+1) (k+1) (by omega) hlt
   have hst:Hid (run zD s dv (20 -(k+1 - av)) (k+1)=run zD s dv 20 av):=z8 (by
    rw [←hsk.out,show 20 -(k - av)=(20 -(k+1 - av))+1 by omega,z1w hb])
   clear hne
   go_wp2_with (go_at_call 119;refine(z1Y _ _ _ _ _ hk').mono ?_;rintro e w2 ⟨rfl,n,rfl⟩)
   have hset:=hset n
   go_roundw
   case rel=>exact⟨k+1,hset,hsc.trans (((Sc.refl b _).drewN n).setCell 1 (Or.inl rfl) _).rf,z8 (((((Sc.refl b _).drewN n).setCell 1 (Or.inl rfl) _).block _ (by omega)).trans hgx.out),by omega,by omega,hst⟩
   case measure=>rw [hset.atOf,hat.out];omega
  ·have hrun:Hid (run zD s dv 20 av=k):=by
    by_cases h8:k - av<20
    ·refine z8 ?_
     rw [←hsk.out]
     exact jx (by cases hc:zD (pk s k dv) with|false=>rfl|true=>exact absurd ⟨h8,hc⟩ hgo)
    ·exact z8 (by rw [←hsk.out,show 20 -(k - av)=0 by omega];rfl)
   have hor:k - av<20∧zD (pk s k dv)=false∨ ¬k - av<20:=by
    by_cases h8:k - av<20
    ·exact .inl ⟨h8,by cases hc:zD (pk s k dv) with|false=>rfl|true=>exact absurd ⟨h8,hc⟩ hgo⟩
    ·exact .inr h8
   clear hgo hsk hat hk8
   rcases hor with⟨h8,hb⟩|h8
   ·have h8':(k:Int)- av<20:=by omega
    go_wp2_with (go_at_call 119;refine(z1Y _ _ _ _ _ hk').mono ?_;rintro e w2 ⟨rfl,n,rfl⟩)
    have q0:wr.cell? ⟨w.heap.size,0,none⟩=some (.string ⟨#[]⟩):=by simp [World.cell?,hgx.out]
    have q1:wr.cell? ⟨w.heap.size,1,none⟩=some (.string ⟨#[]⟩):=by simp [World.cell?,hgx.out]
    have q2:wr.frozen? ⟨w.heap.size,0,none⟩=false:=by simp [World.frozen?,hgx.out]
    have q3:wr.frozen? ⟨w.heap.size,1,none⟩=false:=by simp [World.frozen?,hgx.out]
    go_region
    go_wp2_with fail
    have r0: ∀(W:World),W.cell? ⟨w.heap.size,0,none⟩=some (.string ⟨#[]⟩)→(W.setCell ⟨w.heap.size,0,none⟩ (.string nm)).cell? ⟨w.heap.size,0,none⟩=some (.string nm):=fun W q=>World.cell?_setCell_same _ _ _ q
    have r1: ∀(W:World) (v:Value),W.cell? ⟨w.heap.size,1,none⟩=some (.string ⟨#[]⟩)→((W.setCell ⟨w.heap.size,0,none⟩ (.string nm)).setCell ⟨w.heap.size,1,none⟩ v).cell? ⟨w.heap.size,1,none⟩=some v:=fun W v q=>World.cell?_setCell_same _ _ _ ((zV _ _ _ _ _ (by omega)).trans q)
    have r2:=r0 wr q0
    have r3:=fun n=>r0 (wr.drewN n) q0
    have r4:=fun v=>r1 wr v q1
    have r5:=fun n v=>r1 (wr.drewN n) v q1
    refine bodyPost_ret (v:= .agg #[.string nm,.string (s.extract av k)]) (by simp [results,Tryz.results77,go_sem,r2,r3,r4,r5]) rfl ?_
    have hx: ∀(W:World),Rd W b s k dv→Rf b w W→Rd ((W.setCell ⟨w.heap.size,0,none⟩ (.string nm)).setCell ⟨w.heap.size,1,none⟩ (.string (s.extract av k))) b s k dv∧Rf b w ((W.setCell ⟨w.heap.size,0,none⟩ (.string nm)).setCell ⟨w.heap.size,1,none⟩ (.string (s.extract av k))):=fun W q1 q2=>⟨(q1.other (zeT _ _ _ _ (by simp;omega))).other (zeT _ _ _ _ (by simp;omega)),(q2.setCell (zeK _) _).setCell (zeK _) _⟩
    exact⟨by rw [hrun.out],by rw [hrun.out];exact(hx _ (hk'.drewN _) (hsc.drewN _)).1,(hx _ (hk'.drewN _) (hsc.drewN _)).2⟩
   ·have h8': ¬(k:Int)- av<20:=by omega
    go_wp2_with (go_at_call 119;refine(z1Y _ _ _ _ _ hk').mono ?_;rintro e w2 ⟨rfl,n,rfl⟩)
    have q0:wr.cell? ⟨w.heap.size,0,none⟩=some (.string ⟨#[]⟩):=by simp [World.cell?,hgx.out]
    have q1:wr.cell? ⟨w.heap.size,1,none⟩=some (.string ⟨#[]⟩):=by simp [World.cell?,hgx.out]
    have q2:wr.frozen? ⟨w.heap.size,0,none⟩=false:=by simp [World.frozen?,hgx.out]
    have q3:wr.frozen? ⟨w.heap.size,1,none⟩=false:=by simp [World.frozen?,hgx.out]
    go_region
    go_wp2_with fail
    have r0: ∀(W:World),W.cell? ⟨w.heap.size,0,none⟩=some (.string ⟨#[]⟩)→(W.setCell ⟨w.heap.size,0,none⟩ (.string nm)).cell? ⟨w.heap.size,0,none⟩=some (.string nm):=fun W q=>World.cell?_setCell_same _ _ _ q
    have r1: ∀(W:World) (v:Value),W.cell? ⟨w.heap.size,1,none⟩=some (.string ⟨#[]⟩)→((W.setCell ⟨w.heap.size,0,none⟩ (.string nm)).setCell ⟨w.heap.size,1,none⟩ v).cell? ⟨w.heap.size,1,none⟩=some v:=fun W v q=>World.cell?_setCell_same _ _ _ ((zV _ _ _ _ _ (by omega)).trans q)
    have r2:=r0 wr q0
    have r3:=fun n=>r0 (wr.drewN n) q0
    have r4:=fun v=>r1 wr v q1
    have r5:=fun n v=>r1 (wr.drewN n) v q1
    refine bodyPost_ret (v:= .agg #[.string nm,.string (s.extract av k)]) (by simp [results,Tryz.results77,go_sem,r2,r3,r4,r5]) rfl ?_
    have hx: ∀(W:World),Rd W b s k dv→Rf b w W→Rd ((W.setCell ⟨w.heap.size,0,none⟩ (.string nm)).setCell ⟨w.heap.size,1,none⟩ (.string (s.extract av k))) b s k dv∧Rf b w ((W.setCell ⟨w.heap.size,0,none⟩ (.string nm)).setCell ⟨w.heap.size,1,none⟩ (.string (s.extract av k))):=fun W q1 q2=>⟨(q1.other (zeT _ _ _ _ (by simp;omega))).other (zeT _ _ _ _ (by simp;omega)),(q2.setCell (zeK _) _).setCell (zeK _) _⟩
    exact⟨by rw [hrun.out],by rw [hrun.out];exact(hx _ hk' hsc).1.drewN 1,(hx _ hk' hsc).2.drewN 1⟩
def zu (x:zeV×zeV):List Value:=[.string x.1,.string x.2]
theorem z00 (x:zeV×zeV):(zu x).length=2:=rfl
def zr (nm:zeV):List (zeV×zeV)→Nat→Int
 |[],_=> -1
 |x::xs,i=>if x.1.toList==nm.toList then(i:Int) else zr nm xs (i+1)
def z1L (nm:zeV):List (zeV×zeV)→zeV
 |[]=>⟨#[]⟩
 |x::xs=>if x.1.toList==nm.toList then x.2 else z1L nm xs
theorem z2i (base:Nat)(l:List (zeV×zeV))(v:Value)(nm:zeV)(w:World)(h:w.ownsRow base 123 2 v l.length ((l.map zu).flatten))(hlen:l.length≤100000):
  Calls Tryz.prog 80 #[v,.string nm] w fun e w'=>e= .returned (.int .i64 (zr nm l 0))∧w'=w:=by
 obtain⟨a0,c0,rfl⟩:=za h
 have HW:=z8 h
 clear h
 go_enter Tryz.func80,Tryz.ntmps80
 go_wp2_with fail
 go_loopg [5] (l.length+1) (fun k iv wr=> ∃(i:Nat),k+i=l.length+1∧i≤l.length∧iv= .int .i64 i∧wr=w∧Hid (zr nm (l.drop i) i=zr nm l 0))
 case atStart=>exact⟨0,rfl,zeR _,rfl,rfl,rfl⟩
 case round=>
  obtain⟨i,hk,hiE,rfl,rfl,hfin⟩:=hrel
  have hHK:=z8 hk
  clear hk
  by_cases hlt:i<l.length
  ·obtain⟨g,cap,hv,hb,hg⟩:=HW.out.form (by omega)
   injection hv with e1 e2 e3
   subst e1 e3
   obtain⟨x,hx⟩: ∃x,l[i]?=some x:=⟨l[i],zeH hlt⟩
   have q0:wr.cell? ⟨g,i*2,none⟩=some (.string x.1):=zf HW.out _ _ (zI zu 2 z00 l i 0 x hx (by omega))
   have hlt':(i:Int)<l.length:=by omega
   have hst:Hid (zr nm (l.drop i) i=if x.1.toList==nm.toList then(i:Int) else zr nm (l.drop (i+1)) (i+1)):=z8 (by
    obtain⟨hl,hx'⟩:=zeI.1 hx
    rw [zeO hl,hx']
    rfl)
   cases hq:(x.1.toList==nm.toList)
   ·go_wp2_with fail
    have hk:=hHK.out
    go_roundg (l.length - i)
    case measure=>omega
    case rel=>exact⟨i+1,by omega,by omega,by go_num,rfl,z8 (by rw [←hfin.out,hst.out,hq];rfl)⟩
   ·go_wp2_with fail
    go_ret
    exact⟨by rw [←hfin.out,hst.out,hq];simp,rfl⟩
  ·have hlt': ¬(i:Int)<l.length:=by omega
   go_wp2_with fail
   go_ret
   exact⟨by rw [←hfin.out,zeN (by omega)];simp [zr],rfl⟩
theorem z4e (nm:zeV): ∀(l:List (zeV×zeV)) (i:Nat),(zr nm l i= -1∧z1L nm l=⟨#[]⟩∧ ∀x∈l,(x.1.toList==nm.toList)=false)∨ ∃(j:Nat) (x:zeV×zeV),zr nm l i=((i+j:Nat):Int)∧l[j]?=some x∧z1L nm l=x.2:=by
 intro l
 induction l with
 |nil=>intro i;exact .inl ⟨rfl,rfl,fun x h=>by cases h⟩
 |cons y ys ih=>
  intro i
  cases h:(y.1.toList==nm.toList) with
  |true=>exact .inr ⟨0,y,by simp [zr,h],rfl,by simp [z1L,h]⟩
  |false=>
   rcases ih (i+1) with⟨h1,h2,h3⟩|⟨j,x,h1,h2,h3⟩
   ·exact .inl ⟨by simp [zr,h,h1],by simp [z1L,h,h2],fun x hx=>by
     rcases List.mem_cons.1 hx with rfl|hx
     ·exact h
     ·exact h3 x hx⟩
   ·exact .inr ⟨j+1,x,by simp only [zr,h,if_false,Bool.false_eq_true];rw [h1];omega,by simpa using h2,by simp [z1L,h,h3]⟩
theorem z3M (base:Nat)(l:List (zeV×zeV))(v:Value)(nm:zeV)(w:World)(h:w.ownsRow base 123 2 v l.length ((l.map zu).flatten))(hlen:l.length≤100000):
  Calls Tryz.prog 123 #[v,.string nm] w fun e w'=>e= .returned (.string (z1L nm l))∧w'=w:=by
 have HP:=z8 (z2i base l v nm w h hlen)
 obtain⟨a0,c0,rfl⟩:=za h
 rcases z4e nm l 0 with⟨h1,h2,_⟩|⟨j,x,h1,h2,h3⟩
 ·rw [h1] at HP
  have H2:=z8 h2
  clear h1 h2
  go_enter Tryz.func123,Tryz.ntmps123
  go_wp2_with fail
  refine HP.out.mono ?_
  rintro e w1 ⟨rfl,rfl⟩
  go_wp2_with fail
  go_ret
  exact⟨by rw [H2.out];rfl,rfl⟩
 ·have hl:=(zeI.1 h2).1
  obtain⟨g,cap,hv,hb,hg⟩:=h.form (by omega)
  injection hv with e1 e2 e3
  subst e1 e3
  have q1:w.cell? ⟨g,j*2+1,none⟩=some (.string x.2):=zf h _ _ (zI zu 2 z00 l j 1 x h2 (by omega))
  rw [h1,show((0+j:Nat):Int)=(j:Int) by omega] at HP
  have H3:=z8 h3
  clear h1 h2 h3
  have hlt':(j:Int)<l.length:=by omega
  go_enter Tryz.func123,Tryz.ntmps123
  go_wp2_with fail
  refine HP.out.mono ?_
  rintro e w1 ⟨rfl,rfl⟩
  go_wp2_with fail
  go_ret
  exact⟨by rw [H3.out];rfl,rfl⟩
end Go.Proofs.YtkoohcilbpdgeaaGreatDoor
