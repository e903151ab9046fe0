import Derived.Test.YtkoohcilbpdgeaaGreatDoorProg
import Derived.Deep.RegionWith
import Derived.RegionTactic
import Derived.ChangeAlike
import Derived.Shelf.Strconv.Itoa4
import Derived.WalkKit
import Derived.Test.YtkoohcilbpdgeaaGreatDoorC05
set_option linter.all false
set_option linter.unusedVariables false
set_option linter.unusedSimpArgs false
set_option linter.unnecessarySimpa false
set_option linter.constructorNameAsVariable false
set_option linter.deprecated false
set_option maxRecDepth 100000
set_option maxHeartbeats 6400000
namespace Go.Proofs.YtkoohcilbpdgeaaGreatDoor
open Go Go.RowKit
attribute [local go_sem] wrap64_byte
theorem zbo: ∀k:Fin 10,(⟨#[48,49,50,51,52,53,54,55,56,57,97,98,99,100,101,102,103,104,105,106,107,108,109,110,111,112,113,114,115,116,117,118,119,120,121,122]⟩:zgS).extract k.val (k.val+1)=⟨#[(k.val+48).toUInt8]⟩:=by decide
theorem z9X (c:UInt8)(w:World)(h1:48≤c.toNat)(h2:c.toNat≤57):
  Calls Tryz.prog 155 #[.int .i64 ((c.toNat:Int)- 48)] w fun e w'=>e= .returned (.string ⟨#[c]⟩)∧w'=w:=by
 obtain⟨k,hk⟩: ∃k:Nat,c.toNat=k+48:=⟨c.toNat - 48,by omega⟩
 have hc:c=(k+48).toUInt8:=by rw [←hk];simp
 have he:(c.toNat:Int)- 48=(k:Int):=by omega
 rw [he]
 have hk9:k<10:=by omega
 have hfin:Hid (c=(k+48).toUInt8):=z8 hc
 clear hk hc he h1 h2
 go_enter Tryz.func155,Tryz.ntmps155
 go_wp2_with fail
 go_ret
 exact⟨by rw [hfin.out];exact congrArg _ (congrArg _ (zbo ⟨k,hk9⟩)),rfl⟩
theorem z4U (c:UInt8)(w:World)(h1:48≤c.toNat)(h2:c.toNat≤57):
  Calls Tryz.prog 126 #[.int .i64 ((c.toNat:Int)- 48),.int .i64 10] w fun e w'=>e= .returned (.string ⟨#[c]⟩)∧w'=w:=by
 have H:=z8 (z9X c w h1 h2)
 have e1:0≤(c.toNat:Int)- 48:=by omega
 have e2:(c.toNat:Int)- 48<100:=by omega
 generalize (c.toNat:Int)- 48=z at*
 go_enter Tryz.func126,Tryz.ntmps126
 go_wp2_with fail
 refine H.out.mono ?_
 rintro e w1 ⟨rfl,rfl⟩
 go_wp2_with fail
 go_ret
 exact⟨rfl,rfl⟩
theorem z9N (c:UInt8)(w:World)(h1:48≤c.toNat)(h2:c.toNat≤57):
  Calls Tryz.prog 111 #[.int .i64 ((c.toNat:Int)- 48)] w fun e w'=>e= .returned (.string ⟨#[c]⟩)∧w'=w:=by
 have H:=z8 (z4U c w h1 h2)
 have e1:0≤(c.toNat:Int)- 48:=by omega
 have e2:(c.toNat:Int)- 48<100:=by omega
 generalize (c.toNat:Int)- 48=z at*
 go_enter Tryz.func111,Tryz.ntmps111
 go_wp2_with fail
 refine H.out.mono ?_
 rintro e w1 ⟨rfl,rfl⟩
 go_wp2_with fail
 go_ret
 exact⟨rfl,rfl⟩
theorem z7n (c:UInt8)(w:World)(h1:48≤c.toNat)(h2:c.toNat≤57):
  Calls Tryz.prog 70 #[.int .i64 ((c.toNat:Int)- 48)] w fun e w'=>e= .returned (.string ⟨#[c]⟩)∧w'=w:=by
 have H:=z8 (z9N c w h1 h2)
 have e1:0≤(c.toNat:Int)- 48:=by omega
 have e2:(c.toNat:Int)- 48<100:=by omega
 generalize (c.toNat:Int)- 48=z at*
 go_enter Tryz.func70,Tryz.ntmps70
 go_wp2_with fail
 refine H.out.mono ?_
 rintro e w1 ⟨rfl,rfl⟩
 go_wp2_with fail
 go_ret
 exact⟨rfl,rfl⟩
def z6L (l s r:zgS):zgS:=((((((⟨#[40]⟩:zgS)++l)++⟨#[32]⟩)++s)++⟨#[32]⟩)++r)++⟨#[41]⟩
theorem z2b (l s r:zgS)(w:World)(h1:l.size≤1000000000)(h2:s.size≤1000000000)(h3:r.size≤1000000000):
  Calls Tryz.prog 128 #[.string l,.string s,.string r] w fun e w'=>e= .returned (.string (z6L l s r))∧Below w.heap.size w w':=by
 have HB:=z8 (zgR w.heap.size w)
 go_enter Tryz.func128,Tryz.ntmps128
 go_wp2_with fail
 go_ret
 exact⟨rfl,HB.out⟩
structure TP (w:World)(b:Nat)(st:St)(V:Nat→Value)(iv cv:List Value):Prop where
 c3:w.cell? ⟨b,2,none⟩=some (V 3)
 c4:w.cell? ⟨b,3,none⟩=some (V 4)
 c5:w.cell? ⟨b,4,none⟩=some (V 5)
 c6:w.cell? ⟨b,5,none⟩=some (V 6)
 t: ∃base,TreeV w base st V iv cv
 el:st.E.length≤100000
 ll:st.L.length≤100000
 cl:st.C.length≤100000
 al:st.A.length≤100000
theorem TP.keep {w w':World}{b:Nat}{st:St}{V:Nat→Value}{iv cv:List Value}(h:TP w b st V iv cv)(hb:Below w.heap.size w w'):TP w' b st V iv cv:=by
 have hlt:=zd h.c3
 obtain⟨base,ht⟩:=h.t
 exact⟨(hb.cell (p:=⟨b,2,none⟩) hlt).trans h.c3,(hb.cell (p:=⟨b,3,none⟩) hlt).trans h.c4,(hb.cell (p:=⟨b,4,none⟩) hlt).trans h.c5,(hb.cell (p:=⟨b,5,none⟩) hlt).trans h.c6,⟨base,ht.same fun k _ hk=>hb.block k hk⟩,h.el,h.ll,h.cl,h.al⟩
theorem z81 (b:Nat)(st:St)(V:Nat→Value)(iv cv:List Value)(i:Nat)(x:Ex)(w:World)(hT:TP w b st V iv cv)(hx:st.E[i]?=some x):
  Calls Tryz.prog 179 #[.pointer (some ⟨b,2,none⟩),.int .i64 i] w fun e w'=>e= .returned (.agg #[.int .i64 x.form,.int .i64 x.place,.string x.text,.int .i64 x.left,.int .i64 x.right])∧Below w.heap.size w w':=by
 have HB:=z8 (zgR w.heap.size w)
 have hel:=hT.el
 have hc:=hT.c5
 have hblt:=zd hc
 obtain⟨base,ht⟩:=hT.t
 have how:=ht.own 5 (by omega) (by omega)
 have hlt:i<st.E.length:=(zgF.1 hx).1
 obtain⟨a5,k5,e5⟩: ∃a k,V 5= .slice a st.E.length k:=za how
 have how:w.ownsRow base 120 5 (.slice a5 st.E.length k5) st.E.length ((st.E.map Ex.cells).flatten):=e5▸how
 rw [e5] at hc
 obtain⟨g,cap,hv,hb,hg⟩:=how.form (by omega)
 injection hv with e1 e2 e3
 subst e1 e3
 have hcell: ∀j u,x.cells[j]?=some u→j<5→w.cell? ⟨g,i*5+j,none⟩=some u:=fun j u hu hj=>
  zl how _ _ ((zS Ex.cells 5 Ex.cells_len st.E i j x hx hj).trans hu)
 have q0:w.cell? ⟨g,i*5,none⟩=some (.int .i64 x.form):=hcell 0 _ rfl (by omega)
 have q1:=hcell 1 _ rfl (by omega)
 have q2:=hcell 2 _ rfl (by omega)
 have q3:=hcell 3 _ rfl (by omega)
 have q4:=hcell 4 _ rfl (by omega)
 have hlt':(i:Int)<st.E.length:=by omega
 clear hcell how hx ht hT e5
 go_enter Tryz.func179,Tryz.ntmps179
 go_wp2_with fail
 exact bodyPost_ret (v:= .agg #[.int .i64 x.form,.int .i64 x.place,.string x.text,.int .i64 x.left,.int .i64 x.right]) (by simp [results,Tryz.results179,go_sem]) rfl ⟨rfl,HB.out.alloc (zgH _) _⟩
def zfe (x:Lc)(w:World)(e:Ending)(w':World):Prop:= ∃a k base,e= .returned (.agg #[.int .i64 x.form,.string x.text,.int .i64 x.left,.int .i64 x.right,.int .i64 x.place,.int .i64 x.count,.slice a x.items.length k])∧w.ownsRow base 3 1 (.slice a x.items.length k) x.items.length (x.items.map (Value.int .i64))∧Below w.heap.size w w'
def zeC (x:List Cl)(w:World)(e:Ending)(w':World):Prop:= ∃a k base,e= .returned (.agg #[.slice a x.length k])∧w.ownsRow base 156 4 (.slice a x.length k) x.length ((x.map Cl.cells).flatten)∧Below w.heap.size w w'
theorem z9i (b:Nat)(st:St)(V:Nat→Value)(iv cv:List Value)(i:Nat)(x:Lc)(w:World)(hT:TP w b st V iv cv)(hx:st.L[i]?=some x):
  Calls Tryz.prog 112 #[.pointer (some ⟨b,2,none⟩),.int .i64 i] w fun e w'=>zfe x w e w':=by
 have HB:=z8 (zgR w.heap.size w)
 have hel:=hT.ll
 have hc:=hT.c4
 have hblt:=zd hc
 obtain⟨base,ht⟩:=hT.t
 have how:=ht.own 4 (by omega) (by omega)
 have hlt:i<st.L.length:=(zgF.1 hx).1
 obtain⟨u,hu⟩: ∃u,iv[i]?=some u:=⟨iv[i]'(by have:=ht.il;omega),zgE (by have:=ht.il;omega)⟩
 have hit:=ht.items i x u hx hu
 obtain⟨a6,k6,rfl⟩:=za hit
 have HIT:=z8 hit
 obtain⟨a5,k5,e5⟩: ∃a k,V 4= .slice a st.L.length k:=za how
 have how:w.ownsRow base 160 7 (.slice a5 st.L.length k5) st.L.length ((List.zipWith Lc.cells st.L iv).flatten):=e5▸how
 rw [e5] at hc
 obtain⟨g,cap,hv,hb,hg⟩:=how.form (by omega)
 injection hv with e1 e2 e3
 subst e1 e3
 have hcell: ∀j z,(x.cells (.slice a6 x.items.length k6))[j]?=some z→j<7→w.cell? ⟨g,i*7+j,none⟩=some z:=fun j z hz hj=>
  zl how _ _ ((z55 st.L iv i j x _ hx hu hj).trans hz)
 have q0:w.cell? ⟨g,i*7,none⟩=some (.int .i64 x.form):=hcell 0 _ rfl (by omega)
 have q1:=hcell 1 _ rfl (by omega)
 have q2:=hcell 2 _ rfl (by omega)
 have q3:=hcell 3 _ rfl (by omega)
 have q4:=hcell 4 _ rfl (by omega)
 have q5:=hcell 5 _ rfl (by omega)
 have q6:=hcell 6 _ rfl (by omega)
 have hlt':(i:Int)<st.L.length:=by omega
 clear hcell how hx ht hT e5 hit hu
 go_enter Tryz.func112,Tryz.ntmps112
 go_wp2_with fail
 exact bodyPost_ret (v:= .agg #[.int .i64 x.form,.string x.text,.int .i64 x.left,.int .i64 x.right,.int .i64 x.place,.int .i64 x.count,.slice a6 x.items.length k6]) (by simp [results,Tryz.results112,go_sem]) rfl ⟨a6,k6,base,rfl,HIT.out,HB.out.alloc (zgH _) _⟩
theorem z6o (b:Nat)(st:St)(V:Nat→Value)(iv cv:List Value)(i:Nat)(x:List Cl)(w:World)(hT:TP w b st V iv cv)(hx:st.C[i]?=some x):
  Calls Tryz.prog 130 #[.pointer (some ⟨b,2,none⟩),.int .i64 i] w fun e w'=>zeC x w e w':=by
 have HB:=z8 (zgR w.heap.size w)
 have hel:=hT.cl
 have hc:=hT.c6
 have hblt:=zd hc
 obtain⟨base,ht⟩:=hT.t
 have how:=ht.own 6 (by omega) (by omega)
 have hlt:i<st.C.length:=(zgF.1 hx).1
 obtain⟨u,hu⟩: ∃u,cv[i]?=some u:=⟨cv[i]'(by have:=ht.cl;omega),zgE (by have:=ht.cl;omega)⟩
 have hit:=ht.clauses i x u hx hu
 obtain⟨a6,k6,rfl⟩:=za hit
 have HIT:=z8 hit
 obtain⟨a5,k5,e5⟩: ∃a k,V 6= .slice a st.C.length k:=za how
 have how:w.ownsRow base 133 1 (.slice a5 st.C.length k5) st.C.length cv:=e5▸how
 rw [e5] at hc
 obtain⟨g,cap,hv,hb,hg⟩:=how.form (by omega)
 injection hv with e1 e2 e3
 subst e1 e3
 have q0:w.cell? ⟨g,i,none⟩=some (.slice a6 x.length k6):=zl how _ _ hu
 have hlt':(i:Int)<st.C.length:=by omega
 clear how hx ht hT e5 hit hu
 go_enter Tryz.func130,Tryz.ntmps130
 go_wp2_with fail
 exact bodyPost_ret (v:= .agg #[.slice a6 x.length k6]) (by simp [results,Tryz.results130,go_sem]) rfl ⟨a6,k6,base,rfl,HIT.out,HB.out.alloc (zgH _) _⟩
def PrE (E:List Ex):Nat→Int→zgS→Prop
 |0,_,_=>False
 |f+1,i,t=>t.size≤1000000000∧ ∃(n:Nat) (x:Ex),i=(n:Int)∧E[n]?=some x∧x.text.size≤600∧(
   ((x.form=0∨x.form=2∨x.form=3)∧t=x.text)∨
   (x.form=1∧t=((⟨#[34]⟩:zgS)++x.text)++⟨#[34]⟩)∨
   (x.form=4∧t=(⟨#[64]⟩:zgS)++x.text)∨
   (x.form=5∧ ∃t1,PrE E f x.left t1∧t=x.text++t1)∨
   (x.form=6∧ ∃t1 t2,PrE E f x.left t1∧PrE E f x.right t2∧t=z6L t1 x.text t2)∨
   (x.form=7∧PrE E f x.left t))
theorem PrE.sz {E:List Ex}{f:Nat}{i:Int}{t:zgS}(h:PrE E f i t):t.size≤1000000000:=by
 cases f with
 |zero=>exact absurd h id
 |succ f=>exact h.1
theorem Below.drew1 (w:World):Below w.heap.size w w.drew:=⟨rfl,rfl,rfl,zgH _,fun _ _=>rfl⟩
theorem TP.drew {w:World}{b:Nat}{st:St}{V:Nat→Value}{iv cv:List Value}(h:TP w b st V iv cv):TP w.drew b st V iv cv:=h.keep (Below.drew1 w)
theorem z8n {a W W2:World}(h:Below a.heap.size a W)(k:Below W.drew.heap.size W.drew W2):Below a.heap.size a W2:=
 h.trans ((Below.drew1 W).trans k|>.mono h.size)
def z2W (t:zgS)(w:World)(e:Ending)(w':World):Prop:=e= .returned (.string t)∧Below w.heap.size w w'
theorem z58 (b:Nat)(st:St)(V:Nat→Value)(iv cv:List Value): ∀(f:Nat) (i:Int) (t:zgS) (w:World),TP w b st V iv cv→PrE st.E f i t→
  Calls Tryz.prog 163 #[.pointer (some ⟨b,2,none⟩),.int .i64 i] w fun e w'=>z2W t w e w':=by
 intro f
 induction f with
 |zero=>intro i t w _ h;exact absurd h id
 |succ f ih=>
  intro i t w hT ⟨hsz,n,x,hi,hx,hxs,h⟩
  subst hi
  have HE:=z8 (z81 b st V iv cv n x w hT hx)
  have HT:=z8 hT
  have IH:=z8 ih
  clear ih hT hx
  rcases h with⟨h1,h2⟩|⟨h1,h2⟩|⟨h1,h2⟩|⟨h1,t1,h2,h3⟩|⟨h1,t1,t2,h2,h3,h4⟩|⟨h1,h2⟩
  ·subst h2
   go_enter Tryz.func163,Tryz.ntmps163
   go_wp2_with fail
   refine HE.out.mono ?_
   rintro e w1 ⟨rfl,hB⟩
   have hB1:=z8 (hB.alloc hB.size (.cells #[.int .i64 x.form,.int .i64 x.place,.string x.text,.int .i64 x.left,.int .i64 x.right] 120))
   rcases h1 with h1|h1|h1
   ·rw [h1] at hB1 ⊢
    go_wp2_with fail
    go_ret
    exact⟨rfl,hB1.out⟩
   ·rw [h1] at hB1 ⊢
    go_wp2_with fail
    go_ret
    exact⟨rfl,hB1.out⟩
   ·rw [h1] at hB1 ⊢
    go_wp2_with fail
    go_ret
    exact⟨rfl,hB1.out⟩
  ·subst h2
   go_enter Tryz.func163,Tryz.ntmps163
   go_wp2_with fail
   refine HE.out.mono ?_
   rintro e w1 ⟨rfl,hB⟩
   have hB1:=z8 (hB.alloc hB.size (.cells #[.int .i64 x.form,.int .i64 x.place,.string x.text,.int .i64 x.left,.int .i64 x.right] 120))
   rw [h1] at hB1 ⊢
   go_wp2_with fail
   go_ret
   exact⟨rfl,hB1.out⟩
  ·subst h2
   go_enter Tryz.func163,Tryz.ntmps163
   go_wp2_with fail
   refine HE.out.mono ?_
   rintro e w1 ⟨rfl,hB⟩
   have hB1:=z8 (hB.alloc hB.size (.cells #[.int .i64 x.form,.int .i64 x.place,.string x.text,.int .i64 x.left,.int .i64 x.right] 120))
   rw [h1] at hB1 ⊢
   go_wp2_with fail
   go_ret
   exact⟨rfl,hB1.out⟩
  ·have hs1:=h2.sz
   subst h3
   go_enter Tryz.func163,Tryz.ntmps163
   go_wp2_with fail
   refine HE.out.mono ?_
   rintro e w1 ⟨rfl,hB⟩
   have hB1:=z8 (hB.alloc hB.size (.cells #[.int .i64 x.form,.int .i64 x.place,.string x.text,.int .i64 x.left,.int .i64 x.right] 120))
   have hT1:=HT.out.keep (hB.alloc hB.size (.cells #[.int .i64 x.form,.int .i64 x.place,.string x.text,.int .i64 x.left,.int .i64 x.right] 120))
   rw [h1] at hB1 hT1 ⊢
   have HT1:=z8 hT1
   have hbx:=heap_alloc_new w1 (.cells #[.int .i64 5,.int .i64 x.place,.string x.text,.int .i64 x.left,.int .i64 x.right] 120)
   have HBX:=z8 hbx
   clear hT1 hB hbx
   go_wp2_with fail
   have HTd:=z8 (HT1.out.drew)
   go_region_with (go_at_call 163;refine(IH.out _ _ _ HTd.out h2).mono ?_;rintro e w2 ⟨rfl,hB2⟩;(have hbx2:=(hB2.block w1.heap.size (by show w1.heap.size<(w1.alloc _).heap.size;simp)).trans HBX.out);(have hc2:w2.cell? ⟨w1.heap.size,2,none⟩=some (.string x.text):=by simp [World.cell?,hbx2]);(have HB2:=z8 hB2);(clear hB2 hbx2))
   all_goals go_wp2_with fail
   all_goals go_ret
   all_goals exact⟨rfl,z8n hB1.out HB2.out⟩
  ·have hs1:=h2.sz
   have hs2:=h3.sz
   subst h4
   go_enter Tryz.func163,Tryz.ntmps163
   go_wp2_with fail
   refine HE.out.mono ?_
   rintro e w1 ⟨rfl,hB⟩
   have hB1:=z8 (hB.alloc hB.size (.cells #[.int .i64 x.form,.int .i64 x.place,.string x.text,.int .i64 x.left,.int .i64 x.right] 120))
   have hT1:=HT.out.keep (hB.alloc hB.size (.cells #[.int .i64 x.form,.int .i64 x.place,.string x.text,.int .i64 x.left,.int .i64 x.right] 120))
   rw [h1] at hB1 hT1 ⊢
   have HC:=z8 (IH.out _ _ _ hT1 h2)
   have hbx:=heap_alloc_new w1 (.cells #[.int .i64 6,.int .i64 x.place,.string x.text,.int .i64 x.left,.int .i64 x.right] 120)
   have HBX:=z8 hbx
   have HT1:=z8 hT1
   clear hT1 hB hbx
   go_wp2_with fail
   refine HC.out.mono ?_
   rintro e w2 ⟨rfl,hB2⟩
   have hT2:=HT1.out.keep hB2
   have hB2':=z8 (hB1.out.trans (hB2.mono hB1.out.size))
   have hbx2:=(hB2.block w1.heap.size (by simp)).trans HBX.out
   have hc2:w2.cell? ⟨w1.heap.size,2,none⟩=some (.string x.text):=by simp [World.cell?,hbx2]
   have hc4:w2.cell? ⟨w1.heap.size,4,none⟩=some (.int .i64 x.right):=by simp [World.cell?,hbx2]
   have HBX2:=z8 hbx2
   have HC2:=z8 (IH.out _ _ _ hT2 h3)
   clear hT2 hB2 hbx2
   go_wp2_with fail
   refine HC2.out.mono ?_
   rintro e w3 ⟨rfl,hB3⟩
   have hB3':=z8 (hB2'.out.trans (hB3.mono hB2'.out.size))
   have hlt:w1.heap.size<w2.heap.size:=(Array.getElem?_eq_some_iff.1 HBX2.out).1
   have hbx3:=(hB3.block w1.heap.size hlt).trans HBX2.out
   have hc3:w3.cell? ⟨w1.heap.size,2,none⟩=some (.string x.text):=by simp [World.cell?,hbx3]
   clear hB3 hbx3
   go_wp2_with fail
   refine(z2b t1 x.text t2 w3 hs1 (by omega) hs2).mono ?_
   rintro e w4 ⟨rfl,hB4⟩
   have hB4':=z8 (hB3'.out.trans (hB4.mono hB3'.out.size))
   clear hB4
   go_wp2_with fail
   go_ret
   exact⟨rfl,hB4'.out⟩
  ·have hs1:=h2.sz
   go_enter Tryz.func163,Tryz.ntmps163
   go_wp2_with fail
   refine HE.out.mono ?_
   rintro e w1 ⟨rfl,hB⟩
   have hB1:=z8 (hB.alloc hB.size (.cells #[.int .i64 x.form,.int .i64 x.place,.string x.text,.int .i64 x.left,.int .i64 x.right] 120))
   have hT1:=HT.out.keep (hB.alloc hB.size (.cells #[.int .i64 x.form,.int .i64 x.place,.string x.text,.int .i64 x.left,.int .i64 x.right] 120))
   rw [h1] at hB1 hT1 ⊢
   have HC:=z8 (IH.out _ _ _ hT1 h2)
   clear hT1 hB
   go_wp2_with fail
   refine HC.out.mono ?_
   rintro e w2 ⟨rfl,hB2⟩
   have hB2':=z8 (hB1.out.trans (hB2.mono hB1.out.size))
   clear hB2
   go_wp2_with fail
   go_ret
   exact⟨rfl,hB2'.out⟩
def jk (sep:zgS)(ts:List zgS):Nat→zgS
 |0=>⟨#[]⟩
 |k+1=>(if k=0 then jk sep ts k else jk sep ts k++sep)++ts.getD k ⟨#[]⟩
theorem zcr (sep:zgS)(ts:List zgS)(k:Nat):(jk sep ts k).size≤(jk sep ts (k+1)).size:=by
 simp only [jk]
 split<;>simp only [ByteArray.size_append]<;>omega
theorem zaa (sep:zgS)(ts:List zgS){k n:Nat}(h:k≤n):(jk sep ts k).size≤(jk sep ts n).size:=by
 induction n with
 |zero=>
   have:k=0:=by omega
   subst this;exact zgH _
 |succ n ih=>
  by_cases hk:k=n+1
  ·subst hk;exact zgH _
  ·exact zgP (ih (by omega)) (zcr sep ts n)
def All2 {α:Type}(P:α→zgS→Prop):List α→List zgS→Prop
 |[],[]=>True
 |x::xs,t::ts=>P x t∧All2 P xs ts
 |_,_=>False
theorem All2.len {α:Type}{P:α→zgS→Prop}: ∀{xs:List α} {ts:List zgS},All2 P xs ts→xs.length=ts.length:=by
 intro xs
 induction xs with
 |nil=>intro ts h;cases ts with
  |nil=>rfl
  |cons t ts=>exact absurd h id
 |cons x xs ih=>intro ts h;cases ts with
  |nil=>exact absurd h id
  |cons t ts=>simp [ih h.2]
theorem All2.get {α:Type}{P:α→zgS→Prop}: ∀{xs:List α} {ts:List zgS} (i:Nat) (x:α),All2 P xs ts→xs[i]?=some x→P x (ts.getD i ⟨#[]⟩):=by
 intro xs
 induction xs with
 |nil=>intro ts i x _ h;simp at h
 |cons y ys ih=>intro ts i x h hx;cases ts with
  |nil=>exact absurd h id
  |cons t ts=>
   cases i with
   |zero=>simp at hx;subst hx;exact h.1
   |succ i=>exact ih i x h.2 (by simpa using hx)
def PrL (L:List Lc):Nat→Int→zgS→Prop
 |0,_,_=>False
 |f+1,i,t=>t.size≤1000000000∧ ∃(n:Nat) (x:Lc),i=(n:Int)∧L[n]?=some x∧x.text.size≤600∧(
   (x.form=0∧t=x.text)∨
   (x.form=1∧ ∃t1 t2,PrL L f x.left t1∧PrL L f x.right t2∧t=z6L t1 x.text t2)∨
   (x.form=2∧ ∃(c:UInt8) (ts:List zgS),(c.toNat:Int)- 48=x.count∧48≤c.toNat∧c.toNat≤57∧x.items.length≤100000∧All2 (fun i t=>PrL L f i t) x.items ts∧(jk ⟨#[44,32]⟩ ts ts.length).size≤1000000000∧t=(((⟨#[c]⟩:zgS)++⟨#[45,111,102,40]⟩)++jk ⟨#[44,32]⟩ ts ts.length)++⟨#[41]⟩))
theorem PrL.sz {L:List Lc}{f:Nat}{i:Int}{t:zgS}(h:PrL L f i t):t.size≤1000000000:=by
 cases f with
 |zero=>exact absurd h id
 |succ f=>exact h.1
def zgi (b:Nat)(st:St)(V:Nat→Value)(iv cv:List Value)(f:Nat):Prop:= ∀(i:Int) (t:zgS) (w:World),TP w b st V iv cv→PrL st.L f i t→
  Calls Tryz.prog 86 #[.pointer (some ⟨b,2,none⟩),.int .i64 i] w fun e w'=>z2W t w e w'
theorem z4S (b:Nat)(st:St)(V:Nat→Value)(iv cv:List Value)(f:Nat)(ih:zgi b st V iv cv f)(its:List Int)(ts:List zgS)(a:Option Addr)(k base:Nat)(w:World)(hT:TP w b st V iv cv)
  (hown:w.ownsRow base 3 1 (.slice a its.length k) its.length (its.map (Value.int .i64))) (hlen:its.length≤100000) (hall:All2 (fun i t=>PrL st.L f i t) its ts) (hsz:(jk ⟨#[44,32]⟩ ts ts.length).size≤1000000000):
  Calls Tryz.prog 129 #[.pointer (some ⟨b,2,none⟩),.slice a its.length k] w fun e w'=>z2W (jk ⟨#[44,32]⟩ ts ts.length) w e w':=by
 have HT:=z8 hT
 have HW:=z8 hown
 have IH:=z8 ih
 have HA:=z8 hall
 have hl2:=z8 hall.len
 have hmono: ∀i,i≤its.length→(jk ⟨#[44,32]⟩ ts i).size≤1000000000:=fun i hi=>zgP (zaa _ _ (by have:=hl2.out;omega)) hsz
 have HM:=z8 hmono
 clear hT hown ih hall hmono hsz
 go_enter Tryz.func129,Tryz.ntmps129
 go_wp2_with fail
 go_loopg [5,6] (its.length+1) (fun n ov nv wr=> ∃i:Nat,n+i=its.length+1∧i≤its.length∧ov= .string (jk ⟨#[44,32]⟩ ts i)∧nv= .int .i64 i∧Below w.heap.size w wr)
 case atStart=>exact⟨0,rfl,zgO _,rfl,rfl,zgR _ _⟩
 case round=>
  obtain⟨i,hk,hiE,rfl,rfl,hbel⟩:=hrel
  have hHK:=z8 hk
  clear hk
  by_cases hlt:i<its.length
  ·obtain⟨g,cap,hv,hb,hg⟩:=HW.out.form (by omega)
   injection hv with e1 e2 e3
   subst e1 e3
   obtain⟨x,hx⟩: ∃x,its[i]?=some x:=⟨its[i],zgE hlt⟩
   have q0:wr.cell? ⟨g,i,none⟩=some (.int .i64 x):=by
    rw [hbel.cell (p:=⟨g,i,none⟩) hg]
    exact zl HW.out _ _ (by simp [hx])
   have hlt':(i:Int)<its.length:=by omega
   have hP:=HA.out.get i x hx
   have hs1:=hP.sz
   have hs0:=HM.out i hiE
   have HC:=z8 (IH.out _ _ _ (HT.out.keep hbel) hP)
   have HB:=z8 hbel
   have hj:=z8 (show jk ⟨#[44,32]⟩ ts (i+1)=(if i=0 then jk ⟨#[44,32]⟩ ts i else jk ⟨#[44,32]⟩ ts i++⟨#[44,32]⟩)++ts.getD i ⟨#[]⟩ from rfl)
   clear hP hbel hx
   generalize ts.getD i ⟨#[]⟩=u at*
   by_cases hi0:i=0
   ·have hj':=z8 (hj.out.trans (by rw [if_pos hi0]))
    subst hi0
    generalize jk ⟨#[44,32]⟩ ts 0=p at*
    go_wp2_with fail
    refine HC.out.mono ?_
    rintro e w2 ⟨rfl,hB2⟩
    have hB3:=z8 (HB.out.trans (hB2.mono HB.out.size))
    clear hB2
    go_wp2_with fail
    go_roundg its.length
    case measure=>have:=hHK.out;omega
    case rel=>exact⟨0+1,by have:=hHK.out;omega,by omega,by rw [hj'.out],by go_num,hB3.out⟩
   ·have hj':=z8 (hj.out.trans (by rw [if_neg hi0]))
    generalize jk ⟨#[44,32]⟩ ts i=p at*
    have hi0':(0:Int)<(i:Int):=by omega
    go_wp2_with fail
    refine HC.out.mono ?_
    rintro e w2 ⟨rfl,hB2⟩
    have hB3:=z8 (HB.out.trans (hB2.mono HB.out.size))
    clear hB2
    go_wp2_with fail
    go_roundg (its.length - i)
    case measure=>have:=hHK.out;omega
    case rel=>exact⟨i+1,by have:=hHK.out;omega,by omega,by rw [hj'.out],by go_num,hB3.out⟩
  ·have hz:Hid (i=ts.length):=z8 (by have:=hl2.out;omega)
   go_wp2_with fail
   go_ret
   exact⟨by rw [hz.out];rfl,hbel⟩
theorem z5Y (b:Nat)(st:St)(V:Nat→Value)(iv cv:List Value): ∀(f:Nat),zgi b st V iv cv f:=by
 intro f
 induction f with
 |zero=>intro i t w _ h;exact absurd h id
 |succ f ih=>
  intro i t w hT ⟨hsz,n,x,hi,hx,hxs,h⟩
  subst hi
  have HE:=z8 (z9i b st V iv cv n x w hT hx)
  have HT:=z8 hT
  have IH:=z8 ih
  clear ih hT hx
  rcases h with⟨h1,h2⟩|⟨h1,t1,t2,h2,h3,h4⟩|⟨h1,c,ts,h2,h3,h4,h5,h6,h7,h8⟩
  ·subst h2
   go_enter Tryz.func86,Tryz.ntmps86
   go_wp2_with fail
   refine HE.out.mono ?_
   rintro e w1 ⟨a,k,base,rfl,_,hB⟩
   have hB1:=z8 (hB.alloc hB.size (.cells #[.int .i64 x.form,.string x.text,.int .i64 x.left,.int .i64 x.right,.int .i64 x.place,.int .i64 x.count,.slice a x.items.length k] 160))
   rw [h1] at hB1 ⊢
   clear hB
   go_wp2_with fail
   go_ret
   exact⟨rfl,hB1.out⟩
  ·have hs1:=h2.sz
   have hs2:=h3.sz
   subst h4
   go_enter Tryz.func86,Tryz.ntmps86
   go_wp2_with fail
   refine HE.out.mono ?_
   rintro e w1 ⟨a,k,base,rfl,_,hB⟩
   have hB1:=z8 (hB.alloc hB.size (.cells #[.int .i64 x.form,.string x.text,.int .i64 x.left,.int .i64 x.right,.int .i64 x.place,.int .i64 x.count,.slice a x.items.length k] 160))
   have hT1:=HT.out.keep (hB.alloc hB.size (.cells #[.int .i64 x.form,.string x.text,.int .i64 x.left,.int .i64 x.right,.int .i64 x.place,.int .i64 x.count,.slice a x.items.length k] 160))
   rw [h1] at hB1 hT1 ⊢
   have HC:=z8 (IH.out _ _ _ hT1 h2)
   have hbx:=heap_alloc_new w1 (.cells #[.int .i64 1,.string x.text,.int .i64 x.left,.int .i64 x.right,.int .i64 x.place,.int .i64 x.count,.slice a x.items.length k] 160)
   have HBX:=z8 hbx
   have HT1:=z8 hT1
   clear hT1 hB hbx
   go_wp2_with fail
   refine HC.out.mono ?_
   rintro e w2 ⟨rfl,hB2⟩
   have hT2:=HT1.out.keep hB2
   have hB2':=z8 (hB1.out.trans (hB2.mono hB1.out.size))
   have hbx2:=(hB2.block w1.heap.size (by simp)).trans HBX.out
   have hc2:w2.cell? ⟨w1.heap.size,1,none⟩=some (.string x.text):=by simp [World.cell?,hbx2]
   have hc4:w2.cell? ⟨w1.heap.size,3,none⟩=some (.int .i64 x.right):=by simp [World.cell?,hbx2]
   have HBX2:=z8 hbx2
   have HC2:=z8 (IH.out _ _ _ hT2 h3)
   clear hT2 hB2 hbx2
   go_wp2_with fail
   refine HC2.out.mono ?_
   rintro e w3 ⟨rfl,hB3⟩
   have hB3':=z8 (hB2'.out.trans (hB3.mono hB2'.out.size))
   have hlt:w1.heap.size<w2.heap.size:=(Array.getElem?_eq_some_iff.1 HBX2.out).1
   have hbx3:=(hB3.block w1.heap.size hlt).trans HBX2.out
   have hc3:w3.cell? ⟨w1.heap.size,1,none⟩=some (.string x.text):=by simp [World.cell?,hbx3]
   clear hB3 hbx3
   go_wp2_with fail
   refine(z2b t1 x.text t2 w3 hs1 (by omega) hs2).mono ?_
   rintro e w4 ⟨rfl,hB4⟩
   have hB4':=z8 (hB3'.out.trans (hB4.mono hB3'.out.size))
   clear hB4
   go_wp2_with fail
   go_ret
   exact⟨rfl,hB4'.out⟩
  ·subst h8
   go_enter Tryz.func86,Tryz.ntmps86
   go_wp2_with fail
   refine HE.out.mono ?_
   rintro e w1 ⟨a,k,base,rfl,how,hB⟩
   have how1:=zc how (w':=w1.alloc (.cells #[.int .i64 x.form,.string x.text,.int .i64 x.left,.int .i64 x.right,.int .i64 x.place,.int .i64 x.count,.slice a x.items.length k] 160)) fun q e=>((hB.alloc hB.size (.cells #[.int .i64 x.form,.string x.text,.int .i64 x.left,.int .i64 x.right,.int .i64 x.place,.int .i64 x.count,.slice a x.items.length k] 160)).block q (how.lt q e).2)
   have hB1:=z8 (hB.alloc hB.size (.cells #[.int .i64 x.form,.string x.text,.int .i64 x.left,.int .i64 x.right,.int .i64 x.place,.int .i64 x.count,.slice a x.items.length k] 160))
   have hT1:=HT.out.keep (hB.alloc hB.size (.cells #[.int .i64 x.form,.string x.text,.int .i64 x.left,.int .i64 x.right,.int .i64 x.place,.int .i64 x.count,.slice a x.items.length k] 160))
   rw [h1] at hB1 hT1 how1 ⊢
   have HC:=z8 (z4S b st V iv cv f IH.out x.items ts a k base _ hT1 how1 h5 h6 h7)
   have hbx:=heap_alloc_new w1 (.cells #[.int .i64 2,.string x.text,.int .i64 x.left,.int .i64 x.right,.int .i64 x.place,.int .i64 x.count,.slice a x.items.length k] 160)
   have HBX:=z8 hbx
   clear hT1 hB hbx how how1
   go_wp2_with fail
   refine HC.out.mono ?_
   rintro e w2 ⟨rfl,hB2⟩
   have hB2':=z8 (hB1.out.trans (hB2.mono hB1.out.size))
   have hbx2:=(hB2.block w1.heap.size (by simp)).trans HBX.out
   have hc2:w2.cell? ⟨w1.heap.size,5,none⟩=some (.int .i64 x.count):=by simp [World.cell?,hbx2]
   clear hB2 hbx2
   have HI:=z8 (z7n c w2 h3 h4)
   rw [h2] at HI
   go_wp2_with fail
   refine HI.out.mono ?_
   rintro e w3 ⟨rfl,rfl⟩
   go_wp2_with fail
   go_ret
   exact⟨rfl,hB2'.out⟩
def zfc (E:List Ex)(sub:Int→zgS→Prop)(f:Nat)(c:Cl)(t:zgS):Prop:=
 t.size≤1000000000∧ ∃t1,PrE E f c.test t1∧(
  (c.form=0∧t=t1)∨
  (c.form=1∧c.result.size≤600∧t=(t1++(⟨#[32,45,62,32]⟩:zgS))++c.result)∨
  (c.form=2∧ ∃t2,sub c.inner t2∧t2.size≤1000000000∧t=((t1++(⟨#[32,45,62,32,123]⟩:zgS))++t2)++⟨#[125]⟩))
def PrC (E:List Ex)(C:List (List Cl)):Nat→Int→zgS→Prop
 |0,_,_=>False
 |f+1,i,t=>t.size≤1000000000∧ ∃(n:Nat) (cls:List Cl) (ts:List zgS),i=(n:Int)∧C[n]?=some cls∧cls.length≤100000∧All2 (fun c t=>zfc E (fun i t=>PrC E C f i t) f c t) cls ts∧t=jk ⟨#[59,32]⟩ ts ts.length
def zgc (b:Nat)(st:St)(V:Nat→Value)(iv cv:List Value)(f:Nat):Prop:= ∀(i:Int) (t:zgS) (w:World),TP w b st V iv cv→PrC st.E st.C f i t→
  Calls Tryz.prog 87 #[.pointer (some ⟨b,2,none⟩),.int .i64 i] w fun e w'=>z2W t w e w'
theorem z48 (b:Nat)(st:St)(V:Nat→Value)(iv cv:List Value)(f:Nat)(ih:zgc b st V iv cv f)(c:Cl)(t:zgS)(w:World)(hT:TP w b st V iv cv)(h:zfc st.E (fun i t=>PrC st.E st.C f i t) f c t):
  Calls Tryz.prog 131 #[.pointer (some ⟨b,2,none⟩),.agg #[.int .i64 c.test,.int .i64 c.form,.string c.result,.int .i64 c.inner]] w fun e w'=>z2W t w e w':=by
 obtain⟨hsz,t1,h1,h⟩:=h
 have hs1:=h1.sz
 have hB1:=z8 ((zgR w.heap.size w).alloc (zgH _) (.cells #[.int .i64 c.test,.int .i64 c.form,.string c.result,.int .i64 c.inner] 156))
 have hT1:=hT.keep hB1.out
 have HC:=z8 (z58 b st V iv cv f c.test t1 _ hT1 h1)
 have HT1:=z8 hT1
 have IH:=z8 ih
 have hbx:=heap_alloc_new w (.cells #[.int .i64 c.test,.int .i64 c.form,.string c.result,.int .i64 c.inner] 156)
 have HBX:=z8 hbx
 clear hT1 hbx ih h1 hT
 go_enter Tryz.func131,Tryz.ntmps131
 go_wp2_with fail
 refine HC.out.mono ?_
 rintro e w2 ⟨rfl,hB2⟩
 have hT2:=HT1.out.keep hB2
 have hB2':=z8 (hB1.out.trans (hB2.mono hB1.out.size))
 have hbx2:=(hB2.block w.heap.size (by simp)).trans HBX.out
 have hc1:w2.cell? ⟨w.heap.size,1,none⟩=some (.int .i64 c.form):=by simp [World.cell?,hbx2]
 have hc2:w2.cell? ⟨w.heap.size,2,none⟩=some (.string c.result):=by simp [World.cell?,hbx2]
 have hc3:w2.cell? ⟨w.heap.size,3,none⟩=some (.int .i64 c.inner):=by simp [World.cell?,hbx2]
 have HT2:=z8 hT2
 clear hB2 hbx2 hT2
 rcases h with⟨h1,h2⟩|⟨h1,h2,h3⟩|⟨h1,t2,h2,h3,h4⟩
 ·subst h2
  rw [h1] at hc1
  go_wp2_with fail
  go_ret
  exact⟨rfl,hB2'.out⟩
 ·subst h3
  rw [h1] at hc1
  go_wp2_with fail
  go_ret
  exact⟨rfl,hB2'.out⟩
 ·subst h4
  rw [h1] at hc1
  have HC2:=z8 (IH.out _ _ _ HT2.out h2)
  go_wp2_with fail
  refine HC2.out.mono ?_
  rintro e w3 ⟨rfl,hB3⟩
  have hB3':=z8 (hB2'.out.trans (hB3.mono hB2'.out.size))
  clear hB3
  go_wp2_with fail
  go_ret
  exact⟨rfl,hB3'.out⟩
theorem z4e (b:Nat)(st:St)(V:Nat→Value)(iv cv:List Value): ∀(f:Nat),zgc b st V iv cv f:=by
 intro f
 induction f with
 |zero=>intro i t w _ h;exact absurd h id
 |succ f ih=>
  intro i t w hT ⟨hsz,n,cls,ts,hi,hx,hlen,hall,ht⟩
  subst hi ht
  have HE:=z8 (z6o b st V iv cv n cls w hT hx)
  have HT:=z8 hT
  have IH:=z8 ih
  have HA:=z8 hall
  have hl2:=z8 hall.len
  have hmono: ∀i,i≤cls.length→(jk ⟨#[59,32]⟩ ts i).size≤1000000000:=fun i hi=>zgP (zaa _ _ (by have:=hl2.out;omega)) hsz
  have HM:=z8 hmono
  clear ih hT hx hall hmono hsz
  go_enter Tryz.func87,Tryz.ntmps87
  go_wp2_with fail
  refine HE.out.mono ?_
  rintro e w1 ⟨a,k,base,rfl,how,hB⟩
  have HW:=z8 how
  have HB1:=z8 hB
  clear how hB
  have hfd: ∀w:World,(Instr.field 133 (.agg #[.slice a cls.length k]) 0).run Tryz.prog w= .ok (.slice a cls.length k) w:=fun _=>by kernel_rfl
  go_wp2_with fail
  go_loopg [6,7] (cls.length+1) (fun n ov nv wr=> ∃i:Nat,n+i=cls.length+1∧i≤cls.length∧ov= .string (jk ⟨#[59,32]⟩ ts i)∧nv= .int .i64 i∧Below w.heap.size w wr)
  case atStart=>exact⟨0,rfl,zgO _,rfl,rfl,HB1.out⟩
  case round=>
   obtain⟨i,hk,hiE,rfl,rfl,hbel⟩:=hrel
   have hHK:=z8 hk
   clear hk hfd
   by_cases hlt:i<cls.length
   ·obtain⟨g,cap,hv,hb,hg⟩:=HW.out.form (by omega)
    injection hv with e1 e2 e3
    subst e1 e3
    obtain⟨x,hx⟩: ∃x,cls[i]?=some x:=⟨cls[i],zgE hlt⟩
    have hcell: ∀j u,x.cells[j]?=some u→j<4→wr.cell? ⟨g,i*4+j,none⟩=some u:=fun j u hu hj=>by
     rw [hbel.cell (p:=⟨g,i*4+j,none⟩) hg]
     exact zl HW.out _ _ ((zS Cl.cells 4 (fun _=>rfl) cls i j x hx hj).trans hu)
    have q0:wr.cell? ⟨g,i*4,none⟩=some (.int .i64 x.test):=hcell 0 _ rfl (by omega)
    have q1:=hcell 1 _ rfl (by omega)
    have q2:=hcell 2 _ rfl (by omega)
    have q3:=hcell 3 _ rfl (by omega)
    have hlt':(i:Int)<cls.length:=by omega
    have hP:=HA.out.get i x hx
    have hs1:=hP.1
    have hs0:=HM.out i hiE
    have HC:=z8 (z48 b st V iv cv f IH.out x _ _ (HT.out.keep hbel) hP)
    have HB:=z8 hbel
    have hj:=z8 (show jk ⟨#[59,32]⟩ ts (i+1)=(if i=0 then jk ⟨#[59,32]⟩ ts i else jk ⟨#[59,32]⟩ ts i++⟨#[59,32]⟩)++ts.getD i ⟨#[]⟩ from rfl)
    clear hP hbel hx hcell
    generalize ts.getD i ⟨#[]⟩=u at*
    by_cases hi0:i=0
    ·have hj':=z8 (hj.out.trans (by rw [if_pos hi0]))
     subst hi0
     simp only [Nat.zero_mul,Nat.zero_add] at q0 q1 q2 q3
     generalize jk ⟨#[59,32]⟩ ts 0=p at*
     go_wp2_with fail
     refine HC.out.mono ?_
     rintro e w2 ⟨rfl,hB2⟩
     have hB3:=z8 (HB.out.trans (hB2.mono HB.out.size))
     clear hB2
     go_wp2_with fail
     go_roundg cls.length
     case measure=>have:=hHK.out;omega
     case rel=>exact⟨0+1,by have:=hHK.out;omega,by omega,by rw [hj'.out],by go_num,hB3.out⟩
    ·have hj':=z8 (hj.out.trans (by rw [if_neg hi0]))
     generalize jk ⟨#[59,32]⟩ ts i=p at*
     have hi0':(0:Int)<(i:Int):=by omega
     go_wp2_with fail
     refine HC.out.mono ?_
     rintro e w2 ⟨rfl,hB2⟩
     have hB3:=z8 (HB.out.trans (hB2.mono HB.out.size))
     clear hB2
     go_wp2_with fail
     go_roundg (cls.length - i)
     case measure=>have:=hHK.out;omega
     case rel=>exact⟨i+1,by have:=hHK.out;omega,by omega,by rw [hj'.out],by go_num,hB3.out⟩
   ·have hz:Hid (i=ts.length):=z8 (by have:=hl2.out;omega)
    go_wp2_with fail
    go_ret
    exact⟨by rw [hz.out];rfl,hbel⟩
theorem PrC.sz {E:List Ex}{C:List (List Cl)}{f:Nat}{i:Int}{t:zgS}(h:PrC E C f i t):t.size≤1000000000:=by
 cases f with
 |zero=>exact absurd h id
 |succ f=>exact h.1
def z7q (b t1 t2:zgS):zgS:=((((((⟨#[98,121,32]⟩:zgS)++b)++⟨#[10,116,111,32]⟩)++t1)++⟨#[10,105,102,32]⟩)++t2)++⟨#[10]⟩
def PrA (st:St)(f:Nat)(x:As)(t:zgS):Prop:=x.by_.size≤600∧ ∃t1 t2,PrL st.L f x.to_ t1∧PrC st.E st.C f x.conds t2∧t=z7q x.by_ t1 t2
def cat (ts:List zgS):Nat→zgS
 |0=>⟨#[]⟩
 |k+1=>cat ts k++ts.getD k ⟨#[]⟩
def PrS (st:St)(t:zgS):Prop:= ∃f ts,All2 (fun x t=>PrA st f x t) st.A ts∧t=cat ts ts.length
theorem z5R (b:Nat)(st:St)(V:Nat→Value)(iv cv:List Value)(t:zgS)(w:World)(hT:TP w b st V iv cv)(h:PrS st t):
  Calls Tryz.prog 46 #[.pointer (some ⟨b,2,none⟩)] w fun e w'=>z2W t w e w':=by
 obtain⟨f,ts,hall,ht⟩:=h
 subst ht
 have hc:=hT.c3
 have hblt:=zd hc
 have hel:=hT.al
 obtain⟨base,htv⟩:=hT.t
 have how:=htv.own 3 (by omega) (by omega)
 obtain⟨a5,k5,e5⟩: ∃a k,V 3= .slice a st.A.length k:=za how
 have how:w.ownsRow base 84 3 (.slice a5 st.A.length k5) st.A.length ((st.A.map As.cells).flatten):=e5▸how
 rw [e5] at hc
 have HW:=z8 how
 have HT:=z8 hT
 have HA:=z8 hall
 have hl2:=z8 hall.len
 have hc0:=z8 hc
 clear how hT hall htv e5 hc
 go_enter Tryz.func46,Tryz.ntmps46
 go_wp2_with fail
 go_loopg [3,4] (st.A.length+1) (fun n ov nv wr=> ∃i:Nat,n+i=st.A.length+1∧i≤st.A.length∧ov= .string (cat ts i)∧(cat ts i).size≤i*2100000000∧nv= .int .i64 i∧Below w.heap.size w wr)
 case atStart=>exact⟨0,rfl,zgO _,rfl,zgO _,rfl,zgR _ _⟩
 case round=>
  obtain⟨i,hk,hiE,rfl,hs0,rfl,hbel⟩:=hrel
  have hHK:=z8 hk
  clear hk
  have hc:wr.cell? ⟨b,2,none⟩=some (.slice a5 st.A.length k5):=(hbel.cell (p:=⟨b,2,none⟩) hblt).trans hc0.out
  have hblt2:b<wr.heap.size:=zd hc
  by_cases hlt:i<st.A.length
  ·obtain⟨g,cap,hv,hb,hg⟩:=HW.out.form (by omega)
   injection hv with e1 e2 e3
   subst e1 e3
   obtain⟨x,hx⟩: ∃x,st.A[i]?=some x:=⟨st.A[i],zgE hlt⟩
   have hcell: ∀j u,x.cells[j]?=some u→j<3→wr.cell? ⟨g,i*3+j,none⟩=some u:=fun j u hu hj=>by
    rw [hbel.cell (p:=⟨g,i*3+j,none⟩) hg]
    exact zl HW.out _ _ ((zS As.cells 3 (fun _=>rfl) st.A i j x hx hj).trans hu)
   have q0:wr.cell? ⟨g,i*3,none⟩=some (.string x.by_):=hcell 0 _ rfl (by omega)
   have q1:=hcell 1 _ rfl (by omega)
   have q2:=hcell 2 _ rfl (by omega)
   have hlt':(i:Int)<st.A.length:=by omega
   obtain⟨hby,t1,t2,hP1,hP2,hpc⟩:=HA.out.get i x hx
   have hs1:=hP1.sz
   have hs2:=hP2.sz
   have hj:=z8 (show cat ts (i+1)=cat ts i++z7q x.by_ t1 t2 from by show cat ts i++ts.getD i ⟨#[]⟩=_;rw [hpc])
   have hB1:=z8 (hbel.alloc hbel.size (.cells #[.string x.by_,.int .i64 x.to_,.int .i64 x.conds] 84))
   have HT1:=z8 (HT.out.keep hB1.out)
   have HC:=z8 (z5Y b st V iv cv f x.to_ t1 _ HT1.out hP1)
   have HBX:=z8 (heap_alloc_new wr (.cells #[.string x.by_,.int .i64 x.to_,.int .i64 x.conds] 84))
   clear hbel hx hcell hpc
   generalize cat ts i=p at*
   go_wp2_with fail
   refine HC.out.mono ?_
   rintro e w2 ⟨rfl,hB2⟩
   have HT2:=z8 (HT1.out.keep hB2)
   have hB2':=z8 (hB1.out.trans (hB2.mono hB1.out.size))
   have hbx2:=(hB2.block wr.heap.size (by simp)).trans HBX.out
   have hc2:w2.cell? ⟨wr.heap.size,2,none⟩=some (.int .i64 x.conds):=by simp [World.cell?,hbx2]
   have HBX2:=z8 hbx2
   clear hB2 hbx2 q0 q1 q2 hc
   have HC2:=z8 (z4e b st V iv cv f x.conds t2 _ HT2.out hP2)
   go_wp2_with fail
   refine HC2.out.mono ?_
   rintro e w3 ⟨rfl,hB3⟩
   have hB3':=z8 (hB2'.out.trans (hB3.mono hB2'.out.size))
   have hlt2:wr.heap.size<w2.heap.size:=(Array.getElem?_eq_some_iff.1 HBX2.out).1
   have hbx3:=(hB3.block wr.heap.size hlt2).trans HBX2.out
   have hc3:w3.cell? ⟨wr.heap.size,0,none⟩=some (.string x.by_):=by simp [World.cell?,hbx3]
   clear hB3 hbx3
   go_wp2_with fail
   go_roundg (st.A.length - i)
   case measure=>have:=hHK.out;omega
   case rel=>exact⟨i+1,by have:=hHK.out;omega,by omega,by rw [hj.out];rfl,by rw [hj.out];unfold z7q;simp only [ByteArray.size_append];have e1:ByteArray.size ⟨#[98,121,32]⟩=3:=rfl;have e2:ByteArray.size ⟨#[10,116,111,32]⟩=4:=rfl;have e3:ByteArray.size ⟨#[10,105,102,32]⟩=4:=rfl;have e4:ByteArray.size ⟨#[10]⟩=1:=rfl;omega,by go_num,hB3'.out⟩
  ·have hz:Hid (i=ts.length):=z8 (by have:=hl2.out;omega)
   go_wp2_with fail
   go_ret
   exact⟨by rw [hz.out];rfl,hbel⟩
def z3J (t:zgS)(k:Int)(w:World)(e:Ending)(w':World):Prop:=e= .returned (.tuple #[.string t,.int .i64 k])∧Below w.heap.size w w'
theorem z7Y (s:zgS)(st:St)(w:World)(h:Calls Tryz.prog 45 #[.string s] w fun e w'=>z2t s w st e w')(hn:(ckM s st).1≠0):
  Calls Tryz.prog 22 #[.string s] w fun e w'=>z3J ⟨#[]⟩ (ckM s st).1 w e w':=by
 have H:=z8 h
 clear h
 go_enter Tryz.func22,Tryz.ntmps22
 go_wp2_with fail
 refine H.out.mono ?_
 rintro e w1 ⟨a,b,c,d,V,iv,cv,rfl,hB,⟨a1,n1,k1,rfl⟩,⟨a2,n2,k2,rfl⟩,⟨a3,n3,k3,rfl⟩,⟨a4,n4,k4,rfl⟩,_⟩
 have HB:=z8 (hB.alloc hB.size (.cells #[.int .i64 (ckM s st).1,.int .i64 (ckM s st).2,.slice a1 n1 k1,.slice a2 n2 k2,.slice a3 n3 k3,.slice a4 n4 k4] 78))
 clear hB
 go_wp2_with fail
 go_quiet (fail)
 go_wp2_with fail
 go_ret2
 exact⟨by simp,⟨HB.out.os,HB.out.tape,HB.out.output,HB.out.size,HB.out.block⟩⟩
theorem z47 (s:zgS)(st:St)(t:zgS)(w:World)(h:Calls Tryz.prog 45 #[.string s] w fun e w'=>z2t s w st e w')(hn:(ckM s st).1=0)(hp:PrS st t)
  (hE:st.E.length≤100000) (hL:st.L.length≤100000) (hC:st.C.length≤100000) (hA:st.A.length≤100000):
  Calls Tryz.prog 22 #[.string s] w fun e w'=>z3J t 0 w e w':=by
 have H:=z8 h
 clear h
 go_enter Tryz.func22,Tryz.ntmps22
 go_wp2_with fail
 refine H.out.mono ?_
 rintro e w1 ⟨a,b,c,d,V,iv,cv,rfl,hB,⟨a1,n1,k1,ha⟩,⟨a2,n2,k2,hb⟩,⟨a3,n3,k3,hc⟩,⟨a4,n4,k4,hd⟩,htr⟩
 obtain⟨e3,e4,e5,e6,hT⟩:=htr hn
 rw [hn]
 rw [ha] at e3;rw [hb] at e4;rw [hc] at e5;rw [hd] at e6
 subst ha hb hc hd
 have HB:=z8 (hB.alloc hB.size (.cells #[.int .i64 0,.int .i64 (ckM s st).2,.slice a1 n1 k1,.slice a2 n2 k2,.slice a3 n3 k3,.slice a4 n4 k4] 78))
 have hbx:=heap_alloc_new w1 (.cells #[.int .i64 0,.int .i64 (ckM s st).2,.slice a1 n1 k1,.slice a2 n2 k2,.slice a3 n3 k3,.slice a4 n4 k4] 78)
 obtain⟨z0,z1,z2,z3,z4,z5,_⟩:=zbZ hbx
 have hTP:TP (w1.alloc (.cells #[.int .i64 0,.int .i64 (ckM s st).2,.slice a1 n1 k1,.slice a2 n2 k2,.slice a3 n3 k3,.slice a4 n4 k4] 78)) w1.heap.size st V iv cv:=
  ⟨z2.trans (by rw [e3]),z3.trans (by rw [e4]),z4.trans (by rw [e5]),z5.trans (by rw [e6]),⟨_,hT.same fun k _ hk=>zgJ _ _ _ hk⟩,hE,hL,hC,hA⟩
 have HC:=z8 (z5R w1.heap.size st V iv cv t _ hTP hp)
 clear hB hbx z0 z1 z2 z3 z4 z5 hTP hT e3 e4 e5 e6 hn htr
 go_wp2_with fail
 refine HC.out.mono ?_
 rintro e w2 ⟨rfl,hB2⟩
 have hB2':=z8 (HB.out.trans (hB2.mono HB.out.size))
 clear hB2
 go_wp2_with fail
 go_ret2
 exact⟨by simp,hB2'.out⟩
def zG (c:Int):Bool:=(c != -1)&&(c !=59)&&(c !=34)
def z29 (s:zgS)(a:Nat)(d:Bool):Bool:=d||decide (a<s.size)
theorem z2X (b a:Nat)(s:zgS)(d:Bool)(w:World)(h:Rd w b s a d):
  Calls Tryz.prog 74 #[.pointer (some ⟨b,0,none⟩)] w fun e w'=>e= .returned (.tuple #[])∧Rd w' b s a (z29 s a d)∧Sc b w w':=by
 have h':=h
 obtain⟨h0,h1,h2,f1,f2,ha,hs⟩:=h
 by_cases hlt:a<s.size
 ·have hlt':(a:Int)<s.size:=by omega
  have he:Hid (z29 s a d=true):=z8 (by simp [z29,hlt])
  go_enter Tryz.func74,Tryz.ntmps74
  go_wp2_with fail
  go_quiet (fail)
  go_wp2_with (go_at_call 81;refine(z0p b a s d _ (by exact h'.drewN _)).mono ?_;rintro e w1 ⟨rfl,hr1,hs1⟩)
  go_end0
  exact⟨rfl,by rw [he.out];exact hr1,((Sc.refl _ _).drewN _).trans hs1⟩
 ·have hlt': ¬(a:Int)<s.size:=by omega
  have he:Hid (z29 s a d=d):=z8 (by simp [z29,hlt])
  go_enter Tryz.func74,Tryz.ntmps74
  go_wp2_with fail
  go_quiet (fail)
  go_wp2_with fail
  go_end0
  exact⟨rfl,by rw [he.out];exact h'.drewN _,(Sc.refl _ _).drewN _⟩
theorem z1U (b a:Nat)(s:zgS)(d:Bool)(w:World)(h:Rd w b s a d):
  Calls Tryz.prog 119 #[.pointer (some ⟨b,0,none⟩)] w fun e w'=>e= .returned (.bool (zG (pk s a d)))∧ ∃n,w'=w.drewN n:=by
 have hr:=z3o s a d
 generalize hp:pk s a d=c at*
 have hP:=zn b a s d w h
 rw [hp] at hP
 have HP:=z8 hP
 clear hP hp
 cases h1:(c != -1)
 all_goals cases h2:(c !=59)
 all_goals cases h3:(c !=34)
 all_goals
  go_enter Tryz.func119,Tryz.ntmps119
  go_wp2_with (go_at_call 78;refine HP.out.mono ?_;rintro e w1 ⟨rfl,n,rfl⟩)
  go_ret
  exact⟨by simp [zG,h1,h2,h3],_,rfl⟩
def jh (s:zgS)(a:Nat)(d:Bool):Nat×Bool×zgS×zgS:=
 let v:=zi s a d
 let u:=zt s v.2.1 [61] v.1
 let r:=run zG s u.2 20 u.1
 (r,u.2,v.2.2,s.extract u.1 r)
theorem Rd.alloc {w:World}{b:Nat}{s:zgS}{a:Nat}{d:Bool}(h:Rd w b s a d)(o:Obj):Rd (w.alloc o) b s a d:=h.other (zgJ _ _ _ (zd h.c0))
theorem z2e (b a:Nat)(s:zgS)(d:Bool)(w:World)(h:Rd w b s a d):
  Calls Tryz.prog 77 #[.pointer (some ⟨b,0,none⟩)] w fun e w'=>e= .returned (.agg #[.string (jh s a d).2.2.1,.string (jh s a d).2.2.2])∧Rd w' b s (jh s a d).1 (jh s a d).2.1∧Rf b w w':=by
 have hle:=h.le
 have hsz:=h.sz
 unfold jh
 have HN:=z8 (z1l b a s d _ (h.alloc (.cells #[.string ⟨#[]⟩,.string ⟨#[]⟩] 123)))
 have hblt:=zd h.c0
 have HG0:=z8 (heap_alloc_new w (.cells #[.string ⟨#[]⟩,.string ⟨#[]⟩] 123))
 have HR0:=z8 ((Rf.refl b w).alloc (.cells #[.string ⟨#[]⟩,.string ⟨#[]⟩] 123))
 generalize zi s a d=v at*
 obtain⟨an,dn,nm⟩:=v
 simp only at*
 have HW:=z8 (fun w1 hr=>jW b an s ⟨#[61]⟩ dn w1 hr (by decide))
 rw [show(ByteArray.mk #[61]).data.toList=[61] from rfl] at HW
 generalize zt s dn [61] an=v at*
 obtain⟨av,dv⟩:=v
 simp only at*
 go_enter Tryz.func77,Tryz.ntmps77
 go_wp2_with fail
 refine HN.out.mono ?_
 rintro e w1 ⟨rfl,hr1,hs1⟩
 go_wp2_with fail
 refine(HW.out w1 hr1).mono ?_
 rintro e w2 ⟨rfl,hr2,hs2⟩
 have hr2:Rd w2 b s av dv:=hr2
 have hg2:=(hs2.block w.heap.size (by omega)).trans ((hs1.block w.heap.size (by omega)).trans HG0.out)
 have hs2:=(HR0.out.trans hs1.rf).trans hs2.rf
 have HG2:=z8 hg2
 clear hg2
 have hav:=hr2.le
 clear hs1 hr1
 obtain⟨h0,h1,h2,f1,f2,_,_⟩:=id hr2
 go_wp2_with fail
 go_loopw [] (fun wr=> ∃k,Rd wr b s k dv∧Rf b w wr∧Hid (wr.heap[w.heap.size]?=some (.cells #[.string ⟨#[]⟩,.string ⟨#[]⟩] 123))∧av≤k∧k≤av+20∧Hid (run zG s dv (20 -(k - av)) k=run zG s dv 20 av)) (fun wr=>s.size - atOf wr b)
 case atStart=>exact⟨av,hr2,hs2,HG2,zgH _,by omega,by simp [Hid]⟩
 case round=>
  obtain⟨k,hk,hsc,hgx,hak,hk8,hsk⟩:=hrel
  have hat:=z8 hk.atOf
  have hk':=hk
  clear h0 h1 h2 f1 f2
  obtain⟨h0,h1,h2,f1,f2,ha,hs⟩:=hk
  by_cases hgo:k - av<20∧zG (pk s k dv)=true
  ·obtain⟨h8,hb⟩:=hgo
   have h8':(k:Int)- av<20:=by omega
   have hne:pk s k dv≠ -1:=fun e=>by rw [e] at hb;exact absurd hb (by decide)
   have hlt:=(jT hne).2
   have hset:=fun n=>(hk'.drewN n).setAt' (k+1) (k+1) (by omega) hlt
   have hst:Hid (run zG s dv (20 -(k+1 - av)) (k+1)=run zG s dv 20 av):=z8 (by
    rw [←hsk.out,show 20 -(k - av)=(20 -(k+1 - av))+1 by omega,z1q hb])
   clear hne
   go_wp2_with (go_at_call 119;refine(z1U _ _ _ _ _ hk').mono ?_;rintro e w2 ⟨rfl,n,rfl⟩)
   have hset:=hset n
   go_roundw
   case rel=>exact⟨k+1,hset,hsc.trans (((Sc.refl b _).drewN n).setCell 1 (Or.inl rfl) _).rf,z8 (((((Sc.refl b _).drewN n).setCell 1 (Or.inl rfl) _).block _ (by omega)).trans hgx.out),by omega,by omega,hst⟩
   case measure=>rw [hset.atOf,hat.out];omega
  ·have hrun:Hid (run zG s dv 20 av=k):=by
    by_cases h8:k - av<20
    ·refine z8 ?_
     rw [←hsk.out]
     exact ju (by cases hc:zG (pk s k dv) with|false=>rfl|true=>exact absurd ⟨h8,hc⟩ hgo)
    ·exact z8 (by rw [←hsk.out,show 20 -(k - av)=0 by omega];rfl)
   have hor:k - av<20∧zG (pk s k dv)=false∨ ¬k - av<20:=by
    by_cases h8:k - av<20
    ·exact .inl ⟨h8,by cases hc:zG (pk s k dv) with|false=>rfl|true=>exact absurd ⟨h8,hc⟩ hgo⟩
    ·exact .inr h8
   clear hgo hsk hat hk8
   rcases hor with⟨h8,hb⟩|h8
   ·have h8':(k:Int)- av<20:=by omega
    go_wp2_with (go_at_call 119;refine(z1U _ _ _ _ _ hk').mono ?_;rintro e w2 ⟨rfl,n,rfl⟩)
    have q0:wr.cell? ⟨w.heap.size,0,none⟩=some (.string ⟨#[]⟩):=by simp [World.cell?,hgx.out]
    have q1:wr.cell? ⟨w.heap.size,1,none⟩=some (.string ⟨#[]⟩):=by simp [World.cell?,hgx.out]
    have q2:wr.frozen? ⟨w.heap.size,0,none⟩=false:=by simp [World.frozen?,hgx.out]
    have q3:wr.frozen? ⟨w.heap.size,1,none⟩=false:=by simp [World.frozen?,hgx.out]
    go_region
    go_wp2_with fail
    have r0: ∀(W:World),W.cell? ⟨w.heap.size,0,none⟩=some (.string ⟨#[]⟩)→(W.setCell ⟨w.heap.size,0,none⟩ (.string nm)).cell? ⟨w.heap.size,0,none⟩=some (.string nm):=fun W q=>World.cell?_setCell_same _ _ _ q
    have r1: ∀(W:World) (v:Value),W.cell? ⟨w.heap.size,1,none⟩=some (.string ⟨#[]⟩)→((W.setCell ⟨w.heap.size,0,none⟩ (.string nm)).setCell ⟨w.heap.size,1,none⟩ v).cell? ⟨w.heap.size,1,none⟩=some v:=fun W v q=>World.cell?_setCell_same _ _ _ ((zX _ _ _ _ _ (by omega)).trans q)
    have r2:=r0 wr q0
    have r3:=fun n=>r0 (wr.drewN n) q0
    have r4:=fun v=>r1 wr v q1
    have r5:=fun n v=>r1 (wr.drewN n) v q1
    refine bodyPost_ret (v:= .agg #[.string nm,.string (s.extract av k)]) (by simp [results,Tryz.results77,go_sem,r2,r3,r4,r5]) rfl ?_
    have hx: ∀(W:World),Rd W b s k dv→Rf b w W→Rd ((W.setCell ⟨w.heap.size,0,none⟩ (.string nm)).setCell ⟨w.heap.size,1,none⟩ (.string (s.extract av k))) b s k dv∧Rf b w ((W.setCell ⟨w.heap.size,0,none⟩ (.string nm)).setCell ⟨w.heap.size,1,none⟩ (.string (s.extract av k))):=fun W q1 q2=>⟨(q1.other (zgQ _ _ _ _ (by simp;omega))).other (zgQ _ _ _ _ (by simp;omega)),(q2.setCell (zgH _) _).setCell (zgH _) _⟩
    exact⟨by rw [hrun.out],by rw [hrun.out];exact(hx _ (hk'.drewN _) (hsc.drewN _)).1,(hx _ (hk'.drewN _) (hsc.drewN _)).2⟩
   ·have h8': ¬(k:Int)- av<20:=by omega
    go_wp2_with (go_at_call 119;refine(z1U _ _ _ _ _ hk').mono ?_;rintro e w2 ⟨rfl,n,rfl⟩)
    have q0:wr.cell? ⟨w.heap.size,0,none⟩=some (.string ⟨#[]⟩):=by simp [World.cell?,hgx.out]
    have q1:wr.cell? ⟨w.heap.size,1,none⟩=some (.string ⟨#[]⟩):=by simp [World.cell?,hgx.out]
    have q2:wr.frozen? ⟨w.heap.size,0,none⟩=false:=by simp [World.frozen?,hgx.out]
    have q3:wr.frozen? ⟨w.heap.size,1,none⟩=false:=by simp [World.frozen?,hgx.out]
    go_region
    go_wp2_with fail
    have r0: ∀(W:World),W.cell? ⟨w.heap.size,0,none⟩=some (.string ⟨#[]⟩)→(W.setCell ⟨w.heap.size,0,none⟩ (.string nm)).cell? ⟨w.heap.size,0,none⟩=some (.string nm):=fun W q=>World.cell?_setCell_same _ _ _ q
    have r1: ∀(W:World) (v:Value),W.cell? ⟨w.heap.size,1,none⟩=some (.string ⟨#[]⟩)→((W.setCell ⟨w.heap.size,0,none⟩ (.string nm)).setCell ⟨w.heap.size,1,none⟩ v).cell? ⟨w.heap.size,1,none⟩=some v:=fun W v q=>World.cell?_setCell_same _ _ _ ((zX _ _ _ _ _ (by omega)).trans q)
    have r2:=r0 wr q0
    have r3:=fun n=>r0 (wr.drewN n) q0
    have r4:=fun v=>r1 wr v q1
    have r5:=fun n v=>r1 (wr.drewN n) v q1
    refine bodyPost_ret (v:= .agg #[.string nm,.string (s.extract av k)]) (by simp [results,Tryz.results77,go_sem,r2,r3,r4,r5]) rfl ?_
    have hx: ∀(W:World),Rd W b s k dv→Rf b w W→Rd ((W.setCell ⟨w.heap.size,0,none⟩ (.string nm)).setCell ⟨w.heap.size,1,none⟩ (.string (s.extract av k))) b s k dv∧Rf b w ((W.setCell ⟨w.heap.size,0,none⟩ (.string nm)).setCell ⟨w.heap.size,1,none⟩ (.string (s.extract av k))):=fun W q1 q2=>⟨(q1.other (zgQ _ _ _ _ (by simp;omega))).other (zgQ _ _ _ _ (by simp;omega)),(q2.setCell (zgH _) _).setCell (zgH _) _⟩
    exact⟨by rw [hrun.out],by rw [hrun.out];exact(hx _ hk' hsc).1.drewN 1,(hx _ hk' hsc).2.drewN 1⟩
def zA (x:zgS×zgS):List Value:=[.string x.1,.string x.2]
theorem z0z (x:zgS×zgS):(zA x).length=2:=rfl
def zq (nm:zgS):List (zgS×zgS)→Nat→Int
 |[],_=> -1
 |x::xs,i=>if x.1.toList==nm.toList then(i:Int) else zq nm xs (i+1)
def z4G (nm:zgS):List (zgS×zgS)→zgS
 |[]=>⟨#[]⟩
 |x::xs=>if x.1.toList==nm.toList then x.2 else z4G nm xs
theorem z2p (base:Nat)(l:List (zgS×zgS))(v:Value)(nm:zgS)(w:World)(h:w.ownsRow base 123 2 v l.length ((l.map zA).flatten))(hlen:l.length≤100000):
  Calls Tryz.prog 80 #[v,.string nm] w fun e w'=>e= .returned (.int .i64 (zq nm l 0))∧w'=w:=by
 obtain⟨a0,c0,rfl⟩:=za h
 have HW:=z8 h
 clear h
 go_enter Tryz.func80,Tryz.ntmps80
 go_wp2_with fail
 go_loopg [5] (l.length+1) (fun k iv wr=> ∃(i:Nat),k+i=l.length+1∧i≤l.length∧iv= .int .i64 i∧wr=w∧Hid (zq nm (l.drop i) i=zq nm l 0))
 case atStart=>exact⟨0,rfl,zgO _,rfl,rfl,rfl⟩
 case round=>
  obtain⟨i,hk,hiE,rfl,rfl,hfin⟩:=hrel
  have hHK:=z8 hk
  clear hk
  by_cases hlt:i<l.length
  ·obtain⟨g,cap,hv,hb,hg⟩:=HW.out.form (by omega)
   injection hv with e1 e2 e3
   subst e1 e3
   obtain⟨x,hx⟩: ∃x,l[i]?=some x:=⟨l[i],zgE hlt⟩
   have q0:wr.cell? ⟨g,i*2,none⟩=some (.string x.1):=zl HW.out _ _ (zS zA 2 z0z l i 0 x hx (by omega))
   have hlt':(i:Int)<l.length:=by omega
   have hst:Hid (zq nm (l.drop i) i=if x.1.toList==nm.toList then(i:Int) else zq nm (l.drop (i+1)) (i+1)):=z8 (by
    obtain⟨hl,hx'⟩:=zgF.1 hx
    rw [zgL hl,hx']
    rfl)
   cases hq:(x.1.toList==nm.toList)
   ·go_wp2_with fail
    have hk:=hHK.out
    go_roundg (l.length - i)
    case measure=>omega
    case rel=>exact⟨i+1,by omega,by omega,by go_num,rfl,z8 (by rw [←hfin.out,hst.out,hq];rfl)⟩
   ·go_wp2_with fail
    go_ret
    exact⟨by rw [←hfin.out,hst.out,hq];simp,rfl⟩
  ·have hlt': ¬(i:Int)<l.length:=by omega
   go_wp2_with fail
   go_ret
   exact⟨by rw [←hfin.out,zgK (by omega)];simp [zq],rfl⟩
theorem z4i (nm:zgS): ∀(l:List (zgS×zgS)) (i:Nat),(zq nm l i= -1∧z4G nm l=⟨#[]⟩∧ ∀x∈l,(x.1.toList==nm.toList)=false)∨ ∃(j:Nat) (x:zgS×zgS),zq nm l i=((i+j:Nat):Int)∧l[j]?=some x∧z4G nm l=x.2:=by
 intro l
 induction l with
 |nil=>intro i;exact .inl ⟨rfl,rfl,fun x h=>by cases h⟩
 |cons y ys ih=>
  intro i
  cases h:(y.1.toList==nm.toList) with
  |true=>exact .inr ⟨0,y,by simp [zq,h],rfl,by simp [z4G,h]⟩
  |false=>
   rcases ih (i+1) with⟨h1,h2,h3⟩|⟨j,x,h1,h2,h3⟩
   ·exact .inl ⟨by simp [zq,h,h1],by simp [z4G,h,h2],fun x hx=>by
     rcases List.mem_cons.1 hx with rfl|hx
     ·exact h
     ·exact h3 x hx⟩
   ·exact .inr ⟨j+1,x,by simp only [zq,h,if_false,Bool.false_eq_true];rw [h1];omega,by simpa using h2,by simp [z4G,h,h3]⟩
theorem z3B (base:Nat)(l:List (zgS×zgS))(v:Value)(nm:zgS)(w:World)(h:w.ownsRow base 123 2 v l.length ((l.map zA).flatten))(hlen:l.length≤100000):
  Calls Tryz.prog 123 #[v,.string nm] w fun e w'=>e= .returned (.string (z4G nm l))∧w'=w:=by
 have HP:=z8 (z2p base l v nm w h hlen)
 obtain⟨a0,c0,rfl⟩:=za h
 rcases z4i nm l 0 with⟨h1,h2,_⟩|⟨j,x,h1,h2,h3⟩
 ·rw [h1] at HP
  have H2:=z8 h2
  clear h1 h2
  go_enter Tryz.func123,Tryz.ntmps123
  go_wp2_with fail
  refine HP.out.mono ?_
  rintro e w1 ⟨rfl,rfl⟩
  go_wp2_with fail
  go_ret
  exact⟨by rw [H2.out];rfl,rfl⟩
 ·have hl:=(zgF.1 h2).1
  obtain⟨g,cap,hv,hb,hg⟩:=h.form (by omega)
  injection hv with e1 e2 e3
  subst e1 e3
  have q1:w.cell? ⟨g,j*2+1,none⟩=some (.string x.2):=zl h _ _ (zS zA 2 z0z l j 1 x h2 (by omega))
  rw [h1,show((0+j:Nat):Int)=(j:Int) by omega] at HP
  have H3:=z8 h3
  clear h1 h2 h3
  have hlt':(j:Int)<l.length:=by omega
  go_enter Tryz.func123,Tryz.ntmps123
  go_wp2_with fail
  refine HP.out.mono ?_
  rintro e w1 ⟨rfl,rfl⟩
  go_wp2_with fail
  go_ret
  exact⟨by rw [H3.out];rfl,rfl⟩
def paM (s:zgS):Nat→Nat→Bool→List (zgS×zgS)→Nat×Bool×List (zgS×zgS)
 |0,a,d,l=>(a,d,l)
 |n+1,a,d,l=>if pk s a d==59 then
   let v:=jh s (a+1) d
   paM s n v.1 (v.2.1||(zq v.2.2.1 l 0 != -1)) (l++[(v.2.2.1,v.2.2.2)])
  else(a,d,l)
def raM (s:zgS):List (zgS×zgS)×Bool:=
 if s.size=0 then([],false) else
 let v:=jh s 0 false
 let p:=paM s (s.size+1) v.1 v.2.1 [(v.2.2.1,v.2.2.2)]
 (p.2.2,z29 s p.1 p.2.1)
def ze2 (s:zgS)(w:World)(e:Ending)(w':World):Prop:= ∃v,e= .returned (.tuple #[v,.bool (raM s).2])∧w'.ownsRow w.heap.size 123 2 v (raM s).1.length (((raM s).1.map zA).flatten)∧Below w.heap.size w w'
theorem info123:(Tryz.prog.info? 123).map (fun i=>(i.zero,i.size,i.bytes))=some (some (.agg #[.string ⟨#[]⟩,.string ⟨#[]⟩]),2,32):=by kernel_rfl
theorem z10 {s:zgS}{d:Bool}{c:UInt8}{a:Nat}(h:pk s a d=(c.toNat:Int)):zt s d [c] a=(a+1,d):=by rw [jd h];rfl
theorem zbf {s:zgS}{a:Nat}{d:Bool}(h:a≤s.size):a≤(jh s a d).1:=by
 unfold jh
 simp only
 have h1:=z3p (p:=zk) (by decide) (m:=8) (d:=d) h
 have h2:=z0g s (zi s a d).2.1 [61] (zi s a d).1 h1.2
 have h3:=z3c zG (by decide) s (zt s (zi s a d).2.1 [61] (zi s a d).1).2 20 _ h2.2
 unfold zi at*
 omega
theorem z2m (s:zgS)(w:World)(hs:s.size≤600):
  Calls Tryz.prog 41 #[.string s] w fun e w'=>ze2 s w e w':=by
 have hmade:=World.ownsRow_made (base:=w.heap.size) (e:=123) (size:=2) w #[] 0 (zgH _) (by decide) (by simp)
 have HM:=z8 hmade
 by_cases h0:s.size=0
 ·have hs0:s=⟨#[]⟩:=by cases s;simp_all [ByteArray.size]
  subst hs0
  have hra:Hid (raM ⟨#[]⟩=([],false)):=z8 rfl
  have hB0:=z8 ((zgR w.heap.size w).alloc (zgH _) (.cells #[] 123))
  clear hmade
  go_enter Tryz.func41,Tryz.ntmps41
  go_wp2_with fail
  go_ret2
  exact⟨_,by rw [hra.out];rfl,by rw [hra.out];exact HM.out,hB0.out⟩
 ·have hs0:(s.toList==([]:List UInt8))=false:=by
   rw [zgG]
   cases hq:(s.data.toList==([]:List UInt8)) with
   |false=>rfl
   |true=>simp at hq;exact absurd (show s.size=0 by simp [ByteArray.size,hq]) h0
  clear hmade
  have hrd0:Rd ((w.alloc (.cells #[] 123)).alloc (.cells #[.string s,.int .i64 0,.bool false,.slice none 0 0,.slice none 0 0,.slice none 0 0,.slice none 0 0] 66)) (w.heap.size+1) s 0 false:=by
   have hg:=heap_alloc_new (w.alloc (.cells #[] 123)) (.cells #[.string s,.int .i64 0,.bool false,.slice none 0 0,.slice none 0 0,.slice none 0 0,.slice none 0 0] 66)
   rw [show(w.alloc (.cells #[] 123)).heap.size=w.heap.size+1 by simp] at hg
   obtain⟨q0,q1,q2,_,_,_,_,qf⟩:=z9f hg
   exact⟨q0,q1,q2,qf _,qf _,zgO _,hs⟩
  have hB0:Below w.heap.size w ((w.alloc (.cells #[] 123)).alloc (.cells #[.string s,.int .i64 0,.bool false,.slice none 0 0,.slice none 0 0,.slice none 0 0,.slice none 0 0] 66)):=((zgR w.heap.size w).alloc (zgH _) _).alloc (by simp) _
  have hM1:=HM.out.alloc (.cells #[.string s,.int .i64 0,.bool false,.slice none 0 0,.slice none 0 0,.slice none 0 0,.slice none 0 0] 66)
  have hz0:((w.alloc (.cells #[] 123)).alloc (.cells #[.string s,.int .i64 0,.bool false,.slice none 0 0,.slice none 0 0,.slice none 0 0,.slice none 0 0] 66)).heap.size=w.heap.size+2:=by simp
  have H0:=z8 (zgI hrd0 (zgI hB0 (zgI hM1 hz0)))
  clear hrd0 hB0 hM1 hz0
  go_enter Tryz.func41,Tryz.ntmps41
  go_wp2_with fail
  obtain⟨hrd0,hB0,hM1,hz0⟩:=H0.out
  clear H0
  generalize ((w.alloc (.cells #[] 123)).alloc (.cells #[.string s,.int .i64 0,.bool false,.slice none 0 0,.slice none 0 0,.slice none 0 0,.slice none 0 0] 66))=W0 at*
  refine(z2e _ _ _ _ _ hrd0).mono ?_
  rintro e w1 ⟨rfl,hr1,hs1⟩
  have hra:Hid (raM s=((paM s (s.size+1) (jh s 0 false).1 (jh s 0 false).2.1 [((jh s 0 false).2.2.1,(jh s 0 false).2.2.2)]).2.2,z29 s (paM s (s.size+1) (jh s 0 false).1 (jh s 0 false).2.1 [((jh s 0 false).2.2.1,(jh s 0 false).2.2.2)]).1 (paM s (s.size+1) (jh s 0 false).1 (jh s 0 false).2.1 [((jh s 0 false).2.2.1,(jh s 0 false).2.2.2)]).2.1)):=z8 (by unfold raM;rw [if_neg h0])
  generalize jh s 0 false=v0 at*
  obtain⟨a1,d1,nm1,vl1⟩:=v0
  simp only at*
  generalize hP0:paM s (s.size+1) a1 d1 [(nm1,vl1)]=P0 at*
  have HP0:=z8 hP0
  clear hP0
  obtain⟨i0,hi,hz0',hz1,hz2⟩:=info_parts info123
  have hBw:w.heap.size+2≤w1.heap.size:=by have:=hs1.size;omega
  have hM2:w1.ownsRow w.heap.size 123 2 (.slice (some ⟨w.heap.size,0,none⟩) 0 0) 0 []:=zc hM1 fun k e=>hs1.block k (hM1.lt k e).2 (by simp [Value.ownBlock] at e;omega)
  have hB1:Below w.heap.size w w1:=⟨hs1.os.trans hB0.os,hs1.tape.trans hB0.tape,hs1.output.trans hB0.output,by omega,fun k hk=>(hs1.block k (by omega) (by omega)).trans (hB0.block k hk)⟩
  have H1:=z8 (zgI hr1 (zgI hM2 hB1))
  clear hr1 hM2 hB1 hM1 hB0 hrd0 hs1 HM
  go_wp2_with (at_builtin;go_must (refine wpList_append_lies _ rfl (.tmp 14) (.tmp 16) 55 rfl w.heap.size 123 i0 _ 2 32 Tryz.underlying55 hi hz0' hz1 hz2 rfl (by omega) _ 0 _ rfl ((H1.out.2.1.alloc _).alloc _) ⟨w1.heap.size+1,0,none⟩ 1 1 (zA (nm1,vl1)) rfl rfl ?news ?one (by omega) ?mm ?bys ?base (w1.heap.size+2) (by simp) ?rest))
  case news=>exact z3N _ _ (by simp) #[.string nm1,.string vl1] 123
  case one=>intro u hu;simp [zA] at hu;rcases hu with rfl|rfl<;>rfl
  case mm=>unfold maxLen;omega
  case bys=>omega
  case base=>simp;omega
  case rest=>
   intro gb cap w2 hown2 hgrow hat hlt2
   obtain⟨hr1,hM2,hB1⟩:=H1.out
   clear H1
   have hgb:gb≠w.heap.size+1∧gb≠w1.heap.size:=by
    rcases hat with e|e
    ·simp [Value.ownBlock] at e;omega
    ·omega
   have hold: ∀k,k<w1.heap.size→k≠w.heap.size→w2.heap[k]?=w1.heap[k]?:=fun k hk hn=>(hgrow.block k (by simp;omega) (fun e=>by simp [Value.ownBlock] at e;omega)).trans ((zgJ _ _ _ (by simp;omega)).trans (zgJ _ _ _ hk))
   have hr2:Rd w2 (w.heap.size+1) s a1 d1:=hr1.other (hold _ (by omega) (by omega))
   have hG2:w2.heap[w1.heap.size]?=some (.cells #[.string nm1,.string vl1] 123):=(hgrow.block _ (by simp<;>omega) (fun e=>by simp [Value.ownBlock] at e;omega)).trans ((zgJ _ _ _ (by simp)).trans (heap_alloc_new w1 _))
   have hB2:Below w.heap.size w w2:=Below.grown ((hB1.alloc (by omega) _).alloc (by simp;omega) _) hgrow (by simp;omega) fun k e=>by simp [Value.ownBlock] at e;omega
   have hz2':w1.heap.size<w2.heap.size:=by have:=hgrow.size;simp at this;omega
   have ha1:=hr2.le
   have H2:=z8 (zgI hr2 (zgI hG2 (zgI hB2 hown2)))
   clear hr2 hG2 hB2 hown2 hold hgrow hat hr1 hM2 hB1
   go_wp2_with fail
   go_loopg [4] (s.size+1) (fun k v wr=> ∃(a:Nat) (d:Bool) (l:List (zgS×zgS)) (x y:zgS) (g2 cap2:Nat),v= .slice (some ⟨g2,0,none⟩) l.length cap2∧g2≠w.heap.size+1∧g2≠w1.heap.size∧s.size+1≤k+a∧k+l.length≤s.size+2∧w1.heap.size<wr.heap.size∧Hid (Rd wr (w.heap.size+1) s a d)∧Hid (wr.heap[w1.heap.size]?=some (.cells #[.string x,.string y] 123))∧Hid (wr.ownsRow w.heap.size 123 2 (.slice (some ⟨g2,0,none⟩) l.length cap2) l.length ((l.map zA).flatten))∧Hid (Below w.heap.size w wr)∧Hid (paM s k a d l=P0))
   case atStart=>
    obtain⟨hr2,hG2,hB2,hown2⟩:=H2.out
    exact⟨a1,d1,[(nm1,vl1)],nm1,vl1,gb,cap,rfl,hgb.1,hgb.2,by omega,by simp,hz2',z8 hr2,z8 hG2,z8 hown2,z8 hB2,HP0⟩
   case round=>
    clear H2
    obtain⟨a,d,l,x,y,g2,cap2,rfl,hn1,hn2,hka,hkl,hzr,HR,HG,HO,HB,HPk⟩:=hrel
    have ha:=HR.out.le
    cases hb:(pk s a d==59)
    ·have hst:Hid ((a,d,l)=P0):=z8 (by
      rw [←HPk.out]
      cases gk with
      |zero=>rfl
      |succ k=>unfold paM;rw [hb];rfl)
     have he:=z8 (z2X _ _ _ _ _ (HR.out.drewN 0))
     go_wp2_with (go_at_call 78;refine(zn _ _ _ _ _ HR.out).mono ?_;rintro e w3 ⟨rfl,n3,rfl⟩)
     refine(z2X _ _ _ _ _ (HR.out.drewN n3)).mono ?_
     rintro e w4 ⟨rfl,hr4,hs4⟩
     have q2:=hr4.c2
     go_wp2_with fail
     go_quiet (fail)
     go_wp2_with fail
     go_ret2
     have hst':=hst.out
     subst hst'
     have hB4:Below w.heap.size w w4:=⟨hs4.os.trans HB.out.os,hs4.tape.trans HB.out.tape,hs4.output.trans HB.out.output,by have:=hs4.size;have:=HB.out.size;simp at*;omega,fun k hk=>(hs4.block k (by omega)).trans (HB.out.block k hk)⟩
     have hO4:w4.ownsRow w.heap.size 123 2 (.slice (some ⟨g2,0,none⟩) l.length cap2) l.length ((l.map zA).flatten):=zc HO.out fun k e=>hs4.block k (by simp [Value.ownBlock] at e;omega)
     refine⟨.slice (some ⟨g2,0,none⟩) l.length cap2,by rw [hra.out];rfl,by rw [hra.out];exact zc hO4 fun k e=>rfl,?_⟩
     exact⟨hB4.os,hB4.tape,hB4.output,hB4.size,hB4.block⟩
    ·have hpk:pk s a d=59:=by simpa using hb
     have hlt:=(jT (s:=s) (a:=a) (d:=d) (by omega)).2
     obtain⟨k,rfl⟩: ∃k,gk=k+1:=⟨gk - 1,by omega⟩
     have hst:Hid (paM s k (jh s (a+1) d).1 ((jh s (a+1) d).2.1||(zq (jh s (a+1) d).2.2.1 l 0 != -1)) (l++[((jh s (a+1) d).2.2.1,(jh s (a+1) d).2.2.2)])=P0):=z8 (by
      rw [←HPk.out]
      conv=>rhs;unfold paM
      rw [hb];rfl)
     have hW1:=z10 (s:=s) (d:=d) (c:=59) (a:=a) hpk
     have HW:=z8 (fun W h=>jW (w.heap.size+1) a s ⟨#[59]⟩ d W h (by decide))
     rw [show(ByteArray.mk #[59]).data.toList=[59] from rfl,hW1] at HW
     have HA:=z8 (fun W h=>z2e (w.heap.size+1) (a+1) s d W h)
     have HAM:=z8 (zbf (s:=s) (a:=a+1) (d:=d) (by omega))
     generalize jh s (a+1) d=v0 at*
     obtain⟨a5,d5,nm5,vl5⟩:=v0
     simp only at*
     clear hW1 hpk
     go_wp2_with (go_at_call 78;refine(zn _ _ _ _ _ HR.out).mono ?_;rintro e w3 ⟨rfl,n3,rfl⟩)
     refine(HW.out _ (HR.out.drewN n3)).mono ?_
     rintro e w4 ⟨rfl,hr4,hs4⟩
     go_wp2_with fail
     refine(HA.out _ hr4).mono ?_
     rintro e w5 ⟨rfl,hr5,hs5⟩
     have hz4:wr.heap.size=w4.heap.size:=by have:=hs4.size;simp at this;omega
     have hz5:wr.heap.size≤w5.heap.size:=by have:=hs5.size;omega
     have hold: ∀k,k<wr.heap.size→k≠w.heap.size+1→w5.heap[k]?=wr.heap[k]?:=fun k hk hn=>(hs5.block k (by omega) hn).trans (hs4.block k hn)
     have hG5:w5.heap[w1.heap.size]?=some (.cells #[.string x,.string y] 123):=(hold _ hzr (by omega)).trans HG.out
     have hO5:w5.ownsRow w.heap.size 123 2 (.slice (some ⟨g2,0,none⟩) l.length cap2) l.length ((l.map zA).flatten):=zc HO.out fun k e=>hold k (HO.out.lt k e).2 (by simp [Value.ownBlock] at e;omega)
     have hB5:Below w.heap.size w w5:=⟨hs5.os.trans (hs4.os.trans HB.out.os),hs5.tape.trans (hs4.tape.trans HB.out.tape),hs5.output.trans (hs4.output.trans HB.out.output),by have:=HB.out.size;omega,fun k hk=>(hold k (by have:=HB.out.size;omega) (by omega)).trans (HB.out.block k hk)⟩
     clear hold hs5 hs4 hr4
     have hw6:((w5.setCell ⟨w1.heap.size,0,none⟩ (.string nm5)).setCell ⟨w1.heap.size,1,none⟩ (.string vl5)).heap[w1.heap.size]?=some (.cells #[.string nm5,.string vl5] 123):=by simp [World.setCell,Array.getElem?_modify,hG5]
     have hz6:((w5.setCell ⟨w1.heap.size,0,none⟩ (.string nm5)).setCell ⟨w1.heap.size,1,none⟩ (.string vl5)).heap.size=w5.heap.size:=by simp [World.setCell]
     have hold6: ∀k,k≠w1.heap.size→((w5.setCell ⟨w1.heap.size,0,none⟩ (.string nm5)).setCell ⟨w1.heap.size,1,none⟩ (.string vl5)).heap[k]?=w5.heap[k]?:=fun k hn=>(zgQ _ _ _ _ hn).trans (zgQ _ _ _ _ hn)
     have hr6:=hr5.other (hold6 _ (by omega))
     have hO6:=zc hO5 fun k e=>hold6 k (by simp [Value.ownBlock] at e;omega)
     have hB6:=(hB5.setCell (show w.heap.size≤(⟨w1.heap.size,0,none⟩:Addr).block by show w.heap.size≤w1.heap.size;omega) (.string nm5)).setCell (show w.heap.size≤(⟨w1.heap.size,1,none⟩:Addr).block by show w.heap.size≤w1.heap.size;omega) (.string vl5)
     have y0:w5.cell? ⟨w1.heap.size,0,none⟩=some (.string x):=by simp [World.cell?,hG5]
     have y1:w5.cell? ⟨w1.heap.size,1,none⟩=some (.string y):=by simp [World.cell?,hG5]
     have y2:w5.frozen? ⟨w1.heap.size,0,none⟩=false:=by simp [World.frozen?,hG5]
     have y3:w5.frozen? ⟨w1.heap.size,1,none⟩=false:=by simp [World.frozen?,hG5]
     have z0:((w5.setCell ⟨w1.heap.size,0,none⟩ (.string nm5)).setCell ⟨w1.heap.size,1,none⟩ (.string vl5)).cell? ⟨w1.heap.size,0,none⟩=some (.string nm5):=by simp [World.cell?,hw6]
     have H6:=z8 (zgI hw6 (zgI hz6 (zgI hr6 (zgI hO6 (zgI hB6 z0)))))
     clear hw6 hz6 hr6 hO6 hB6 hold6 hG5 hO5 hB5 hr5 z0
     go_wp2_with fail
     obtain⟨hw6,hz6,hr6,hO6,hB6,z0⟩:=H6.out
     clear H6 y0 y1 y2 y3
     generalize ((w5.setCell ⟨w1.heap.size,0,none⟩ (.string nm5)).setCell ⟨w1.heap.size,1,none⟩ (.string vl5))=W6 at*
     refine(z2p w.heap.size l _ nm5 W6 hO6 (by omega)).mono ?_
     rintro e W7 ⟨rfl,rfl⟩
     have z1:W7.cell? ⟨w1.heap.size,1,none⟩=some (.string vl5):=by simp [World.cell?,hw6]
     have hzz:a+1≤a5:=HAM.out
     have hwz:w1.heap.size<W7.heap.size:=by omega
     have HZ6:=z8 hz6
     clear hz6
     cases hdup:(zq nm5 l 0 != -1)
     ·rw [hdup,Bool.or_false] at hst
      have H7:=z8 (zgI hr6 (zgI hw6 (zgI hO6 hB6)))
      have hW7:w1.heap.size<W7.heap.size:=by omega
      clear hr6 hw6 hO6 hB6
      go_wp2_with (at_builtin;go_must (refine wpList_append_lies _ rfl (.tmp 28) (.tmp 30) 55 rfl w.heap.size 123 i0 _ 2 32 Tryz.underlying55 hi hz0' hz1 hz2 rfl (by omega) _ l.length _ rfl (H7.out.2.2.1.alloc _) ⟨W7.heap.size,0,none⟩ 1 1 (zA (nm5,vl5)) rfl rfl ?news ?one (by omega) ?mm ?bys ?base (W7.heap.size+1) (by simp) ?rest))
      case news=>exact z3N _ _ (by simp) #[.string nm5,.string vl5] 123
      case one=>intro u hu;simp [zA] at hu;rcases hu with rfl|rfl<;>rfl
      case mm=>unfold maxLen;omega
      case bys=>omega
      case base=>simp;omega
      case rest=>
       intro gc cap8 w8 hown8 hgrow hat hlt8
       obtain⟨hr7,hG7,hO7,hB7⟩:=H7.out
       clear H7
       have hgc:gc≠w.heap.size+1∧gc≠w1.heap.size:=by
        rcases hat with e|e
        ·simp [Value.ownBlock] at e;omega
        ·omega
       have hold8: ∀k,k<W7.heap.size→k≠g2→w8.heap[k]?=W7.heap[k]?:=fun k hk hn=>(hgrow.block k (by simp;omega) (fun e=>by simp [Value.ownBlock] at e;omega)).trans (zgJ _ _ _ hk)
       have hr8:=z8 (hr7.other (hold8 _ (by omega) (by omega)))
       have hG8:=z8 ((hold8 _ (by omega) (by omega)).trans hG7)
       have hB8:=z8 (Below.grown (hB7.alloc hB7.size _) hgrow (by simp;have:=hB7.size;omega) fun k e=>by simp [Value.ownBlock] at e;have:=(hO7.lt g2 rfl).1;omega)
       have hz8:w1.heap.size<w8.heap.size:=by have:=hgrow.size;simp at this;omega
       have ha8:=hr7.le
       have hown9:Hid (w8.ownsRow w.heap.size 123 2 (.slice (some ⟨gc,0,none⟩) (l++[(nm5,vl5)]).length cap8) (l++[(nm5,vl5)]).length (((l++[(nm5,vl5)]).map zA).flatten)):=z8 (by simpa using hown8)
       clear hown8 hgrow hat hold8 hr7 hG7 hO7 hB7
       go_wp2_with fail
       go_roundg k
       case measure=>omega
       case rel=>exact⟨a5,_,l++[(nm5,vl5)],nm5,vl5,gc,cap8,by simp,hgc.1,hgc.2,by omega,by simp;omega,hz8,hr8,hG8,hown9,hB8,hst⟩
     ·rw [hdup,Bool.or_true] at hst
      have hF:=z8 (z0p _ _ _ _ _ hr6)
      have HC:=z8 (zgI hr6 (zgI hw6 (zgI hO6 hB6)))
      have hW6:w1.heap.size<W7.heap.size:=by omega
      clear hr6 hw6 hO6 hB6
      go_wp2_with fail
      refine hF.out.mono ?_
      rintro e W8 ⟨rfl,hr8',hs8⟩
      obtain⟨hr6,hw6,hO6,hB6⟩:=HC.out
      clear HC hF
      have hw8:=(hs8.block w1.heap.size (by omega)).trans hw6
      have z2:W8.cell? ⟨w1.heap.size,0,none⟩=some (.string nm5):=by simp [World.cell?,hw8]
      have z3:W8.cell? ⟨w1.heap.size,1,none⟩=some (.string vl5):=by simp [World.cell?,hw8]
      have hO8:W8.ownsRow w.heap.size 123 2 (.slice (some ⟨g2,0,none⟩) l.length cap2) l.length ((l.map zA).flatten):=zc hO6 fun k e=>hs8.block k (by simp [Value.ownBlock] at e;omega)
      have hB8':Below w.heap.size w W8:=⟨hs8.os.trans hB6.os,hs8.tape.trans hB6.tape,hs8.output.trans hB6.output,by have:=hs8.size;have:=hB6.size;omega,fun k hk=>(hs8.block k (by omega)).trans (hB6.block k hk)⟩
      have hW8:w1.heap.size<W8.heap.size:=by have:=hs8.size;omega
      have H7:=z8 (zgI hr8' (zgI hw8 (zgI hO8 hB8')))
      clear hr8' hw8 hO8 hB8' hr6 hw6 hO6 hB6 hs8 z0 z1
      go_wp2_with (at_builtin;go_must (refine wpList_append_lies _ rfl (.tmp 28) (.tmp 30) 55 rfl w.heap.size 123 i0 _ 2 32 Tryz.underlying55 hi hz0' hz1 hz2 rfl (by omega) _ l.length _ rfl (H7.out.2.2.1.alloc _) ⟨W8.heap.size,0,none⟩ 1 1 (zA (nm5,vl5)) rfl rfl ?news ?one (by omega) ?mm ?bys ?base (W8.heap.size+1) (by simp) ?rest))
      case news=>exact z3N _ _ (by simp) #[.string nm5,.string vl5] 123
      case one=>intro u hu;simp [zA] at hu;rcases hu with rfl|rfl<;>rfl
      case mm=>unfold maxLen;omega
      case bys=>omega
      case base=>simp;omega
      case rest=>
       intro gc cap8 w8 hown8 hgrow hat hlt8
       obtain⟨hr7,hG7,hO7,hB7⟩:=H7.out
       clear H7
       have hgc:gc≠w.heap.size+1∧gc≠w1.heap.size:=by
        rcases hat with e|e
        ·simp [Value.ownBlock] at e;omega
        ·omega
       have hold8: ∀k,k<W8.heap.size→k≠g2→w8.heap[k]?=W8.heap[k]?:=fun k hk hn=>(hgrow.block k (by simp;omega) (fun e=>by simp [Value.ownBlock] at e;omega)).trans (zgJ _ _ _ hk)
       have hr8:=z8 (hr7.other (hold8 _ (by omega) (by omega)))
       have hG8:=z8 ((hold8 _ (by omega) (by omega)).trans hG7)
       have hB8:=z8 (Below.grown (hB7.alloc hB7.size _) hgrow (by simp;have:=hB7.size;omega) fun k e=>by simp [Value.ownBlock] at e;have:=(hO7.lt g2 rfl).1;omega)
       have hz8:w1.heap.size<w8.heap.size:=by have:=hgrow.size;simp at this;omega
       have ha8:=hr7.le
       have hown9:Hid (w8.ownsRow w.heap.size 123 2 (.slice (some ⟨gc,0,none⟩) (l++[(nm5,vl5)]).length cap8) (l++[(nm5,vl5)]).length (((l++[(nm5,vl5)]).map zA).flatten)):=z8 (by simpa using hown8)
       clear hown8 hgrow hat hold8 hr7 hG7 hO7 hB7
       go_wp2_with fail
       go_roundg k
       case measure=>omega
       case rel=>exact⟨a5,_,l++[(nm5,vl5)],nm5,vl5,gc,cap8,by simp,hgc.1,hgc.2,by omega,by simp;omega,hz8,hr8,hG8,hown9,hB8,hst⟩
structure Wt where
 kind:Int
 truth:Bool
 num:Int
 text:zgS
def Wt.v (x:Wt):Value:= .agg #[.int .i64 x.kind,.bool x.truth,.int .i64 x.num,.string x.text]
def Wt.cells (x:Wt):List Value:=[.int .i64 x.kind,.bool x.truth,.int .i64 x.num,.string x.text]
theorem Wt.cells_len (x:Wt):x.cells.length=4:=rfl
def z2F:Wt:=⟨0,false,0,⟨#[]⟩⟩
def z1t (b:Bool):Wt:=⟨1,b,0,⟨#[]⟩⟩
def z8q (t:zgS):Wt:=⟨3,false,0,t⟩
def z1n (n:Int):Wt:=if 999999999<n∨n< -999999999 then z2F else⟨2,false,n,⟨#[]⟩⟩
def z2V (x:Wt)(w:World)(e:Ending)(w':World):Prop:=e= .returned (.agg #[.int .i64 x.kind,.bool x.truth,.int .i64 x.num,.string x.text])∧Below w.heap.size w w'
theorem jt {w:World}{g:Nat}{a b c d:Value}{t:TypeId}(hh:w.heap[g]?=some (.cells #[a,b,c,d] t)):
  w.cell? ⟨g,0,none⟩=some a∧w.cell? ⟨g,1,none⟩=some b∧w.cell? ⟨g,2,none⟩=some c∧w.cell? ⟨g,3,none⟩=some d∧w.frozen? ⟨g,0,none⟩=false∧w.frozen? ⟨g,1,none⟩=false∧w.frozen? ⟨g,2,none⟩=false∧w.frozen? ⟨g,3,none⟩=false:=by
 simp [World.cell?,World.frozen?,hh]
theorem zE {w:World}{g:Nat}{a b c d:Value}{t:TypeId}(hh:w.heap[g]?=some (.cells #[a,b,c,d] t))(p q r u:Value):
  let W:=(((w.setCell ⟨g,0,none⟩ p).setCell ⟨g,1,none⟩ q).setCell ⟨g,2,none⟩ r).setCell ⟨g,3,none⟩ u
  W.cell? ⟨g,0,none⟩=some p∧W.cell? ⟨g,1,none⟩=some q∧W.cell? ⟨g,2,none⟩=some r∧W.cell? ⟨g,3,none⟩=some u:=by
 obtain⟨h0,h1,h2,h3,_⟩:=jt (zdA hh p q r u)
 exact⟨h0,h1,h2,h3⟩
theorem zU {B g:Nat}{w w1:World}(h:Below B w w1)(hg:B≤g)(p q r u:Value):Below B w ((((w1.setCell ⟨g,0,none⟩ p).setCell ⟨g,1,none⟩ q).setCell ⟨g,2,none⟩ r).setCell ⟨g,3,none⟩ u):=
 (((h.setCell (p:=⟨g,0,none⟩) hg _).setCell (p:=⟨g,1,none⟩) hg _).setCell (p:=⟨g,2,none⟩) hg _).setCell (p:=⟨g,3,none⟩) hg _
theorem jf (n:Int)(w:World):Calls Tryz.prog 151 #[.int .i64 n] w fun e w'=>z2V (z1n n) w e w':=by
 have hB:=z8 fun o:Obj=>(zgR w.heap.size w).alloc (zgH _) o
 by_cases h1:999999999<n
 ·have hx:Hid (z1n n=z2F):=z8 (by unfold z1n;rw [if_pos (.inl h1)])
  go_enter Tryz.func151,Tryz.ntmps151
  go_wp2_with fail
  refine bodyPost_ret (v:=z2F.v) (by simp [results,Tryz.results151,go_sem,Wt.v,z2F]) rfl ?_
  exact⟨by rw [hx.out];rfl,hB.out _⟩
 ·by_cases h2:n< -999999999
  ·have hx:Hid (z1n n=z2F):=z8 (by unfold z1n;rw [if_pos (.inr h2)])
   go_enter Tryz.func151,Tryz.ntmps151
   go_wp2_with fail
   refine bodyPost_ret (v:=z2F.v) (by simp [results,Tryz.results151,go_sem,Wt.v,z2F]) rfl ?_
   exact⟨by rw [hx.out];rfl,hB.out _⟩
  ·have hx:Hid (z1n n=⟨2,false,n,⟨#[]⟩⟩):=z8 (by unfold z1n;rw [if_neg (by omega)])
   go_enter Tryz.func151,Tryz.ntmps151
   go_wp2_with fail
   refine bodyPost_ret (v:=(Wt.mk 2 false n ⟨#[]⟩).v) (by simp [results,Tryz.results151,go_sem,Wt.v,z2F]) rfl ?_
   exact⟨by rw [hx.out];rfl,hB.out _⟩
theorem z0x (t:zgS)(w:World):Calls Tryz.prog 121 #[.string t] w fun e w'=>z2V (z8q t) w e w':=by
 have hB:=z8 fun o:Obj=>(zgR w.heap.size w).alloc (zgH _) o
 go_enter Tryz.func121,Tryz.ntmps121
 go_wp2_with fail
 refine bodyPost_ret (v:=(z8q t).v) (by simp [results,Tryz.results121,go_sem,Wt.v,z8q]) rfl ?_
 exact⟨rfl,hB.out _⟩
theorem z15 (t:Bool)(w:World):Calls Tryz.prog 122 #[.bool t] w fun e w'=>z2V (z1t t) w e w':=by
 have hB:=z8 fun o:Obj=>(zgR w.heap.size w).alloc (zgH _) o
 go_enter Tryz.func122,Tryz.ntmps122
 go_wp2_with fail
 refine bodyPost_ret (v:=(z1t t).v) (by simp [results,Tryz.results122,go_sem,Wt.v,z1t]) rfl ?_
 exact⟨rfl,hB.out _⟩
theorem jA (x:Wt)(w:World):Calls Tryz.prog 152 #[.agg #[.int .i64 x.kind,.bool x.truth,.int .i64 x.num,.string x.text]] w fun e w'=>e= .returned (.bool (x.kind==0))∧Below w.heap.size w w':=by
 have hB:=z8 fun o:Obj=>(zgR w.heap.size w).alloc (zgH _) o
 go_enter Tryz.func152,Tryz.ntmps152
 go_wp2_with fail
 go_ret
 exact⟨rfl,hB.out _⟩
end Go.Proofs.YtkoohcilbpdgeaaGreatDoor
namespace Go.Proofs
open Go.Shelf
def Tryz.lays173_ren:Go.Shelf.Ren:=⟨fun|173=>83|246=>126|283=>155|284=>156|285=>157|286=>158|129=>172|317=>171|318=>173|319=>174|320=>175|337=>182|338=>183|n=>n,fun|2=>2|3=>3|9=>9|4=>4|171=>185|0=>0|53=>186|37=>142|5=>5|173=>189|212=>195|51=>196|20=>20|213=>197|46=>199|232=>205|233=>206|n=>n,fun|17=>0|18=>1|19=>2|n=>n⟩
theorem Tryz.lays173:Go.Proofs.LaysM.n173 Tryz.prog Tryz.lays173_ren:={
 mixed:=by kernel_rfl
 f129:=Tryz.func172.trans (congrArg some (by kernel_rfl))
 f173:=Tryz.func83.trans (congrArg some (by kernel_rfl))
 f246:=Tryz.func126.trans (congrArg some (by kernel_rfl))
 f283:=Tryz.func155.trans (congrArg some (by kernel_rfl))
 f284:=Tryz.func156.trans (congrArg some (by kernel_rfl))
 f285:=Tryz.func157.trans (congrArg some (by kernel_rfl))
 f286:=Tryz.func158.trans (congrArg some (by kernel_rfl))
 f317:=Tryz.func171.trans (congrArg some (by kernel_rfl))
 f318:=Tryz.func173.trans (congrArg some (by kernel_rfl))
 f319:=Tryz.func174.trans (congrArg some (by kernel_rfl))
 f320:=Tryz.func175.trans (congrArg some (by kernel_rfl))
 f337:=Tryz.func182.trans (congrArg some (by kernel_rfl))
 f338:=Tryz.func183.trans (congrArg some (by kernel_rfl))
 t0:=Tryz.underlying0
 a0:=Tryz.isAgg0
 z0:=Tryz.sizeOf0
 v0:=Tryz.zeroValue0
 t2:=Tryz.underlying2
 a2:=Tryz.isAgg2
 z2:=Tryz.sizeOf2
 v2:=Tryz.zeroValue2
 t3:=Tryz.underlying3
 a3:=Tryz.isAgg3
 z3:=Tryz.sizeOf3
 v3:=Tryz.zeroValue3
 t4:=Tryz.underlying4
 a4:=Tryz.isAgg4
 z4:=Tryz.sizeOf4
 v4:=Tryz.zeroValue4
 t5:=Tryz.underlying5
 a5:=Tryz.isAgg5
 z5:=Tryz.sizeOf5
 v5:=Tryz.zeroValue5
 t9:=Tryz.underlying9
 a9:=Tryz.isAgg9
 z9:=Tryz.sizeOf9
 v9:=Tryz.zeroValue9
 t20:=Tryz.underlying20
 a20:=Tryz.isAgg20
 z20:=Tryz.sizeOf20
 v20:=Tryz.zeroValue20
 t37:=Tryz.underlying142
 a37:=Tryz.isAgg142
 z37:=Tryz.sizeOf142
 v37:=Tryz.zeroValue142
 t46:=Tryz.underlying199
 a46:=Tryz.isAgg199
 z46:=Tryz.sizeOf199
 v46:=Tryz.zeroValue199
 t51:=Tryz.underlying196
 a51:=Tryz.isAgg196
 z51:=Tryz.sizeOf196
 v51:=Tryz.zeroValue196
 t53:=Tryz.underlying186
 a53:=Tryz.isAgg186
 z53:=Tryz.sizeOf186
 v53:=Tryz.zeroValue186
 t171:=Tryz.underlying185
 a171:=Tryz.isAgg185
 z171:=Tryz.sizeOf185
 v171:=Tryz.zeroValue185
 t173:=Tryz.underlying189
 a173:=Tryz.isAgg189
 z173:=Tryz.sizeOf189
 v173:=Tryz.zeroValue189
 t212:=Tryz.underlying195
 a212:=Tryz.isAgg195
 z212:=Tryz.sizeOf195
 v212:=Tryz.zeroValue195
 t213:=Tryz.underlying197
 a213:=Tryz.isAgg197
 z213:=Tryz.sizeOf197
 t232:=Tryz.underlying205
 a232:=Tryz.isAgg205
 z232:=Tryz.sizeOf205
 v232:=Tryz.zeroValue205
 t233:=Tryz.underlying206
 a233:=Tryz.isAgg206
 z233:=Tryz.sizeOf206
 v233:=Tryz.zeroValue206
 g17:=by kernel_rfl
 g18:=by kernel_rfl
 g19:=by kernel_rfl
 i0:=by kernel_rfl
 i2:=by kernel_rfl
 i3:=by kernel_rfl
 i4:=by kernel_rfl
 i5:=by kernel_rfl
 i9:=by kernel_rfl
 i20:=by kernel_rfl
 i37:=by kernel_rfl
 i46:=by kernel_rfl
 i51:=by kernel_rfl
 i53:=by kernel_rfl
 i171:=by kernel_rfl
 i173:=by kernel_rfl
 i212:=by kernel_rfl
 i232:=by kernel_rfl
 i233:=by kernel_rfl
 m17:=by kernel_rfl
 m18:=by kernel_rfl
 m19:=by kernel_rfl}
end Go.Proofs
namespace Go.Proofs.YtkoohcilbpdgeaaGreatDoor
open Go Go.RowKit
def Tab (w:World):Prop:=Lib.TabIs Tryz.prog w "internal/strconv.uint64pow10" .u64 Lib.pow10Tab
theorem Tab.below {w w':World}(h:Tab w)(hB:Below w.heap.size w w'):Tab w':=by
 unfold Tab Lib.TabIs World.var? at*
 rw [show Tryz.prog.globalNamed "internal/strconv.uint64pow10" =some 0 by kernel_rfl] at*
 simp only [Option.bind_some] at*
 cases hq:w.heap[0]? with
 |none=>rw [hq] at h;cases h
 |some o=>rw [hB.block 0 (Array.getElem?_eq_some_iff.1 hq).1];exact h
theorem zab (n:Int)(h0: -9223372036854775808≤n)(h1:n≤9223372036854775807)(w:World)(ht:Tab w):
  Calls Tryz.prog 83 #[.int .i64 n,.int .i64 10] w fun e w'=>e= .returned (.string ⟨(Lib.itoa n).toArray⟩)∧Below w.heap.size w w':=
 (Any.strconv_FormatInt_10 Tryz.lays173 n h0 h1 w ht).mono fun e w' ⟨h,k,os,hw⟩=>⟨h,by
  subst hw
  exact⟨rfl,rfl,rfl,by simp [Sort.grow],fun i hi=>by simp only [Sort.grow];rw [Array.getElem?_append_left (by simpa using hi)];rfl⟩⟩
end Go.Proofs.YtkoohcilbpdgeaaGreatDoor
namespace Go.Proofs.YtkoohcilbpdgeaaGreatDoor
open Go Go.RowKit
attribute [local go_sem] wrap64_byte
def z06 (t:zgS)(l r:Int):Wt:=
 if t.toList==[43] then z1n (wrap64 (l+r)) else if t.toList==[45] then z1n (wrap64 (l - r)) else if t.toList==[42] then z1n (wrap64 (l*r))
 else if r==0 then z2F else if t.toList==[47] then z1n (wrap64 (l.tdiv r)) else z1n (l.tmod r)
theorem jR (t:zgS)(l r:Int)(w:World):Calls Tryz.prog 153 #[.string t,.int .i64 l,.int .i64 r] w fun e w'=>z2V (z06 t l r) w e w':=by
 have HB0:Hid (Below w.heap.size w (w.alloc (.cells #[.int .i64 0,.bool false,.int .i64 0,.string ⟨#[]⟩] 75))):=z8 ((zgR w.heap.size w).alloc (zgH _) (.cells #[.int .i64 0,.bool false,.int .i64 0,.string ⟨#[]⟩] 75))
 have HX:Hid ((w.alloc (.cells #[.int .i64 0,.bool false,.int .i64 0,.string ⟨#[]⟩] 75)).heap[w.heap.size]?=some (.cells #[.int .i64 0,.bool false,.int .i64 0,.string ⟨#[]⟩] 75)):=z8 (heap_alloc_new w _)
 have HZ:Hid (w.heap.size<(w.alloc (.cells #[.int .i64 0,.bool false,.int .i64 0,.string ⟨#[]⟩] 75)).heap.size):=z8 (by simp)
 have HZ1:Hid (w.heap.size≤(w.alloc (.cells #[.int .i64 0,.bool false,.int .i64 0,.string ⟨#[]⟩] 75)).heap.size):=z8 (by simp<;>omega)
 have HG:Hid (w.heap.size≤w.heap.size):=z8 (by omega)
 cases h1:(t.toList==[43])
 case true=>
  have hres:Hid (z06 t l r=z1n (wrap64 (l+r))):=z8 (by unfold z06;rw [h1];rfl)
  have HC:=z8 (jf (wrap64 (l+r)) (w.alloc (.cells #[.int .i64 0,.bool false,.int .i64 0,.string ⟨#[]⟩] 75)))
  generalize hX:z1n (wrap64 (l+r))=X at*
  have HXX:=z8 hX
  clear hX
  go_enter Tryz.func153,Tryz.ntmps153
  go_wp2_with fail
  refine HC.out.mono ?_
  rintro e w1 ⟨rfl,hB1⟩
  have hbx:=(hB1.block _ HZ.out).trans HX.out
  obtain⟨y0,y1,y2,y3,g0,g1,g2,g3⟩:=jt hbx
  obtain⟨z0,z1,z2,z3⟩:=zE hbx (.int .i64 X.kind) (.bool X.truth) (.int .i64 X.num) (.string X.text)
  have HB2:=z8 (zU (HB0.out.trans (hB1.mono HZ1.out)) HG.out (.int .i64 X.kind) (.bool X.truth) (.int .i64 X.num) (.string X.text))
  clear hbx hB1
  go_wp2_with fail
  refine bodyPost_ret (v:= .agg #[.int .i64 X.kind,.bool X.truth,.int .i64 X.num,.string X.text]) (by simp [results,Tryz.results153,go_sem,z0,z1,z2,z3]) rfl ?_
  exact⟨by rw [hres.out],HB2.out⟩
 cases h2:(t.toList==[45])
 case true=>
  have hres:Hid (z06 t l r=z1n (wrap64 (l - r))):=z8 (by unfold z06;rw [h1,h2];rfl)
  have HC:=z8 (jf (wrap64 (l - r)) (w.alloc (.cells #[.int .i64 0,.bool false,.int .i64 0,.string ⟨#[]⟩] 75)))
  generalize hX:z1n (wrap64 (l - r))=X at*
  have HXX:=z8 hX
  clear hX
  go_enter Tryz.func153,Tryz.ntmps153
  go_wp2_with fail
  refine HC.out.mono ?_
  rintro e w1 ⟨rfl,hB1⟩
  have hbx:=(hB1.block _ HZ.out).trans HX.out
  obtain⟨y0,y1,y2,y3,g0,g1,g2,g3⟩:=jt hbx
  obtain⟨z0,z1,z2,z3⟩:=zE hbx (.int .i64 X.kind) (.bool X.truth) (.int .i64 X.num) (.string X.text)
  have HB2:=z8 (zU (HB0.out.trans (hB1.mono HZ1.out)) HG.out (.int .i64 X.kind) (.bool X.truth) (.int .i64 X.num) (.string X.text))
  clear hbx hB1
  go_wp2_with fail
  refine bodyPost_ret (v:= .agg #[.int .i64 X.kind,.bool X.truth,.int .i64 X.num,.string X.text]) (by simp [results,Tryz.results153,go_sem,z0,z1,z2,z3]) rfl ?_
  exact⟨by rw [hres.out],HB2.out⟩
 cases h3:(t.toList==[42])
 case true=>
  have hres:Hid (z06 t l r=z1n (wrap64 (l*r))):=z8 (by unfold z06;rw [h1,h2,h3];rfl)
  have HC:=z8 (jf (wrap64 (l*r)) (w.alloc (.cells #[.int .i64 0,.bool false,.int .i64 0,.string ⟨#[]⟩] 75)))
  generalize hX:z1n (wrap64 (l*r))=X at*
  have HXX:=z8 hX
  clear hX
  go_enter Tryz.func153,Tryz.ntmps153
  go_wp2_with fail
  refine HC.out.mono ?_
  rintro e w1 ⟨rfl,hB1⟩
  have hbx:=(hB1.block _ HZ.out).trans HX.out
  obtain⟨y0,y1,y2,y3,g0,g1,g2,g3⟩:=jt hbx
  obtain⟨z0,z1,z2,z3⟩:=zE hbx (.int .i64 X.kind) (.bool X.truth) (.int .i64 X.num) (.string X.text)
  have HB2:=z8 (zU (HB0.out.trans (hB1.mono HZ1.out)) HG.out (.int .i64 X.kind) (.bool X.truth) (.int .i64 X.num) (.string X.text))
  clear hbx hB1
  go_wp2_with fail
  refine bodyPost_ret (v:= .agg #[.int .i64 X.kind,.bool X.truth,.int .i64 X.num,.string X.text]) (by simp [results,Tryz.results153,go_sem,z0,z1,z2,z3]) rfl ?_
  exact⟨by rw [hres.out],HB2.out⟩
 cases h4:(r==0)
 case true=>
  have hres:Hid (z06 t l r=z2F):=z8 (by unfold z06;rw [h1,h2,h3,h4];rfl)
  go_enter Tryz.func153,Tryz.ntmps153
  go_wp2_with fail
  refine bodyPost_ret (v:= .agg #[.int .i64 z2F.kind,.bool z2F.truth,.int .i64 z2F.num,.string z2F.text]) (by simp [results,Tryz.results153,go_sem,z2F]) rfl ?_
  exact⟨by rw [hres.out],HB0.out⟩
 have h4': ¬r=0:=by simpa using h4
 cases h5:(t.toList==[47])
 case true=>
  have hres:Hid (z06 t l r=z1n (wrap64 (l.tdiv r))):=z8 (by unfold z06;rw [h1,h2,h3,h4,h5];rfl)
  have HC:=z8 (jf (wrap64 (l.tdiv r)) (w.alloc (.cells #[.int .i64 0,.bool false,.int .i64 0,.string ⟨#[]⟩] 75)))
  generalize hX:z1n (wrap64 (l.tdiv r))=X at*
  have HXX:=z8 hX
  clear hX
  go_enter Tryz.func153,Tryz.ntmps153
  go_wp2_with fail
  refine HC.out.mono ?_
  rintro e w1 ⟨rfl,hB1⟩
  have hbx:=(hB1.block _ HZ.out).trans HX.out
  obtain⟨y0,y1,y2,y3,g0,g1,g2,g3⟩:=jt hbx
  obtain⟨z0,z1,z2,z3⟩:=zE hbx (.int .i64 X.kind) (.bool X.truth) (.int .i64 X.num) (.string X.text)
  have HB2:=z8 (zU (HB0.out.trans (hB1.mono HZ1.out)) HG.out (.int .i64 X.kind) (.bool X.truth) (.int .i64 X.num) (.string X.text))
  clear hbx hB1
  go_wp2_with fail
  refine bodyPost_ret (v:= .agg #[.int .i64 X.kind,.bool X.truth,.int .i64 X.num,.string X.text]) (by simp [results,Tryz.results153,go_sem,z0,z1,z2,z3]) rfl ?_
  exact⟨by rw [hres.out],HB2.out⟩
 have hres:Hid (z06 t l r=z1n (l.tmod r)):=z8 (by unfold z06;rw [h1,h2,h3,h4,h5];rfl)
 have HC:=z8 (jf (l.tmod r) (w.alloc (.cells #[.int .i64 0,.bool false,.int .i64 0,.string ⟨#[]⟩] 75)))
 generalize hX:z1n (l.tmod r)=X at*
 have HXX:=z8 hX
 clear hX
 go_enter Tryz.func153,Tryz.ntmps153
 go_wp2_with fail
 refine HC.out.mono ?_
 rintro e w1 ⟨rfl,hB1⟩
 have hbx:=(hB1.block _ HZ.out).trans HX.out
 obtain⟨y0,y1,y2,y3,g0,g1,g2,g3⟩:=jt hbx
 obtain⟨z0,z1,z2,z3⟩:=zE hbx (.int .i64 X.kind) (.bool X.truth) (.int .i64 X.num) (.string X.text)
 have HB2:=z8 (zU (HB0.out.trans (hB1.mono HZ1.out)) HG.out (.int .i64 X.kind) (.bool X.truth) (.int .i64 X.num) (.string X.text))
 clear hbx hB1
 go_wp2_with fail
 refine bodyPost_ret (v:= .agg #[.int .i64 X.kind,.bool X.truth,.int .i64 X.num,.string X.text]) (by simp [results,Tryz.results153,go_sem,z0,z1,z2,z3]) rfl ?_
 exact⟨by rw [hres.out],HB2.out⟩
def z2g (t:zgS)(x:Wt):Wt:=if x.kind==0 then x else if t.toList==[33] then z1t (!x.truth) else z1n (wrap64 (-x.num))
theorem z3t (t:zgS)(x:Wt)(w:World):Calls Tryz.prog 124 #[.string t,.agg #[.int .i64 x.kind,.bool x.truth,.int .i64 x.num,.string x.text]] w fun e w'=>z2V (z2g t x) w e w':=by
 have HB0:Hid (Below w.heap.size w ((w.alloc (.cells #[.int .i64 x.kind,.bool x.truth,.int .i64 x.num,.string x.text] 75)).alloc (.cells #[.int .i64 0,.bool false,.int .i64 0,.string ⟨#[]⟩] 75))):=z8 (((zgR w.heap.size w).alloc (zgH _) (.cells #[.int .i64 x.kind,.bool x.truth,.int .i64 x.num,.string x.text] 75)).alloc (by simp<;>omega) (.cells #[.int .i64 0,.bool false,.int .i64 0,.string ⟨#[]⟩] 75))
 have HX:Hid (((w.alloc (.cells #[.int .i64 x.kind,.bool x.truth,.int .i64 x.num,.string x.text] 75)).alloc (.cells #[.int .i64 0,.bool false,.int .i64 0,.string ⟨#[]⟩] 75)).heap[w.heap.size+1]?=some (.cells #[.int .i64 0,.bool false,.int .i64 0,.string ⟨#[]⟩] 75)):=z8 (by have q:=heap_alloc_new (w.alloc (.cells #[.int .i64 x.kind,.bool x.truth,.int .i64 x.num,.string x.text] 75)) (.cells #[.int .i64 0,.bool false,.int .i64 0,.string ⟨#[]⟩] 75);rw [show(w.alloc (.cells #[.int .i64 x.kind,.bool x.truth,.int .i64 x.num,.string x.text] 75)).heap.size=w.heap.size+1 by simp] at q;exact q)
 have HZ:Hid (w.heap.size+1<((w.alloc (.cells #[.int .i64 x.kind,.bool x.truth,.int .i64 x.num,.string x.text] 75)).alloc (.cells #[.int .i64 0,.bool false,.int .i64 0,.string ⟨#[]⟩] 75)).heap.size):=z8 (by simp)
 have HZ1:Hid (w.heap.size≤((w.alloc (.cells #[.int .i64 x.kind,.bool x.truth,.int .i64 x.num,.string x.text] 75)).alloc (.cells #[.int .i64 0,.bool false,.int .i64 0,.string ⟨#[]⟩] 75)).heap.size):=z8 (by simp<;>omega)
 have HG:Hid (w.heap.size≤w.heap.size+1):=z8 (by omega)
 have HX0:Hid (((w.alloc (.cells #[.int .i64 x.kind,.bool x.truth,.int .i64 x.num,.string x.text] 75)).alloc (.cells #[.int .i64 0,.bool false,.int .i64 0,.string ⟨#[]⟩] 75)).heap[w.heap.size]?=some (.cells #[.int .i64 x.kind,.bool x.truth,.int .i64 x.num,.string x.text] 75)):=z8 ((zgJ _ _ _ (by simp)).trans (heap_alloc_new w _))
 have HF:=z8 (jA x ((w.alloc (.cells #[.int .i64 x.kind,.bool x.truth,.int .i64 x.num,.string x.text] 75)).alloc (.cells #[.int .i64 0,.bool false,.int .i64 0,.string ⟨#[]⟩] 75)))
 cases h1:(x.kind==0)
 case true=>
  have hres:Hid (z2g t x=x):=z8 (by unfold z2g;rw [h1];rfl)
  rw [h1] at HF
  clear h1
  generalize hX:x=X at*
  clear hX
  go_enter Tryz.func124,Tryz.ntmps124
  go_wp2_with fail
  refine HF.out.mono ?_
  rintro e w1 ⟨rfl,hB1⟩
  obtain⟨c0,c1,c2,c3,d0,d1,d2,d3⟩:=jt ((hB1.block _ (by simp<;>omega)).trans HX0.out)
  have hbx:=(hB1.block _ HZ.out).trans HX.out
  obtain⟨y0,y1,y2,y3,g0,g1,g2,g3⟩:=jt hbx
  obtain⟨z0,z1,z2,z3⟩:=zE hbx (.int .i64 X.kind) (.bool X.truth) (.int .i64 X.num) (.string X.text)
  have HB2:=z8 (zU (HB0.out.trans (hB1.mono HZ1.out)) HG.out (.int .i64 X.kind) (.bool X.truth) (.int .i64 X.num) (.string X.text))
  clear hbx hB1
  go_wp2_with fail
  refine bodyPost_ret (v:= .agg #[.int .i64 X.kind,.bool X.truth,.int .i64 X.num,.string X.text]) (by simp [results,Tryz.results124,go_sem,z0,z1,z2,z3]) rfl ?_
  exact⟨by rw [hres.out],HB2.out⟩
 rw [h1] at HF
 cases h2:(t.toList==[33])
 case true=>
  have hres:Hid (z2g t x=z1t (!x.truth)):=z8 (by unfold z2g;rw [h1,h2];rfl)
  go_enter Tryz.func124,Tryz.ntmps124
  go_wp2_with fail
  refine HF.out.mono ?_
  rintro e w0 ⟨rfl,hB0⟩
  obtain⟨c0,c1,c2,c3,d0,d1,d2,d3⟩:=jt ((hB0.block _ (by simp<;>omega)).trans HX0.out)
  have HX:=z8 ((hB0.block _ HZ.out).trans HX.out)
  have HZ:=z8 (zgN HZ.out hB0.size)
  have HB0:=z8 (HB0.out.trans (hB0.mono HZ1.out))
  have HZ1:=z8 HB0.out.size
  clear hB0
  have HC:=z8 (z15 (!x.truth) w0)
  generalize hX:z1t (!x.truth)=X at*
  have HXX:=z8 hX
  clear hX
  go_wp2_with fail
  refine HC.out.mono ?_
  rintro e w1 ⟨rfl,hB1⟩
  have hbx:=(hB1.block _ HZ.out).trans HX.out
  obtain⟨y0,y1,y2,y3,g0,g1,g2,g3⟩:=jt hbx
  obtain⟨z0,z1,z2,z3⟩:=zE hbx (.int .i64 X.kind) (.bool X.truth) (.int .i64 X.num) (.string X.text)
  have HB2:=z8 (zU (HB0.out.trans (hB1.mono HZ1.out)) HG.out (.int .i64 X.kind) (.bool X.truth) (.int .i64 X.num) (.string X.text))
  clear hbx hB1
  go_wp2_with fail
  refine bodyPost_ret (v:= .agg #[.int .i64 X.kind,.bool X.truth,.int .i64 X.num,.string X.text]) (by simp [results,Tryz.results124,go_sem,z0,z1,z2,z3]) rfl ?_
  exact⟨by rw [hres.out],HB2.out⟩
 have hres:Hid (z2g t x=z1n (wrap64 (-x.num))):=z8 (by unfold z2g;rw [h1,h2];rfl)
 go_enter Tryz.func124,Tryz.ntmps124
 go_wp2_with fail
 refine HF.out.mono ?_
 rintro e w0 ⟨rfl,hB0⟩
 obtain⟨c0,c1,c2,c3,d0,d1,d2,d3⟩:=jt ((hB0.block _ (by simp<;>omega)).trans HX0.out)
 have HX:=z8 ((hB0.block _ HZ.out).trans HX.out)
 have HZ:=z8 (zgN HZ.out hB0.size)
 have HB0:=z8 (HB0.out.trans (hB0.mono HZ1.out))
 have HZ1:=z8 HB0.out.size
 clear hB0
 have HC:=z8 (jf (wrap64 (-x.num)) w0)
 generalize hX:z1n (wrap64 (-x.num))=X at*
 have HXX:=z8 hX
 clear hX
 go_wp2_with fail
 refine HC.out.mono ?_
 rintro e w1 ⟨rfl,hB1⟩
 have hbx:=(hB1.block _ HZ.out).trans HX.out
 obtain⟨y0,y1,y2,y3,g0,g1,g2,g3⟩:=jt hbx
 obtain⟨z0,z1,z2,z3⟩:=zE hbx (.int .i64 X.kind) (.bool X.truth) (.int .i64 X.num) (.string X.text)
 have HB2:=z8 (zU (HB0.out.trans (hB1.mono HZ1.out)) HG.out (.int .i64 X.kind) (.bool X.truth) (.int .i64 X.num) (.string X.text))
 clear hbx hB1
 go_wp2_with fail
 refine bodyPost_ret (v:= .agg #[.int .i64 X.kind,.bool X.truth,.int .i64 X.num,.string X.text]) (by simp [results,Tryz.results124,go_sem,z0,z1,z2,z3]) rfl ?_
 exact⟨by rw [hres.out],HB2.out⟩
def z3S (l:List UInt8):Int:=l.foldl (fun n c=>n*10+((c.toNat:Int)- 48)) 0
theorem z3T (l:List UInt8)(c:UInt8):z3S (l++[c])=z3S l*10+((c.toNat:Int)- 48):=by simp [z3S]
def zfk (l:List UInt8):Prop:= ∀c∈l,48≤c.toNat∧c.toNat≤57
theorem z8p: ∀(k:Nat) (l:List UInt8),zfk l→l.length=k→0≤z3S l∧z3S l<(10:Int)^k:=by
 intro k
 induction k with
 |zero=>intro l _ hl;rw [List.length_eq_zero_iff.1 hl];decide
 |succ k ih=>
  intro l hd hl
  obtain⟨l',c,rfl⟩: ∃l' c,l=l'++[c]:=⟨l.dropLast,l.getLast (by intro e;rw [e] at hl;cases hl),(List.dropLast_concat_getLast _).symm⟩
  have h1:=ih l' (fun x hx=>hd x (by simp [hx])) (by simp at hl;exact hl)
  have h2:=hd c (by simp)
  rw [z3T,Int.pow_succ]
  omega
theorem z2S (l:List UInt8)(hd:zfk l)(hl:l.length≤9):0≤z3S l∧z3S l≤999999999:=by
 have h:=z8p l.length l hd rfl
 have:(10:Int)^l.length≤10^9:=by
  have h9: ∀k,k≤9→(10:Int)^k≤10^9:=by decide
  exact h9 _ hl
 have e:(10:Int)^9=1000000000:=by decide
 omega
def zds (t:zgS):Bool:=pk t 0 false==45
def z3W (t:zgS):Nat:=if zds t then 1 else 0
def nsM (t:zgS):Wt:=
 let v:=zM t (z3W t) false
 if z29 t v.1 v.2.1||(zds t&&v.2.2.toList==[48]) then z2F else z1n (if zds t then - z3S v.2.2.toList else z3S v.2.2.toList)
theorem zdw (p:Int→Bool)(s:zgS)(d:Bool): ∀k a,run p s d k a≤a+k:=by
 intro k
 induction k with
 |zero=>intro a;exact zgH _
 |succ k ih=>
  intro a
  unfold run
  split
  ·have:=ih (a+1);omega
  ·omega
theorem z6u (p:Int→Bool)(s:zgS)(d:Bool): ∀k a j,a≤j→j<run p s d k a→p (pk s j d)=true:=by
 intro k
 induction k with
 |zero=>intro a j h1 h2;simp [run] at h2;omega
 |succ k ih=>
  intro a j h1 h2
  unfold run at h2
  by_cases hc:p (pk s a d)=true
  ·rw [if_pos hc] at h2
   by_cases hj:j=a
   ·rw [hj];exact hc
   ·exact ih (a+1) j (by omega) h2
  ·rw [if_neg hc] at h2;omega
theorem zaj {s:zgS}{j:Nat}(h:zg (pk s j false)=true): ∃hj:j<s.size,48≤s[j].toNat∧s[j].toNat≤57:=by
 have hne:pk s j false≠ -1:=fun e=>by rw [e] at h;exact absurd h (by decide)
 have hj:=(jT hne).2
 refine⟨hj,?_⟩
 simp [pk,hj,zg] at h
 omega
theorem z35 (s:zgS)(a r:Nat):(s.extract a r).toList=(s.data.toList.drop a).take (r - a):=by
 rw [zgG]
 rw [ByteArray.data_extract]
 simp [Array.toList_extract,List.extract]
theorem z64 {s:zgS}{a r:Nat}(h: ∀j,a≤j→j<r→zg (pk s j false)=true):zfk (s.extract a r).toList:=by
 intro c hc
 rw [z35] at hc
 obtain⟨i,hi,rfl⟩:=List.getElem_of_mem hc
 simp at hi
 have hl:a+i<s.size:=by omega
 obtain⟨hj,h1⟩:=zaj (h (a+i) (by omega) (by omega))
 rw [List.getElem_take,List.getElem_drop]
 exact h1
theorem z3H {s:zgS}{a:Nat}(h:(zM s a false).2.1=false):zfk (zM s a false).2.2.toList∧(zM s a false).2.2.toList.length≤9∧(zM s a false).2.2.toList.length=(zM s a false).2.2.size:=by
 unfold zM at*
 generalize hm:(if pk s a false==48 then 1 else 9)=m at*
 have hm9:m≤9:=by rw [←hm];split<;>omega
 unfold z05 at*
 simp only at*
 have hup:=zdw zg s false m a
 split
 ·rename_i hq;rw [if_pos hq] at h;cases h
 ·refine⟨z64 fun j h1 h2=>z6u zg s false m a j h1 h2,?_,?_⟩
  ·rw [z35];simp;omega
  ·rw [zgG];rfl
theorem z1R (t:zgS)(w:World)(hs:t.size≤600):Calls Tryz.prog 120 #[.string t] w fun e w'=>z2V (nsM t) w e w':=by
 have hrd0:Rd ((w.alloc (.cells #[.int .i64 0,.bool false,.int .i64 0,.string ⟨#[]⟩] 75)).alloc (.cells #[.string t,.int .i64 0,.bool false,.slice none 0 0,.slice none 0 0,.slice none 0 0,.slice none 0 0] 66)) (w.heap.size+1) t 0 false:=by
  have hg:=heap_alloc_new (w.alloc (.cells #[.int .i64 0,.bool false,.int .i64 0,.string ⟨#[]⟩] 75)) (.cells #[.string t,.int .i64 0,.bool false,.slice none 0 0,.slice none 0 0,.slice none 0 0,.slice none 0 0] 66)
  rw [show(w.alloc (.cells #[.int .i64 0,.bool false,.int .i64 0,.string ⟨#[]⟩] 75)).heap.size=w.heap.size+1 by simp] at hg
  obtain⟨q0,q1,q2,_,_,_,_,qf⟩:=z9f hg
  exact⟨q0,q1,q2,qf _,qf _,zgO _,hs⟩
 have hB0:Below w.heap.size w ((w.alloc (.cells #[.int .i64 0,.bool false,.int .i64 0,.string ⟨#[]⟩] 75)).alloc (.cells #[.string t,.int .i64 0,.bool false,.slice none 0 0,.slice none 0 0,.slice none 0 0,.slice none 0 0] 66)):=((zgR w.heap.size w).alloc (zgH _) _).alloc (by simp) _
 have hX0:((w.alloc (.cells #[.int .i64 0,.bool false,.int .i64 0,.string ⟨#[]⟩] 75)).alloc (.cells #[.string t,.int .i64 0,.bool false,.slice none 0 0,.slice none 0 0,.slice none 0 0,.slice none 0 0] 66)).heap[w.heap.size]?=some (.cells #[.int .i64 0,.bool false,.int .i64 0,.string ⟨#[]⟩] 75):=(zgJ _ _ _ (by simp)).trans (heap_alloc_new w _)
 have hz0:((w.alloc (.cells #[.int .i64 0,.bool false,.int .i64 0,.string ⟨#[]⟩] 75)).alloc (.cells #[.string t,.int .i64 0,.bool false,.slice none 0 0,.slice none 0 0,.slice none 0 0,.slice none 0 0] 66)).heap.size=w.heap.size+2:=by simp
 have H0:=z8 (zgI hrd0 (zgI hB0 (zgI hX0 hz0)))
 clear hrd0 hB0 hX0 hz0
 have HBN:=z8 (fun a W h=>z1P (w.heap.size+1) a t false W h)
 have HPK:=z8 (fun W h=>zn (w.heap.size+1) 0 t false W h)
 have hfin:Hid (nsM t=if z29 t (zM t (z3W t) false).1 (zM t (z3W t) false).2.1||(zds t&&(zM t (z3W t) false).2.2.toList==[48]) then z2F else z1n (if zds t then - z3S (zM t (z3W t) false).2.2.toList else z3S (zM t (z3W t) false).2.2.toList)):=z8 rfl
 have hdig:=z3H (s:=t) (a:=z3W t)
 cases hn:zds t
 case true=>
  have hf:z3W t=1:=by unfold z3W;rw [hn];rfl
  rw [hf] at hfin hdig
  rw [hn] at hfin
  have hpk:(pk t 0 false==45)=true:=hn
  have hbn:=z8 (HBN.out 1)
  generalize zM t 1 false=v at*
  obtain⟨av,dv,tv⟩:=v
  simp only at*
  go_enter Tryz.func120,Tryz.ntmps120
  go_wp2_with fail
  obtain⟨hrd0,hB0,hX0,hz0⟩:=H0.out
  clear H0
  generalize ((w.alloc (.cells #[.int .i64 0,.bool false,.int .i64 0,.string ⟨#[]⟩] 75)).alloc (.cells #[.string t,.int .i64 0,.bool false,.slice none 0 0,.slice none 0 0,.slice none 0 0,.slice none 0 0] 66))=W at*
  refine(HPK.out W hrd0).mono ?_
  rintro e w1 ⟨rfl,n1,rfl⟩
  go_wp2_with fail
  have hpk1:pk t 0 false=((45:UInt8).toNat:Int):=by simpa using hpk
  have hW:=jW (w.heap.size+1) 0 t ⟨#[45]⟩ false _ (hrd0.drewN n1) (by decide)
  rw [show(ByteArray.mk #[45]).data.toList=[45] from rfl,z10 hpk1] at hW
  refine hW.mono ?_
  rintro e wA ⟨rfl,hrA,hsA⟩
  have hXA:=(hsA.block w.heap.size (by omega)).trans hX0
  have hBA:Below w.heap.size w wA:=⟨hsA.os.trans hB0.os,hsA.tape.trans hB0.tape,hsA.output.trans hB0.output,by have:=hsA.size;simp at this;omega,fun k hk=>(hsA.block k (by omega)).trans (hB0.block k hk)⟩
  have hzA:wA.heap.size=w.heap.size+2:=by have:=hsA.size;simp at this;omega
  clear hW hsA hpk1
  have hrA:Rd wA (w.heap.size+1) t 1 false:=hrA
  clear hrd0 hB0 hX0 hz0 HPK
  go_wp2_with fail
  refine(hbn.out wA hrA).mono ?_
  rintro e w2 ⟨rfl,hr2,hs2⟩
  have hE:=z2X _ _ _ _ _ hr2
  have hz2:w2.heap.size=w.heap.size+2:=by have:=hs2.size;omega
  have hX2:=(hs2.block w.heap.size (by omega)).trans hXA
  have hB2:Below w.heap.size w w2:=⟨hs2.os.trans hBA.os,hs2.tape.trans hBA.tape,hs2.output.trans hBA.output,by omega,fun k hk=>(hs2.block k (by omega)).trans (hBA.block k hk)⟩
  clear hs2 hXA hBA hrA hzA hbn HBN
  go_wp2_with fail
  refine hE.mono ?_
  rintro e w3 ⟨rfl,hr3,hs3⟩
  have hz3:w3.heap.size=w.heap.size+2:=by have:=hs3.size;omega
  have hX3:=(hs3.block w.heap.size (by omega)).trans hX2
  have hB3:Below w.heap.size w w3:=⟨hs3.os.trans hB2.os,hs3.tape.trans hB2.tape,hs3.output.trans hB2.output,by omega,fun k hk=>(hs3.block k (by omega)).trans (hB2.block k hk)⟩
  clear hs3 hX2 hB2 hE hr2 hz2
  have hbad:=hr3.c2
  obtain⟨y0,y1,y2,y3,g0,g1,g2,g3⟩:=jt hX3
  have HB3:=z8 hB3
  have HX3:=z8 hX3
  have HR3:=z8 hr3
  clear hB3 hX3 hr3
  cases hen:z29 t av dv
  case true=>
   rw [hen] at hbad
   have hres:Hid (nsM t=z2F):=z8 (by rw [hfin.out,hen];rfl)
   go_wp2_with fail
   obtain⟨z0,z1,z2,z3⟩:=zE HX3.out (.int .i64 0) (.bool false) (.int .i64 0) (.string ⟨#[]⟩)
   refine bodyPost_ret (v:= .agg #[.int .i64 0,.bool false,.int .i64 0,.string ⟨#[]⟩]) (by simp [results,Tryz.results120,go_sem,z0,z1,z2,z3]) rfl ?_
   exact⟨by rw [hres.out];rfl,zU HB3.out (zgH _) _ _ _ _⟩
  rw [hen] at hbad
  cases h48:(tv.toList==[48])
  case true=>
   have hres:Hid (nsM t=z2F):=z8 (by rw [hfin.out,hen,h48];rfl)
   go_wp2_with fail
   obtain⟨z0,z1,z2,z3⟩:=zE HX3.out (.int .i64 0) (.bool false) (.int .i64 0) (.string ⟨#[]⟩)
   refine bodyPost_ret (v:= .agg #[.int .i64 0,.bool false,.int .i64 0,.string ⟨#[]⟩]) (by simp [results,Tryz.results120,go_sem,z0,z1,z2,z3]) rfl ?_
   exact⟨by rw [hres.out];rfl,zU HB3.out (zgH _) _ _ _ _⟩
  have hres:Hid (nsM t=z1n (- z3S tv.toList)):=z8 (by rw [hfin.out,hen,h48];rfl)
  have hdv:dv=false:=by cases hd:dv with|false=>rfl|true=>rw [hd] at hen;cases hen
  have hdig:=z8 (hdig hdv)
  obtain⟨n0,hn0⟩: ∃n0,n0=tv.size:=⟨_,rfl⟩
  have hN:Hid (tv.size=n0):=z8 hn0.symm
  have h9:n0≤9:=by rw [hn0,←hdig.out.2.2];exact hdig.out.2.1
  clear hn0
  have hlen:tv.size≤9:=by rw [hN.out];exact h9
  clear hfin
  go_wp2_with fail
  go_loopg [6,7] (tv.size+1) (fun k nv iv wr=> ∃i:Nat,k+i=tv.size+1∧i≤tv.size∧iv= .int .i64 i∧nv= .int .i64 (z3S (tv.toList.take i))∧wr=w3)
  case atStart=>exact⟨0,rfl,zgO _,rfl,rfl,rfl⟩
  case round=>
   obtain⟨i,hk,hil,rfl,rfl,rfl⟩:=hrel
   have HK:=z8 hk
   clear hk
   by_cases hlt:i<tv.size
   ·have hlt':(i:Int)<tv.size:=by omega
    have hget:tv.toList[i]?=some tv[i]:=by rw [zgG,zgE (show i<tv.data.toList.length from hlt)];rfl
    have hc:=hdig.out.1 tv[i] (zgM hget)
    have hr1:=z2S (tv.toList.take i) (fun c hc=>hdig.out.1 c (List.mem_of_mem_take hc)) (by rw [List.length_take];omega)
    have hst:Hid (z3S (tv.toList.take (i+1))=z3S (tv.toList.take i)*10+((tv[i].toNat:Int)- 48)):=z8 (by rw [List.take_add_one,hget];exact z3T _ _)
    have hr2:=z2S (tv.toList.take (i+1)) (fun c hc=>hdig.out.1 c (List.mem_of_mem_take hc)) (by rw [List.length_take];omega)
    rw [hst.out] at hr2
    generalize z3S (tv.toList.take i)=n at*
    have hc1:48≤(tv[i].toNat:Int):=by omega
    have hc2:(tv[i].toNat:Int)≤57:=by omega
    go_wp2_with fail
    have hk:=HK.out
    go_roundg (tv.size - i)
    case measure=>omega
    case rel=>exact⟨i+1,by omega,by omega,by go_num,by rw [hst.out],rfl⟩
   ·have hlt': ¬(i:Int)<tv.size:=by omega
    have hall:tv.toList.take i=tv.toList:=List.take_of_length_le (by rw [hdig.out.2.2];omega)
    rw [hall]
    have hr1:=z2S tv.toList hdig.out.1 hdig.out.2.1
    generalize z3S tv.toList=n at*
    have HC:=z8 (jf (-n) wr)
    generalize hX:z1n (-n)=X at*
    clear hX
    go_wp2_with fail
    refine HC.out.mono ?_
    rintro e w5 ⟨rfl,hB5⟩
    have hbx:=(hB5.block w.heap.size (by omega)).trans HX3.out
    obtain⟨y0',y1',y2',y3',g0',g1',g2',g3'⟩:=jt hbx
    obtain⟨z0,z1,z2,z3⟩:=zE hbx (.int .i64 X.kind) (.bool X.truth) (.int .i64 X.num) (.string X.text)
    have HB5:=z8 (zU (HB3.out.trans (hB5.mono (by omega))) (zgH w.heap.size) (.int .i64 X.kind) (.bool X.truth) (.int .i64 X.num) (.string X.text))
    clear hbx hB5
    go_wp2_with fail
    refine bodyPost_ret (v:= .agg #[.int .i64 X.kind,.bool X.truth,.int .i64 X.num,.string X.text]) (by simp [results,Tryz.results120,go_sem,z0,z1,z2,z3]) rfl ?_
    exact⟨by rw [hres.out],HB5.out⟩
 case false=>
  have hf:z3W t=0:=by unfold z3W;rw [hn];rfl
  rw [hf] at hfin hdig
  rw [hn] at hfin
  have hpk:(pk t 0 false==45)=false:=hn
  have hbn:=z8 (HBN.out 0)
  generalize zM t 0 false=v at*
  obtain⟨av,dv,tv⟩:=v
  simp only at*
  go_enter Tryz.func120,Tryz.ntmps120
  go_wp2_with fail
  obtain⟨hrd0,hB0,hX0,hz0⟩:=H0.out
  clear H0
  generalize ((w.alloc (.cells #[.int .i64 0,.bool false,.int .i64 0,.string ⟨#[]⟩] 75)).alloc (.cells #[.string t,.int .i64 0,.bool false,.slice none 0 0,.slice none 0 0,.slice none 0 0,.slice none 0 0] 66))=W at*
  refine(HPK.out W hrd0).mono ?_
  rintro e w1 ⟨rfl,n1,rfl⟩
  have hrA:=hrd0.drewN n1
  have hXA:(W.drewN n1).heap[w.heap.size]?=_:=hX0
  have hBA:Below w.heap.size w (W.drewN n1):=⟨hB0.os,hB0.tape,hB0.output,hB0.size,hB0.block⟩
  have hzA:(W.drewN n1).heap.size=w.heap.size+2:=hz0
  generalize (W.drewN n1)=wA at*
  clear hrd0 hB0 hX0 hz0 HPK
  go_wp2_with fail
  refine(hbn.out wA hrA).mono ?_
  rintro e w2 ⟨rfl,hr2,hs2⟩
  have hE:=z2X _ _ _ _ _ hr2
  have hz2:w2.heap.size=w.heap.size+2:=by have:=hs2.size;omega
  have hX2:=(hs2.block w.heap.size (by omega)).trans hXA
  have hB2:Below w.heap.size w w2:=⟨hs2.os.trans hBA.os,hs2.tape.trans hBA.tape,hs2.output.trans hBA.output,by omega,fun k hk=>(hs2.block k (by omega)).trans (hBA.block k hk)⟩
  clear hs2 hXA hBA hrA hzA hbn HBN
  go_wp2_with fail
  refine hE.mono ?_
  rintro e w3 ⟨rfl,hr3,hs3⟩
  have hz3:w3.heap.size=w.heap.size+2:=by have:=hs3.size;omega
  have hX3:=(hs3.block w.heap.size (by omega)).trans hX2
  have hB3:Below w.heap.size w w3:=⟨hs3.os.trans hB2.os,hs3.tape.trans hB2.tape,hs3.output.trans hB2.output,by omega,fun k hk=>(hs3.block k (by omega)).trans (hB2.block k hk)⟩
  clear hs3 hX2 hB2 hE hr2 hz2
  have hbad:=hr3.c2
  obtain⟨y0,y1,y2,y3,g0,g1,g2,g3⟩:=jt hX3
  have HB3:=z8 hB3
  have HX3:=z8 hX3
  have HR3:=z8 hr3
  clear hB3 hX3 hr3
  cases hen:z29 t av dv
  case true=>
   rw [hen] at hbad
   have hres:Hid (nsM t=z2F):=z8 (by rw [hfin.out,hen];rfl)
   go_wp2_with fail
   obtain⟨z0,z1,z2,z3⟩:=zE HX3.out (.int .i64 0) (.bool false) (.int .i64 0) (.string ⟨#[]⟩)
   refine bodyPost_ret (v:= .agg #[.int .i64 0,.bool false,.int .i64 0,.string ⟨#[]⟩]) (by simp [results,Tryz.results120,go_sem,z0,z1,z2,z3]) rfl ?_
   exact⟨by rw [hres.out];rfl,zU HB3.out (zgH _) _ _ _ _⟩
  rw [hen] at hbad
  have hres:Hid (nsM t=z1n (z3S tv.toList)):=z8 (by rw [hfin.out,hen];rfl)
  have hdv:dv=false:=by cases hd:dv with|false=>rfl|true=>rw [hd] at hen;cases hen
  have hdig:=z8 (hdig hdv)
  obtain⟨n0,hn0⟩: ∃n0,n0=tv.size:=⟨_,rfl⟩
  have hN:Hid (tv.size=n0):=z8 hn0.symm
  have h9:n0≤9:=by rw [hn0,←hdig.out.2.2];exact hdig.out.2.1
  clear hn0
  have hlen:tv.size≤9:=by rw [hN.out];exact h9
  clear hfin
  go_wp2_with fail
  go_loopg [6,7] (tv.size+1) (fun k nv iv wr=> ∃i:Nat,k+i=tv.size+1∧i≤tv.size∧iv= .int .i64 i∧nv= .int .i64 (z3S (tv.toList.take i))∧wr=w3)
  case atStart=>exact⟨0,rfl,zgO _,rfl,rfl,rfl⟩
  case round=>
   obtain⟨i,hk,hil,rfl,rfl,rfl⟩:=hrel
   have HK:=z8 hk
   clear hk
   by_cases hlt:i<tv.size
   ·have hlt':(i:Int)<tv.size:=by omega
    have hget:tv.toList[i]?=some tv[i]:=by rw [zgG,zgE (show i<tv.data.toList.length from hlt)];rfl
    have hc:=hdig.out.1 tv[i] (zgM hget)
    have hr1:=z2S (tv.toList.take i) (fun c hc=>hdig.out.1 c (List.mem_of_mem_take hc)) (by rw [List.length_take];omega)
    have hst:Hid (z3S (tv.toList.take (i+1))=z3S (tv.toList.take i)*10+((tv[i].toNat:Int)- 48)):=z8 (by rw [List.take_add_one,hget];exact z3T _ _)
    have hr2:=z2S (tv.toList.take (i+1)) (fun c hc=>hdig.out.1 c (List.mem_of_mem_take hc)) (by rw [List.length_take];omega)
    rw [hst.out] at hr2
    generalize z3S (tv.toList.take i)=n at*
    have hc1:48≤(tv[i].toNat:Int):=by omega
    have hc2:(tv[i].toNat:Int)≤57:=by omega
    go_wp2_with fail
    have hk:=HK.out
    go_roundg (tv.size - i)
    case measure=>omega
    case rel=>exact⟨i+1,by omega,by omega,by go_num,by rw [hst.out],rfl⟩
   ·have hlt': ¬(i:Int)<tv.size:=by omega
    have hall:tv.toList.take i=tv.toList:=List.take_of_length_le (by rw [hdig.out.2.2];omega)
    rw [hall]
    have hr1:=z2S tv.toList hdig.out.1 hdig.out.2.1
    generalize z3S tv.toList=n at*
    have HC:=z8 (jf n wr)
    generalize hX:z1n n=X at*
    clear hX
    go_wp2_with fail
    refine HC.out.mono ?_
    rintro e w5 ⟨rfl,hB5⟩
    have hbx:=(hB5.block w.heap.size (by omega)).trans HX3.out
    obtain⟨y0',y1',y2',y3',g0',g1',g2',g3'⟩:=jt hbx
    obtain⟨z0,z1,z2,z3⟩:=zE hbx (.int .i64 X.kind) (.bool X.truth) (.int .i64 X.num) (.string X.text)
    have HB5:=z8 (zU (HB3.out.trans (hB5.mono (by omega))) (zgH w.heap.size) (.int .i64 X.kind) (.bool X.truth) (.int .i64 X.num) (.string X.text))
    clear hbx hB5
    go_wp2_with fail
    refine bodyPost_ret (v:= .agg #[.int .i64 X.kind,.bool X.truth,.int .i64 X.num,.string X.text]) (by simp [results,Tryz.results120,go_sem,z0,z1,z2,z3]) rfl ?_
    exact⟨by rw [hres.out],HB5.out⟩
def wAt (ws:List Wt)(i:Int):Wt:=if i<0 then z2F else ws.getD i.toNat z2F
theorem z5S (nm:zgS)(m:Nat): ∀l:List (zgS×zgS),(∀p∈l,p.2.size≤m)→(z4G nm l).size≤m:=by
 intro l
 induction l with
 |nil=>intro _;exact zgO _
 |cons y ys ih=>
  intro h
  unfold z4G
  split
  ·exact h y (by simp)
  ·exact ih fun p hp=>h p (by simp [hp])
theorem z0B (base:Nat)(ts:List Wt)(v:Value)(i:Int)(w:World)(h:w.ownsRow base 75 4 v ts.length ((ts.map Wt.cells).flatten))(hlen:ts.length≤100000):
  Calls Tryz.prog 43 #[v,.int .i64 i] w fun e w'=>z2V (wAt ts i) w e w':=by
 have hB:=z8 fun o:Obj=>(zgR w.heap.size w).alloc (zgH _) o
 obtain⟨a0,c0,rfl⟩:=za h
 by_cases h0:i<0
 ·have hfin:Hid (wAt ts i=z2F):=z8 (by unfold wAt;rw [if_pos h0])
  go_enter Tryz.func43,Tryz.ntmps43
  go_wp2_with fail
  refine bodyPost_ret (v:= .agg #[.int .i64 0,.bool false,.int .i64 0,.string ⟨#[]⟩]) (by simp [results,Tryz.results43,go_sem]) rfl ?_
  exact⟨by rw [hfin.out];rfl,hB.out _⟩
 ·obtain⟨j,rfl⟩:=Int.eq_ofNat_of_zero_le (show 0≤i by omega)
  by_cases h1:j<ts.length
  ·obtain⟨g,cap,hv,hb,hg⟩:=h.form (by omega)
   injection hv with e1 e2 e3
   subst e1 e3
   obtain⟨z,hz⟩: ∃z,ts[j]?=some z:=⟨ts[j],zgE h1⟩
   have hcell: ∀k u,z.cells[k]?=some u→k<4→w.cell? ⟨g,j*4+k,none⟩=some u:=fun k u hu hk=>zl h _ _ ((zS Wt.cells 4 Wt.cells_len ts j k z hz hk).trans hu)
   have q0:w.cell? ⟨g,j*4,none⟩=some (.int .i64 z.kind):=hcell 0 _ rfl (by omega)
   have q1:=hcell 1 _ rfl (by omega)
   have q2:=hcell 2 _ rfl (by omega)
   have q3:=hcell 3 _ rfl (by omega)
   have hfin:Hid (wAt ts j=z):=z8 (by unfold wAt;rw [if_neg (by omega)];simp [List.getD,hz])
   have h1':(j:Int)<ts.length:=by omega
   have hgg:g≠w.heap.size:=by omega
   clear hcell hz
   go_enter Tryz.func43,Tryz.ntmps43
   go_wp2_with fail
   refine bodyPost_ret (v:= .agg #[.int .i64 z.kind,.bool z.truth,.int .i64 z.num,.string z.text]) (by simp [results,Tryz.results43,go_sem]) rfl ?_
   exact⟨by rw [hfin.out],hB.out _⟩
  ·have hfin:Hid (wAt ts j=z2F):=z8 (by unfold wAt;rw [if_neg (by omega)];simp [List.getElem?_eq_none (Nat.le_of_not_lt h1)])
   have h1': ¬(j:Int)<ts.length:=by omega
   go_enter Tryz.func43,Tryz.ntmps43
   go_wp2_with fail
   refine bodyPost_ret (v:= .agg #[.int .i64 0,.bool false,.int .i64 0,.string ⟨#[]⟩]) (by simp [results,Tryz.results43,go_sem]) rfl ?_
   exact⟨by rw [hfin.out];rfl,hB.out _⟩
def z4b (x y:Wt):Bool:=(x.num==y.num)&&(x.text.toList==y.text.toList)
def z49 (x y:Wt):Bool:=decide (x.num<y.num)||Op.bytesLess x.text.toList y.text.toList
def z5B (t:zgS)(x y:Wt):Bool:=
 if t.toList==[61,61] then z4b x y else if t.toList==[33,61] then !z4b x y else if t.toList==[60] then z49 x y
 else if t.toList==[60,61] then z49 x y||z4b x y else if t.toList==[62] then !z49 x y&& !z4b x y else !z49 x y
theorem z1A {b c:Bool}{w:World}{e:Ending}{w':World}(h:z2V (z1t b) w e w')(hbc:b=c):z2V (z1t c) w e w':=hbc▸h
theorem z6b (t:zgS)(x y:Wt)(w:World):Calls Tryz.prog 154 #[.string t,.agg #[.int .i64 x.kind,.bool x.truth,.int .i64 x.num,.string x.text],.agg #[.int .i64 y.kind,.bool y.truth,.int .i64 y.num,.string y.text]] w fun e w'=>z2V (z1t (z5B t x y)) w e w':=by
 have HB0:Hid (Below w.heap.size w (((w.alloc (.cells #[.int .i64 x.kind,.bool x.truth,.int .i64 x.num,.string x.text] 75)).alloc (.cells #[.int .i64 y.kind,.bool y.truth,.int .i64 y.num,.string y.text] 75)).alloc (.cells #[.int .i64 0,.bool false,.int .i64 0,.string ⟨#[]⟩] 75))):=z8 ((((zgR w.heap.size w).alloc (zgH _) (.cells #[.int .i64 x.kind,.bool x.truth,.int .i64 x.num,.string x.text] 75)).alloc (by simp<;>omega) (.cells #[.int .i64 y.kind,.bool y.truth,.int .i64 y.num,.string y.text] 75)).alloc (by simp<;>omega) (.cells #[.int .i64 0,.bool false,.int .i64 0,.string ⟨#[]⟩] 75))
 have HX:Hid ((((w.alloc (.cells #[.int .i64 x.kind,.bool x.truth,.int .i64 x.num,.string x.text] 75)).alloc (.cells #[.int .i64 y.kind,.bool y.truth,.int .i64 y.num,.string y.text] 75)).alloc (.cells #[.int .i64 0,.bool false,.int .i64 0,.string ⟨#[]⟩] 75)).heap[w.heap.size+1+1]?=some (.cells #[.int .i64 0,.bool false,.int .i64 0,.string ⟨#[]⟩] 75)):=z8 (by have q:=heap_alloc_new ((w.alloc (.cells #[.int .i64 x.kind,.bool x.truth,.int .i64 x.num,.string x.text] 75)).alloc (.cells #[.int .i64 y.kind,.bool y.truth,.int .i64 y.num,.string y.text] 75)) (.cells #[.int .i64 0,.bool false,.int .i64 0,.string ⟨#[]⟩] 75);rw [show((w.alloc (.cells #[.int .i64 x.kind,.bool x.truth,.int .i64 x.num,.string x.text] 75)).alloc (.cells #[.int .i64 y.kind,.bool y.truth,.int .i64 y.num,.string y.text] 75)).heap.size=w.heap.size+1+1 by simp] at q;exact q)
 have HZ:Hid (w.heap.size+1+1<(((w.alloc (.cells #[.int .i64 x.kind,.bool x.truth,.int .i64 x.num,.string x.text] 75)).alloc (.cells #[.int .i64 y.kind,.bool y.truth,.int .i64 y.num,.string y.text] 75)).alloc (.cells #[.int .i64 0,.bool false,.int .i64 0,.string ⟨#[]⟩] 75)).heap.size):=z8 (by simp)
 have HZ1:Hid (w.heap.size≤(((w.alloc (.cells #[.int .i64 x.kind,.bool x.truth,.int .i64 x.num,.string x.text] 75)).alloc (.cells #[.int .i64 y.kind,.bool y.truth,.int .i64 y.num,.string y.text] 75)).alloc (.cells #[.int .i64 0,.bool false,.int .i64 0,.string ⟨#[]⟩] 75)).heap.size):=z8 (by simp<;>omega)
 have HG:Hid (w.heap.size≤w.heap.size+1+1):=z8 (by omega)
 have HC:=z8 (fun b=>z15 b (((w.alloc (.cells #[.int .i64 x.kind,.bool x.truth,.int .i64 x.num,.string x.text] 75)).alloc (.cells #[.int .i64 y.kind,.bool y.truth,.int .i64 y.num,.string y.text] 75)).alloc (.cells #[.int .i64 0,.bool false,.int .i64 0,.string ⟨#[]⟩] 75)))
 have hcase:(x.num<y.num∧(x.num==y.num)=false)∨(¬x.num<y.num∧(x.num==y.num)=true)∨(¬x.num<y.num∧(x.num==y.num)=false):=by simp only [beq_eq_false_iff_ne,beq_iff_eq,ne_eq];omega
 have hX: ∃X,X=z1t (z5B t x y):=⟨_,rfl⟩
 obtain⟨X,hX⟩:=hX
 have HXX:=z8 hX
 clear hX
 cases g1:(t.toList==[61,61])
 case true=>
  cases hl:Op.bytesLess x.text.toList y.text.toList
  all_goals rcases hcase with⟨h1,h2⟩|⟨h1,h2⟩|⟨h1,h2⟩
  all_goals
   go_enter Tryz.func154,Tryz.ntmps154
   go_wp2_with fail
   refine(HC.out _).mono ?_
   intro e w1 hq
   have hq':=z1A (c:=z5B t x y) hq (by(simp [z5B,z4b,z49,g1,h1,h2,hl]);try(intro hh;omega))
   rw [←HXX.out] at hq'
   clear hq
   obtain⟨rfl,hB1⟩:=hq'
   have hbx:=(hB1.block _ HZ.out).trans HX.out
   obtain⟨y0,y1,y2,y3,g0,g1,g2,g3⟩:=jt hbx
   obtain⟨z0,z1,z2,z3⟩:=zE hbx (.int .i64 X.kind) (.bool X.truth) (.int .i64 X.num) (.string X.text)
   have HB2:=z8 (zU (HB0.out.trans (hB1.mono HZ1.out)) HG.out (.int .i64 X.kind) (.bool X.truth) (.int .i64 X.num) (.string X.text))
   clear hbx hB1
   go_wp2_with fail
   refine bodyPost_ret (v:= .agg #[.int .i64 X.kind,.bool X.truth,.int .i64 X.num,.string X.text]) (by simp [results,Tryz.results154,go_sem,z0,z1,z2,z3]) rfl ?_
   exact⟨by rw [←HXX.out],HB2.out⟩
 cases g2:(t.toList==[33,61])
 case true=>
  cases hl:Op.bytesLess x.text.toList y.text.toList
  all_goals rcases hcase with⟨h1,h2⟩|⟨h1,h2⟩|⟨h1,h2⟩
  all_goals
   go_enter Tryz.func154,Tryz.ntmps154
   go_wp2_with fail
   refine(HC.out _).mono ?_
   intro e w1 hq
   have hq':=z1A (c:=z5B t x y) hq (by(simp [z5B,z4b,z49,g1,g2,h1,h2,hl]);try(intro hh;omega))
   rw [←HXX.out] at hq'
   clear hq
   obtain⟨rfl,hB1⟩:=hq'
   have hbx:=(hB1.block _ HZ.out).trans HX.out
   obtain⟨y0,y1,y2,y3,g0,g1,g2,g3⟩:=jt hbx
   obtain⟨z0,z1,z2,z3⟩:=zE hbx (.int .i64 X.kind) (.bool X.truth) (.int .i64 X.num) (.string X.text)
   have HB2:=z8 (zU (HB0.out.trans (hB1.mono HZ1.out)) HG.out (.int .i64 X.kind) (.bool X.truth) (.int .i64 X.num) (.string X.text))
   clear hbx hB1
   go_wp2_with fail
   refine bodyPost_ret (v:= .agg #[.int .i64 X.kind,.bool X.truth,.int .i64 X.num,.string X.text]) (by simp [results,Tryz.results154,go_sem,z0,z1,z2,z3]) rfl ?_
   exact⟨by rw [←HXX.out],HB2.out⟩
 cases g3:(t.toList==[60])
 case true=>
  cases hl:Op.bytesLess x.text.toList y.text.toList
  all_goals rcases hcase with⟨h1,h2⟩|⟨h1,h2⟩|⟨h1,h2⟩
  all_goals
   go_enter Tryz.func154,Tryz.ntmps154
   go_wp2_with fail
   refine(HC.out _).mono ?_
   intro e w1 hq
   have hq':=z1A (c:=z5B t x y) hq (by(simp [z5B,z4b,z49,g1,g2,g3,h1,h2,hl]);try(intro hh;omega))
   rw [←HXX.out] at hq'
   clear hq
   obtain⟨rfl,hB1⟩:=hq'
   have hbx:=(hB1.block _ HZ.out).trans HX.out
   obtain⟨y0,y1,y2,y3,g0,g1,g2,g3⟩:=jt hbx
   obtain⟨z0,z1,z2,z3⟩:=zE hbx (.int .i64 X.kind) (.bool X.truth) (.int .i64 X.num) (.string X.text)
   have HB2:=z8 (zU (HB0.out.trans (hB1.mono HZ1.out)) HG.out (.int .i64 X.kind) (.bool X.truth) (.int .i64 X.num) (.string X.text))
   clear hbx hB1
   go_wp2_with fail
   refine bodyPost_ret (v:= .agg #[.int .i64 X.kind,.bool X.truth,.int .i64 X.num,.string X.text]) (by simp [results,Tryz.results154,go_sem,z0,z1,z2,z3]) rfl ?_
   exact⟨by rw [←HXX.out],HB2.out⟩
 cases g4:(t.toList==[60,61])
 case true=>
  cases hl:Op.bytesLess x.text.toList y.text.toList
  all_goals rcases hcase with⟨h1,h2⟩|⟨h1,h2⟩|⟨h1,h2⟩
  all_goals
   go_enter Tryz.func154,Tryz.ntmps154
   go_wp2_with fail
   refine(HC.out _).mono ?_
   intro e w1 hq
   have hq':=z1A (c:=z5B t x y) hq (by(simp [z5B,z4b,z49,g1,g2,g3,g4,h1,h2,hl]);try(intro hh;omega))
   rw [←HXX.out] at hq'
   clear hq
   obtain⟨rfl,hB1⟩:=hq'
   have hbx:=(hB1.block _ HZ.out).trans HX.out
   obtain⟨y0,y1,y2,y3,g0,g1,g2,g3⟩:=jt hbx
   obtain⟨z0,z1,z2,z3⟩:=zE hbx (.int .i64 X.kind) (.bool X.truth) (.int .i64 X.num) (.string X.text)
   have HB2:=z8 (zU (HB0.out.trans (hB1.mono HZ1.out)) HG.out (.int .i64 X.kind) (.bool X.truth) (.int .i64 X.num) (.string X.text))
   clear hbx hB1
   go_wp2_with fail
   refine bodyPost_ret (v:= .agg #[.int .i64 X.kind,.bool X.truth,.int .i64 X.num,.string X.text]) (by simp [results,Tryz.results154,go_sem,z0,z1,z2,z3]) rfl ?_
   exact⟨by rw [←HXX.out],HB2.out⟩
 cases g5:(t.toList==[62])
 case true=>
  cases hl:Op.bytesLess x.text.toList y.text.toList
  all_goals rcases hcase with⟨h1,h2⟩|⟨h1,h2⟩|⟨h1,h2⟩
  all_goals
   go_enter Tryz.func154,Tryz.ntmps154
   go_wp2_with fail
   refine(HC.out _).mono ?_
   intro e w1 hq
   have hq':=z1A (c:=z5B t x y) hq (by(simp [z5B,z4b,z49,g1,g2,g3,g4,g5,h1,h2,hl]);try(intro hh;omega))
   rw [←HXX.out] at hq'
   clear hq
   obtain⟨rfl,hB1⟩:=hq'
   have hbx:=(hB1.block _ HZ.out).trans HX.out
   obtain⟨y0,y1,y2,y3,g0,g1,g2,g3⟩:=jt hbx
   obtain⟨z0,z1,z2,z3⟩:=zE hbx (.int .i64 X.kind) (.bool X.truth) (.int .i64 X.num) (.string X.text)
   have HB2:=z8 (zU (HB0.out.trans (hB1.mono HZ1.out)) HG.out (.int .i64 X.kind) (.bool X.truth) (.int .i64 X.num) (.string X.text))
   clear hbx hB1
   go_wp2_with fail
   refine bodyPost_ret (v:= .agg #[.int .i64 X.kind,.bool X.truth,.int .i64 X.num,.string X.text]) (by simp [results,Tryz.results154,go_sem,z0,z1,z2,z3]) rfl ?_
   exact⟨by rw [←HXX.out],HB2.out⟩
 cases hl:Op.bytesLess x.text.toList y.text.toList
 all_goals rcases hcase with⟨h1,h2⟩|⟨h1,h2⟩|⟨h1,h2⟩
 all_goals
  go_enter Tryz.func154,Tryz.ntmps154
  go_wp2_with fail
  refine(HC.out _).mono ?_
  intro e w1 hq
  have hq':=z1A (c:=z5B t x y) hq (by(simp [z5B,z4b,z49,g1,g2,g3,g4,g5,h1,h2,hl]);try(intro hh;omega))
  rw [←HXX.out] at hq'
  clear hq
  obtain⟨rfl,hB1⟩:=hq'
  have hbx:=(hB1.block _ HZ.out).trans HX.out
  obtain⟨y0,y1,y2,y3,g0,g1,g2,g3⟩:=jt hbx
  obtain⟨z0,z1,z2,z3⟩:=zE hbx (.int .i64 X.kind) (.bool X.truth) (.int .i64 X.num) (.string X.text)
  have HB2:=z8 (zU (HB0.out.trans (hB1.mono HZ1.out)) HG.out (.int .i64 X.kind) (.bool X.truth) (.int .i64 X.num) (.string X.text))
  clear hbx hB1
  go_wp2_with fail
  refine bodyPost_ret (v:= .agg #[.int .i64 X.kind,.bool X.truth,.int .i64 X.num,.string X.text]) (by simp [results,Tryz.results154,go_sem,z0,z1,z2,z3]) rfl ?_
  exact⟨by rw [←HXX.out],HB2.out⟩
end Go.Proofs.YtkoohcilbpdgeaaGreatDoor
