import Derived.Deep.LoopGhost
import Derived.RegionTactic
import Derived.ChangeAlike
import Derived.Test.YtkoohcilbpdgeaaDoorC01
set_option linter.all false
set_option linter.unusedVariables false
set_option linter.unusedSimpArgs false
set_option linter.unnecessarySimpa false
set_option linter.constructorNameAsVariable false
set_option linter.deprecated false
set_option maxRecDepth 100000
set_option maxHeartbeats 6400000
namespace Go.Proofs.YtkoohcilbpdgeaaDoor
open Go Go.RowKit
attribute [local go_sem] wrap64_byte
theorem z2h (s:z6P)(n:Nat)(ihs:OKE s 40 2 n)(ihn:OKE s 52 3 n):OKE s 40 2 (n+1):=by
 intro X b st w r st' hM hI hX
 have hM':(if pkS s st !=33 then M s n 3 0 st else(M s n 2 0 (sgn s [33] st)).bind fun r=>zX r.2 ⟨5,st.at_,⟨#[33]⟩,r.1,-1⟩)=some (r,st'):=hM
 clear hM
 have hrd:=hI.rd
 obtain⟨c0,c1,c2,f1,f2,_,_⟩:=id hrd
 cases hc:(pkS s st !=33)
 ·rw [hc] at hM'
  have hc:(pk s st.at_ st.bad !=33)=false:=hc
  obtain⟨⟨r2,st2⟩,h2,h3⟩:=z6A.1 hM'
  obtain⟨hl,h6⟩:=zh h3
  cases h6
  have HH:=z6 h2
  clear hM' h2 h3
  go_enter Tryd.func40,Tryd.ntmps40
  go_wp2_with (first|(go_at_call 20;refine(zj _ _ _ _ _ hrd).mono ?_;rintro e w2 ⟨rfl,n2,rfl⟩)|(go_at_call 27;refine(zR b _ s _ _ _ (by exact hrd.drewN _) (by decide)).mono ?_;rintro e w3 ⟨rfl,hr3,hs3⟩))
  have hI3:=(hI.drewN n2).sc hr3 hs3
  have hF3:=((Fr.refl X w).drewN n2).trans (hs3.fr hI3.nob)
  refine(ihs X b _ _ r2 st2 HH.out hI3 (hF3.lt hX)).mono ?_
  rintro e w4 ⟨rfl,hI4,hF4⟩
  go_wp2_with fail
  refine(z0c X b s st2 _ _ _ _ hI4 (hF4.lt (hF3.lt hX)) hl).mono ?_
  rintro e w5 ⟨rfl,hI5,hF5⟩
  go_wp2_with fail
  go_ret
  exact⟨rfl,hI5,(hF3.trans hF4).trans hF5⟩
 ·rw [hc] at hM'
  have hc:(pk s st.at_ st.bad !=33)=true:=hc
  have HH:Hid (M s n 3 0 st=some (r,st')):=z6 hM'
  clear hM'
  go_enter Tryd.func40,Tryd.ntmps40
  go_wp2_with (go_at_call 20;refine(zj _ _ _ _ _ hrd).mono ?_;rintro e w2 ⟨rfl,n2,rfl⟩)
  refine(ihn X b st _ r st' HH.out (hI.drewN _) hX).mono ?_
  rintro e w4 ⟨rfl,hI4,hF4⟩
  go_wp2_with fail
  go_ret
  exact⟨rfl,hI4,((Fr.refl X w).drewN n2).trans hF4⟩
theorem z3h (s:z6P)(n:Nat)(ihs:OKE s 67 6 n)(ihn:OKE s 70 7 n):OKE s 67 6 (n+1):=by
 intro X b st w r st' hM hI hX
 have hM':(if pkS s st !=45 then M s n 7 0 st else(M s n 6 0 (sgn s [45] st)).bind fun r=>zX r.2 ⟨5,st.at_,⟨#[45]⟩,r.1,-1⟩)=some (r,st'):=hM
 clear hM
 have hrd:=hI.rd
 obtain⟨c0,c1,c2,f1,f2,_,_⟩:=id hrd
 cases hc:(pkS s st !=45)
 ·rw [hc] at hM'
  have hc:(pk s st.at_ st.bad !=45)=false:=hc
  obtain⟨⟨r2,st2⟩,h2,h3⟩:=z6A.1 hM'
  obtain⟨hl,h6⟩:=zh h3
  cases h6
  have HH:=z6 h2
  clear hM' h2 h3
  go_enter Tryd.func67,Tryd.ntmps67
  go_wp2_with (first|(go_at_call 20;refine(zj _ _ _ _ _ hrd).mono ?_;rintro e w2 ⟨rfl,n2,rfl⟩)|(go_at_call 27;refine(zR b _ s _ _ _ (by exact hrd.drewN _) (by decide)).mono ?_;rintro e w3 ⟨rfl,hr3,hs3⟩))
  have hI3:=(hI.drewN n2).sc hr3 hs3
  have hF3:=((Fr.refl X w).drewN n2).trans (hs3.fr hI3.nob)
  refine(ihs X b _ _ r2 st2 HH.out hI3 (hF3.lt hX)).mono ?_
  rintro e w4 ⟨rfl,hI4,hF4⟩
  go_wp2_with fail
  refine(z0c X b s st2 _ _ _ _ hI4 (hF4.lt (hF3.lt hX)) hl).mono ?_
  rintro e w5 ⟨rfl,hI5,hF5⟩
  go_wp2_with fail
  go_ret
  exact⟨rfl,hI5,(hF3.trans hF4).trans hF5⟩
 ·rw [hc] at hM'
  have hc:(pk s st.at_ st.bad !=45)=true:=hc
  have HH:Hid (M s n 7 0 st=some (r,st')):=z6 hM'
  clear hM'
  go_enter Tryd.func67,Tryd.ntmps67
  go_wp2_with (go_at_call 20;refine(zj _ _ _ _ _ hrd).mono ?_;rintro e w2 ⟨rfl,n2,rfl⟩)
  refine(ihn X b st _ r st' HH.out (hI.drewN _) hX).mono ?_
  rintro e w4 ⟨rfl,hI4,hF4⟩
  go_wp2_with fail
  go_ret
  exact⟨rfl,hI4,((Fr.refl X w).drewN n2).trans hF4⟩
theorem z1a (s:z6P)(n:Nat)(ih:OKE s 60 4 n):OKE s 52 3 (n+1):=by
 intro X b st w r st' hM hI hX
 have hM':((M s n 4 0 st).bind fun r=>if(z7 s r.2.at_ r.2.bad).2.2.size==0 then some (r.1,r.2.put3 (z7 s r.2.at_ r.2.bad)) else(M s n 4 0 (r.2.put3 (z7 s r.2.at_ r.2.bad))).bind fun q=>zX q.2 ⟨6,r.2.at_,(z7 s r.2.at_ r.2.bad).2.2,r.1,q.1⟩)=some (r,st'):=hM
 obtain⟨⟨l1,st1⟩,h1,h2⟩:=z6A.1 hM'
 have H1:=z6 h1
 have H2:=z6 h2
 clear hM hM' h1 h2
 go_enter Tryd.func52,Tryd.ntmps52
 go_wp2_with fail
 refine(ih X b st w l1 st1 H1.out hI hX).mono ?_
 rintro e w1 ⟨rfl,hI1,hF1⟩
 have hrd:=hI1.rd
 have HS:=fun n2=>z0A b st1.at_ s st1.bad (w1.drewN n2) (hrd.drewN n2)
 have HS:=z6 HS
 obtain⟨c0,c1,c2,f1,f2,_,_⟩:=id hrd
 have h2:=H2.out
 clear H2
 generalize z7 s st1.at_ st1.bad=c at*
 obtain⟨ca,cd,ct⟩:=c
 simp only at h2
 have HS':Hid (Calls Tryd.prog 61 #[.pointer (some ⟨b,0,none⟩)] w1 fun e w'=>e= .returned (.string ct)∧Rd w' b s ca cd∧Sc b w1 w'):=HS.out 0
 clear HS
 cases hc:(ct.size==0)
 ·rw [hc] at h2
  have hc2:=z0B hc
  obtain⟨⟨r2,st2⟩,h3,h4⟩:=z6A.1 h2
  obtain⟨hl,h6⟩:=zh h4
  cases h6
  have HH:=z6 h3
  clear h2 h3 h4
  go_wp2_with (go_at_call 61;refine HS'.out.mono ?_;rintro e w3 ⟨rfl,hr3,hs3⟩)
  have hI3:=hI1.sc hr3 hs3
  have hF3:=hF1.trans (hs3.fr hI3.nob)
  refine(ih X b _ _ r2 st2 HH.out hI3 (hF3.lt hX)).mono ?_
  rintro e w4 ⟨rfl,hI4,hF4⟩
  go_wp2_with fail
  refine(jn X b s st2 _ _ _ _ _ hI4 (hF4.lt (hF3.lt hX)) hl).mono ?_
  rintro e w5 ⟨rfl,hI5,hF5⟩
  go_wp2_with fail
  go_ret
  exact⟨rfl,hI5,(hF3.trans hF4).trans hF5⟩
 ·rw [hc] at h2
  have hc2:=z07 hc
  simp at h2
  obtain⟨rfl,rfl⟩:=h2
  go_wp2_with (go_at_call 61;refine HS'.out.mono ?_;rintro e w3 ⟨rfl,hr3,hs3⟩)
  have hI3:=hI1.sc hr3 hs3
  go_ret
  exact⟨rfl,hI3,hF1.trans (hs3.fr hI3.nob)⟩
theorem z1T (W:World)(H:Nat)(hH:W.heap.size=H)(cs:Array Value)(t:TypeId): ∀j u,cs.toList[j]?=some u→(W.alloc (.cells cs t)).cell? ((⟨H,0,none⟩:Addr).add j)=some u:=by
 subst hH
 exact World.news_of_block (heap_alloc_new _ _)
theorem z6n {w:World}{g:Nat}{a b c d:Value}{t:TypeId}(h:w.heap[g]?=some (.cells #[a,b,c,d] t))(p q r u:Value):
  ((((w.setCell ⟨g,0,none⟩ p).setCell ⟨g,1,none⟩ q).setCell ⟨g,2,none⟩ r).setCell ⟨g,3,none⟩ u).heap[g]?=some (.cells #[p,q,r,u] t):=by
 simp [World.setCell,Array.getElem?_modify,h]
theorem z6b (s:z6P): ∀n,OKE s 15 0 n∧OKE s 26 1 n∧OKE s 40 2 n∧OKE s 52 3 n∧OKE s 60 4 n∧OKE s 64 5 n∧OKE s 67 6 n∧OKE s 70 7 n:=by
 have hz: ∀f tag,OKE s f tag 0:=fun f tag X b st w r st' h=>by simp [M] at h
 intro n
 induction n using Nat.strongRecOn with
 |_ n ih=>
  cases n with
  |zero=>exact⟨hz _ _,hz _ _,hz _ _,hz _ _,hz _ _,hz _ _,hz _ _,hz _ _⟩
  |succ n=>
   have hn:=ih n (Nat.lt_succ_self n)
   exact⟨z3Q s n fun m h=>(ih m (by omega)).2.1,z23 s n fun m h=>(ih m (by omega)).2.2.1,z2h s n hn.2.2.1 hn.2.2.2.1,z1a s n hn.2.2.2.2.1,
    z4f s n fun m h=>(ih m (by omega)).2.2.2.2.2.1,z2m s n fun m h=>(ih m (by omega)).2.2.2.2.2.2.1,z3h s n hn.2.2.2.2.2.2.1 hn.2.2.2.2.2.2.2,z29 s n hn.1⟩
def st0:St:=⟨0,false,[],[],[],[]⟩
structure TreeV (w:World)(base:Nat)(st:St)(V:Nat→Value)(iv cv:List Value):Prop where
 own: ∀o,3≤o→o≤6→w.ownsRow base (elT o) (szT o) (V o) (nOf st o) (z6k st iv cv o)
 il:iv.length=st.L.length
 cl:cv.length=st.C.length
 items: ∀(i:Nat) (l:Lc) (v:Value),st.L[i]?=some l→iv[i]?=some v→w.ownsRow base 3 1 v l.items.length (l.items.map (Value.int .i64))
 clauses: ∀(i:Nat) (l:List Cl) (v:Value),st.C[i]?=some l→cv[i]?=some v→w.ownsRow base 121 4 v l.length ((l.map Cl.cells).flatten)
theorem jR {w:World}{base base' e size n:Nat}{v:Value}{xs:List Value}(h:w.ownsRow base e size v n xs)(hb:base'≤base):w.ownsRow base' e size v n xs:=by
 refine⟨h.1,?_⟩
 rcases h.2 with hn|⟨g,cap,cur,hv,hg,r⟩
 ·exact .inl hn
 ·exact .inr ⟨g,cap,cur,hv,z6M hb hg,r⟩
theorem InvV.tree {X:Nat→Prop}{w w':World}{b:Nat}{s:z6P}{st:St}{V:Nat→Value}{iv cv:List Value}(g:InvV X w b s st V iv cv){base:Nat}(hb:base≤b+1)(hk: ∀k,b+1≤k→w'.heap[k]?=w.heap[k]?):TreeV w' base st V iv cv:=
 ⟨fun o h3 h6=>jR (ze (g.rows.own o h3 h6) fun k e=>hk k ((g.rows.own o h3 h6).lt k e).1) hb,g.il,g.cl,
  fun i l v h1 h2=>jR (ze (g.items i l v h1 h2).own fun k e=>hk k ((g.items i l v h1 h2).own.lt k e).1) hb,
  fun i l v h1 h2=>jR (ze (g.clauses i l v h1 h2).own fun k e=>hk k ((g.clauses i l v h1 h2).own.lt k e).1) hb⟩
theorem z3R {X:Nat→Prop}{w:World}{b:Nat}{s:z6P}(hs:s.size≤600)(hX: ¬X b)
  (h:w.heap[b]?=some (.cells #[.string s,.int .i64 0,.bool false,.slice none 0 0,.slice none 0 0,.slice none 0 0,.slice none 0 0] 39)):Inv X w b s st0:=by
 have hc: ∀o,3≤o→o≤6→w.cell? ⟨b,o,none⟩=some (.slice none 0 0):=fun o h3 h6=>by
  match o,h3,h6 with
  |3,_,_=>simp [World.cell?,h]
  |4,_,_=>simp [World.cell?,h]
  |5,_,_=>simp [World.cell?,h]
  |6,_,_=>simp [World.cell?,h]
 refine⟨fun _=> .slice none 0 0,[],[],⟨by simp [World.cell?,h],by simp [World.cell?,h,st0],by simp [World.cell?,h,st0],by simp [World.frozen?,h],by simp [World.frozen?,h],z6L _,hs⟩,
  ⟨hc,fun o _ _=>by simp [World.frozen?,h],fun o h3 h6=> ?_,fun o p k _ _ _ _ _ e=>by simp [Value.ownBlock] at e,hX,fun o k _ _ e=>by simp [Value.ownBlock] at e⟩,
  rfl,rfl,fun i l v h1=>by simp [st0] at h1,fun i l v h1=>by simp [st0] at h1⟩
 match o,h3,h6 with
 |3,_,_=>exact World.ownsRow_nil _ _ _ _
 |4,_,_=>exact World.ownsRow_nil _ _ _ _
 |5,_,_=>exact World.ownsRow_nil _ _ _ _
 |6,_,_=>exact World.ownsRow_nil _ _ _ _
theorem z5q {w:World}{g:Nat}{a b c d e f h:Value}{t:TypeId}(hh:w.heap[g]?=some (.cells #[a,b,c,d,e,f,h] t)):
  w.cell? ⟨g,0,none⟩=some a∧w.cell? ⟨g,1,none⟩=some b∧w.cell? ⟨g,2,none⟩=some c∧w.cell? ⟨g,3,none⟩=some d∧w.cell? ⟨g,4,none⟩=some e∧w.cell? ⟨g,5,none⟩=some f∧w.cell? ⟨g,6,none⟩=some h∧(∀o,w.frozen? ⟨g,o,none⟩=false):=by
 simp [World.cell?,World.frozen?,hh]
theorem zk {w:World}{base e size n:Nat}{v:Value}{xs:List Value}(h:w.ownsRow base e size v n xs): ∃a c,v= .slice a n c:=by
 rcases h.2 with⟨h1,h2⟩|⟨g,cap,cur,hv,_⟩
 ·exact⟨none,0,by rw [h1,h2]⟩
 ·exact⟨_,_,hv⟩
def z2R:Array Value:= #[.string ⟨#[]⟩,.int .i64 0,.bool false,.slice none 0 0,.slice none 0 0,.slice none 0 0,.slice none 0 0]
def zo (b:Bool)(m:Int):Int:=if b then m else 0
def je (t:z6P):Bool:=t.toList==[61,61]||t.toList==[33,61]||t.toList==[60]||t.toList==[60,61]||t.toList==[62]||t.toList==[62,61]
def za (t:z6P)(l r:Int):Int:=
 if l !=r then 0
 else if t.toList==[124,124]||t.toList==[38,38] then zo (l==1) 1
 else if je t then zo (l !=1) 1
 else if t.toList==[46] then zo (l==3) 3
 else zo (l==2) 2
def zg (x:Ex)(l r:Int):Int:=
 if x.form==0||x.form==4 then 2
 else if x.form==1||x.form==3 then 3
 else if x.form==2 then 1
 else if x.form==7 then zo (l==1) 1
 else if x.form==5 then if x.text.toList==[33] then zo (l==1) 1 else zo (l==2) 2
 else if x.form==6 then za x.text l r
 else 0
def zf (ts:List Int)(i:Int):Int:=if i<0 then 0 else ts.getD i.toNat 0
theorem zs (v:Bool)(m:Int)(w:World):Calls Tryd.prog 29 #[.bool v,.int .i64 m] w fun e w'=>e= .returned (.int .i64 (zo v m))∧w'=w:=by
 cases v
 all_goals
  go_enter Tryd.func29,Tryd.ntmps29
  go_wp2_with fail
  go_ret
  exact⟨rfl,rfl⟩
theorem z1o (t:z6P)(l r:Int)(w:World):Calls Tryd.prog 30 #[.string t,.int .i64 l,.int .i64 r] w fun e w'=>e= .returned (.int .i64 (za t l r))∧w'=w:=by
 cases h0:(l !=r)
 ·cases h1:(t.toList==[124,124])
  case true=>
   go_enter Tryd.func30,Tryd.ntmps30
   go_wp2_with (go_at_call 29;refine(zs _ _ _).mono ?_;rintro e w1 ⟨rfl,rfl⟩)
   go_ret
   exact⟨by simp [za,je,h0,h1],rfl⟩
  cases h2:(t.toList==[38,38])
  case true=>
   go_enter Tryd.func30,Tryd.ntmps30
   go_wp2_with (go_at_call 29;refine(zs _ _ _).mono ?_;rintro e w1 ⟨rfl,rfl⟩)
   go_ret
   exact⟨by simp [za,je,h0,h1,h2],rfl⟩
  cases h3:(t.toList==[61,61])
  case true=>
   go_enter Tryd.func30,Tryd.ntmps30
   go_wp2_with (go_at_call 29;refine(zs _ _ _).mono ?_;rintro e w1 ⟨rfl,rfl⟩)
   go_ret
   exact⟨by simp [za,je,h0,h1,h2,h3],rfl⟩
  cases h4:(t.toList==[33,61])
  case true=>
   go_enter Tryd.func30,Tryd.ntmps30
   go_wp2_with (go_at_call 29;refine(zs _ _ _).mono ?_;rintro e w1 ⟨rfl,rfl⟩)
   go_ret
   exact⟨by simp [za,je,h0,h1,h2,h3,h4],rfl⟩
  cases h5:(t.toList==[60])
  case true=>
   go_enter Tryd.func30,Tryd.ntmps30
   go_wp2_with (go_at_call 29;refine(zs _ _ _).mono ?_;rintro e w1 ⟨rfl,rfl⟩)
   go_ret
   exact⟨by simp [za,je,h0,h1,h2,h3,h4,h5],rfl⟩
  cases h6:(t.toList==[60,61])
  case true=>
   go_enter Tryd.func30,Tryd.ntmps30
   go_wp2_with (go_at_call 29;refine(zs _ _ _).mono ?_;rintro e w1 ⟨rfl,rfl⟩)
   go_ret
   exact⟨by simp [za,je,h0,h1,h2,h3,h4,h5,h6],rfl⟩
  cases h7:(t.toList==[62])
  case true=>
   go_enter Tryd.func30,Tryd.ntmps30
   go_wp2_with (go_at_call 29;refine(zs _ _ _).mono ?_;rintro e w1 ⟨rfl,rfl⟩)
   go_ret
   exact⟨by simp [za,je,h0,h1,h2,h3,h4,h5,h6,h7],rfl⟩
  cases h8:(t.toList==[62,61])
  case true=>
   go_enter Tryd.func30,Tryd.ntmps30
   go_wp2_with (go_at_call 29;refine(zs _ _ _).mono ?_;rintro e w1 ⟨rfl,rfl⟩)
   go_ret
   exact⟨by simp [za,je,h0,h1,h2,h3,h4,h5,h6,h7,h8],rfl⟩
  cases h9:(t.toList==[46])
  case true=>
   go_enter Tryd.func30,Tryd.ntmps30
   go_wp2_with (go_at_call 29;refine(zs _ _ _).mono ?_;rintro e w1 ⟨rfl,rfl⟩)
   go_ret
   exact⟨by simp [za,je,h0,h1,h2,h3,h4,h5,h6,h7,h8,h9],rfl⟩
  go_enter Tryd.func30,Tryd.ntmps30
  go_wp2_with (go_at_call 29;refine(zs _ _ _).mono ?_;rintro e w1 ⟨rfl,rfl⟩)
  go_ret
  exact⟨by simp [za,je,h0,h1,h2,h3,h4,h5,h6,h7,h8,h9],rfl⟩
 ·go_enter Tryd.func30,Tryd.ntmps30
  go_wp2_with fail
  go_ret
  exact⟨by simp [za,h0],rfl⟩
theorem z3i (x:Ex)(l r:Int)(w:World):Calls Tryd.prog 18 #[.agg #[.int .i64 x.form,.int .i64 x.place,.string x.text,.int .i64 x.left,.int .i64 x.right],.int .i64 l,.int .i64 r] w fun e w'=>e= .returned (.int .i64 (zg x l r))∧Below w.heap.size w w':=by
 have hB:=fun o:Obj=>(z6O w.heap.size w).alloc (z6E _) o
 have HB:=z6 hB
 clear hB
 cases f0:(x.form==0)
 case true=>
  go_enter Tryd.func18,Tryd.ntmps18
  go_wp2_with (go_at_call 29;refine(zs _ _ _).mono ?_;rintro e w1 ⟨rfl,rfl⟩)
  go_ret
  exact⟨by simp [zg,f0],HB.out _⟩
 cases f4:(x.form==4)
 case true=>
  go_enter Tryd.func18,Tryd.ntmps18
  go_wp2_with (go_at_call 29;refine(zs _ _ _).mono ?_;rintro e w1 ⟨rfl,rfl⟩)
  go_ret
  exact⟨by simp [zg,f0,f4],HB.out _⟩
 cases f1:(x.form==1)
 case true=>
  go_enter Tryd.func18,Tryd.ntmps18
  go_wp2_with (go_at_call 29;refine(zs _ _ _).mono ?_;rintro e w1 ⟨rfl,rfl⟩)
  go_ret
  exact⟨by simp [zg,f0,f4,f1],HB.out _⟩
 cases f3:(x.form==3)
 case true=>
  go_enter Tryd.func18,Tryd.ntmps18
  go_wp2_with (go_at_call 29;refine(zs _ _ _).mono ?_;rintro e w1 ⟨rfl,rfl⟩)
  go_ret
  exact⟨by simp [zg,f0,f4,f1,f3],HB.out _⟩
 cases f2:(x.form==2)
 case true=>
  go_enter Tryd.func18,Tryd.ntmps18
  go_wp2_with (go_at_call 29;refine(zs _ _ _).mono ?_;rintro e w1 ⟨rfl,rfl⟩)
  go_ret
  exact⟨by simp [zg,f0,f4,f1,f3,f2],HB.out _⟩
 cases f7:(x.form==7)
 case true=>
  go_enter Tryd.func18,Tryd.ntmps18
  go_wp2_with (go_at_call 29;refine(zs _ _ _).mono ?_;rintro e w1 ⟨rfl,rfl⟩)
  go_ret
  exact⟨by simp [zg,f0,f4,f1,f3,f2,f7],HB.out _⟩
 cases f5:(x.form==5)
 case true=>
  cases ht:(x.text.toList==[33])
  all_goals
   go_enter Tryd.func18,Tryd.ntmps18
   go_wp2_with (go_at_call 29;refine(zs _ _ _).mono ?_;rintro e w1 ⟨rfl,rfl⟩)
   go_ret
   exact⟨by simp [zg,f0,f4,f1,f3,f2,f7,f5,ht],HB.out _⟩
 cases f6:(x.form==6)
 all_goals
  go_enter Tryd.func18,Tryd.ntmps18
  go_wp2_with (go_at_call 30;refine(z1o _ _ _ _).mono ?_;rintro e w1 ⟨rfl,rfl⟩)
  go_ret
  exact⟨by simp [zg,f0,f4,f1,f3,f2,f7,f5,f6],HB.out _⟩
theorem z0s {α:Type}(f:α→List Value)(k:Nat)(hf: ∀x,(f x).length=k): ∀(l:List α) (i j:Nat) (x:α),l[i]?=some x→j<k→((l.map f).flatten)[i*k+j]?=(f x)[j]?:=by
 intro l
 induction l with
 |nil=>intro i j x h;simp at h
 |cons y ys ih=>
  intro i j x h hj
  simp only [List.map_cons,List.flatten_cons]
  cases i with
  |zero=>
   simp at h
   subst h
   rw [List.getElem?_append_left (by rw [hf];omega)]
   simp
  |succ i=>
   have h':ys[i]?=some x:=by simpa using h
   rw [List.getElem?_append_right (by rw [hf,Nat.succ_mul];omega),hf,show(i+1)*k+j - k=i*k+j by rw [Nat.succ_mul];omega]
   exact ih i j x h' hj
theorem jW {w:World}{base e size n g cap:Nat}{xs:List Value}(h:w.ownsRow base e size (.slice (some ⟨g,0,none⟩) n cap) n xs)(p:Nat)(u:Value)(hu:xs[p]?=some u):w.cell? ⟨g,p,none⟩=some u:=by
 have:=h.cells (g:=g) rfl p u hu
 rw [show(⟨g,0,none⟩:Addr).add p=⟨g,p,none⟩ by unfold Addr.add;split<;>simp_all] at this
 exact this
theorem z1C (base:Nat)(ts:List Int)(v:Value)(i:Int)(w:World)(h:w.ownsRow base 3 1 v ts.length (ts.map (Value.int .i64)))(hlen:ts.length≤100000):
  Calls Tryd.prog 17 #[v,.int .i64 i] w fun e w'=>e= .returned (.int .i64 (zf ts i))∧w'=w:=by
 obtain⟨a0,c0,rfl⟩:=zk h
 by_cases h0:i<0
 ·go_enter Tryd.func17,Tryd.ntmps17
  go_wp2_with fail
  go_ret
  exact⟨by simp [zf,h0],rfl⟩
 ·obtain⟨j,rfl⟩:=Int.eq_ofNat_of_zero_le (show 0≤i by omega)
  by_cases h1:j<ts.length
  ·obtain⟨g,cap,hv,hb,hg⟩:=h.form (by omega)
   have hc:=jW (hv▸h) j (.int .i64 (ts.getD j 0)) (by simp [h1,List.getD])
   injection hv with e1 e2 e3
   subst e1 e3
   have hfin:Hid (zf ts j=ts.getD j 0):=z6 (by unfold zf;rw [if_neg (by omega)];simp)
   generalize ts.getD j 0=z at*
   have h1':(j:Int)<ts.length:=by omega
   go_enter Tryd.func17,Tryd.ntmps17
   go_wp2_with fail
   go_ret
   exact⟨by rw [hfin.out];simp,rfl⟩
  ·have hfin:Hid (zf ts j=0):=z6 (by unfold zf;rw [if_neg (by omega)];simp [List.getElem?_eq_none (Nat.le_of_not_lt h1)])
   go_enter Tryd.func17,Tryd.ntmps17
   go_wp2_with fail
   go_ret
   exact⟨by rw [hfin.out];simp,rfl⟩
def tfM:List Ex→List Int→Int
 |[],_=> -1
 |x::xs,ts=>if zg x (zf ts x.left) (zf ts x.right)==0 then x.place else tfM xs (ts++[zg x (zf ts x.left) (zf ts x.right)])
theorem Ex.cells_len (x:Ex):x.cells.length=5:=rfl
theorem z4k {E:List Ex}{i:Nat}{x:Ex}(h:E[i]?=some x)(ts:List Int):
  tfM (E.drop i) ts=if zg x (zf ts x.left) (zf ts x.right)==0 then x.place else tfM (E.drop (i+1)) (ts++[zg x (zf ts x.left) (zf ts x.right)]):=by
 obtain⟨hl,hx⟩:=z6C.1 h
 rw [z6I hl,hx]
 rfl
theorem z1D (base b:Nat)(E:List Ex)(v5:Value)(w:World)(hc:w.cell? ⟨b,5,none⟩=some v5)(how:w.ownsRow base 55 5 v5 E.length ((E.map Ex.cells).flatten))(hlen:E.length≤100000):
  Calls Tryd.prog 9 #[.pointer (some ⟨b,3,none⟩)] w fun e w'=>e= .returned (.int .i64 (tfM E []))∧Below w.heap.size w w':=by
 obtain⟨a5,k5,rfl⟩:=zk how
 have hblt:=zC hc
 obtain⟨i0,hi,hz0,hz1,hz2⟩:=info_parts info3
 have hmade:=World.ownsRow_made (base:=w.heap.size) (e:=3) (size:=1) w #[] 0 (z6E _) (by decide) (by simp)
 have hB0:Below w.heap.size w (w.alloc (.cells #[] 3)):=(z6O _ _).alloc (z6E _) _
 have HM:=z6 hmade
 have HB0:=z6 hB0
 have HW:=z6 how
 clear hmade hB0 how
 go_enter Tryd.func9,Tryd.ntmps9
 go_wp2_with fail
 go_loopg [3,4] (E.length+1) (fun k tv iv wr=> ∃(i:Nat) (ts:List Int),k+i=E.length+1∧i≤E.length∧iv= .int .i64 i∧ts.length=i∧wr.ownsRow w.heap.size 3 1 tv ts.length (ts.map (Value.int .i64))∧Below w.heap.size w wr∧Hid (tfM (E.drop i) ts=tfM E []))
 case atStart=>exact⟨0,[],rfl,z6L _,rfl,rfl,HM.out,HB0.out,rfl⟩
 case round=>
  obtain⟨i,ts,hk,hiE,rfl,hts,hown,hbel,hfin⟩:=hrel
  have hc':wr.cell? ⟨b,5,none⟩=some (.slice a5 E.length k5):=(hbel.cell (p:=⟨b,5,none⟩) hblt).trans hc
  have hHK:=z6 hk
  clear hk
  by_cases hlt:i<E.length
  ·obtain⟨g,cap,hv,hb,hg⟩:=HW.out.form (by omega)
   injection hv with e1 e2 e3
   subst e1 e3
   obtain⟨x,hx⟩: ∃x,E[i]?=some x:=⟨E[i],z6B hlt⟩
   have hcell: ∀j u,x.cells[j]?=some u→j<5→wr.cell? ⟨g,i*5+j,none⟩=some u:=fun j u hu hj=>by
    rw [hbel.cell (p:=⟨g,i*5+j,none⟩) hg]
    exact jW HW.out _ _ ((z0s Ex.cells 5 Ex.cells_len E i j x hx hj).trans hu)
   have q0:wr.cell? ⟨g,i*5,none⟩=some (.int .i64 x.form):=hcell 0 _ rfl (by omega)
   have q1:=hcell 1 _ rfl (by omega)
   have q2:=hcell 2 _ rfl (by omega)
   have q3:=hcell 3 _ rfl (by omega)
   have q4:=hcell 4 _ rfl (by omega)
   have hlt':(i:Int)<E.length:=by omega
   have hst:=z6 ((z4k hx ts).symm.trans hfin.out)
   clear hcell hfin hx
   have HOWN:=z6 hown
   have hsz:=z6 hbel.size
   have hB1:=z6 (hbel.alloc hbel.size (.cells #[.int .i64 x.form,.int .i64 x.place,.string x.text,.int .i64 x.left,.int .i64 x.right] 55))
   have hown1:=z6 (hown.alloc (.cells #[.int .i64 x.form,.int .i64 x.place,.string x.text,.int .i64 x.left,.int .i64 x.right] 55))
   clear hown hbel
   go_wp2_with fail
   refine(z1C w.heap.size ts _ _ _ hown1.out (by omega)).mono ?_
   rintro e w1 ⟨rfl,rfl⟩
   go_wp2_with fail
   refine(z1C w.heap.size ts _ _ _ hown1.out (by omega)).mono ?_
   rintro e w1 ⟨rfl,rfl⟩
   go_wp2_with fail
   refine(z3i x _ _ _).mono ?_
   rintro e w2 ⟨rfl,hb2⟩
   have hbx:w2.heap[wr.heap.size]?=some (.cells #[.int .i64 x.form,.int .i64 x.place,.string x.text,.int .i64 x.left,.int .i64 x.right] 55):=(hb2.block wr.heap.size (by simp)).trans (heap_alloc_new wr _)
   have hs2:=hb2.size
   have hown2:w2.ownsRow w.heap.size 3 1 _ ts.length (ts.map (Value.int .i64)):=ze hown1.out fun k e=>hb2.block k (hown1.out.lt k e).2
   have hB2:=z6 (hB1.out.trans (hb2.mono (by simp;have:=hsz.out;omega)))
   have r1:w2.cell? ⟨wr.heap.size,1,none⟩=some (.int .i64 x.place):=by simp [World.cell?,hbx]
   clear hb2 hbx q0 q1 q2 q3 q4
   have hst':=hst.out
   clear hst
   generalize zg x (zf ts x.left) (zf ts x.right)=o at*
   cases ho:(o==0)
   ·rw [ho,if_neg (by decide)] at hst'
    have hst:=z6 hst'
    clear hst'
    have hw2:w.heap.size≤w2.heap.size:=hB2.out.size
    go_wp2_with (at_builtin;go_must (refine wpList_append_lies _ rfl (.tmp 42) (.tmp 44) 53 rfl w.heap.size 3 i0 _ 1 8 Tryd.underlying53 hi hz0 hz1 hz2 rfl (by omega) _ ts.length _ rfl (hown2.alloc _) ⟨w2.heap.size,0,none⟩ 1 1 [.int .i64 o] rfl rfl ?news ?one (by omega) ?mm ?bys ?base (w2.heap.size+1) (by simp) ?rest))
    case news=>exact World.news_of_block (heap_alloc_new w2 _)
    case one=>intro u hu;simp at hu;subst hu;rfl
    case mm=>unfold maxLen;omega
    case bys=>omega
    case base=>simp;omega
    case rest=>
     intro gb cap w3 hown3 hgrow hat hlt2
     have hB3:=z6 (Below.grown (hB2.out.alloc hw2 _) hgrow (by simp;omega) fun k e=>(hown2.lt k e).1)
     clear hgrow hat
     go_wp2_with fail
     have hk:=hHK.out
     go_roundg (E.length - i)
     case measure=>omega
     case rel=>exact⟨i+1,ts++[o],by omega,by omega,by go_num,by simp [hts],by simpa [hts] using hown3,hB3.out,hst⟩
   ·rw [ho,if_pos rfl] at hst'
    have hst:=z6 hst'
    clear hst'
    go_wp2_with fail
    go_ret
    exact⟨by rw [←hst.out];simp,hB2.out⟩
  ·have hz:Hid (tfM E []= -1):=z6 (by rw [←hfin.out,z6H (by omega)];rfl)
   go_wp2_with fail
   go_ret
   exact⟨by rw [hz.out];simp,hbel⟩
def jm (op:z6P):Bool:=op.toList==[124,124]||op.toList==[38,38]||op.toList==[61,61]||op.toList==[33,61]||op.toList==[60]||op.toList==[60,61]||op.toList==[62]||op.toList==[62,61]||op.toList==[43]||op.toList==[45]||op.toList==[46]||op.toList==[42]||op.toList==[47]||op.toList==[37]
def jv (E:List Ex):Prop:= ∀x∈E,0≤x.place∧(x.form=6→jm x.text=true)
theorem jf {st:St}{x:Ex}{r:Int×St}(h:zX st x=some r)(hg:jv st.E)(hx:0≤x.place∧(x.form=6→jm x.text=true)):jv r.2.E:=by
 obtain⟨_,rfl⟩:=zh h
 intro y hy
 rcases List.mem_append.1 hy with hy|hy
 ·exact hg y hy
 ·have:y=x:=by simpa using hy
  rw [this];exact hx
theorem z3w (s:z6P)(a:Nat)(d:Bool):zd s a d=⟨#[]⟩∨zd s a d=⟨#[43]⟩∨zd s a d=⟨#[45]⟩∨zd s a d=⟨#[46]⟩:=by
 unfold zd
 split
 ·exact .inl rfl
 ·split
  ·exact .inr (.inl rfl)
  ·split
   ·exact .inr (.inr (.inl rfl))
   ·split
    ·exact .inr (.inr (.inr rfl))
    ·exact .inl rfl
theorem z48 {s:z6P}{a:Nat}{d:Bool}(h: ¬((zd s a d).size==0)=true):jm (zd s a d)=true:=by
 rcases z3w s a d with e|e|e|e
 ·rw [e] at h;exact absurd rfl h
 all_goals rw [e];unfold jm;rw [z6D];rfl
theorem z1Q (s:z6P)(a:Nat)(d:Bool):z8 s a d=⟨#[]⟩∨z8 s a d=⟨#[42]⟩∨z8 s a d=⟨#[47]⟩∨z8 s a d=⟨#[37]⟩:=by
 unfold z8
 split
 ·exact .inr (.inl rfl)
 ·split
  ·exact .inr (.inr (.inl rfl))
  ·split
   ·exact .inr (.inr (.inr rfl))
   ·exact .inl rfl
theorem z2b {s:z6P}{a:Nat}{d:Bool}(h: ¬((z8 s a d).size==0)=true):jm (z8 s a d)=true:=by
 rcases z1Q s a d with e|e|e|e
 ·rw [e] at h;exact absurd rfl h
 all_goals rw [e];unfold jm;rw [z6D];rfl
theorem z02 (s x y:z6P)(a:Nat)(d:Bool):(zl s x y a d).2.2=x∨(zl s x y a d).2.2=y:=by
 unfold zl
 simp only
 split
 ·exact .inl rfl
 ·exact .inr rfl
theorem z1d (s:z6P)(a:Nat)(d:Bool):(z7 s a d).2.2=⟨#[]⟩∨(z7 s a d).2.2=⟨#[61,61]⟩∨(z7 s a d).2.2=⟨#[33,61]⟩∨(z7 s a d).2.2=⟨#[60]⟩∨(z7 s a d).2.2=⟨#[60,61]⟩∨(z7 s a d).2.2=⟨#[62]⟩∨(z7 s a d).2.2=⟨#[62,61]⟩:=by
 unfold z7
 split
 ·exact .inr (.inl rfl)
 ·split
  ·exact .inr (.inr (.inl rfl))
  ·split
   ·rcases z02 s ⟨#[60]⟩ ⟨#[60,61]⟩ a d with e|e
    ·exact .inr (.inr (.inr (.inl e)))
    ·exact .inr (.inr (.inr (.inr (.inl e))))
   ·split
    ·rcases z02 s ⟨#[62]⟩ ⟨#[62,61]⟩ a d with e|e
     ·exact .inr (.inr (.inr (.inr (.inr (.inl e)))))
     ·exact .inr (.inr (.inr (.inr (.inr (.inr e)))))
    ·exact .inl rfl
theorem z1p {s:z6P}{a:Nat}{d:Bool}(h: ¬((z7 s a d).2.2.size==0)=true):jm (z7 s a d).2.2=true:=by
 rcases z1d s a d with e|e|e|e|e|e|e
 ·rw [e] at h;exact absurd rfl h
 all_goals rw [e];unfold jm;rw [z6D];rfl
theorem z5l (s:z6P): ∀n tag l st r,M s n tag l st=some r→jv st.E→jv r.2.E:=by
 intro n
 induction n with
 |zero=>intro tag l st r h;simp [M] at h
 |succ n ih=>
  intro tag l st r h hg
  have two: ∀{t1 t2:Nat} {st0:St},jv st0.E→((M s n t1 0 st0).bind fun r=>M s n t2 r.1 r.2)=some r→jv r.2.E:=fun hg h=>by
   obtain⟨q,h1,h2⟩:=z6A.1 h
   exact ih _ _ _ _ h2 (ih _ _ _ _ h1 hg)
  have three: ∀{t1 t2:Nat} {st0:St} {x:Int×St→Ex},jv st0.E→(∀r,0≤(x r).place∧((x r).form=6→jm (x r).text=true))→((M s n t1 0 st0).bind fun r=>(zX r.2 (x r)).bind fun q=>M s n t2 q.1 q.2)=some r→jv r.2.E:=fun hg hx h=>by
   obtain⟨q,h1,h2⟩:=z6A.1 h
   obtain⟨q2,h3,h4⟩:=z6A.1 h2
   exact ih _ _ _ _ h4 (jf h3 (ih _ _ _ _ h1 hg) (hx q))
  match tag,h with
  |0,h=>rw [M_0] at h;exact two hg h
  |1,h=>rw [M_1] at h;exact two hg h
  |4,h=>rw [M_4] at h;exact two hg h
  |5,h=>rw [M_5] at h;exact two hg h
  |10,h=>
   rw [z2K] at h
   split at h
   ·exact three (st0:=sgn s [124,124] st) (x:=fun r=>⟨6,st.at_,⟨#[124,124]⟩,l,r.1⟩) hg (fun r=>⟨Int.natCast_nonneg _,fun _=>by unfold jm;rw [z6D];rfl⟩) h
   ·cases h;exact hg
  |11,h=>
   rw [z2p] at h
   split at h
   ·exact three (st0:=sgn s [38,38] st) (x:=fun r=>⟨6,st.at_,⟨#[38,38]⟩,l,r.1⟩) hg (fun r=>⟨Int.natCast_nonneg _,fun _=>by unfold jm;rw [z6D];rfl⟩) h
   ·cases h;exact hg
  |14,h=>
   rw [z2z] at h
   simp only at h
   split at h
   ·cases h;exact hg
   ·rename_i hs
    exact three (st0:=sgn s (zd s st.at_ st.bad).data.toList st) (x:=fun r=>⟨6,st.at_,zd s st.at_ st.bad,l,r.1⟩) hg (fun r=>⟨Int.natCast_nonneg _,fun _=>z48 hs⟩) h
  |15,h=>
   rw [z2B] at h
   simp only at h
   split at h
   ·cases h;exact hg
   ·rename_i hs
    exact three (st0:=sgn s (z8 s st.at_ st.bad).data.toList st) (x:=fun r=>⟨6,st.at_,z8 s st.at_ st.bad,l,r.1⟩) hg (fun r=>⟨Int.natCast_nonneg _,fun _=>z2b hs⟩) h
  |2,h=>
   rw [M_2] at h
   split at h
   ·exact ih _ _ _ _ h hg
   ·obtain⟨q,h1,h2⟩:=z6A.1 h
    have hq:=ih _ _ _ _ h1 (show jv (sgn s [33] st).E from hg)
    exact jf h2 hq ⟨Int.natCast_nonneg _,fun e=>absurd (show(5:Int)=6 from e) (by decide)⟩
  |6,h=>
   rw [M_6] at h
   split at h
   ·exact ih _ _ _ _ h hg
   ·obtain⟨q,h1,h2⟩:=z6A.1 h
    have hq:=ih _ _ _ _ h1 (show jv (sgn s [45] st).E from hg)
    exact jf h2 hq ⟨Int.natCast_nonneg _,fun e=>absurd (show(5:Int)=6 from e) (by decide)⟩
  |3,h=>
   rw [M_3] at h
   obtain⟨q,h1,h2⟩:=z6A.1 h
   have k1:=ih _ _ _ _ h1 hg
   simp only at h2
   split at h2
   ·cases h2;exact k1
   ·rename_i hs
    obtain⟨q2,h3,h4⟩:=z6A.1 h2
    have hq:=ih _ _ _ _ h3 (show jv (q.2.put3 _).E from k1)
    exact jf h4 hq ⟨Int.natCast_nonneg _,fun _=>z1p hs⟩
  |7,h=>
   rw [M_7] at h
   simp only at h
   split at h
   ·exact jf h (show jv (st.put3 _).E from hg) ⟨Int.natCast_nonneg _,fun e=>absurd (show(0:Int)=6 from e) (by decide)⟩
   ·split at h
    ·exact jf h (show jv (st.put3 _).E from hg) ⟨Int.natCast_nonneg _,fun e=>absurd (show(1:Int)=6 from e) (by decide)⟩
    ·split at h
     ·exact jf h (show jv ((wrd s [64] st).put3 _).E from hg) ⟨Int.natCast_nonneg _,fun e=>absurd (show(4:Int)=6 from e) (by decide)⟩
     ·split at h
      ·obtain⟨q,h1,h2⟩:=z6A.1 h
       have hq:=ih _ _ _ _ h1 (show jv (sgn s [40] st).E from hg)
       cases h2
       exact hq
      ·split at h
       ·exact jf h (show jv (st.put3 _).E from hg) ⟨Int.natCast_nonneg _,fun e=>absurd (show(2:Int)=6 from e) (by decide)⟩
       ·exact jf h (show jv (st.put3 _).E from hg) ⟨Int.natCast_nonneg _,fun e=>absurd (show(3:Int)=6 from e) (by decide)⟩
  |8,h=>simp [M] at h
  |9,h=>simp [M] at h
  |12,h=>simp [M] at h
  |13,h=>simp [M] at h
  |t+16,h=>simp [M] at h
theorem z2e (i:Int):shi 0 i=i:=by unfold shi;split<;>omega
theorem z5A {s:z6P}{a:Nat}{c:UInt8}(h:pk s a false=(c.toNat:Int)):a<s.size:=(jQ (s:=s) (a:=a) (d:=false) (by rw [h];omega)).2
theorem z1X (s p:z6P)(a:Nat)(h:a<s.size):pk (s++p) a false=pk s a false:=by
 have h1:a<(s++p).size:=by rw [ByteArray.size_append];omega
 rw [zT h,zT h1,ByteArray.getElem_append_left h]
theorem z3r (s p:z6P)(a:Nat):pk (s++p) (s.size+a) false=pk p a false:=by
 by_cases h:a<p.size
 ·have h1:s.size+a<(s++p).size:=by rw [ByteArray.size_append];omega
  rw [zT h,zT h1,ByteArray.getElem_append_right (by omega)]
  congr 3
  omega
 ·unfold pk
  rw [if_neg (by decide),if_neg (by decide),dif_neg h,dif_neg (by rw [ByteArray.size_append];omega)]
def At (s:z6P):Nat→List UInt8→Prop
 |_,[]=>True
 |a,c::cs=>pk s a false=(c.toNat:Int)∧At s (a+1) cs
theorem ja {s:z6P}: ∀(l1 l2:List UInt8) (a:Nat),At s a (l1++l2)↔At s a l1∧At s (a+l1.length) l2:=by
 intro l1
 induction l1 with
 |nil=>intro l2 a;exact⟨fun h=>⟨trivial,h⟩,fun h=>h.2⟩
 |cons c cs ih=>
  intro l2 a
  have e:=ih l2 (a+1)
  rw [show a+1+cs.length=a+(cs.length+1) by omega] at e
  exact⟨fun⟨h1,h2⟩=>⟨⟨h1,(e.1 h2).1⟩,(e.1 h2).2⟩,fun⟨⟨h1,h2⟩,h3⟩=>⟨h1,e.2 ⟨h2,h3⟩⟩⟩
theorem z56 {t:z6P}: ∀(l:List UInt8) (a:Nat),t.data.toList.drop a=l→At t a l:=by
 intro l
 induction l with
 |nil=>intro a _;trivial
 |cons c cs ih=>
  intro a h
  have hl:a<t.size:=by
   by_cases q:a<t.size
   ·exact q
   ·rw [List.drop_eq_nil_of_le (by simpa using q)] at h;cases h
  rw [jO t a hl] at h
  injection h with h1 h2
  exact⟨by rw [zT hl,h1],ih (a+1) h2⟩
theorem z2O (t:z6P):At t 0 t.data.toList:=z56 _ 0 rfl
theorem z5o {s:z6P}: ∀(l:List UInt8) (a:Nat),At s a l→ ∃rest,s.data.toList.drop a=l++rest:=by
 intro l
 induction l with
 |nil=>intro a _;exact⟨_,rfl⟩
 |cons c cs ih=>
  intro a ⟨h1,h2⟩
  have hl:=z5A h1
  obtain⟨rest,h3⟩:=ih (a+1) h2
  refine⟨rest,?_⟩
  rw [jO s a hl,h3]
  rw [zT hl] at h1
  have:s[a]=c:=UInt8.toNat_inj.1 (by omega)
  rw [this]
  rfl
theorem zD (s:z6P)(a b:Nat):(s.extract a b).data.toList=(s.data.toList.drop a).take (b - a):=by
 show(s.extract a b).data.toList=_
 rw [ByteArray.data_extract,Array.toList_extract]
theorem jA {s:z6P}{l:List UInt8}{a:Nat}(h:At s a l):(s.extract a (a+l.length)).data.toList=l:=by
 obtain⟨rest,hr⟩:=z5o l a h
 rw [zD,hr,Nat.add_sub_cancel_left,List.take_left]
theorem z09 {s:z6P}: ∀(l:List UInt8) (a:Nat),At s a l→zm s false l a=(a+l.length,false):=by
 intro l
 induction l with
 |nil=>intro a _;rfl
 |cons c cs ih=>
  intro a ⟨h1,h2⟩
  rw [j8 h1,ih _ h2,List.length_cons]
  congr 1
  omega
theorem z05 {s:z6P}{l:List UInt8}{a:Nat}(h:At s a l):j7 s false l a=(skip s (a+l.length) false,false):=by
 unfold j7;rw [z09 l a h]
theorem z5x {s:z6P}{l:List UInt8}{st:St}(hb:st.bad=false)(h:At s st.at_ l):wrd s l st={st with at_:=st.at_+l.length}:=by
 unfold wrd St.put
 rw [hb,z09 l _ h,←hb]
theorem z16 {s:z6P}{l:List UInt8}{st:St}(hb:st.bad=false)(h:At s st.at_ l):sgn s l st={st with at_:=skip s (st.at_+l.length) false}:=by
 unfold sgn St.put
 rw [hb,z05 h,←hb]
theorem z4s {s:z6P}{p:Int→Bool}: ∀(l:List UInt8) (m a:Nat),At s a l→(∀c∈l,p (c.toNat:Int)=true)→l.length≤m→p (pk s (a+l.length) false)=false→run p s false m a=a+l.length:=by
 intro l
 induction l with
 |nil=>intro m a _ _ _ h;exact jr h
 |cons c cs ih=>
  intro m a ⟨h1,h2⟩ hp hm hn
  cases m with
  |zero=>simp at hm
  |succ m=>
   rw [z1t (by rw [h1];exact hp c List.mem_cons_self),ih m (a+1) h2 (fun x hx=>hp x (List.mem_cons_of_mem _ hx)) (by simpa using hm) (by rw [List.length_cons] at hn;rw [show a+1+cs.length=a+(cs.length+1) by omega];exact hn),List.length_cons]
   omega
theorem z4t {s:z6P}{p:Int→Bool}{l:List UInt8}{m a:Nat}(h:At s a l)(hp: ∀c∈l,p (c.toNat:Int)=true)(h1:1≤l.length)(hm:l.length≤m)(hn:p (pk s (a+l.length) false)=false):
  z0b p m s a false=(skip s (a+l.length) false,false,s.extract a (a+l.length)):=z5k (z4s l m a h hp hm hn) (by omega) hn
def isL (c:UInt8):Bool:=zr (c.toNat:Int)
def isD (c:UInt8):Bool:=zc (c.toNat:Int)
def isQ (c:UInt8):Bool:=zi (c.toNat:Int)
def z4i (l:List UInt8):Prop:=1≤l.length∧l.length≤8∧ ∀c∈l,isL c=true
def z65 (l:List UInt8):Prop:=1≤l.length∧l.length≤9∧(∀c∈l,isD c=true)∧(l.head?=some 48→l.length=1)
def z4R (l:List UInt8):Prop:=l.length≤12∧ ∀c∈l,isQ c=true
theorem z2M {s:z6P}{l:List UInt8}{a:Nat}(h:At s a l)(hl:z4i l)(hn:zr (pk s (a+l.length) false)=false):zK s a false=(skip s (a+l.length) false,false,s.extract a (a+l.length)):=
 z4t h hl.2.2 hl.1 hl.2.1 hn
theorem z42 {s:z6P}{l:List UInt8}{a:Nat}(h:At s a l)(hl:z65 l)(hn:zc (pk s (a+l.length) false)=false):zA s a false=(skip s (a+l.length) false,false,s.extract a (a+l.length)):=by
 unfold zA
 refine z4t h hl.2.2.1 hl.1 ?_ hn
 split
 ·rename_i h0
  have h0:pk s a false=48:=by simpa using h0
  cases l with
  |nil=>simp
  |cons c cs=>
   have:c=48:=UInt8.toNat_inj.1 (by have:=h.1;rw [h0] at this;show c.toNat=48;omega)
   rw [hl.2.2.2 (by rw [this];rfl)]
   exact z6E _
 ·exact hl.2.1
theorem z3z {s:z6P}{l:List UInt8}{a:Nat}(h:At s a (34::(l++[34])))(hl:z4R l):zw s a false=(skip s (a+(l.length+2)) false,false,s.extract (a+1) (a+1+l.length)):=by
 obtain⟨h1,h2⟩:=h
 obtain⟨h3,h4⟩:=(ja l [34] (a+1)).1 h2
 have hw:zm s false [34] a=(a+1,false):=z09 [34] a ⟨h1,trivial⟩
 have hr:run zi s false 12 (a+1)=a+1+l.length:=z4s l 12 (a+1) h3 hl.2 hl.1 (by rw [h4.1];rfl)
 have hg:=z05 (s:=s) (l:=[34]) (a:=a+1+l.length) h4
 unfold zw
 simp only [hw,hr,hg]
 congr 2
 simp only [List.length_cons,List.length_nil]
 omega
theorem z1Y {p:Int→Bool}{s:z6P}: ∀(m a:Nat),run p s false m a≤a+m∧ ∀i,a≤i→i<run p s false m a→p (pk s i false)=true:=by
 intro m
 induction m with
 |zero=>intro a;exact⟨z6E _,fun i h1 h2=>by unfold run at h2;omega⟩
 |succ m ih=>
  intro a
  unfold run
  cases hc:p (pk s a false) with
  |false=>
   rw [if_neg (by decide)]
   exact⟨by omega,fun i h1 h2=>by omega⟩
  |true=>
   rw [if_pos rfl]
   obtain⟨h1,h2⟩:=ih (a+1)
   refine⟨by omega,fun i h3 h4=> ?_⟩
   by_cases e:i=a
   ·subst e;exact hc
   ·exact h2 i (by omega) h4
theorem z3G {p:Int→Bool}{s:z6P}{a r:Nat}(hr:r≤s.size)(h: ∀i,a≤i→i<r→p (pk s i false)=true): ∀c∈(s.extract a r).data.toList,p (c.toNat:Int)=true:=by
 intro c hc
 rw [zD] at hc
 obtain⟨i,hi⟩:=List.mem_iff_getElem?.1 hc
 have hlt:i<r - a:=by
  have:=(z6C.1 hi).1
  rw [List.length_take] at this
  omega
 rw [List.getElem?_take_of_lt hlt,List.getElem?_drop] at hi
 have hs:a+i<s.size:=by omega
 have e:s.data.toList[a+i]?=some s[a+i]:=by
  rw [z6B (by simpa using hs)]
  rfl
 rw [e] at hi
 have:=h (a+i) (by omega) (by omega)
 rw [zT hs] at this
 rw [←Option.some.inj hi]
 exact this
theorem z4w {p:Int→Bool}(hp:p (-1)=false){m:Nat}{s:z6P}{a:Nat}(h:(z0b p m s a false).2.1=false):1≤(z0b p m s a false).2.2.data.toList.length∧(z0b p m s a false).2.2.data.toList.length≤m∧ ∀c∈(z0b p m s a false).2.2.data.toList,p (c.toNat:Int)=true:=by
 have hge:=z0D p s false m a
 obtain⟨h1,h2⟩:=z1Y (p:=p) (s:=s) m a
 unfold z0b at h ⊢
 simp only at h ⊢
 split at h
 ·cases h
 ·rename_i hc
  rw [if_neg hc]
  simp only [Bool.or_eq_true,not_or,beq_iff_eq] at hc
  have hlt:a<run p s false m a:=by omega
  have hsz:run p s false m a≤s.size:=by
   have q:=h2 (run p s false m a - 1) (by omega) (by omega)
   have:pk s (run p s false m a - 1) false≠ -1:=fun e=>by rw [e,hp] at q;cases q
   have:=(jQ this).2
   omega
  have hlen:(s.extract a (run p s false m a)).data.toList.length=run p s false m a - a:=by
   rw [zD,List.length_take,List.length_drop]
   have:s.data.toList.length=s.size:=by rw [Array.length_toList];rfl
   omega
  refine⟨by show 1≤(s.extract a (run p s false m a)).data.toList.length;omega,by show(s.extract a (run p s false m a)).data.toList.length≤m;omega,z3G hsz h2⟩
theorem z3T {s:z6P}{a:Nat}(h:(zK s a false).2.1=false):z4i (zK s a false).2.2.data.toList:=z4w (by decide) h
theorem z3F {s:z6P}{a:Nat}(h:(zA s a false).2.1=false):z65 (zA s a false).2.2.data.toList:=by
 unfold zA at h ⊢
 obtain⟨h1,h2,h3⟩:=z4w (p:=zc) (by decide) h
 refine⟨h1,?_,h3,fun hh=> ?_⟩
 ·refine z6M h2 ?_
  split<;>omega
 ·cases hc:(pk s a false==48) with
  |true=>
   rw [hc] at h1 h2
   have h2:(z0b zc 1 s a false).2.2.data.toList.length≤1:=h2
   have h1:1≤(z0b zc 1 s a false).2.2.data.toList.length:=h1
   show(z0b zc 1 s a false).2.2.data.toList.length=1
   omega
  |false=>
   exfalso
   rw [hc] at h hh
   simp only [if_neg (show ¬(false=true) by decide)] at h hh
   unfold z0b at h hh
   simp only at h hh
   split at h
   ·cases h
   ·rename_i q
    rw [if_neg q] at hh
    simp only [Bool.or_eq_true,not_or,beq_iff_eq] at q
    rw [zD] at hh
    have hge:=z0D zc s false 9 a
    have hh:(((s.data.toList.drop a).take (run zc s false 9 a - a))).head?=some 48:=hh
    rw [List.head?_take] at hh
    split at hh
    ·cases hh
    ·rw [List.head?_drop] at hh
     have hl:=(z6C.1 hh).1
     have hs:a<s.size:=by simpa using hl
     have:pk s a false=48:=by
      rw [zT hs]
      have e:s.data.toList[a]?=some s[a]:=by
       rw [z6B hl]
       rfl
      rw [e] at hh
      rw [Option.some.inj hh]
      rfl
     rw [this] at hc
     cases hc
theorem z3p {s:z6P}{a:Nat}(h:(zw s a false).2.1=false):z4R (zw s a false).2.2.data.toList:=by
 unfold zw at h ⊢
 simp only at h ⊢
 cases hv:(zm s false [34] a).2 with
 |true=>rw [hv,z15] at h;cases h
 |false=>
  obtain⟨h1,h2⟩:=z1Y (p:=zi) (s:=s) 12 (zm s false [34] a).1
  have hge:=z0D zi s false 12 (zm s false [34] a).1
  by_cases he:run zi s false 12 (zm s false [34] a).1=(zm s false [34] a).1
  ·have e0:(s.extract (zm s false [34] a).1 (run zi s false 12 (zm s false [34] a).1)).data.toList=[]:=by
    rw [zD,he,Nat.sub_self];rfl
   show z4R (s.extract _ _).data.toList
   rw [e0]
   exact⟨z6L _,fun c hc=>(by cases hc)⟩
  ·have hsz:run zi s false 12 (zm s false [34] a).1≤s.size:=by
    have q:=h2 (run zi s false 12 (zm s false [34] a).1 - 1) (by omega) (by omega)
    have:pk s (run zi s false 12 (zm s false [34] a).1 - 1) false≠ -1:=fun e=>by rw [e] at q;cases q
    have:=(jQ this).2
    omega
   refine⟨?_,z3G hsz h2⟩
   show(s.extract _ _).data.toList.length≤12
   rw [zD,List.length_take]
   omega
theorem z0d {a b:z6P}(h:a.data.toList=b.data.toList):a=b:=by
 cases a;cases b
 exact congrArg ByteArray.mk (Array.ext' h)
theorem z0O {s:z6P}{a:Nat}(h:pk s a false=32)(h2:pk s (a+1) false≠32):skip s a false=a+1:=by
 rw [←z0f h,zx h2]
def zS (c:Int):Bool:=(c != -1)&&(c !=59)&&(c !=34)
def z1g (s:z6P)(a:Nat)(d:Bool):Bool:=d||decide (a<s.size)
theorem z17 (b a:Nat)(s:z6P)(d:Bool)(w:World)(h:Rd w b s a d):
  Calls Tryd.prog 16 #[.pointer (some ⟨b,0,none⟩)] w fun e w'=>e= .returned (.tuple #[])∧Rd w' b s a (z1g s a d)∧Sc b w w':=by
 have h':=h
 obtain⟨h0,h1,h2,f1,f2,ha,hs⟩:=h
 by_cases hlt:a<s.size
 ·have hlt':(a:Int)<s.size:=by omega
  have he:Hid (z1g s a d=true):=z6 (by simp [z1g,hlt])
  go_enter Tryd.func16,Tryd.ntmps16
  go_wp2_with fail
  go_quiet (fail)
  go_wp2_with (go_at_call 23;refine(jg b a s d _ (by exact h'.drewN _)).mono ?_;rintro e w1 ⟨rfl,hr1,hs1⟩)
  go_end0
  exact⟨rfl,by rw [he.out];exact hr1,((Sc.refl _ _).drewN _).trans hs1⟩
 ·have hlt': ¬(a:Int)<s.size:=by omega
  have he:Hid (z1g s a d=d):=z6 (by simp [z1g,hlt])
  go_enter Tryd.func16,Tryd.ntmps16
  go_wp2_with fail
  go_quiet (fail)
  go_wp2_with fail
  go_end0
  exact⟨rfl,by rw [he.out];exact h'.drewN _,(Sc.refl _ _).drewN _⟩
theorem z06 (b a:Nat)(s:z6P)(d:Bool)(w:World)(h:Rd w b s a d):
  Calls Tryd.prog 32 #[.pointer (some ⟨b,0,none⟩)] w fun e w'=>e= .returned (.bool (zS (pk s a d)))∧ ∃n,w'=w.drewN n:=by
 have hr:=z0L s a d
 generalize hp:pk s a d=c at*
 have hP:=zj b a s d w h
 rw [hp] at hP
 have HP:=z6 hP
 clear hP hp
 cases h1:(c != -1)
 all_goals cases h2:(c !=59)
 all_goals cases h3:(c !=34)
 all_goals
  go_enter Tryd.func32,Tryd.ntmps32
  go_wp2_with (go_at_call 20;refine HP.out.mono ?_;rintro e w1 ⟨rfl,n,rfl⟩)
  go_ret
  exact⟨by simp [zS,h1,h2,h3],_,rfl⟩
def zN (s:z6P)(a:Nat)(d:Bool):Nat×Bool×z6P×z6P:=
 let v:=zH s a d
 let u:=zm s v.2.1 [61] v.1
 let r:=run zS s u.2 20 u.1
 (r,u.2,v.2.2,s.extract u.1 r)
theorem Rd.alloc {w:World}{b:Nat}{s:z6P}{a:Nat}{d:Bool}(h:Rd w b s a d)(o:Obj):Rd (w.alloc o) b s a d:=h.other (z6G _ _ _ (zC h.c0))
theorem z0h (b a:Nat)(s:z6P)(d:Bool)(w:World)(h:Rd w b s a d):
  Calls Tryd.prog 19 #[.pointer (some ⟨b,0,none⟩)] w fun e w'=>e= .returned (.agg #[.string (zN s a d).2.2.1,.string (zN s a d).2.2.2])∧Rd w' b s (zN s a d).1 (zN s a d).2.1∧Rf b w w':=by
 have hle:=h.le
 have hsz:=h.sz
 unfold zN
 have HN:=z6 (z2c b a s d _ (h.alloc (.cells #[.string ⟨#[]⟩,.string ⟨#[]⟩] 59)))
 have hblt:=zC h.c0
 have HG0:=z6 (heap_alloc_new w (.cells #[.string ⟨#[]⟩,.string ⟨#[]⟩] 59))
 have HR0:=z6 ((Rf.refl b w).alloc (.cells #[.string ⟨#[]⟩,.string ⟨#[]⟩] 59))
 generalize zH s a d=v at*
 obtain⟨an,dn,nm⟩:=v
 simp only at*
 have HW:=z6 (fun w1 hr=>jE b an s ⟨#[61]⟩ dn w1 hr (by decide))
 rw [show(ByteArray.mk #[61]).data.toList=[61] from rfl] at HW
 generalize zm s dn [61] an=v at*
 obtain⟨av,dv⟩:=v
 simp only at*
 go_enter Tryd.func19,Tryd.ntmps19
 go_wp2_with fail
 refine HN.out.mono ?_
 rintro e w1 ⟨rfl,hr1,hs1⟩
 go_wp2_with fail
 refine(HW.out w1 hr1).mono ?_
 rintro e w2 ⟨rfl,hr2,hs2⟩
 have hr2:Rd w2 b s av dv:=hr2
 have hg2:=(hs2.block w.heap.size (by omega)).trans ((hs1.block w.heap.size (by omega)).trans HG0.out)
 have hs2:=(HR0.out.trans hs1.rf).trans hs2.rf
 have HG2:=z6 hg2
 clear hg2
 have hav:=hr2.le
 clear hs1 hr1
 obtain⟨h0,h1,h2,f1,f2,_,_⟩:=id hr2
 go_wp2_with fail
 go_loopw [] (fun wr=> ∃k,Rd wr b s k dv∧Rf b w wr∧Hid (wr.heap[w.heap.size]?=some (.cells #[.string ⟨#[]⟩,.string ⟨#[]⟩] 59))∧av≤k∧k≤av+20∧Hid (run zS s dv (20 -(k - av)) k=run zS s dv 20 av)) (fun wr=>s.size - atOf wr b)
 case atStart=>exact⟨av,hr2,hs2,HG2,z6E _,by omega,by simp [Hid]⟩
 case round=>
  obtain⟨k,hk,hsc,hgx,hak,hk8,hsk⟩:=hrel
  have hat:=z6 hk.atOf
  have hk':=hk
  clear h0 h1 h2 f1 f2
  obtain⟨h0,h1,h2,f1,f2,ha,hs⟩:=hk
  by_cases hgo:k - av<20∧zS (pk s k dv)=true
  ·obtain⟨h8,hb⟩:=hgo
   have h8':(k:Int)- av<20:=by omega
   have hne:pk s k dv≠ -1:=fun e=>by rw [e] at hb;exact absurd hb (by decide)
   have hlt:=(jQ hne).2
   have hset:=fun n=>(hk'.drewN n).setAt' (k+1) (k+1) (by omega) hlt
   have hst:Hid (run zS s dv (20 -(k+1 - av)) (k+1)=run zS s dv 20 av):=z6 (by
    rw [←hsk.out,show 20 -(k - av)=(20 -(k+1 - av))+1 by omega,z1t hb])
   clear hne
   go_wp2_with (go_at_call 32;refine(z06 _ _ _ _ _ hk').mono ?_;rintro e w2 ⟨rfl,n,rfl⟩)
   have hset:=hset n
   go_roundw
   case rel=>exact⟨k+1,hset,hsc.trans (((Sc.refl b _).drewN n).setCell 1 (Or.inl rfl) _).rf,z6 (((((Sc.refl b _).drewN n).setCell 1 (Or.inl rfl) _).block _ (by omega)).trans hgx.out),by omega,by omega,hst⟩
   case measure=>rw [hset.atOf,hat.out];omega
  ·have hrun:Hid (run zS s dv 20 av=k):=by
    by_cases h8:k - av<20
    ·refine z6 ?_
     rw [←hsk.out]
     exact jr (by cases hc:zS (pk s k dv) with|false=>rfl|true=>exact absurd ⟨h8,hc⟩ hgo)
    ·exact z6 (by rw [←hsk.out,show 20 -(k - av)=0 by omega];rfl)
   have hor:k - av<20∧zS (pk s k dv)=false∨ ¬k - av<20:=by
    by_cases h8:k - av<20
    ·exact .inl ⟨h8,by cases hc:zS (pk s k dv) with|false=>rfl|true=>exact absurd ⟨h8,hc⟩ hgo⟩
    ·exact .inr h8
   clear hgo hsk hat hk8
   rcases hor with⟨h8,hb⟩|h8
   ·have h8':(k:Int)- av<20:=by omega
    go_wp2_with (go_at_call 32;refine(z06 _ _ _ _ _ hk').mono ?_;rintro e w2 ⟨rfl,n,rfl⟩)
    have q0:wr.cell? ⟨w.heap.size,0,none⟩=some (.string ⟨#[]⟩):=by simp [World.cell?,hgx.out]
    have q1:wr.cell? ⟨w.heap.size,1,none⟩=some (.string ⟨#[]⟩):=by simp [World.cell?,hgx.out]
    have q2:wr.frozen? ⟨w.heap.size,0,none⟩=false:=by simp [World.frozen?,hgx.out]
    have q3:wr.frozen? ⟨w.heap.size,1,none⟩=false:=by simp [World.frozen?,hgx.out]
    go_region
    go_wp2_with fail
    have r0: ∀(W:World),W.cell? ⟨w.heap.size,0,none⟩=some (.string ⟨#[]⟩)→(W.setCell ⟨w.heap.size,0,none⟩ (.string nm)).cell? ⟨w.heap.size,0,none⟩=some (.string nm):=fun W q=>World.cell?_setCell_same _ _ _ q
    have r1: ∀(W:World) (v:Value),W.cell? ⟨w.heap.size,1,none⟩=some (.string ⟨#[]⟩)→((W.setCell ⟨w.heap.size,0,none⟩ (.string nm)).setCell ⟨w.heap.size,1,none⟩ v).cell? ⟨w.heap.size,1,none⟩=some v:=fun W v q=>World.cell?_setCell_same _ _ _ ((zu _ _ _ _ _ (by omega)).trans q)
    have r2:=r0 wr q0
    have r3:=fun n=>r0 (wr.drewN n) q0
    have r4:=fun v=>r1 wr v q1
    have r5:=fun n v=>r1 (wr.drewN n) v q1
    refine bodyPost_ret (v:= .agg #[.string nm,.string (s.extract av k)]) (by simp [results,Tryd.results19,go_sem,r2,r3,r4,r5]) rfl ?_
    have hx: ∀(W:World),Rd W b s k dv→Rf b w W→Rd ((W.setCell ⟨w.heap.size,0,none⟩ (.string nm)).setCell ⟨w.heap.size,1,none⟩ (.string (s.extract av k))) b s k dv∧Rf b w ((W.setCell ⟨w.heap.size,0,none⟩ (.string nm)).setCell ⟨w.heap.size,1,none⟩ (.string (s.extract av k))):=fun W q1 q2=>⟨(q1.other (z6N _ _ _ _ (by simp;omega))).other (z6N _ _ _ _ (by simp;omega)),(q2.setCell (z6E _) _).setCell (z6E _) _⟩
    exact⟨by rw [hrun.out],by rw [hrun.out];exact(hx _ (hk'.drewN _) (hsc.drewN _)).1,(hx _ (hk'.drewN _) (hsc.drewN _)).2⟩
   ·have h8': ¬(k:Int)- av<20:=by omega
    go_wp2_with (go_at_call 32;refine(z06 _ _ _ _ _ hk').mono ?_;rintro e w2 ⟨rfl,n,rfl⟩)
    have q0:wr.cell? ⟨w.heap.size,0,none⟩=some (.string ⟨#[]⟩):=by simp [World.cell?,hgx.out]
    have q1:wr.cell? ⟨w.heap.size,1,none⟩=some (.string ⟨#[]⟩):=by simp [World.cell?,hgx.out]
    have q2:wr.frozen? ⟨w.heap.size,0,none⟩=false:=by simp [World.frozen?,hgx.out]
    have q3:wr.frozen? ⟨w.heap.size,1,none⟩=false:=by simp [World.frozen?,hgx.out]
    go_region
    go_wp2_with fail
    have r0: ∀(W:World),W.cell? ⟨w.heap.size,0,none⟩=some (.string ⟨#[]⟩)→(W.setCell ⟨w.heap.size,0,none⟩ (.string nm)).cell? ⟨w.heap.size,0,none⟩=some (.string nm):=fun W q=>World.cell?_setCell_same _ _ _ q
    have r1: ∀(W:World) (v:Value),W.cell? ⟨w.heap.size,1,none⟩=some (.string ⟨#[]⟩)→((W.setCell ⟨w.heap.size,0,none⟩ (.string nm)).setCell ⟨w.heap.size,1,none⟩ v).cell? ⟨w.heap.size,1,none⟩=some v:=fun W v q=>World.cell?_setCell_same _ _ _ ((zu _ _ _ _ _ (by omega)).trans q)
    have r2:=r0 wr q0
    have r3:=fun n=>r0 (wr.drewN n) q0
    have r4:=fun v=>r1 wr v q1
    have r5:=fun n v=>r1 (wr.drewN n) v q1
    refine bodyPost_ret (v:= .agg #[.string nm,.string (s.extract av k)]) (by simp [results,Tryd.results19,go_sem,r2,r3,r4,r5]) rfl ?_
    have hx: ∀(W:World),Rd W b s k dv→Rf b w W→Rd ((W.setCell ⟨w.heap.size,0,none⟩ (.string nm)).setCell ⟨w.heap.size,1,none⟩ (.string (s.extract av k))) b s k dv∧Rf b w ((W.setCell ⟨w.heap.size,0,none⟩ (.string nm)).setCell ⟨w.heap.size,1,none⟩ (.string (s.extract av k))):=fun W q1 q2=>⟨(q1.other (z6N _ _ _ _ (by simp;omega))).other (z6N _ _ _ _ (by simp;omega)),(q2.setCell (z6E _) _).setCell (z6E _) _⟩
    exact⟨by rw [hrun.out],by rw [hrun.out];exact(hx _ hk' hsc).1.drewN 1,(hx _ hk' hsc).2.drewN 1⟩
def zJ (x:z6P×z6P):List Value:=[.string x.1,.string x.2]
theorem z0W (x:z6P×z6P):(zJ x).length=2:=rfl
def zy (nm:z6P):List (z6P×z6P)→Nat→Int
 |[],_=> -1
 |x::xs,i=>if x.1.toList==nm.toList then(i:Int) else zy nm xs (i+1)
def z1f (nm:z6P):List (z6P×z6P)→z6P
 |[]=>⟨#[]⟩
 |x::xs=>if x.1.toList==nm.toList then x.2 else z1f nm xs
theorem z0k (base:Nat)(l:List (z6P×z6P))(v:Value)(nm:z6P)(w:World)(h:w.ownsRow base 59 2 v l.length ((l.map zJ).flatten))(hlen:l.length≤100000):
  Calls Tryd.prog 22 #[v,.string nm] w fun e w'=>e= .returned (.int .i64 (zy nm l 0))∧w'=w:=by
 obtain⟨a0,c0,rfl⟩:=zk h
 have HW:=z6 h
 clear h
 go_enter Tryd.func22,Tryd.ntmps22
 go_wp2_with fail
 go_loopg [5] (l.length+1) (fun k iv wr=> ∃(i:Nat),k+i=l.length+1∧i≤l.length∧iv= .int .i64 i∧wr=w∧Hid (zy nm (l.drop i) i=zy nm l 0))
 case atStart=>exact⟨0,rfl,z6L _,rfl,rfl,rfl⟩
 case round=>
  obtain⟨i,hk,hiE,rfl,rfl,hfin⟩:=hrel
  have hHK:=z6 hk
  clear hk
  by_cases hlt:i<l.length
  ·obtain⟨g,cap,hv,hb,hg⟩:=HW.out.form (by omega)
   injection hv with e1 e2 e3
   subst e1 e3
   obtain⟨x,hx⟩: ∃x,l[i]?=some x:=⟨l[i],z6B hlt⟩
   have q0:wr.cell? ⟨g,i*2,none⟩=some (.string x.1):=jW HW.out _ _ (z0s zJ 2 z0W l i 0 x hx (by omega))
   have hlt':(i:Int)<l.length:=by omega
   have hst:Hid (zy nm (l.drop i) i=if x.1.toList==nm.toList then(i:Int) else zy nm (l.drop (i+1)) (i+1)):=z6 (by
    obtain⟨hl,hx'⟩:=z6C.1 hx
    rw [z6I hl,hx']
    rfl)
   cases hq:(x.1.toList==nm.toList)
   ·go_wp2_with fail
    have hk:=hHK.out
    go_roundg (l.length - i)
    case measure=>omega
    case rel=>exact⟨i+1,by omega,by omega,by go_num,rfl,z6 (by rw [←hfin.out,hst.out,hq];rfl)⟩
   ·go_wp2_with fail
    go_ret
    exact⟨by rw [←hfin.out,hst.out,hq];simp,rfl⟩
  ·have hlt': ¬(i:Int)<l.length:=by omega
   go_wp2_with fail
   go_ret
   exact⟨by rw [←hfin.out,z6H (by omega)];simp [zy],rfl⟩
theorem z1k (nm:z6P): ∀(l:List (z6P×z6P)) (i:Nat),(zy nm l i= -1∧z1f nm l=⟨#[]⟩∧ ∀x∈l,(x.1.toList==nm.toList)=false)∨ ∃(j:Nat) (x:z6P×z6P),zy nm l i=((i+j:Nat):Int)∧l[j]?=some x∧z1f nm l=x.2:=by
 intro l
 induction l with
 |nil=>intro i;exact .inl ⟨rfl,rfl,fun x h=>by cases h⟩
 |cons y ys ih=>
  intro i
  cases h:(y.1.toList==nm.toList) with
  |true=>exact .inr ⟨0,y,by simp [zy,h],rfl,by simp [z1f,h]⟩
  |false=>
   rcases ih (i+1) with⟨h1,h2,h3⟩|⟨j,x,h1,h2,h3⟩
   ·exact .inl ⟨by simp [zy,h,h1],by simp [z1f,h,h2],fun x hx=>by
     rcases List.mem_cons.1 hx with rfl|hx
     ·exact h
     ·exact h3 x hx⟩
   ·exact .inr ⟨j+1,x,by simp only [zy,h,if_false,Bool.false_eq_true];rw [h1];omega,by simpa using h2,by simp [z1f,h,h3]⟩
theorem z12 (base:Nat)(l:List (z6P×z6P))(v:Value)(nm:z6P)(w:World)(h:w.ownsRow base 59 2 v l.length ((l.map zJ).flatten))(hlen:l.length≤100000):
  Calls Tryd.prog 36 #[v,.string nm] w fun e w'=>e= .returned (.string (z1f nm l))∧w'=w:=by
 have HP:=z6 (z0k base l v nm w h hlen)
 obtain⟨a0,c0,rfl⟩:=zk h
 rcases z1k nm l 0 with⟨h1,h2,_⟩|⟨j,x,h1,h2,h3⟩
 ·rw [h1] at HP
  have H2:=z6 h2
  clear h1 h2
  go_enter Tryd.func36,Tryd.ntmps36
  go_wp2_with fail
  refine HP.out.mono ?_
  rintro e w1 ⟨rfl,rfl⟩
  go_wp2_with fail
  go_ret
  exact⟨by rw [H2.out];rfl,rfl⟩
 ·have hl:=(z6C.1 h2).1
  obtain⟨g,cap,hv,hb,hg⟩:=h.form (by omega)
  injection hv with e1 e2 e3
  subst e1 e3
  have q1:w.cell? ⟨g,j*2+1,none⟩=some (.string x.2):=jW h _ _ (z0s zJ 2 z0W l j 1 x h2 (by omega))
  rw [h1,show((0+j:Nat):Int)=(j:Int) by omega] at HP
  have H3:=z6 h3
  clear h1 h2 h3
  have hlt':(j:Int)<l.length:=by omega
  go_enter Tryd.func36,Tryd.ntmps36
  go_wp2_with fail
  refine HP.out.mono ?_
  rintro e w1 ⟨rfl,rfl⟩
  go_wp2_with fail
  go_ret
  exact⟨by rw [H3.out];rfl,rfl⟩
def paM (s:z6P):Nat→Nat→Bool→List (z6P×z6P)→Nat×Bool×List (z6P×z6P)
 |0,a,d,l=>(a,d,l)
 |n+1,a,d,l=>if pk s a d==59 then
   let v:=zN s (a+1) d
   paM s n v.1 (v.2.1||(zy v.2.2.1 l 0 != -1)) (l++[(v.2.2.1,v.2.2.2)])
  else(a,d,l)
def raM (s:z6P):List (z6P×z6P)×Bool:=
 if s.size=0 then([],false) else
 let v:=zN s 0 false
 let p:=paM s (s.size+1) v.1 v.2.1 [(v.2.2.1,v.2.2.2)]
 (p.2.2,z1g s p.1 p.2.1)
def z5I (s:z6P)(w:World)(e:Ending)(w':World):Prop:= ∃v,e= .returned (.tuple #[v,.bool (raM s).2])∧w'.ownsRow w.heap.size 59 2 v (raM s).1.length (((raM s).1.map zJ).flatten)∧Below w.heap.size w w'
theorem info59:(Tryd.prog.info? 59).map (fun i=>(i.zero,i.size,i.bytes))=some (some (.agg #[.string ⟨#[]⟩,.string ⟨#[]⟩]),2,32):=by kernel_rfl
theorem z22 {s:z6P}{d:Bool}{c:UInt8}{a:Nat}(h:pk s a d=(c.toNat:Int)):zm s d [c] a=(a+1,d):=by rw [j8 h];rfl
theorem z4m {s:z6P}{a:Nat}{d:Bool}(h:a≤s.size):a≤(zN s a d).1:=by
 unfold zN
 simp only
 have h1:=z4j (p:=zr) (by decide) (m:=8) (d:=d) h
 have h2:=z0j s (zH s a d).2.1 [61] (zH s a d).1 h1.2
 have h3:=z25 zS (by decide) s (zm s (zH s a d).2.1 [61] (zH s a d).1).2 20 _ h2.2
 unfold zH at*
 omega
theorem z1I (s:z6P)(w:World)(hs:s.size≤600):
  Calls Tryd.prog 10 #[.string s] w fun e w'=>z5I s w e w':=by
 have hmade:=World.ownsRow_made (base:=w.heap.size) (e:=59) (size:=2) w #[] 0 (z6E _) (by decide) (by simp)
 have HM:=z6 hmade
 by_cases h0:s.size=0
 ·have hs0:s=⟨#[]⟩:=by cases s;simp_all [ByteArray.size]
  subst hs0
  have hra:Hid (raM ⟨#[]⟩=([],false)):=z6 rfl
  have hB0:=z6 ((z6O w.heap.size w).alloc (z6E _) (.cells #[] 59))
  clear hmade
  go_enter Tryd.func10,Tryd.ntmps10
  go_wp2_with fail
  go_ret2
  exact⟨_,by rw [hra.out];rfl,by rw [hra.out];exact HM.out,hB0.out⟩
 ·have hs0:(s.toList==([]:List UInt8))=false:=by
   rw [z6D]
   cases hq:(s.data.toList==([]:List UInt8)) with
   |false=>rfl
   |true=>simp at hq;exact absurd (show s.size=0 by simp [ByteArray.size,hq]) h0
  clear hmade
  have hrd0:Rd ((w.alloc (.cells #[] 59)).alloc (.cells #[.string s,.int .i64 0,.bool false,.slice none 0 0,.slice none 0 0,.slice none 0 0,.slice none 0 0] 39)) (w.heap.size+1) s 0 false:=by
   have hg:=heap_alloc_new (w.alloc (.cells #[] 59)) (.cells #[.string s,.int .i64 0,.bool false,.slice none 0 0,.slice none 0 0,.slice none 0 0,.slice none 0 0] 39)
   rw [show(w.alloc (.cells #[] 59)).heap.size=w.heap.size+1 by simp] at hg
   obtain⟨q0,q1,q2,_,_,_,_,qf⟩:=z5q hg
   exact⟨q0,q1,q2,qf _,qf _,z6L _,hs⟩
  have hB0:Below w.heap.size w ((w.alloc (.cells #[] 59)).alloc (.cells #[.string s,.int .i64 0,.bool false,.slice none 0 0,.slice none 0 0,.slice none 0 0,.slice none 0 0] 39)):=((z6O w.heap.size w).alloc (z6E _) _).alloc (by simp) _
  have hM1:=HM.out.alloc (.cells #[.string s,.int .i64 0,.bool false,.slice none 0 0,.slice none 0 0,.slice none 0 0,.slice none 0 0] 39)
  have hz0:((w.alloc (.cells #[] 59)).alloc (.cells #[.string s,.int .i64 0,.bool false,.slice none 0 0,.slice none 0 0,.slice none 0 0,.slice none 0 0] 39)).heap.size=w.heap.size+2:=by simp
  have H0:=z6 (z6F hrd0 (z6F hB0 (z6F hM1 hz0)))
  clear hrd0 hB0 hM1 hz0
  go_enter Tryd.func10,Tryd.ntmps10
  go_wp2_with fail
  obtain⟨hrd0,hB0,hM1,hz0⟩:=H0.out
  clear H0
  generalize ((w.alloc (.cells #[] 59)).alloc (.cells #[.string s,.int .i64 0,.bool false,.slice none 0 0,.slice none 0 0,.slice none 0 0,.slice none 0 0] 39))=W0 at*
  refine(z0h _ _ _ _ _ hrd0).mono ?_
  rintro e w1 ⟨rfl,hr1,hs1⟩
  have hra:Hid (raM s=((paM s (s.size+1) (zN s 0 false).1 (zN s 0 false).2.1 [((zN s 0 false).2.2.1,(zN s 0 false).2.2.2)]).2.2,z1g s (paM s (s.size+1) (zN s 0 false).1 (zN s 0 false).2.1 [((zN s 0 false).2.2.1,(zN s 0 false).2.2.2)]).1 (paM s (s.size+1) (zN s 0 false).1 (zN s 0 false).2.1 [((zN s 0 false).2.2.1,(zN s 0 false).2.2.2)]).2.1)):=z6 (by unfold raM;rw [if_neg h0])
  generalize zN s 0 false=v0 at*
  obtain⟨a1,d1,nm1,vl1⟩:=v0
  simp only at*
  generalize hP0:paM s (s.size+1) a1 d1 [(nm1,vl1)]=P0 at*
  have HP0:=z6 hP0
  clear hP0
  obtain⟨i0,hi,hz0',hz1,hz2⟩:=info_parts info59
  have hBw:w.heap.size+2≤w1.heap.size:=by have:=hs1.size;omega
  have hM2:w1.ownsRow w.heap.size 59 2 (.slice (some ⟨w.heap.size,0,none⟩) 0 0) 0 []:=ze hM1 fun k e=>hs1.block k (hM1.lt k e).2 (by simp [Value.ownBlock] at e;omega)
  have hB1:Below w.heap.size w w1:=⟨hs1.os.trans hB0.os,hs1.tape.trans hB0.tape,hs1.output.trans hB0.output,by omega,fun k hk=>(hs1.block k (by omega) (by omega)).trans (hB0.block k hk)⟩
  have H1:=z6 (z6F hr1 (z6F hM2 hB1))
  clear hr1 hM2 hB1 hM1 hB0 hrd0 hs1 HM
  go_wp2_with (at_builtin;go_must (refine wpList_append_lies _ rfl (.tmp 14) (.tmp 16) 43 rfl w.heap.size 59 i0 _ 2 32 Tryd.underlying43 hi hz0' hz1 hz2 rfl (by omega) _ 0 _ rfl ((H1.out.2.1.alloc _).alloc _) ⟨w1.heap.size+1,0,none⟩ 1 1 (zJ (nm1,vl1)) rfl rfl ?news ?one (by omega) ?mm ?bys ?base (w1.heap.size+2) (by simp) ?rest))
  case news=>exact z1T _ _ (by simp) #[.string nm1,.string vl1] 59
  case one=>intro u hu;simp [zJ] at hu;rcases hu with rfl|rfl<;>rfl
  case mm=>unfold maxLen;omega
  case bys=>omega
  case base=>simp;omega
  case rest=>
   intro gb cap w2 hown2 hgrow hat hlt2
   obtain⟨hr1,hM2,hB1⟩:=H1.out
   clear H1
   have hgb:gb≠w.heap.size+1∧gb≠w1.heap.size:=by
    rcases hat with e|e
    ·simp [Value.ownBlock] at e;omega
    ·omega
   have hold: ∀k,k<w1.heap.size→k≠w.heap.size→w2.heap[k]?=w1.heap[k]?:=fun k hk hn=>(hgrow.block k (by simp;omega) (fun e=>by simp [Value.ownBlock] at e;omega)).trans ((z6G _ _ _ (by simp;omega)).trans (z6G _ _ _ hk))
   have hr2:Rd w2 (w.heap.size+1) s a1 d1:=hr1.other (hold _ (by omega) (by omega))
   have hG2:w2.heap[w1.heap.size]?=some (.cells #[.string nm1,.string vl1] 59):=(hgrow.block _ (by simp<;>omega) (fun e=>by simp [Value.ownBlock] at e;omega)).trans ((z6G _ _ _ (by simp)).trans (heap_alloc_new w1 _))
   have hB2:Below w.heap.size w w2:=Below.grown ((hB1.alloc (by omega) _).alloc (by simp;omega) _) hgrow (by simp;omega) fun k e=>by simp [Value.ownBlock] at e;omega
   have hz2':w1.heap.size<w2.heap.size:=by have:=hgrow.size;simp at this;omega
   have ha1:=hr2.le
   have H2:=z6 (z6F hr2 (z6F hG2 (z6F hB2 hown2)))
   clear hr2 hG2 hB2 hown2 hold hgrow hat hr1 hM2 hB1
   go_wp2_with fail
   go_loopg [4] (s.size+1) (fun k v wr=> ∃(a:Nat) (d:Bool) (l:List (z6P×z6P)) (x y:z6P) (g2 cap2:Nat),v= .slice (some ⟨g2,0,none⟩) l.length cap2∧g2≠w.heap.size+1∧g2≠w1.heap.size∧s.size+1≤k+a∧k+l.length≤s.size+2∧w1.heap.size<wr.heap.size∧Hid (Rd wr (w.heap.size+1) s a d)∧Hid (wr.heap[w1.heap.size]?=some (.cells #[.string x,.string y] 59))∧Hid (wr.ownsRow w.heap.size 59 2 (.slice (some ⟨g2,0,none⟩) l.length cap2) l.length ((l.map zJ).flatten))∧Hid (Below w.heap.size w wr)∧Hid (paM s k a d l=P0))
   case atStart=>
    obtain⟨hr2,hG2,hB2,hown2⟩:=H2.out
    exact⟨a1,d1,[(nm1,vl1)],nm1,vl1,gb,cap,rfl,hgb.1,hgb.2,by omega,by simp,hz2',z6 hr2,z6 hG2,z6 hown2,z6 hB2,HP0⟩
   case round=>
    clear H2
    obtain⟨a,d,l,x,y,g2,cap2,rfl,hn1,hn2,hka,hkl,hzr,HR,HG,HO,HB,HPk⟩:=hrel
    have ha:=HR.out.le
    cases hb:(pk s a d==59)
    ·have hst:Hid ((a,d,l)=P0):=z6 (by
      rw [←HPk.out]
      cases gk with
      |zero=>rfl
      |succ k=>unfold paM;rw [hb];rfl)
     have he:=z6 (z17 _ _ _ _ _ (HR.out.drewN 0))
     go_wp2_with (go_at_call 20;refine(zj _ _ _ _ _ HR.out).mono ?_;rintro e w3 ⟨rfl,n3,rfl⟩)
     refine(z17 _ _ _ _ _ (HR.out.drewN n3)).mono ?_
     rintro e w4 ⟨rfl,hr4,hs4⟩
     have q2:=hr4.c2
     go_wp2_with fail
     go_quiet (fail)
     go_wp2_with fail
     go_ret2
     have hst':=hst.out
     subst hst'
     have hB4:Below w.heap.size w w4:=⟨hs4.os.trans HB.out.os,hs4.tape.trans HB.out.tape,hs4.output.trans HB.out.output,by have:=hs4.size;have:=HB.out.size;simp at*;omega,fun k hk=>(hs4.block k (by omega)).trans (HB.out.block k hk)⟩
     have hO4:w4.ownsRow w.heap.size 59 2 (.slice (some ⟨g2,0,none⟩) l.length cap2) l.length ((l.map zJ).flatten):=ze HO.out fun k e=>hs4.block k (by simp [Value.ownBlock] at e;omega)
     refine⟨.slice (some ⟨g2,0,none⟩) l.length cap2,by rw [hra.out];rfl,by rw [hra.out];exact ze hO4 fun k e=>rfl,?_⟩
     exact⟨hB4.os,hB4.tape,hB4.output,hB4.size,hB4.block⟩
    ·have hpk:pk s a d=59:=by simpa using hb
     have hlt:=(jQ (s:=s) (a:=a) (d:=d) (by omega)).2
     obtain⟨k,rfl⟩: ∃k,gk=k+1:=⟨gk - 1,by omega⟩
     have hst:Hid (paM s k (zN s (a+1) d).1 ((zN s (a+1) d).2.1||(zy (zN s (a+1) d).2.2.1 l 0 != -1)) (l++[((zN s (a+1) d).2.2.1,(zN s (a+1) d).2.2.2)])=P0):=z6 (by
      rw [←HPk.out]
      conv=>rhs;unfold paM
      rw [hb];rfl)
     have hW1:=z22 (s:=s) (d:=d) (c:=59) (a:=a) hpk
     have HW:=z6 (fun W h=>jE (w.heap.size+1) a s ⟨#[59]⟩ d W h (by decide))
     rw [show(ByteArray.mk #[59]).data.toList=[59] from rfl,hW1] at HW
     have HA:=z6 (fun W h=>z0h (w.heap.size+1) (a+1) s d W h)
     have HAM:=z6 (z4m (s:=s) (a:=a+1) (d:=d) (by omega))
     generalize zN s (a+1) d=v0 at*
     obtain⟨a5,d5,nm5,vl5⟩:=v0
     simp only at*
     clear hW1 hpk
     go_wp2_with (go_at_call 20;refine(zj _ _ _ _ _ HR.out).mono ?_;rintro e w3 ⟨rfl,n3,rfl⟩)
     refine(HW.out _ (HR.out.drewN n3)).mono ?_
     rintro e w4 ⟨rfl,hr4,hs4⟩
     go_wp2_with fail
     refine(HA.out _ hr4).mono ?_
     rintro e w5 ⟨rfl,hr5,hs5⟩
     have hz4:wr.heap.size=w4.heap.size:=by have:=hs4.size;simp at this;omega
     have hz5:wr.heap.size≤w5.heap.size:=by have:=hs5.size;omega
     have hold: ∀k,k<wr.heap.size→k≠w.heap.size+1→w5.heap[k]?=wr.heap[k]?:=fun k hk hn=>(hs5.block k (by omega) hn).trans (hs4.block k hn)
     have hG5:w5.heap[w1.heap.size]?=some (.cells #[.string x,.string y] 59):=(hold _ hzr (by omega)).trans HG.out
     have hO5:w5.ownsRow w.heap.size 59 2 (.slice (some ⟨g2,0,none⟩) l.length cap2) l.length ((l.map zJ).flatten):=ze HO.out fun k e=>hold k (HO.out.lt k e).2 (by simp [Value.ownBlock] at e;omega)
     have hB5:Below w.heap.size w w5:=⟨hs5.os.trans (hs4.os.trans HB.out.os),hs5.tape.trans (hs4.tape.trans HB.out.tape),hs5.output.trans (hs4.output.trans HB.out.output),by have:=HB.out.size;omega,fun k hk=>(hold k (by have:=HB.out.size;omega) (by omega)).trans (HB.out.block k hk)⟩
     clear hold hs5 hs4 hr4
     have hw6:((w5.setCell ⟨w1.heap.size,0,none⟩ (.string nm5)).setCell ⟨w1.heap.size,1,none⟩ (.string vl5)).heap[w1.heap.size]?=some (.cells #[.string nm5,.string vl5] 59):=by simp [World.setCell,Array.getElem?_modify,hG5]
     have hz6:((w5.setCell ⟨w1.heap.size,0,none⟩ (.string nm5)).setCell ⟨w1.heap.size,1,none⟩ (.string vl5)).heap.size=w5.heap.size:=by simp [World.setCell]
     have hold6: ∀k,k≠w1.heap.size→((w5.setCell ⟨w1.heap.size,0,none⟩ (.string nm5)).setCell ⟨w1.heap.size,1,none⟩ (.string vl5)).heap[k]?=w5.heap[k]?:=fun k hn=>(z6N _ _ _ _ hn).trans (z6N _ _ _ _ hn)
     have hr6:=hr5.other (hold6 _ (by omega))
     have hO6:=ze hO5 fun k e=>hold6 k (by simp [Value.ownBlock] at e;omega)
     have hB6:=(hB5.setCell (show w.heap.size≤(⟨w1.heap.size,0,none⟩:Addr).block by show w.heap.size≤w1.heap.size;omega) (.string nm5)).setCell (show w.heap.size≤(⟨w1.heap.size,1,none⟩:Addr).block by show w.heap.size≤w1.heap.size;omega) (.string vl5)
     have y0:w5.cell? ⟨w1.heap.size,0,none⟩=some (.string x):=by simp [World.cell?,hG5]
     have y1:w5.cell? ⟨w1.heap.size,1,none⟩=some (.string y):=by simp [World.cell?,hG5]
     have y2:w5.frozen? ⟨w1.heap.size,0,none⟩=false:=by simp [World.frozen?,hG5]
     have y3:w5.frozen? ⟨w1.heap.size,1,none⟩=false:=by simp [World.frozen?,hG5]
     have z0:((w5.setCell ⟨w1.heap.size,0,none⟩ (.string nm5)).setCell ⟨w1.heap.size,1,none⟩ (.string vl5)).cell? ⟨w1.heap.size,0,none⟩=some (.string nm5):=by simp [World.cell?,hw6]
     have H6:=z6 (z6F hw6 (z6F hz6 (z6F hr6 (z6F hO6 (z6F hB6 z0)))))
     clear hw6 hz6 hr6 hO6 hB6 hold6 hG5 hO5 hB5 hr5 z0
     go_wp2_with fail
     obtain⟨hw6,hz6,hr6,hO6,hB6,z0⟩:=H6.out
     clear H6 y0 y1 y2 y3
     generalize ((w5.setCell ⟨w1.heap.size,0,none⟩ (.string nm5)).setCell ⟨w1.heap.size,1,none⟩ (.string vl5))=W6 at*
     refine(z0k w.heap.size l _ nm5 W6 hO6 (by omega)).mono ?_
     rintro e W7 ⟨rfl,rfl⟩
     have z1:W7.cell? ⟨w1.heap.size,1,none⟩=some (.string vl5):=by simp [World.cell?,hw6]
     have hzz:a+1≤a5:=HAM.out
     have hwz:w1.heap.size<W7.heap.size:=by omega
     have HZ6:=z6 hz6
     clear hz6
     cases hdup:(zy nm5 l 0 != -1)
     ·rw [hdup,Bool.or_false] at hst
      have H7:=z6 (z6F hr6 (z6F hw6 (z6F hO6 hB6)))
      have hW7:w1.heap.size<W7.heap.size:=by omega
      clear hr6 hw6 hO6 hB6
      go_wp2_with (at_builtin;go_must (refine wpList_append_lies _ rfl (.tmp 28) (.tmp 30) 43 rfl w.heap.size 59 i0 _ 2 32 Tryd.underlying43 hi hz0' hz1 hz2 rfl (by omega) _ l.length _ rfl (H7.out.2.2.1.alloc _) ⟨W7.heap.size,0,none⟩ 1 1 (zJ (nm5,vl5)) rfl rfl ?news ?one (by omega) ?mm ?bys ?base (W7.heap.size+1) (by simp) ?rest))
      case news=>exact z1T _ _ (by simp) #[.string nm5,.string vl5] 59
      case one=>intro u hu;simp [zJ] at hu;rcases hu with rfl|rfl<;>rfl
      case mm=>unfold maxLen;omega
      case bys=>omega
      case base=>simp;omega
      case rest=>
       intro gc cap8 w8 hown8 hgrow hat hlt8
       obtain⟨hr7,hG7,hO7,hB7⟩:=H7.out
       clear H7
       have hgc:gc≠w.heap.size+1∧gc≠w1.heap.size:=by
        rcases hat with e|e
        ·simp [Value.ownBlock] at e;omega
        ·omega
       have hold8: ∀k,k<W7.heap.size→k≠g2→w8.heap[k]?=W7.heap[k]?:=fun k hk hn=>(hgrow.block k (by simp;omega) (fun e=>by simp [Value.ownBlock] at e;omega)).trans (z6G _ _ _ hk)
       have hr8:=z6 (hr7.other (hold8 _ (by omega) (by omega)))
       have hG8:=z6 ((hold8 _ (by omega) (by omega)).trans hG7)
       have hB8:=z6 (Below.grown (hB7.alloc hB7.size _) hgrow (by simp;have:=hB7.size;omega) fun k e=>by simp [Value.ownBlock] at e;have:=(hO7.lt g2 rfl).1;omega)
       have hz8:w1.heap.size<w8.heap.size:=by have:=hgrow.size;simp at this;omega
       have ha8:=hr7.le
       have hown9:Hid (w8.ownsRow w.heap.size 59 2 (.slice (some ⟨gc,0,none⟩) (l++[(nm5,vl5)]).length cap8) (l++[(nm5,vl5)]).length (((l++[(nm5,vl5)]).map zJ).flatten)):=z6 (by simpa using hown8)
       clear hown8 hgrow hat hold8 hr7 hG7 hO7 hB7
       go_wp2_with fail
       go_roundg k
       case measure=>omega
       case rel=>exact⟨a5,_,l++[(nm5,vl5)],nm5,vl5,gc,cap8,by simp,hgc.1,hgc.2,by omega,by simp;omega,hz8,hr8,hG8,hown9,hB8,hst⟩
     ·rw [hdup,Bool.or_true] at hst
      have hF:=z6 (jg _ _ _ _ _ hr6)
      have HC:=z6 (z6F hr6 (z6F hw6 (z6F hO6 hB6)))
      have hW6:w1.heap.size<W7.heap.size:=by omega
      clear hr6 hw6 hO6 hB6
      go_wp2_with fail
      refine hF.out.mono ?_
      rintro e W8 ⟨rfl,hr8',hs8⟩
      obtain⟨hr6,hw6,hO6,hB6⟩:=HC.out
      clear HC hF
      have hw8:=(hs8.block w1.heap.size (by omega)).trans hw6
      have z2:W8.cell? ⟨w1.heap.size,0,none⟩=some (.string nm5):=by simp [World.cell?,hw8]
      have z3:W8.cell? ⟨w1.heap.size,1,none⟩=some (.string vl5):=by simp [World.cell?,hw8]
      have hO8:W8.ownsRow w.heap.size 59 2 (.slice (some ⟨g2,0,none⟩) l.length cap2) l.length ((l.map zJ).flatten):=ze hO6 fun k e=>hs8.block k (by simp [Value.ownBlock] at e;omega)
      have hB8':Below w.heap.size w W8:=⟨hs8.os.trans hB6.os,hs8.tape.trans hB6.tape,hs8.output.trans hB6.output,by have:=hs8.size;have:=hB6.size;omega,fun k hk=>(hs8.block k (by omega)).trans (hB6.block k hk)⟩
      have hW8:w1.heap.size<W8.heap.size:=by have:=hs8.size;omega
      have H7:=z6 (z6F hr8' (z6F hw8 (z6F hO8 hB8')))
      clear hr8' hw8 hO8 hB8' hr6 hw6 hO6 hB6 hs8 z0 z1
      go_wp2_with (at_builtin;go_must (refine wpList_append_lies _ rfl (.tmp 28) (.tmp 30) 43 rfl w.heap.size 59 i0 _ 2 32 Tryd.underlying43 hi hz0' hz1 hz2 rfl (by omega) _ l.length _ rfl (H7.out.2.2.1.alloc _) ⟨W8.heap.size,0,none⟩ 1 1 (zJ (nm5,vl5)) rfl rfl ?news ?one (by omega) ?mm ?bys ?base (W8.heap.size+1) (by simp) ?rest))
      case news=>exact z1T _ _ (by simp) #[.string nm5,.string vl5] 59
      case one=>intro u hu;simp [zJ] at hu;rcases hu with rfl|rfl<;>rfl
      case mm=>unfold maxLen;omega
      case bys=>omega
      case base=>simp;omega
      case rest=>
       intro gc cap8 w8 hown8 hgrow hat hlt8
       obtain⟨hr7,hG7,hO7,hB7⟩:=H7.out
       clear H7
       have hgc:gc≠w.heap.size+1∧gc≠w1.heap.size:=by
        rcases hat with e|e
        ·simp [Value.ownBlock] at e;omega
        ·omega
       have hold8: ∀k,k<W8.heap.size→k≠g2→w8.heap[k]?=W8.heap[k]?:=fun k hk hn=>(hgrow.block k (by simp;omega) (fun e=>by simp [Value.ownBlock] at e;omega)).trans (z6G _ _ _ hk)
       have hr8:=z6 (hr7.other (hold8 _ (by omega) (by omega)))
       have hG8:=z6 ((hold8 _ (by omega) (by omega)).trans hG7)
       have hB8:=z6 (Below.grown (hB7.alloc hB7.size _) hgrow (by simp;have:=hB7.size;omega) fun k e=>by simp [Value.ownBlock] at e;have:=(hO7.lt g2 rfl).1;omega)
       have hz8:w1.heap.size<w8.heap.size:=by have:=hgrow.size;simp at this;omega
       have ha8:=hr7.le
       have hown9:Hid (w8.ownsRow w.heap.size 59 2 (.slice (some ⟨gc,0,none⟩) (l++[(nm5,vl5)]).length cap8) (l++[(nm5,vl5)]).length (((l++[(nm5,vl5)]).map zJ).flatten)):=z6 (by simpa using hown8)
       clear hown8 hgrow hat hold8 hr7 hG7 hO7 hB7
       go_wp2_with fail
       go_roundg k
       case measure=>omega
       case rel=>exact⟨a5,_,l++[(nm5,vl5)],nm5,vl5,gc,cap8,by simp,hgc.1,hgc.2,by omega,by simp;omega,hz8,hr8,hG8,hown9,hB8,hst⟩
structure Wt where
 kind:Int
 truth:Bool
 num:Int
 text:z6P
def Wt.v (x:Wt):Value:= .agg #[.int .i64 x.kind,.bool x.truth,.int .i64 x.num,.string x.text]
def Wt.cells (x:Wt):List Value:=[.int .i64 x.kind,.bool x.truth,.int .i64 x.num,.string x.text]
theorem Wt.cells_len (x:Wt):x.cells.length=4:=rfl
def z0g:Wt:=⟨0,false,0,⟨#[]⟩⟩
def zB (b:Bool):Wt:=⟨1,b,0,⟨#[]⟩⟩
def z1A (t:z6P):Wt:=⟨3,false,0,t⟩
def jo (n:Int):Wt:=if 999999999<n∨n< -999999999 then z0g else⟨2,false,n,⟨#[]⟩⟩
def z0w (x:Wt)(w:World)(e:Ending)(w':World):Prop:=e= .returned (.agg #[.int .i64 x.kind,.bool x.truth,.int .i64 x.num,.string x.text])∧Below w.heap.size w w'
theorem zG {w:World}{g:Nat}{a b c d:Value}{t:TypeId}(hh:w.heap[g]?=some (.cells #[a,b,c,d] t)):
  w.cell? ⟨g,0,none⟩=some a∧w.cell? ⟨g,1,none⟩=some b∧w.cell? ⟨g,2,none⟩=some c∧w.cell? ⟨g,3,none⟩=some d∧w.frozen? ⟨g,0,none⟩=false∧w.frozen? ⟨g,1,none⟩=false∧w.frozen? ⟨g,2,none⟩=false∧w.frozen? ⟨g,3,none⟩=false:=by
 simp [World.cell?,World.frozen?,hh]
theorem zn {w:World}{g:Nat}{a b c d:Value}{t:TypeId}(hh:w.heap[g]?=some (.cells #[a,b,c,d] t))(p q r u:Value):
  let W:=(((w.setCell ⟨g,0,none⟩ p).setCell ⟨g,1,none⟩ q).setCell ⟨g,2,none⟩ r).setCell ⟨g,3,none⟩ u
  W.cell? ⟨g,0,none⟩=some p∧W.cell? ⟨g,1,none⟩=some q∧W.cell? ⟨g,2,none⟩=some r∧W.cell? ⟨g,3,none⟩=some u:=by
 obtain⟨h0,h1,h2,h3,_⟩:=zG (z6n hh p q r u)
 exact⟨h0,h1,h2,h3⟩
theorem zv {B g:Nat}{w w1:World}(h:Below B w w1)(hg:B≤g)(p q r u:Value):Below B w ((((w1.setCell ⟨g,0,none⟩ p).setCell ⟨g,1,none⟩ q).setCell ⟨g,2,none⟩ r).setCell ⟨g,3,none⟩ u):=
 (((h.setCell (p:=⟨g,0,none⟩) hg _).setCell (p:=⟨g,1,none⟩) hg _).setCell (p:=⟨g,2,none⟩) hg _).setCell (p:=⟨g,3,none⟩) hg _
theorem zz (n:Int)(w:World):Calls Tryd.prog 44 #[.int .i64 n] w fun e w'=>z0w (jo n) w e w':=by
 have hB:=z6 fun o:Obj=>(z6O w.heap.size w).alloc (z6E _) o
 by_cases h1:999999999<n
 ·have hx:Hid (jo n=z0g):=z6 (by unfold jo;rw [if_pos (.inl h1)])
  go_enter Tryd.func44,Tryd.ntmps44
  go_wp2_with fail
  refine bodyPost_ret (v:=z0g.v) (by simp [results,Tryd.results44,go_sem,Wt.v,z0g]) rfl ?_
  exact⟨by rw [hx.out];rfl,hB.out _⟩
 ·by_cases h2:n< -999999999
  ·have hx:Hid (jo n=z0g):=z6 (by unfold jo;rw [if_pos (.inr h2)])
   go_enter Tryd.func44,Tryd.ntmps44
   go_wp2_with fail
   refine bodyPost_ret (v:=z0g.v) (by simp [results,Tryd.results44,go_sem,Wt.v,z0g]) rfl ?_
   exact⟨by rw [hx.out];rfl,hB.out _⟩
  ·have hx:Hid (jo n=⟨2,false,n,⟨#[]⟩⟩):=z6 (by unfold jo;rw [if_neg (by omega)])
   go_enter Tryd.func44,Tryd.ntmps44
   go_wp2_with fail
   refine bodyPost_ret (v:=(Wt.mk 2 false n ⟨#[]⟩).v) (by simp [results,Tryd.results44,go_sem,Wt.v,z0g]) rfl ?_
   exact⟨by rw [hx.out];rfl,hB.out _⟩
theorem jl (t:z6P)(w:World):Calls Tryd.prog 34 #[.string t] w fun e w'=>z0w (z1A t) w e w':=by
 have hB:=z6 fun o:Obj=>(z6O w.heap.size w).alloc (z6E _) o
 go_enter Tryd.func34,Tryd.ntmps34
 go_wp2_with fail
 refine bodyPost_ret (v:=(z1A t).v) (by simp [results,Tryd.results34,go_sem,Wt.v,z1A]) rfl ?_
 exact⟨rfl,hB.out _⟩
theorem jL (t:Bool)(w:World):Calls Tryd.prog 35 #[.bool t] w fun e w'=>z0w (zB t) w e w':=by
 have hB:=z6 fun o:Obj=>(z6O w.heap.size w).alloc (z6E _) o
 go_enter Tryd.func35,Tryd.ntmps35
 go_wp2_with fail
 refine bodyPost_ret (v:=(zB t).v) (by simp [results,Tryd.results35,go_sem,Wt.v,zB]) rfl ?_
 exact⟨rfl,hB.out _⟩
theorem zO (x:Wt)(w:World):Calls Tryd.prog 45 #[.agg #[.int .i64 x.kind,.bool x.truth,.int .i64 x.num,.string x.text]] w fun e w'=>e= .returned (.bool (x.kind==0))∧Below w.heap.size w w':=by
 have hB:=z6 fun o:Obj=>(z6O w.heap.size w).alloc (z6E _) o
 go_enter Tryd.func45,Tryd.ntmps45
 go_wp2_with fail
 go_ret
 exact⟨rfl,hB.out _⟩
def zF (t:z6P)(l r:Int):Wt:=
 if t.toList==[43] then jo (wrap64 (l+r)) else if t.toList==[45] then jo (wrap64 (l - r)) else if t.toList==[42] then jo (wrap64 (l*r))
 else if r==0 then z0g else if t.toList==[47] then jo (wrap64 (l.tdiv r)) else jo (l.tmod r)
theorem zW (t:z6P)(l r:Int)(w:World):Calls Tryd.prog 46 #[.string t,.int .i64 l,.int .i64 r] w fun e w'=>z0w (zF t l r) w e w':=by
 have HB0:Hid (Below w.heap.size w (w.alloc (.cells #[.int .i64 0,.bool false,.int .i64 0,.string ⟨#[]⟩] 49))):=z6 ((z6O w.heap.size w).alloc (z6E _) (.cells #[.int .i64 0,.bool false,.int .i64 0,.string ⟨#[]⟩] 49))
 have HX:Hid ((w.alloc (.cells #[.int .i64 0,.bool false,.int .i64 0,.string ⟨#[]⟩] 49)).heap[w.heap.size]?=some (.cells #[.int .i64 0,.bool false,.int .i64 0,.string ⟨#[]⟩] 49)):=z6 (heap_alloc_new w _)
 have HZ:Hid (w.heap.size<(w.alloc (.cells #[.int .i64 0,.bool false,.int .i64 0,.string ⟨#[]⟩] 49)).heap.size):=z6 (by simp)
 have HZ1:Hid (w.heap.size≤(w.alloc (.cells #[.int .i64 0,.bool false,.int .i64 0,.string ⟨#[]⟩] 49)).heap.size):=z6 (by simp<;>omega)
 have HG:Hid (w.heap.size≤w.heap.size):=z6 (by omega)
 cases h1:(t.toList==[43])
 case true=>
  have hres:Hid (zF t l r=jo (wrap64 (l+r))):=z6 (by unfold zF;rw [h1];rfl)
  have HC:=z6 (zz (wrap64 (l+r)) (w.alloc (.cells #[.int .i64 0,.bool false,.int .i64 0,.string ⟨#[]⟩] 49)))
  generalize hX:jo (wrap64 (l+r))=X at*
  have HXX:=z6 hX
  clear hX
  go_enter Tryd.func46,Tryd.ntmps46
  go_wp2_with fail
  refine HC.out.mono ?_
  rintro e w1 ⟨rfl,hB1⟩
  have hbx:=(hB1.block _ HZ.out).trans HX.out
  obtain⟨y0,y1,y2,y3,g0,g1,g2,g3⟩:=zG hbx
  obtain⟨z0,z1,z2,z3⟩:=zn hbx (.int .i64 X.kind) (.bool X.truth) (.int .i64 X.num) (.string X.text)
  have HB2:=z6 (zv (HB0.out.trans (hB1.mono HZ1.out)) HG.out (.int .i64 X.kind) (.bool X.truth) (.int .i64 X.num) (.string X.text))
  clear hbx hB1
  go_wp2_with fail
  refine bodyPost_ret (v:= .agg #[.int .i64 X.kind,.bool X.truth,.int .i64 X.num,.string X.text]) (by simp [results,Tryd.results46,go_sem,z0,z1,z2,z3]) rfl ?_
  exact⟨by rw [hres.out],HB2.out⟩
 cases h2:(t.toList==[45])
 case true=>
  have hres:Hid (zF t l r=jo (wrap64 (l - r))):=z6 (by unfold zF;rw [h1,h2];rfl)
  have HC:=z6 (zz (wrap64 (l - r)) (w.alloc (.cells #[.int .i64 0,.bool false,.int .i64 0,.string ⟨#[]⟩] 49)))
  generalize hX:jo (wrap64 (l - r))=X at*
  have HXX:=z6 hX
  clear hX
  go_enter Tryd.func46,Tryd.ntmps46
  go_wp2_with fail
  refine HC.out.mono ?_
  rintro e w1 ⟨rfl,hB1⟩
  have hbx:=(hB1.block _ HZ.out).trans HX.out
  obtain⟨y0,y1,y2,y3,g0,g1,g2,g3⟩:=zG hbx
  obtain⟨z0,z1,z2,z3⟩:=zn hbx (.int .i64 X.kind) (.bool X.truth) (.int .i64 X.num) (.string X.text)
  have HB2:=z6 (zv (HB0.out.trans (hB1.mono HZ1.out)) HG.out (.int .i64 X.kind) (.bool X.truth) (.int .i64 X.num) (.string X.text))
  clear hbx hB1
  go_wp2_with fail
  refine bodyPost_ret (v:= .agg #[.int .i64 X.kind,.bool X.truth,.int .i64 X.num,.string X.text]) (by simp [results,Tryd.results46,go_sem,z0,z1,z2,z3]) rfl ?_
  exact⟨by rw [hres.out],HB2.out⟩
 cases h3:(t.toList==[42])
 case true=>
  have hres:Hid (zF t l r=jo (wrap64 (l*r))):=z6 (by unfold zF;rw [h1,h2,h3];rfl)
  have HC:=z6 (zz (wrap64 (l*r)) (w.alloc (.cells #[.int .i64 0,.bool false,.int .i64 0,.string ⟨#[]⟩] 49)))
  generalize hX:jo (wrap64 (l*r))=X at*
  have HXX:=z6 hX
  clear hX
  go_enter Tryd.func46,Tryd.ntmps46
  go_wp2_with fail
  refine HC.out.mono ?_
  rintro e w1 ⟨rfl,hB1⟩
  have hbx:=(hB1.block _ HZ.out).trans HX.out
  obtain⟨y0,y1,y2,y3,g0,g1,g2,g3⟩:=zG hbx
  obtain⟨z0,z1,z2,z3⟩:=zn hbx (.int .i64 X.kind) (.bool X.truth) (.int .i64 X.num) (.string X.text)
  have HB2:=z6 (zv (HB0.out.trans (hB1.mono HZ1.out)) HG.out (.int .i64 X.kind) (.bool X.truth) (.int .i64 X.num) (.string X.text))
  clear hbx hB1
  go_wp2_with fail
  refine bodyPost_ret (v:= .agg #[.int .i64 X.kind,.bool X.truth,.int .i64 X.num,.string X.text]) (by simp [results,Tryd.results46,go_sem,z0,z1,z2,z3]) rfl ?_
  exact⟨by rw [hres.out],HB2.out⟩
 cases h4:(r==0)
 case true=>
  have hres:Hid (zF t l r=z0g):=z6 (by unfold zF;rw [h1,h2,h3,h4];rfl)
  go_enter Tryd.func46,Tryd.ntmps46
  go_wp2_with fail
  refine bodyPost_ret (v:= .agg #[.int .i64 z0g.kind,.bool z0g.truth,.int .i64 z0g.num,.string z0g.text]) (by simp [results,Tryd.results46,go_sem,z0g]) rfl ?_
  exact⟨by rw [hres.out],HB0.out⟩
 have h4': ¬r=0:=by simpa using h4
 cases h5:(t.toList==[47])
 case true=>
  have hres:Hid (zF t l r=jo (wrap64 (l.tdiv r))):=z6 (by unfold zF;rw [h1,h2,h3,h4,h5];rfl)
  have HC:=z6 (zz (wrap64 (l.tdiv r)) (w.alloc (.cells #[.int .i64 0,.bool false,.int .i64 0,.string ⟨#[]⟩] 49)))
  generalize hX:jo (wrap64 (l.tdiv r))=X at*
  have HXX:=z6 hX
  clear hX
  go_enter Tryd.func46,Tryd.ntmps46
  go_wp2_with fail
  refine HC.out.mono ?_
  rintro e w1 ⟨rfl,hB1⟩
  have hbx:=(hB1.block _ HZ.out).trans HX.out
  obtain⟨y0,y1,y2,y3,g0,g1,g2,g3⟩:=zG hbx
  obtain⟨z0,z1,z2,z3⟩:=zn hbx (.int .i64 X.kind) (.bool X.truth) (.int .i64 X.num) (.string X.text)
  have HB2:=z6 (zv (HB0.out.trans (hB1.mono HZ1.out)) HG.out (.int .i64 X.kind) (.bool X.truth) (.int .i64 X.num) (.string X.text))
  clear hbx hB1
  go_wp2_with fail
  refine bodyPost_ret (v:= .agg #[.int .i64 X.kind,.bool X.truth,.int .i64 X.num,.string X.text]) (by simp [results,Tryd.results46,go_sem,z0,z1,z2,z3]) rfl ?_
  exact⟨by rw [hres.out],HB2.out⟩
 have hres:Hid (zF t l r=jo (l.tmod r)):=z6 (by unfold zF;rw [h1,h2,h3,h4,h5];rfl)
 have HC:=z6 (zz (l.tmod r) (w.alloc (.cells #[.int .i64 0,.bool false,.int .i64 0,.string ⟨#[]⟩] 49)))
 generalize hX:jo (l.tmod r)=X at*
 have HXX:=z6 hX
 clear hX
 go_enter Tryd.func46,Tryd.ntmps46
 go_wp2_with fail
 refine HC.out.mono ?_
 rintro e w1 ⟨rfl,hB1⟩
 have hbx:=(hB1.block _ HZ.out).trans HX.out
 obtain⟨y0,y1,y2,y3,g0,g1,g2,g3⟩:=zG hbx
 obtain⟨z0,z1,z2,z3⟩:=zn hbx (.int .i64 X.kind) (.bool X.truth) (.int .i64 X.num) (.string X.text)
 have HB2:=z6 (zv (HB0.out.trans (hB1.mono HZ1.out)) HG.out (.int .i64 X.kind) (.bool X.truth) (.int .i64 X.num) (.string X.text))
 clear hbx hB1
 go_wp2_with fail
 refine bodyPost_ret (v:= .agg #[.int .i64 X.kind,.bool X.truth,.int .i64 X.num,.string X.text]) (by simp [results,Tryd.results46,go_sem,z0,z1,z2,z3]) rfl ?_
 exact⟨by rw [hres.out],HB2.out⟩
def jh (t:z6P)(x:Wt):Wt:=if x.kind==0 then x else if t.toList==[33] then zB (!x.truth) else jo (wrap64 (-x.num))
theorem z1c (t:z6P)(x:Wt)(w:World):Calls Tryd.prog 37 #[.string t,.agg #[.int .i64 x.kind,.bool x.truth,.int .i64 x.num,.string x.text]] w fun e w'=>z0w (jh t x) w e w':=by
 have HB0:Hid (Below w.heap.size w ((w.alloc (.cells #[.int .i64 x.kind,.bool x.truth,.int .i64 x.num,.string x.text] 49)).alloc (.cells #[.int .i64 0,.bool false,.int .i64 0,.string ⟨#[]⟩] 49))):=z6 (((z6O w.heap.size w).alloc (z6E _) (.cells #[.int .i64 x.kind,.bool x.truth,.int .i64 x.num,.string x.text] 49)).alloc (by simp<;>omega) (.cells #[.int .i64 0,.bool false,.int .i64 0,.string ⟨#[]⟩] 49))
 have HX:Hid (((w.alloc (.cells #[.int .i64 x.kind,.bool x.truth,.int .i64 x.num,.string x.text] 49)).alloc (.cells #[.int .i64 0,.bool false,.int .i64 0,.string ⟨#[]⟩] 49)).heap[w.heap.size+1]?=some (.cells #[.int .i64 0,.bool false,.int .i64 0,.string ⟨#[]⟩] 49)):=z6 (by have q:=heap_alloc_new (w.alloc (.cells #[.int .i64 x.kind,.bool x.truth,.int .i64 x.num,.string x.text] 49)) (.cells #[.int .i64 0,.bool false,.int .i64 0,.string ⟨#[]⟩] 49);rw [show(w.alloc (.cells #[.int .i64 x.kind,.bool x.truth,.int .i64 x.num,.string x.text] 49)).heap.size=w.heap.size+1 by simp] at q;exact q)
 have HZ:Hid (w.heap.size+1<((w.alloc (.cells #[.int .i64 x.kind,.bool x.truth,.int .i64 x.num,.string x.text] 49)).alloc (.cells #[.int .i64 0,.bool false,.int .i64 0,.string ⟨#[]⟩] 49)).heap.size):=z6 (by simp)
 have HZ1:Hid (w.heap.size≤((w.alloc (.cells #[.int .i64 x.kind,.bool x.truth,.int .i64 x.num,.string x.text] 49)).alloc (.cells #[.int .i64 0,.bool false,.int .i64 0,.string ⟨#[]⟩] 49)).heap.size):=z6 (by simp<;>omega)
 have HG:Hid (w.heap.size≤w.heap.size+1):=z6 (by omega)
 have HX0:Hid (((w.alloc (.cells #[.int .i64 x.kind,.bool x.truth,.int .i64 x.num,.string x.text] 49)).alloc (.cells #[.int .i64 0,.bool false,.int .i64 0,.string ⟨#[]⟩] 49)).heap[w.heap.size]?=some (.cells #[.int .i64 x.kind,.bool x.truth,.int .i64 x.num,.string x.text] 49)):=z6 ((z6G _ _ _ (by simp)).trans (heap_alloc_new w _))
 have HF:=z6 (zO x ((w.alloc (.cells #[.int .i64 x.kind,.bool x.truth,.int .i64 x.num,.string x.text] 49)).alloc (.cells #[.int .i64 0,.bool false,.int .i64 0,.string ⟨#[]⟩] 49)))
 cases h1:(x.kind==0)
 case true=>
  have hres:Hid (jh t x=x):=z6 (by unfold jh;rw [h1];rfl)
  rw [h1] at HF
  clear h1
  generalize hX:x=X at*
  clear hX
  go_enter Tryd.func37,Tryd.ntmps37
  go_wp2_with fail
  refine HF.out.mono ?_
  rintro e w1 ⟨rfl,hB1⟩
  obtain⟨c0,c1,c2,c3,d0,d1,d2,d3⟩:=zG ((hB1.block _ (by simp<;>omega)).trans HX0.out)
  have hbx:=(hB1.block _ HZ.out).trans HX.out
  obtain⟨y0,y1,y2,y3,g0,g1,g2,g3⟩:=zG hbx
  obtain⟨z0,z1,z2,z3⟩:=zn hbx (.int .i64 X.kind) (.bool X.truth) (.int .i64 X.num) (.string X.text)
  have HB2:=z6 (zv (HB0.out.trans (hB1.mono HZ1.out)) HG.out (.int .i64 X.kind) (.bool X.truth) (.int .i64 X.num) (.string X.text))
  clear hbx hB1
  go_wp2_with fail
  refine bodyPost_ret (v:= .agg #[.int .i64 X.kind,.bool X.truth,.int .i64 X.num,.string X.text]) (by simp [results,Tryd.results37,go_sem,z0,z1,z2,z3]) rfl ?_
  exact⟨by rw [hres.out],HB2.out⟩
 rw [h1] at HF
 cases h2:(t.toList==[33])
 case true=>
  have hres:Hid (jh t x=zB (!x.truth)):=z6 (by unfold jh;rw [h1,h2];rfl)
  go_enter Tryd.func37,Tryd.ntmps37
  go_wp2_with fail
  refine HF.out.mono ?_
  rintro e w0 ⟨rfl,hB0⟩
  obtain⟨c0,c1,c2,c3,d0,d1,d2,d3⟩:=zG ((hB0.block _ (by simp<;>omega)).trans HX0.out)
  have HX:=z6 ((hB0.block _ HZ.out).trans HX.out)
  have HZ:=z6 (z6K HZ.out hB0.size)
  have HB0:=z6 (HB0.out.trans (hB0.mono HZ1.out))
  have HZ1:=z6 HB0.out.size
  clear hB0
  have HC:=z6 (jL (!x.truth) w0)
  generalize hX:zB (!x.truth)=X at*
  have HXX:=z6 hX
  clear hX
  go_wp2_with fail
  refine HC.out.mono ?_
  rintro e w1 ⟨rfl,hB1⟩
  have hbx:=(hB1.block _ HZ.out).trans HX.out
  obtain⟨y0,y1,y2,y3,g0,g1,g2,g3⟩:=zG hbx
  obtain⟨z0,z1,z2,z3⟩:=zn hbx (.int .i64 X.kind) (.bool X.truth) (.int .i64 X.num) (.string X.text)
  have HB2:=z6 (zv (HB0.out.trans (hB1.mono HZ1.out)) HG.out (.int .i64 X.kind) (.bool X.truth) (.int .i64 X.num) (.string X.text))
  clear hbx hB1
  go_wp2_with fail
  refine bodyPost_ret (v:= .agg #[.int .i64 X.kind,.bool X.truth,.int .i64 X.num,.string X.text]) (by simp [results,Tryd.results37,go_sem,z0,z1,z2,z3]) rfl ?_
  exact⟨by rw [hres.out],HB2.out⟩
 have hres:Hid (jh t x=jo (wrap64 (-x.num))):=z6 (by unfold jh;rw [h1,h2];rfl)
 go_enter Tryd.func37,Tryd.ntmps37
 go_wp2_with fail
 refine HF.out.mono ?_
 rintro e w0 ⟨rfl,hB0⟩
 obtain⟨c0,c1,c2,c3,d0,d1,d2,d3⟩:=zG ((hB0.block _ (by simp<;>omega)).trans HX0.out)
 have HX:=z6 ((hB0.block _ HZ.out).trans HX.out)
 have HZ:=z6 (z6K HZ.out hB0.size)
 have HB0:=z6 (HB0.out.trans (hB0.mono HZ1.out))
 have HZ1:=z6 HB0.out.size
 clear hB0
 have HC:=z6 (zz (wrap64 (-x.num)) w0)
 generalize hX:jo (wrap64 (-x.num))=X at*
 have HXX:=z6 hX
 clear hX
 go_wp2_with fail
 refine HC.out.mono ?_
 rintro e w1 ⟨rfl,hB1⟩
 have hbx:=(hB1.block _ HZ.out).trans HX.out
 obtain⟨y0,y1,y2,y3,g0,g1,g2,g3⟩:=zG hbx
 obtain⟨z0,z1,z2,z3⟩:=zn hbx (.int .i64 X.kind) (.bool X.truth) (.int .i64 X.num) (.string X.text)
 have HB2:=z6 (zv (HB0.out.trans (hB1.mono HZ1.out)) HG.out (.int .i64 X.kind) (.bool X.truth) (.int .i64 X.num) (.string X.text))
 clear hbx hB1
 go_wp2_with fail
 refine bodyPost_ret (v:= .agg #[.int .i64 X.kind,.bool X.truth,.int .i64 X.num,.string X.text]) (by simp [results,Tryd.results37,go_sem,z0,z1,z2,z3]) rfl ?_
 exact⟨by rw [hres.out],HB2.out⟩
def z0V (x y:Wt):Bool:=(x.num==y.num)&&(x.text.toList==y.text.toList)
def z1n (x y:Wt):Bool:=decide (x.num<y.num)||Op.bytesLess x.text.toList y.text.toList
def z0a (t:z6P)(x y:Wt):Bool:=
 if t.toList==[61,61] then z0V x y else if t.toList==[33,61] then !z0V x y else if t.toList==[60] then z1n x y
 else if t.toList==[60,61] then z1n x y||z0V x y else if t.toList==[62] then !z1n x y&& !z0V x y else !z1n x y
theorem jX {b c:Bool}{w:World}{e:Ending}{w':World}(h:z0w (zB b) w e w')(hbc:b=c):z0w (zB c) w e w':=hbc▸h
theorem z2j (t:z6P)(x y:Wt)(w:World):Calls Tryd.prog 47 #[.string t,.agg #[.int .i64 x.kind,.bool x.truth,.int .i64 x.num,.string x.text],.agg #[.int .i64 y.kind,.bool y.truth,.int .i64 y.num,.string y.text]] w fun e w'=>z0w (zB (z0a t x y)) w e w':=by
 have HB0:Hid (Below w.heap.size w (((w.alloc (.cells #[.int .i64 x.kind,.bool x.truth,.int .i64 x.num,.string x.text] 49)).alloc (.cells #[.int .i64 y.kind,.bool y.truth,.int .i64 y.num,.string y.text] 49)).alloc (.cells #[.int .i64 0,.bool false,.int .i64 0,.string ⟨#[]⟩] 49))):=z6 ((((z6O w.heap.size w).alloc (z6E _) (.cells #[.int .i64 x.kind,.bool x.truth,.int .i64 x.num,.string x.text] 49)).alloc (by simp<;>omega) (.cells #[.int .i64 y.kind,.bool y.truth,.int .i64 y.num,.string y.text] 49)).alloc (by simp<;>omega) (.cells #[.int .i64 0,.bool false,.int .i64 0,.string ⟨#[]⟩] 49))
 have HX:Hid ((((w.alloc (.cells #[.int .i64 x.kind,.bool x.truth,.int .i64 x.num,.string x.text] 49)).alloc (.cells #[.int .i64 y.kind,.bool y.truth,.int .i64 y.num,.string y.text] 49)).alloc (.cells #[.int .i64 0,.bool false,.int .i64 0,.string ⟨#[]⟩] 49)).heap[w.heap.size+1+1]?=some (.cells #[.int .i64 0,.bool false,.int .i64 0,.string ⟨#[]⟩] 49)):=z6 (by have q:=heap_alloc_new ((w.alloc (.cells #[.int .i64 x.kind,.bool x.truth,.int .i64 x.num,.string x.text] 49)).alloc (.cells #[.int .i64 y.kind,.bool y.truth,.int .i64 y.num,.string y.text] 49)) (.cells #[.int .i64 0,.bool false,.int .i64 0,.string ⟨#[]⟩] 49);rw [show((w.alloc (.cells #[.int .i64 x.kind,.bool x.truth,.int .i64 x.num,.string x.text] 49)).alloc (.cells #[.int .i64 y.kind,.bool y.truth,.int .i64 y.num,.string y.text] 49)).heap.size=w.heap.size+1+1 by simp] at q;exact q)
 have HZ:Hid (w.heap.size+1+1<(((w.alloc (.cells #[.int .i64 x.kind,.bool x.truth,.int .i64 x.num,.string x.text] 49)).alloc (.cells #[.int .i64 y.kind,.bool y.truth,.int .i64 y.num,.string y.text] 49)).alloc (.cells #[.int .i64 0,.bool false,.int .i64 0,.string ⟨#[]⟩] 49)).heap.size):=z6 (by simp)
 have HZ1:Hid (w.heap.size≤(((w.alloc (.cells #[.int .i64 x.kind,.bool x.truth,.int .i64 x.num,.string x.text] 49)).alloc (.cells #[.int .i64 y.kind,.bool y.truth,.int .i64 y.num,.string y.text] 49)).alloc (.cells #[.int .i64 0,.bool false,.int .i64 0,.string ⟨#[]⟩] 49)).heap.size):=z6 (by simp<;>omega)
 have HG:Hid (w.heap.size≤w.heap.size+1+1):=z6 (by omega)
 have HC:=z6 (fun b=>jL b (((w.alloc (.cells #[.int .i64 x.kind,.bool x.truth,.int .i64 x.num,.string x.text] 49)).alloc (.cells #[.int .i64 y.kind,.bool y.truth,.int .i64 y.num,.string y.text] 49)).alloc (.cells #[.int .i64 0,.bool false,.int .i64 0,.string ⟨#[]⟩] 49)))
 have hcase:(x.num<y.num∧(x.num==y.num)=false)∨(¬x.num<y.num∧(x.num==y.num)=true)∨(¬x.num<y.num∧(x.num==y.num)=false):=by simp only [beq_eq_false_iff_ne,beq_iff_eq,ne_eq];omega
 have hX: ∃X,X=zB (z0a t x y):=⟨_,rfl⟩
 obtain⟨X,hX⟩:=hX
 have HXX:=z6 hX
 clear hX
 cases g1:(t.toList==[61,61])
 case true=>
  cases hl:Op.bytesLess x.text.toList y.text.toList
  all_goals rcases hcase with⟨h1,h2⟩|⟨h1,h2⟩|⟨h1,h2⟩
  all_goals
   go_enter Tryd.func47,Tryd.ntmps47
   go_wp2_with fail
   refine(HC.out _).mono ?_
   intro e w1 hq
   have hq':=jX (c:=z0a t x y) hq (by(simp [z0a,z0V,z1n,g1,h1,h2,hl]);try(intro hh;omega))
   rw [←HXX.out] at hq'
   clear hq
   obtain⟨rfl,hB1⟩:=hq'
   have hbx:=(hB1.block _ HZ.out).trans HX.out
   obtain⟨y0,y1,y2,y3,g0,g1,g2,g3⟩:=zG hbx
   obtain⟨z0,z1,z2,z3⟩:=zn hbx (.int .i64 X.kind) (.bool X.truth) (.int .i64 X.num) (.string X.text)
   have HB2:=z6 (zv (HB0.out.trans (hB1.mono HZ1.out)) HG.out (.int .i64 X.kind) (.bool X.truth) (.int .i64 X.num) (.string X.text))
   clear hbx hB1
   go_wp2_with fail
   refine bodyPost_ret (v:= .agg #[.int .i64 X.kind,.bool X.truth,.int .i64 X.num,.string X.text]) (by simp [results,Tryd.results47,go_sem,z0,z1,z2,z3]) rfl ?_
   exact⟨by rw [←HXX.out],HB2.out⟩
 cases g2:(t.toList==[33,61])
 case true=>
  cases hl:Op.bytesLess x.text.toList y.text.toList
  all_goals rcases hcase with⟨h1,h2⟩|⟨h1,h2⟩|⟨h1,h2⟩
  all_goals
   go_enter Tryd.func47,Tryd.ntmps47
   go_wp2_with fail
   refine(HC.out _).mono ?_
   intro e w1 hq
   have hq':=jX (c:=z0a t x y) hq (by(simp [z0a,z0V,z1n,g1,g2,h1,h2,hl]);try(intro hh;omega))
   rw [←HXX.out] at hq'
   clear hq
   obtain⟨rfl,hB1⟩:=hq'
   have hbx:=(hB1.block _ HZ.out).trans HX.out
   obtain⟨y0,y1,y2,y3,g0,g1,g2,g3⟩:=zG hbx
   obtain⟨z0,z1,z2,z3⟩:=zn hbx (.int .i64 X.kind) (.bool X.truth) (.int .i64 X.num) (.string X.text)
   have HB2:=z6 (zv (HB0.out.trans (hB1.mono HZ1.out)) HG.out (.int .i64 X.kind) (.bool X.truth) (.int .i64 X.num) (.string X.text))
   clear hbx hB1
   go_wp2_with fail
   refine bodyPost_ret (v:= .agg #[.int .i64 X.kind,.bool X.truth,.int .i64 X.num,.string X.text]) (by simp [results,Tryd.results47,go_sem,z0,z1,z2,z3]) rfl ?_
   exact⟨by rw [←HXX.out],HB2.out⟩
 cases g3:(t.toList==[60])
 case true=>
  cases hl:Op.bytesLess x.text.toList y.text.toList
  all_goals rcases hcase with⟨h1,h2⟩|⟨h1,h2⟩|⟨h1,h2⟩
  all_goals
   go_enter Tryd.func47,Tryd.ntmps47
   go_wp2_with fail
   refine(HC.out _).mono ?_
   intro e w1 hq
   have hq':=jX (c:=z0a t x y) hq (by(simp [z0a,z0V,z1n,g1,g2,g3,h1,h2,hl]);try(intro hh;omega))
   rw [←HXX.out] at hq'
   clear hq
   obtain⟨rfl,hB1⟩:=hq'
   have hbx:=(hB1.block _ HZ.out).trans HX.out
   obtain⟨y0,y1,y2,y3,g0,g1,g2,g3⟩:=zG hbx
   obtain⟨z0,z1,z2,z3⟩:=zn hbx (.int .i64 X.kind) (.bool X.truth) (.int .i64 X.num) (.string X.text)
   have HB2:=z6 (zv (HB0.out.trans (hB1.mono HZ1.out)) HG.out (.int .i64 X.kind) (.bool X.truth) (.int .i64 X.num) (.string X.text))
   clear hbx hB1
   go_wp2_with fail
   refine bodyPost_ret (v:= .agg #[.int .i64 X.kind,.bool X.truth,.int .i64 X.num,.string X.text]) (by simp [results,Tryd.results47,go_sem,z0,z1,z2,z3]) rfl ?_
   exact⟨by rw [←HXX.out],HB2.out⟩
 cases g4:(t.toList==[60,61])
 case true=>
  cases hl:Op.bytesLess x.text.toList y.text.toList
  all_goals rcases hcase with⟨h1,h2⟩|⟨h1,h2⟩|⟨h1,h2⟩
  all_goals
   go_enter Tryd.func47,Tryd.ntmps47
   go_wp2_with fail
   refine(HC.out _).mono ?_
   intro e w1 hq
   have hq':=jX (c:=z0a t x y) hq (by(simp [z0a,z0V,z1n,g1,g2,g3,g4,h1,h2,hl]);try(intro hh;omega))
   rw [←HXX.out] at hq'
   clear hq
   obtain⟨rfl,hB1⟩:=hq'
   have hbx:=(hB1.block _ HZ.out).trans HX.out
   obtain⟨y0,y1,y2,y3,g0,g1,g2,g3⟩:=zG hbx
   obtain⟨z0,z1,z2,z3⟩:=zn hbx (.int .i64 X.kind) (.bool X.truth) (.int .i64 X.num) (.string X.text)
   have HB2:=z6 (zv (HB0.out.trans (hB1.mono HZ1.out)) HG.out (.int .i64 X.kind) (.bool X.truth) (.int .i64 X.num) (.string X.text))
   clear hbx hB1
   go_wp2_with fail
   refine bodyPost_ret (v:= .agg #[.int .i64 X.kind,.bool X.truth,.int .i64 X.num,.string X.text]) (by simp [results,Tryd.results47,go_sem,z0,z1,z2,z3]) rfl ?_
   exact⟨by rw [←HXX.out],HB2.out⟩
 cases g5:(t.toList==[62])
 case true=>
  cases hl:Op.bytesLess x.text.toList y.text.toList
  all_goals rcases hcase with⟨h1,h2⟩|⟨h1,h2⟩|⟨h1,h2⟩
  all_goals
   go_enter Tryd.func47,Tryd.ntmps47
   go_wp2_with fail
   refine(HC.out _).mono ?_
   intro e w1 hq
   have hq':=jX (c:=z0a t x y) hq (by(simp [z0a,z0V,z1n,g1,g2,g3,g4,g5,h1,h2,hl]);try(intro hh;omega))
   rw [←HXX.out] at hq'
   clear hq
   obtain⟨rfl,hB1⟩:=hq'
   have hbx:=(hB1.block _ HZ.out).trans HX.out
   obtain⟨y0,y1,y2,y3,g0,g1,g2,g3⟩:=zG hbx
   obtain⟨z0,z1,z2,z3⟩:=zn hbx (.int .i64 X.kind) (.bool X.truth) (.int .i64 X.num) (.string X.text)
   have HB2:=z6 (zv (HB0.out.trans (hB1.mono HZ1.out)) HG.out (.int .i64 X.kind) (.bool X.truth) (.int .i64 X.num) (.string X.text))
   clear hbx hB1
   go_wp2_with fail
   refine bodyPost_ret (v:= .agg #[.int .i64 X.kind,.bool X.truth,.int .i64 X.num,.string X.text]) (by simp [results,Tryd.results47,go_sem,z0,z1,z2,z3]) rfl ?_
   exact⟨by rw [←HXX.out],HB2.out⟩
 cases hl:Op.bytesLess x.text.toList y.text.toList
 all_goals rcases hcase with⟨h1,h2⟩|⟨h1,h2⟩|⟨h1,h2⟩
 all_goals
  go_enter Tryd.func47,Tryd.ntmps47
  go_wp2_with fail
  refine(HC.out _).mono ?_
  intro e w1 hq
  have hq':=jX (c:=z0a t x y) hq (by(simp [z0a,z0V,z1n,g1,g2,g3,g4,g5,h1,h2,hl]);try(intro hh;omega))
  rw [←HXX.out] at hq'
  clear hq
  obtain⟨rfl,hB1⟩:=hq'
  have hbx:=(hB1.block _ HZ.out).trans HX.out
  obtain⟨y0,y1,y2,y3,g0,g1,g2,g3⟩:=zG hbx
  obtain⟨z0,z1,z2,z3⟩:=zn hbx (.int .i64 X.kind) (.bool X.truth) (.int .i64 X.num) (.string X.text)
  have HB2:=z6 (zv (HB0.out.trans (hB1.mono HZ1.out)) HG.out (.int .i64 X.kind) (.bool X.truth) (.int .i64 X.num) (.string X.text))
  clear hbx hB1
  go_wp2_with fail
  refine bodyPost_ret (v:= .agg #[.int .i64 X.kind,.bool X.truth,.int .i64 X.num,.string X.text]) (by simp [results,Tryd.results47,go_sem,z0,z1,z2,z3]) rfl ?_
  exact⟨by rw [←HXX.out],HB2.out⟩
def zL (t:z6P):Bool:=t.toList==[43]||t.toList==[45]||t.toList==[42]||t.toList==[47]||t.toList==[37]
def zt (t:z6P)(x y:Wt):Wt:=
 if x.kind==0 then x else if t.toList==[38,38] then(if !x.truth then x else y) else if t.toList==[124,124] then(if x.truth then x else y)
 else if y.kind==0 then y else if zL t then zF t x.num y.num else if t.toList==[46] then z1A (x.text++y.text) else zB (z0a t x y)
theorem z2L (t:z6P)(xk:Int)(xb:Bool)(xn:Int)(xt:z6P)(yk:Int)(yb:Bool)(yn:Int)(yt:z6P)(w:World)(hx:xt.size≤400000000)(hy:yt.size≤400000000):Calls Tryd.prog 38 #[.string t,.agg #[.int .i64 xk,.bool xb,.int .i64 xn,.string xt],.agg #[.int .i64 yk,.bool yb,.int .i64 yn,.string yt]] w fun e w'=>z0w (zt t ⟨xk,xb,xn,xt⟩ ⟨yk,yb,yn,yt⟩) w e w':=by
 have HB0:Hid (Below w.heap.size w (((w.alloc (.cells #[.int .i64 xk,.bool xb,.int .i64 xn,.string xt] 49)).alloc (.cells #[.int .i64 yk,.bool yb,.int .i64 yn,.string yt] 49)).alloc (.cells #[.int .i64 0,.bool false,.int .i64 0,.string ⟨#[]⟩] 49))):=z6 ((((z6O w.heap.size w).alloc (z6E _) (.cells #[.int .i64 xk,.bool xb,.int .i64 xn,.string xt] 49)).alloc (by simp<;>omega) (.cells #[.int .i64 yk,.bool yb,.int .i64 yn,.string yt] 49)).alloc (by simp<;>omega) (.cells #[.int .i64 0,.bool false,.int .i64 0,.string ⟨#[]⟩] 49))
 have HX:Hid ((((w.alloc (.cells #[.int .i64 xk,.bool xb,.int .i64 xn,.string xt] 49)).alloc (.cells #[.int .i64 yk,.bool yb,.int .i64 yn,.string yt] 49)).alloc (.cells #[.int .i64 0,.bool false,.int .i64 0,.string ⟨#[]⟩] 49)).heap[w.heap.size+1+1]?=some (.cells #[.int .i64 0,.bool false,.int .i64 0,.string ⟨#[]⟩] 49)):=z6 (by have q:=heap_alloc_new ((w.alloc (.cells #[.int .i64 xk,.bool xb,.int .i64 xn,.string xt] 49)).alloc (.cells #[.int .i64 yk,.bool yb,.int .i64 yn,.string yt] 49)) (.cells #[.int .i64 0,.bool false,.int .i64 0,.string ⟨#[]⟩] 49);rw [show((w.alloc (.cells #[.int .i64 xk,.bool xb,.int .i64 xn,.string xt] 49)).alloc (.cells #[.int .i64 yk,.bool yb,.int .i64 yn,.string yt] 49)).heap.size=w.heap.size+1+1 by simp] at q;exact q)
 have HZ:Hid (w.heap.size+1+1<(((w.alloc (.cells #[.int .i64 xk,.bool xb,.int .i64 xn,.string xt] 49)).alloc (.cells #[.int .i64 yk,.bool yb,.int .i64 yn,.string yt] 49)).alloc (.cells #[.int .i64 0,.bool false,.int .i64 0,.string ⟨#[]⟩] 49)).heap.size):=z6 (by simp)
 have HZ1:Hid (w.heap.size≤(((w.alloc (.cells #[.int .i64 xk,.bool xb,.int .i64 xn,.string xt] 49)).alloc (.cells #[.int .i64 yk,.bool yb,.int .i64 yn,.string yt] 49)).alloc (.cells #[.int .i64 0,.bool false,.int .i64 0,.string ⟨#[]⟩] 49)).heap.size):=z6 (by simp<;>omega)
 have HG:Hid (w.heap.size≤w.heap.size+1+1):=z6 (by omega)
 have HX0:Hid ((((w.alloc (.cells #[.int .i64 xk,.bool xb,.int .i64 xn,.string xt] 49)).alloc (.cells #[.int .i64 yk,.bool yb,.int .i64 yn,.string yt] 49)).alloc (.cells #[.int .i64 0,.bool false,.int .i64 0,.string ⟨#[]⟩] 49)).heap[w.heap.size]?=some (.cells #[.int .i64 xk,.bool xb,.int .i64 xn,.string xt] 49)):=z6 ((z6G _ _ _ (by simp<;>omega)).trans ((z6G _ _ _ (by simp<;>omega)).trans (heap_alloc_new w _)))
 have HY0:Hid ((((w.alloc (.cells #[.int .i64 xk,.bool xb,.int .i64 xn,.string xt] 49)).alloc (.cells #[.int .i64 yk,.bool yb,.int .i64 yn,.string yt] 49)).alloc (.cells #[.int .i64 0,.bool false,.int .i64 0,.string ⟨#[]⟩] 49)).heap[w.heap.size+1]?=some (.cells #[.int .i64 yk,.bool yb,.int .i64 yn,.string yt] 49)):=z6 ((z6G _ _ _ (by simp<;>omega)).trans (by have q:=heap_alloc_new (w.alloc (.cells #[.int .i64 xk,.bool xb,.int .i64 xn,.string xt] 49)) (.cells #[.int .i64 yk,.bool yb,.int .i64 yn,.string yt] 49);rw [show(w.alloc (.cells #[.int .i64 xk,.bool xb,.int .i64 xn,.string xt] 49)).heap.size=w.heap.size+1 by simp] at q;exact q))
 have HZx:Hid (w.heap.size<(((w.alloc (.cells #[.int .i64 xk,.bool xb,.int .i64 xn,.string xt] 49)).alloc (.cells #[.int .i64 yk,.bool yb,.int .i64 yn,.string yt] 49)).alloc (.cells #[.int .i64 0,.bool false,.int .i64 0,.string ⟨#[]⟩] 49)).heap.size):=z6 (by simp<;>omega)
 have HZy:Hid (w.heap.size+1<(((w.alloc (.cells #[.int .i64 xk,.bool xb,.int .i64 xn,.string xt] 49)).alloc (.cells #[.int .i64 yk,.bool yb,.int .i64 yn,.string yt] 49)).alloc (.cells #[.int .i64 0,.bool false,.int .i64 0,.string ⟨#[]⟩] 49)).heap.size):=z6 (by simp<;>omega)
 have HF:=z6 (zO ⟨xk,xb,xn,xt⟩ (((w.alloc (.cells #[.int .i64 xk,.bool xb,.int .i64 xn,.string xt] 49)).alloc (.cells #[.int .i64 yk,.bool yb,.int .i64 yn,.string yt] 49)).alloc (.cells #[.int .i64 0,.bool false,.int .i64 0,.string ⟨#[]⟩] 49)))
 cases h1:(xk==0)
 case true=>
  rw [h1] at HF
  have hres:Hid (zt t ⟨xk,xb,xn,xt⟩ ⟨yk,yb,yn,yt⟩=⟨xk,xb,xn,xt⟩):=z6 (by unfold zt;rw [h1];rfl)
  go_enter Tryd.func38,Tryd.ntmps38
  go_wp2_with fail
  refine HF.out.mono ?_
  rintro e w0 ⟨rfl,hB0⟩
  obtain⟨c0,c1,c2,c3,d0,d1,d2,d3⟩:=zG ((hB0.block _ HZx.out).trans HX0.out)
  obtain⟨e0,e1,e2,e3,k0,k1,k2,k3⟩:=zG ((hB0.block _ HZy.out).trans HY0.out)
  have hB1:=hB0
  have hbx:=(hB1.block _ HZ.out).trans HX.out
  obtain⟨y0,y1,y2,y3,g0,g1,g2,g3⟩:=zG hbx
  obtain⟨z0,z1,z2,z3⟩:=zn hbx (.int .i64 xk) (.bool xb) (.int .i64 xn) (.string xt)
  have HB2:=z6 (zv (HB0.out.trans (hB1.mono HZ1.out)) HG.out (.int .i64 xk) (.bool xb) (.int .i64 xn) (.string xt))
  clear hbx hB1
  go_wp2_with fail
  refine bodyPost_ret (v:= .agg #[.int .i64 xk,.bool xb,.int .i64 xn,.string xt]) (by simp [results,Tryd.results38,go_sem,z0,z1,z2,z3]) rfl ?_
  exact⟨by rw [hres.out],HB2.out⟩
 rw [h1] at HF
 cases h2:(t.toList==[38,38])
 case true=>
  cases xb
  case false=>
   have hres:Hid (zt t ⟨xk,false,xn,xt⟩ ⟨yk,yb,yn,yt⟩=⟨xk,false,xn,xt⟩):=z6 (by unfold zt;rw [h1];rw [h2];rfl)
   go_enter Tryd.func38,Tryd.ntmps38
   go_wp2_with fail
   refine HF.out.mono ?_
   rintro e w0 ⟨rfl,hB0⟩
   obtain⟨c0,c1,c2,c3,d0,d1,d2,d3⟩:=zG ((hB0.block _ HZx.out).trans HX0.out)
   obtain⟨e0,e1,e2,e3,k0,k1,k2,k3⟩:=zG ((hB0.block _ HZy.out).trans HY0.out)
   have hB1:=hB0
   have hbx:=(hB1.block _ HZ.out).trans HX.out
   obtain⟨y0,y1,y2,y3,g0,g1,g2,g3⟩:=zG hbx
   obtain⟨z0,z1,z2,z3⟩:=zn hbx (.int .i64 xk) (.bool false) (.int .i64 xn) (.string xt)
   have HB2:=z6 (zv (HB0.out.trans (hB1.mono HZ1.out)) HG.out (.int .i64 xk) (.bool false) (.int .i64 xn) (.string xt))
   clear hbx hB1
   go_wp2_with fail
   refine bodyPost_ret (v:= .agg #[.int .i64 xk,.bool false,.int .i64 xn,.string xt]) (by simp [results,Tryd.results38,go_sem,z0,z1,z2,z3]) rfl ?_
   exact⟨by rw [hres.out],HB2.out⟩
  case true=>
   have hres:Hid (zt t ⟨xk,true,xn,xt⟩ ⟨yk,yb,yn,yt⟩=⟨yk,yb,yn,yt⟩):=z6 (by unfold zt;rw [h1];rw [h2];rfl)
   go_enter Tryd.func38,Tryd.ntmps38
   go_wp2_with fail
   refine HF.out.mono ?_
   rintro e w0 ⟨rfl,hB0⟩
   obtain⟨c0,c1,c2,c3,d0,d1,d2,d3⟩:=zG ((hB0.block _ HZx.out).trans HX0.out)
   obtain⟨e0,e1,e2,e3,k0,k1,k2,k3⟩:=zG ((hB0.block _ HZy.out).trans HY0.out)
   have hB1:=hB0
   have hbx:=(hB1.block _ HZ.out).trans HX.out
   obtain⟨y0,y1,y2,y3,g0,g1,g2,g3⟩:=zG hbx
   obtain⟨z0,z1,z2,z3⟩:=zn hbx (.int .i64 yk) (.bool yb) (.int .i64 yn) (.string yt)
   have HB2:=z6 (zv (HB0.out.trans (hB1.mono HZ1.out)) HG.out (.int .i64 yk) (.bool yb) (.int .i64 yn) (.string yt))
   clear hbx hB1
   go_wp2_with fail
   refine bodyPost_ret (v:= .agg #[.int .i64 yk,.bool yb,.int .i64 yn,.string yt]) (by simp [results,Tryd.results38,go_sem,z0,z1,z2,z3]) rfl ?_
   exact⟨by rw [hres.out],HB2.out⟩
 cases h3:(t.toList==[124,124])
 case true=>
  cases xb
  case true=>
   have hres:Hid (zt t ⟨xk,true,xn,xt⟩ ⟨yk,yb,yn,yt⟩=⟨xk,true,xn,xt⟩):=z6 (by unfold zt;rw [h1];rw [h2];rw [h3];rfl)
   go_enter Tryd.func38,Tryd.ntmps38
   go_wp2_with fail
   refine HF.out.mono ?_
   rintro e w0 ⟨rfl,hB0⟩
   obtain⟨c0,c1,c2,c3,d0,d1,d2,d3⟩:=zG ((hB0.block _ HZx.out).trans HX0.out)
   obtain⟨e0,e1,e2,e3,k0,k1,k2,k3⟩:=zG ((hB0.block _ HZy.out).trans HY0.out)
   have hB1:=hB0
   have hbx:=(hB1.block _ HZ.out).trans HX.out
   obtain⟨y0,y1,y2,y3,g0,g1,g2,g3⟩:=zG hbx
   obtain⟨z0,z1,z2,z3⟩:=zn hbx (.int .i64 xk) (.bool true) (.int .i64 xn) (.string xt)
   have HB2:=z6 (zv (HB0.out.trans (hB1.mono HZ1.out)) HG.out (.int .i64 xk) (.bool true) (.int .i64 xn) (.string xt))
   clear hbx hB1
   go_wp2_with fail
   refine bodyPost_ret (v:= .agg #[.int .i64 xk,.bool true,.int .i64 xn,.string xt]) (by simp [results,Tryd.results38,go_sem,z0,z1,z2,z3]) rfl ?_
   exact⟨by rw [hres.out],HB2.out⟩
  case false=>
   have hres:Hid (zt t ⟨xk,false,xn,xt⟩ ⟨yk,yb,yn,yt⟩=⟨yk,yb,yn,yt⟩):=z6 (by unfold zt;rw [h1];rw [h2];rw [h3];rfl)
   go_enter Tryd.func38,Tryd.ntmps38
   go_wp2_with fail
   refine HF.out.mono ?_
   rintro e w0 ⟨rfl,hB0⟩
   obtain⟨c0,c1,c2,c3,d0,d1,d2,d3⟩:=zG ((hB0.block _ HZx.out).trans HX0.out)
   obtain⟨e0,e1,e2,e3,k0,k1,k2,k3⟩:=zG ((hB0.block _ HZy.out).trans HY0.out)
   have hB1:=hB0
   have hbx:=(hB1.block _ HZ.out).trans HX.out
   obtain⟨y0,y1,y2,y3,g0,g1,g2,g3⟩:=zG hbx
   obtain⟨z0,z1,z2,z3⟩:=zn hbx (.int .i64 yk) (.bool yb) (.int .i64 yn) (.string yt)
   have HB2:=z6 (zv (HB0.out.trans (hB1.mono HZ1.out)) HG.out (.int .i64 yk) (.bool yb) (.int .i64 yn) (.string yt))
   clear hbx hB1
   go_wp2_with fail
   refine bodyPost_ret (v:= .agg #[.int .i64 yk,.bool yb,.int .i64 yn,.string yt]) (by simp [results,Tryd.results38,go_sem,z0,z1,z2,z3]) rfl ?_
   exact⟨by rw [hres.out],HB2.out⟩
 cases h4:(yk==0)
 case true=>
  have hres:Hid (zt t ⟨xk,xb,xn,xt⟩ ⟨yk,yb,yn,yt⟩=⟨yk,yb,yn,yt⟩):=z6 (by unfold zt;rw [h1];rw [h2];rw [h3];rw [h4];rfl)
  go_enter Tryd.func38,Tryd.ntmps38
  go_wp2_with fail
  refine HF.out.mono ?_
  rintro e w0 ⟨rfl,hB0⟩
  obtain⟨c0,c1,c2,c3,d0,d1,d2,d3⟩:=zG ((hB0.block _ HZx.out).trans HX0.out)
  obtain⟨e0,e1,e2,e3,k0,k1,k2,k3⟩:=zG ((hB0.block _ HZy.out).trans HY0.out)
  have HX:=z6 ((hB0.block _ HZ.out).trans HX.out)
  have HX0:=z6 ((hB0.block _ HZx.out).trans HX0.out)
  have HY0:=z6 ((hB0.block _ HZy.out).trans HY0.out)
  have HZ:=z6 (z6K HZ.out hB0.size)
  have HZx:=z6 (z6K HZx.out hB0.size)
  have HZy:=z6 (z6K HZy.out hB0.size)
  have HB0:=z6 (HB0.out.trans (hB0.mono HZ1.out))
  have HZ1:=z6 HB0.out.size
  clear hB0
  go_wp2_with fail
  refine(zO ⟨yk,yb,yn,yt⟩ _).mono ?_
  rintro e w2 ⟨rfl,hB0⟩
  obtain⟨c0,c1,c2,c3,d0,d1,d2,d3⟩:=zG ((hB0.block _ HZx.out).trans HX0.out)
  obtain⟨e0,e1,e2,e3,k0,k1,k2,k3⟩:=zG ((hB0.block _ HZy.out).trans HY0.out)
  have hB1:=hB0
  have hbx:=(hB1.block _ HZ.out).trans HX.out
  obtain⟨y0,y1,y2,y3,g0,g1,g2,g3⟩:=zG hbx
  obtain⟨z0,z1,z2,z3⟩:=zn hbx (.int .i64 yk) (.bool yb) (.int .i64 yn) (.string yt)
  have HB2:=z6 (zv (HB0.out.trans (hB1.mono HZ1.out)) HG.out (.int .i64 yk) (.bool yb) (.int .i64 yn) (.string yt))
  clear hbx hB1
  go_wp2_with fail
  refine bodyPost_ret (v:= .agg #[.int .i64 yk,.bool yb,.int .i64 yn,.string yt]) (by simp [results,Tryd.results38,go_sem,z0,z1,z2,z3]) rfl ?_
  exact⟨by rw [hres.out],HB2.out⟩
 cases q1:(t.toList==[43])
 case true=>
  have hc:zL t=true:=by unfold zL;simp [q1]
  have hres:Hid (zt t ⟨xk,xb,xn,xt⟩ ⟨yk,yb,yn,yt⟩=zF t xn yn):=z6 (by unfold zt;rw [h1];rw [h2];rw [h3];rw [h4];rw [hc];rfl)
  go_enter Tryd.func38,Tryd.ntmps38
  go_wp2_with fail
  refine HF.out.mono ?_
  rintro e w0 ⟨rfl,hB0⟩
  obtain⟨c0,c1,c2,c3,d0,d1,d2,d3⟩:=zG ((hB0.block _ HZx.out).trans HX0.out)
  obtain⟨e0,e1,e2,e3,k0,k1,k2,k3⟩:=zG ((hB0.block _ HZy.out).trans HY0.out)
  have HX:=z6 ((hB0.block _ HZ.out).trans HX.out)
  have HX0:=z6 ((hB0.block _ HZx.out).trans HX0.out)
  have HY0:=z6 ((hB0.block _ HZy.out).trans HY0.out)
  have HZ:=z6 (z6K HZ.out hB0.size)
  have HZx:=z6 (z6K HZx.out hB0.size)
  have HZy:=z6 (z6K HZy.out hB0.size)
  have HB0:=z6 (HB0.out.trans (hB0.mono HZ1.out))
  have HZ1:=z6 HB0.out.size
  clear hB0
  go_wp2_with fail
  refine(zO ⟨yk,yb,yn,yt⟩ _).mono ?_
  rintro e w2 ⟨rfl,hB0⟩
  obtain⟨c0,c1,c2,c3,d0,d1,d2,d3⟩:=zG ((hB0.block _ HZx.out).trans HX0.out)
  obtain⟨e0,e1,e2,e3,k0,k1,k2,k3⟩:=zG ((hB0.block _ HZy.out).trans HY0.out)
  have HX:=z6 ((hB0.block _ HZ.out).trans HX.out)
  have HX0:=z6 ((hB0.block _ HZx.out).trans HX0.out)
  have HY0:=z6 ((hB0.block _ HZy.out).trans HY0.out)
  have HZ:=z6 (z6K HZ.out hB0.size)
  have HZx:=z6 (z6K HZx.out hB0.size)
  have HZy:=z6 (z6K HZy.out hB0.size)
  have HB0:=z6 (HB0.out.trans (hB0.mono HZ1.out))
  have HZ1:=z6 HB0.out.size
  clear hB0
  have HC:=z6 (zW t xn yn w2)
  generalize hX:zF t xn yn=X at*
  have HXX:=z6 hX
  clear hX
  go_wp2_with fail
  refine HC.out.mono ?_
  rintro e w1 ⟨rfl,hB1⟩
  have hbx:=(hB1.block _ HZ.out).trans HX.out
  obtain⟨y0,y1,y2,y3,g0,g1,g2,g3⟩:=zG hbx
  obtain⟨z0,z1,z2,z3⟩:=zn hbx (.int .i64 X.kind) (.bool X.truth) (.int .i64 X.num) (.string X.text)
  have HB2:=z6 (zv (HB0.out.trans (hB1.mono HZ1.out)) HG.out (.int .i64 X.kind) (.bool X.truth) (.int .i64 X.num) (.string X.text))
  clear hbx hB1
  go_wp2_with fail
  refine bodyPost_ret (v:= .agg #[.int .i64 X.kind,.bool X.truth,.int .i64 X.num,.string X.text]) (by simp [results,Tryd.results38,go_sem,z0,z1,z2,z3]) rfl ?_
  exact⟨by rw [hres.out],HB2.out⟩
 cases q2:(t.toList==[45])
 case true=>
  have hc:zL t=true:=by unfold zL;simp [q2]
  have hres:Hid (zt t ⟨xk,xb,xn,xt⟩ ⟨yk,yb,yn,yt⟩=zF t xn yn):=z6 (by unfold zt;rw [h1];rw [h2];rw [h3];rw [h4];rw [hc];rfl)
  go_enter Tryd.func38,Tryd.ntmps38
  go_wp2_with fail
  refine HF.out.mono ?_
  rintro e w0 ⟨rfl,hB0⟩
  obtain⟨c0,c1,c2,c3,d0,d1,d2,d3⟩:=zG ((hB0.block _ HZx.out).trans HX0.out)
  obtain⟨e0,e1,e2,e3,k0,k1,k2,k3⟩:=zG ((hB0.block _ HZy.out).trans HY0.out)
  have HX:=z6 ((hB0.block _ HZ.out).trans HX.out)
  have HX0:=z6 ((hB0.block _ HZx.out).trans HX0.out)
  have HY0:=z6 ((hB0.block _ HZy.out).trans HY0.out)
  have HZ:=z6 (z6K HZ.out hB0.size)
  have HZx:=z6 (z6K HZx.out hB0.size)
  have HZy:=z6 (z6K HZy.out hB0.size)
  have HB0:=z6 (HB0.out.trans (hB0.mono HZ1.out))
  have HZ1:=z6 HB0.out.size
  clear hB0
  go_wp2_with fail
  refine(zO ⟨yk,yb,yn,yt⟩ _).mono ?_
  rintro e w2 ⟨rfl,hB0⟩
  obtain⟨c0,c1,c2,c3,d0,d1,d2,d3⟩:=zG ((hB0.block _ HZx.out).trans HX0.out)
  obtain⟨e0,e1,e2,e3,k0,k1,k2,k3⟩:=zG ((hB0.block _ HZy.out).trans HY0.out)
  have HX:=z6 ((hB0.block _ HZ.out).trans HX.out)
  have HX0:=z6 ((hB0.block _ HZx.out).trans HX0.out)
  have HY0:=z6 ((hB0.block _ HZy.out).trans HY0.out)
  have HZ:=z6 (z6K HZ.out hB0.size)
  have HZx:=z6 (z6K HZx.out hB0.size)
  have HZy:=z6 (z6K HZy.out hB0.size)
  have HB0:=z6 (HB0.out.trans (hB0.mono HZ1.out))
  have HZ1:=z6 HB0.out.size
  clear hB0
  have HC:=z6 (zW t xn yn w2)
  generalize hX:zF t xn yn=X at*
  have HXX:=z6 hX
  clear hX
  go_wp2_with fail
  refine HC.out.mono ?_
  rintro e w1 ⟨rfl,hB1⟩
  have hbx:=(hB1.block _ HZ.out).trans HX.out
  obtain⟨y0,y1,y2,y3,g0,g1,g2,g3⟩:=zG hbx
  obtain⟨z0,z1,z2,z3⟩:=zn hbx (.int .i64 X.kind) (.bool X.truth) (.int .i64 X.num) (.string X.text)
  have HB2:=z6 (zv (HB0.out.trans (hB1.mono HZ1.out)) HG.out (.int .i64 X.kind) (.bool X.truth) (.int .i64 X.num) (.string X.text))
  clear hbx hB1
  go_wp2_with fail
  refine bodyPost_ret (v:= .agg #[.int .i64 X.kind,.bool X.truth,.int .i64 X.num,.string X.text]) (by simp [results,Tryd.results38,go_sem,z0,z1,z2,z3]) rfl ?_
  exact⟨by rw [hres.out],HB2.out⟩
 cases q3:(t.toList==[42])
 case true=>
  have hc:zL t=true:=by unfold zL;simp [q3]
  have hres:Hid (zt t ⟨xk,xb,xn,xt⟩ ⟨yk,yb,yn,yt⟩=zF t xn yn):=z6 (by unfold zt;rw [h1];rw [h2];rw [h3];rw [h4];rw [hc];rfl)
  go_enter Tryd.func38,Tryd.ntmps38
  go_wp2_with fail
  refine HF.out.mono ?_
  rintro e w0 ⟨rfl,hB0⟩
  obtain⟨c0,c1,c2,c3,d0,d1,d2,d3⟩:=zG ((hB0.block _ HZx.out).trans HX0.out)
  obtain⟨e0,e1,e2,e3,k0,k1,k2,k3⟩:=zG ((hB0.block _ HZy.out).trans HY0.out)
  have HX:=z6 ((hB0.block _ HZ.out).trans HX.out)
  have HX0:=z6 ((hB0.block _ HZx.out).trans HX0.out)
  have HY0:=z6 ((hB0.block _ HZy.out).trans HY0.out)
  have HZ:=z6 (z6K HZ.out hB0.size)
  have HZx:=z6 (z6K HZx.out hB0.size)
  have HZy:=z6 (z6K HZy.out hB0.size)
  have HB0:=z6 (HB0.out.trans (hB0.mono HZ1.out))
  have HZ1:=z6 HB0.out.size
  clear hB0
  go_wp2_with fail
  refine(zO ⟨yk,yb,yn,yt⟩ _).mono ?_
  rintro e w2 ⟨rfl,hB0⟩
  obtain⟨c0,c1,c2,c3,d0,d1,d2,d3⟩:=zG ((hB0.block _ HZx.out).trans HX0.out)
  obtain⟨e0,e1,e2,e3,k0,k1,k2,k3⟩:=zG ((hB0.block _ HZy.out).trans HY0.out)
  have HX:=z6 ((hB0.block _ HZ.out).trans HX.out)
  have HX0:=z6 ((hB0.block _ HZx.out).trans HX0.out)
  have HY0:=z6 ((hB0.block _ HZy.out).trans HY0.out)
  have HZ:=z6 (z6K HZ.out hB0.size)
  have HZx:=z6 (z6K HZx.out hB0.size)
  have HZy:=z6 (z6K HZy.out hB0.size)
  have HB0:=z6 (HB0.out.trans (hB0.mono HZ1.out))
  have HZ1:=z6 HB0.out.size
  clear hB0
  have HC:=z6 (zW t xn yn w2)
  generalize hX:zF t xn yn=X at*
  have HXX:=z6 hX
  clear hX
  go_wp2_with fail
  refine HC.out.mono ?_
  rintro e w1 ⟨rfl,hB1⟩
  have hbx:=(hB1.block _ HZ.out).trans HX.out
  obtain⟨y0,y1,y2,y3,g0,g1,g2,g3⟩:=zG hbx
  obtain⟨z0,z1,z2,z3⟩:=zn hbx (.int .i64 X.kind) (.bool X.truth) (.int .i64 X.num) (.string X.text)
  have HB2:=z6 (zv (HB0.out.trans (hB1.mono HZ1.out)) HG.out (.int .i64 X.kind) (.bool X.truth) (.int .i64 X.num) (.string X.text))
  clear hbx hB1
  go_wp2_with fail
  refine bodyPost_ret (v:= .agg #[.int .i64 X.kind,.bool X.truth,.int .i64 X.num,.string X.text]) (by simp [results,Tryd.results38,go_sem,z0,z1,z2,z3]) rfl ?_
  exact⟨by rw [hres.out],HB2.out⟩
 cases q4:(t.toList==[47])
 case true=>
  have hc:zL t=true:=by unfold zL;simp [q4]
  have hres:Hid (zt t ⟨xk,xb,xn,xt⟩ ⟨yk,yb,yn,yt⟩=zF t xn yn):=z6 (by unfold zt;rw [h1];rw [h2];rw [h3];rw [h4];rw [hc];rfl)
  go_enter Tryd.func38,Tryd.ntmps38
  go_wp2_with fail
  refine HF.out.mono ?_
  rintro e w0 ⟨rfl,hB0⟩
  obtain⟨c0,c1,c2,c3,d0,d1,d2,d3⟩:=zG ((hB0.block _ HZx.out).trans HX0.out)
  obtain⟨e0,e1,e2,e3,k0,k1,k2,k3⟩:=zG ((hB0.block _ HZy.out).trans HY0.out)
  have HX:=z6 ((hB0.block _ HZ.out).trans HX.out)
  have HX0:=z6 ((hB0.block _ HZx.out).trans HX0.out)
  have HY0:=z6 ((hB0.block _ HZy.out).trans HY0.out)
  have HZ:=z6 (z6K HZ.out hB0.size)
  have HZx:=z6 (z6K HZx.out hB0.size)
  have HZy:=z6 (z6K HZy.out hB0.size)
  have HB0:=z6 (HB0.out.trans (hB0.mono HZ1.out))
  have HZ1:=z6 HB0.out.size
  clear hB0
  go_wp2_with fail
  refine(zO ⟨yk,yb,yn,yt⟩ _).mono ?_
  rintro e w2 ⟨rfl,hB0⟩
  obtain⟨c0,c1,c2,c3,d0,d1,d2,d3⟩:=zG ((hB0.block _ HZx.out).trans HX0.out)
  obtain⟨e0,e1,e2,e3,k0,k1,k2,k3⟩:=zG ((hB0.block _ HZy.out).trans HY0.out)
  have HX:=z6 ((hB0.block _ HZ.out).trans HX.out)
  have HX0:=z6 ((hB0.block _ HZx.out).trans HX0.out)
  have HY0:=z6 ((hB0.block _ HZy.out).trans HY0.out)
  have HZ:=z6 (z6K HZ.out hB0.size)
  have HZx:=z6 (z6K HZx.out hB0.size)
  have HZy:=z6 (z6K HZy.out hB0.size)
  have HB0:=z6 (HB0.out.trans (hB0.mono HZ1.out))
  have HZ1:=z6 HB0.out.size
  clear hB0
  have HC:=z6 (zW t xn yn w2)
  generalize hX:zF t xn yn=X at*
  have HXX:=z6 hX
  clear hX
  go_wp2_with fail
  refine HC.out.mono ?_
  rintro e w1 ⟨rfl,hB1⟩
  have hbx:=(hB1.block _ HZ.out).trans HX.out
  obtain⟨y0,y1,y2,y3,g0,g1,g2,g3⟩:=zG hbx
  obtain⟨z0,z1,z2,z3⟩:=zn hbx (.int .i64 X.kind) (.bool X.truth) (.int .i64 X.num) (.string X.text)
  have HB2:=z6 (zv (HB0.out.trans (hB1.mono HZ1.out)) HG.out (.int .i64 X.kind) (.bool X.truth) (.int .i64 X.num) (.string X.text))
  clear hbx hB1
  go_wp2_with fail
  refine bodyPost_ret (v:= .agg #[.int .i64 X.kind,.bool X.truth,.int .i64 X.num,.string X.text]) (by simp [results,Tryd.results38,go_sem,z0,z1,z2,z3]) rfl ?_
  exact⟨by rw [hres.out],HB2.out⟩
 cases q5:(t.toList==[37])
 case true=>
  have hc:zL t=true:=by unfold zL;simp [q5]
  have hres:Hid (zt t ⟨xk,xb,xn,xt⟩ ⟨yk,yb,yn,yt⟩=zF t xn yn):=z6 (by unfold zt;rw [h1];rw [h2];rw [h3];rw [h4];rw [hc];rfl)
  go_enter Tryd.func38,Tryd.ntmps38
  go_wp2_with fail
  refine HF.out.mono ?_
  rintro e w0 ⟨rfl,hB0⟩
  obtain⟨c0,c1,c2,c3,d0,d1,d2,d3⟩:=zG ((hB0.block _ HZx.out).trans HX0.out)
  obtain⟨e0,e1,e2,e3,k0,k1,k2,k3⟩:=zG ((hB0.block _ HZy.out).trans HY0.out)
  have HX:=z6 ((hB0.block _ HZ.out).trans HX.out)
  have HX0:=z6 ((hB0.block _ HZx.out).trans HX0.out)
  have HY0:=z6 ((hB0.block _ HZy.out).trans HY0.out)
  have HZ:=z6 (z6K HZ.out hB0.size)
  have HZx:=z6 (z6K HZx.out hB0.size)
  have HZy:=z6 (z6K HZy.out hB0.size)
  have HB0:=z6 (HB0.out.trans (hB0.mono HZ1.out))
  have HZ1:=z6 HB0.out.size
  clear hB0
  go_wp2_with fail
  refine(zO ⟨yk,yb,yn,yt⟩ _).mono ?_
  rintro e w2 ⟨rfl,hB0⟩
  obtain⟨c0,c1,c2,c3,d0,d1,d2,d3⟩:=zG ((hB0.block _ HZx.out).trans HX0.out)
  obtain⟨e0,e1,e2,e3,k0,k1,k2,k3⟩:=zG ((hB0.block _ HZy.out).trans HY0.out)
  have HX:=z6 ((hB0.block _ HZ.out).trans HX.out)
  have HX0:=z6 ((hB0.block _ HZx.out).trans HX0.out)
  have HY0:=z6 ((hB0.block _ HZy.out).trans HY0.out)
  have HZ:=z6 (z6K HZ.out hB0.size)
  have HZx:=z6 (z6K HZx.out hB0.size)
  have HZy:=z6 (z6K HZy.out hB0.size)
  have HB0:=z6 (HB0.out.trans (hB0.mono HZ1.out))
  have HZ1:=z6 HB0.out.size
  clear hB0
  have HC:=z6 (zW t xn yn w2)
  generalize hX:zF t xn yn=X at*
  have HXX:=z6 hX
  clear hX
  go_wp2_with fail
  refine HC.out.mono ?_
  rintro e w1 ⟨rfl,hB1⟩
  have hbx:=(hB1.block _ HZ.out).trans HX.out
  obtain⟨y0,y1,y2,y3,g0,g1,g2,g3⟩:=zG hbx
  obtain⟨z0,z1,z2,z3⟩:=zn hbx (.int .i64 X.kind) (.bool X.truth) (.int .i64 X.num) (.string X.text)
  have HB2:=z6 (zv (HB0.out.trans (hB1.mono HZ1.out)) HG.out (.int .i64 X.kind) (.bool X.truth) (.int .i64 X.num) (.string X.text))
  clear hbx hB1
  go_wp2_with fail
  refine bodyPost_ret (v:= .agg #[.int .i64 X.kind,.bool X.truth,.int .i64 X.num,.string X.text]) (by simp [results,Tryd.results38,go_sem,z0,z1,z2,z3]) rfl ?_
  exact⟨by rw [hres.out],HB2.out⟩
 have hc:zL t=false:=by unfold zL;rw [q1,q2,q3,q4,q5];rfl
 cases h5:(t.toList==[46])
 case true=>
  have hres:Hid (zt t ⟨xk,xb,xn,xt⟩ ⟨yk,yb,yn,yt⟩=z1A (xt++yt)):=z6 (by unfold zt;rw [h1];rw [h2];rw [h3];rw [h4];rw [hc];rw [h5];rfl)
  go_enter Tryd.func38,Tryd.ntmps38
  go_wp2_with fail
  refine HF.out.mono ?_
  rintro e w0 ⟨rfl,hB0⟩
  obtain⟨c0,c1,c2,c3,d0,d1,d2,d3⟩:=zG ((hB0.block _ HZx.out).trans HX0.out)
  obtain⟨e0,e1,e2,e3,k0,k1,k2,k3⟩:=zG ((hB0.block _ HZy.out).trans HY0.out)
  have HX:=z6 ((hB0.block _ HZ.out).trans HX.out)
  have HX0:=z6 ((hB0.block _ HZx.out).trans HX0.out)
  have HY0:=z6 ((hB0.block _ HZy.out).trans HY0.out)
  have HZ:=z6 (z6K HZ.out hB0.size)
  have HZx:=z6 (z6K HZx.out hB0.size)
  have HZy:=z6 (z6K HZy.out hB0.size)
  have HB0:=z6 (HB0.out.trans (hB0.mono HZ1.out))
  have HZ1:=z6 HB0.out.size
  clear hB0
  go_wp2_with fail
  refine(zO ⟨yk,yb,yn,yt⟩ _).mono ?_
  rintro e w2 ⟨rfl,hB0⟩
  obtain⟨c0,c1,c2,c3,d0,d1,d2,d3⟩:=zG ((hB0.block _ HZx.out).trans HX0.out)
  obtain⟨e0,e1,e2,e3,k0,k1,k2,k3⟩:=zG ((hB0.block _ HZy.out).trans HY0.out)
  have HX:=z6 ((hB0.block _ HZ.out).trans HX.out)
  have HX0:=z6 ((hB0.block _ HZx.out).trans HX0.out)
  have HY0:=z6 ((hB0.block _ HZy.out).trans HY0.out)
  have HZ:=z6 (z6K HZ.out hB0.size)
  have HZx:=z6 (z6K HZx.out hB0.size)
  have HZy:=z6 (z6K HZy.out hB0.size)
  have HB0:=z6 (HB0.out.trans (hB0.mono HZ1.out))
  have HZ1:=z6 HB0.out.size
  clear hB0
  have HC:=z6 (jl (xt++yt) w2)
  generalize hX:z1A (xt++yt)=X at*
  have HXX:=z6 hX
  clear hX
  go_wp2_with fail
  refine HC.out.mono ?_
  rintro e w1 ⟨rfl,hB1⟩
  have hbx:=(hB1.block _ HZ.out).trans HX.out
  obtain⟨y0,y1,y2,y3,g0,g1,g2,g3⟩:=zG hbx
  obtain⟨z0,z1,z2,z3⟩:=zn hbx (.int .i64 X.kind) (.bool X.truth) (.int .i64 X.num) (.string X.text)
  have HB2:=z6 (zv (HB0.out.trans (hB1.mono HZ1.out)) HG.out (.int .i64 X.kind) (.bool X.truth) (.int .i64 X.num) (.string X.text))
  clear hbx hB1
  go_wp2_with fail
  refine bodyPost_ret (v:= .agg #[.int .i64 X.kind,.bool X.truth,.int .i64 X.num,.string X.text]) (by simp [results,Tryd.results38,go_sem,z0,z1,z2,z3]) rfl ?_
  exact⟨by rw [hres.out],HB2.out⟩
 have hres:Hid (zt t ⟨xk,xb,xn,xt⟩ ⟨yk,yb,yn,yt⟩=zB (z0a t ⟨xk,xb,xn,xt⟩ ⟨yk,yb,yn,yt⟩)):=z6 (by unfold zt;rw [h1];rw [h2];rw [h3];rw [h4];rw [hc];rw [h5];rfl)
 go_enter Tryd.func38,Tryd.ntmps38
 go_wp2_with fail
 refine HF.out.mono ?_
 rintro e w0 ⟨rfl,hB0⟩
 obtain⟨c0,c1,c2,c3,d0,d1,d2,d3⟩:=zG ((hB0.block _ HZx.out).trans HX0.out)
 obtain⟨e0,e1,e2,e3,k0,k1,k2,k3⟩:=zG ((hB0.block _ HZy.out).trans HY0.out)
 have HX:=z6 ((hB0.block _ HZ.out).trans HX.out)
 have HX0:=z6 ((hB0.block _ HZx.out).trans HX0.out)
 have HY0:=z6 ((hB0.block _ HZy.out).trans HY0.out)
 have HZ:=z6 (z6K HZ.out hB0.size)
 have HZx:=z6 (z6K HZx.out hB0.size)
 have HZy:=z6 (z6K HZy.out hB0.size)
 have HB0:=z6 (HB0.out.trans (hB0.mono HZ1.out))
 have HZ1:=z6 HB0.out.size
 clear hB0
 go_wp2_with fail
 refine(zO ⟨yk,yb,yn,yt⟩ _).mono ?_
 rintro e w2 ⟨rfl,hB0⟩
 obtain⟨c0,c1,c2,c3,d0,d1,d2,d3⟩:=zG ((hB0.block _ HZx.out).trans HX0.out)
 obtain⟨e0,e1,e2,e3,k0,k1,k2,k3⟩:=zG ((hB0.block _ HZy.out).trans HY0.out)
 have HX:=z6 ((hB0.block _ HZ.out).trans HX.out)
 have HX0:=z6 ((hB0.block _ HZx.out).trans HX0.out)
 have HY0:=z6 ((hB0.block _ HZy.out).trans HY0.out)
 have HZ:=z6 (z6K HZ.out hB0.size)
 have HZx:=z6 (z6K HZx.out hB0.size)
 have HZy:=z6 (z6K HZy.out hB0.size)
 have HB0:=z6 (HB0.out.trans (hB0.mono HZ1.out))
 have HZ1:=z6 HB0.out.size
 clear hB0
 have HC:=z6 (z2j t ⟨xk,xb,xn,xt⟩ ⟨yk,yb,yn,yt⟩ w2)
 generalize hX:zB (z0a t ⟨xk,xb,xn,xt⟩ ⟨yk,yb,yn,yt⟩)=X at*
 have HXX:=z6 hX
 clear hX
 go_wp2_with fail
 refine HC.out.mono ?_
 rintro e w1 ⟨rfl,hB1⟩
 have hbx:=(hB1.block _ HZ.out).trans HX.out
 obtain⟨y0,y1,y2,y3,g0,g1,g2,g3⟩:=zG hbx
 obtain⟨z0,z1,z2,z3⟩:=zn hbx (.int .i64 X.kind) (.bool X.truth) (.int .i64 X.num) (.string X.text)
 have HB2:=z6 (zv (HB0.out.trans (hB1.mono HZ1.out)) HG.out (.int .i64 X.kind) (.bool X.truth) (.int .i64 X.num) (.string X.text))
 clear hbx hB1
 go_wp2_with fail
 refine bodyPost_ret (v:= .agg #[.int .i64 X.kind,.bool X.truth,.int .i64 X.num,.string X.text]) (by simp [results,Tryd.results38,go_sem,z0,z1,z2,z3]) rfl ?_
 exact⟨by rw [hres.out],HB2.out⟩
theorem z1F (t:z6P)(x y:Wt)(w:World)(hx:x.text.size≤400000000)(hy:y.text.size≤400000000):Calls Tryd.prog 38 #[.string t,.agg #[.int .i64 x.kind,.bool x.truth,.int .i64 x.num,.string x.text],.agg #[.int .i64 y.kind,.bool y.truth,.int .i64 y.num,.string y.text]] w fun e w'=>z0w (zt t x y) w e w':=
 z2L t x.kind x.truth x.num x.text y.kind y.truth y.num y.text w hx hy
def z0v (l:List UInt8):Int:=l.foldl (fun n c=>n*10+((c.toNat:Int)- 48)) 0
theorem z0r (l:List UInt8)(c:UInt8):z0v (l++[c])=z0v l*10+((c.toNat:Int)- 48):=by simp [z0v]
def z5P (l:List UInt8):Prop:= ∀c∈l,48≤c.toNat∧c.toNat≤57
theorem z3g: ∀(k:Nat) (l:List UInt8),z5P l→l.length=k→0≤z0v l∧z0v l<(10:Int)^k:=by
 intro k
 induction k with
 |zero=>intro l _ hl;rw [List.length_eq_zero_iff.1 hl];decide
 |succ k ih=>
  intro l hd hl
  obtain⟨l',c,rfl⟩: ∃l' c,l=l'++[c]:=⟨l.dropLast,l.getLast (by intro e;rw [e] at hl;cases hl),(List.dropLast_concat_getLast _).symm⟩
  have h1:=ih l' (fun x hx=>hd x (by simp [hx])) (by simp at hl;exact hl)
  have h2:=hd c (by simp)
  rw [z0r,Int.pow_succ]
  omega
theorem z0x (l:List UInt8)(hd:z5P l)(hl:l.length≤9):0≤z0v l∧z0v l≤999999999:=by
 have h:=z3g l.length l hd rfl
 have:(10:Int)^l.length≤10^9:=by
  have h9: ∀k,k≤9→(10:Int)^k≤10^9:=by decide
  exact h9 _ hl
 have e:(10:Int)^9=1000000000:=by decide
 omega
def z3o (t:z6P):Bool:=pk t 0 false==45
def zP (t:z6P):Nat:=if z3o t then 1 else 0
def nsM (t:z6P):Wt:=
 let v:=zp t (zP t) false
 if z1g t v.1 v.2.1||(z3o t&&v.2.2.toList==[48]) then z0g else jo (if z3o t then - z0v v.2.2.toList else z0v v.2.2.toList)
theorem z4B (p:Int→Bool)(s:z6P)(d:Bool): ∀k a,run p s d k a≤a+k:=by
 intro k
 induction k with
 |zero=>intro a;exact z6E _
 |succ k ih=>
  intro a
  unfold run
  split
  ·have:=ih (a+1);omega
  ·omega
theorem z4N (p:Int→Bool)(s:z6P)(d:Bool): ∀k a j,a≤j→j<run p s d k a→p (pk s j d)=true:=by
 intro k
 induction k with
 |zero=>intro a j h1 h2;simp [run] at h2;omega
 |succ k ih=>
  intro a j h1 h2
  unfold run at h2
  by_cases hc:p (pk s a d)=true
  ·rw [if_pos hc] at h2
   by_cases hj:j=a
   ·rw [hj];exact hc
   ·exact ih (a+1) j (by omega) h2
  ·rw [if_neg hc] at h2;omega
theorem z4e {s:z6P}{j:Nat}(h:zc (pk s j false)=true): ∃hj:j<s.size,48≤s[j].toNat∧s[j].toNat≤57:=by
 have hne:pk s j false≠ -1:=fun e=>by rw [e] at h;exact absurd h (by decide)
 have hj:=(jQ hne).2
 refine⟨hj,?_⟩
 simp [pk,hj,zc] at h
 omega
theorem z0K (s:z6P)(a r:Nat):(s.extract a r).toList=(s.data.toList.drop a).take (r - a):=by
 rw [z6D]
 rw [ByteArray.data_extract]
 simp [Array.toList_extract,List.extract]
theorem z2d {s:z6P}{a r:Nat}(h: ∀j,a≤j→j<r→zc (pk s j false)=true):z5P (s.extract a r).toList:=by
 intro c hc
 rw [z0K] at hc
 obtain⟨i,hi,rfl⟩:=List.getElem_of_mem hc
 simp at hi
 have hl:a+i<s.size:=by omega
 obtain⟨hj,h1⟩:=z4e (h (a+i) (by omega) (by omega))
 rw [List.getElem_take,List.getElem_drop]
 exact h1
theorem z0X {s:z6P}{a:Nat}(h:(zp s a false).2.1=false):z5P (zp s a false).2.2.toList∧(zp s a false).2.2.toList.length≤9∧(zp s a false).2.2.toList.length=(zp s a false).2.2.size:=by
 unfold zp at*
 generalize hm:(if pk s a false==48 then 1 else 9)=m at*
 have hm9:m≤9:=by rw [←hm];split<;>omega
 unfold jb at*
 simp only at*
 have hup:=z4B zc s false m a
 split
 ·rename_i hq;rw [if_pos hq] at h;cases h
 ·refine⟨z2d fun j h1 h2=>z4N zc s false m a j h1 h2,?_,?_⟩
  ·rw [z0K];simp;omega
  ·rw [z6D];rfl
end Go.Proofs.YtkoohcilbpdgeaaDoor
