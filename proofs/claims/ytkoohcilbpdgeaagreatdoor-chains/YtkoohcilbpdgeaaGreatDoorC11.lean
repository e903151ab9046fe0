import Derived.Test.YtkoohcilbpdgeaaGreatDoorC10
set_option linter.all false
set_option linter.unusedVariables false
set_option linter.unusedSimpArgs false
set_option linter.unnecessarySimpa false
set_option linter.constructorNameAsVariable false
set_option linter.deprecated false
set_option maxRecDepth 100000
set_option maxHeartbeats 6400000
namespace Go.Proofs.YtkoohcilbpdgeaaGreatDoor
open Go Go.RowKit
def tyRow (x:Ex)(ts:List Int):Int:=typeOfM x (typeAtM ts x.left) (typeAtM ts x.right)
def Scan (E:List Ex)(ts:List Int):Prop:= ∀j:Nat,j<ts.length→ ∃x,E[j]?=some x∧ts[j]?=some (tyRow x (ts.take j))∧tyRow x (ts.take j)≠0
def Flt (E:List Ex)(p:Int):Prop:= ∃ts x,Scan E ts∧E[ts.length]?=some x∧tyRow x ts=0∧p=x.place
theorem Scan.nil (E:List Ex):Scan E []:=fun j h=>absurd h (Nat.not_lt_zero _)
theorem Scan.push {E:List Ex}{ts:List Int}{x:Ex}(h:Scan E ts)(hx:E[ts.length]?=some x)(h0:tyRow x ts≠0):Scan E (ts++[tyRow x ts]):=by
 intro j hj
 simp at hj
 by_cases hl:j<ts.length
 ·obtain⟨y,h1,h2,h3⟩:=h j hl
  refine⟨y,h1,?_,?_⟩
  ·rw [List.getElem?_append_left hl,List.take_append_of_le_length (by omega)];exact h2
  ·rw [List.take_append_of_le_length (by omega)];exact h3
 ·have hj:j=ts.length:=by omega
  subst hj
  refine⟨x,hx,?_,?_⟩
  ·simp
  ·simpa using h0
theorem Scan.unique {E:List Ex}{ts us:List Int}(h:Scan E ts)(k:Scan E us): ∀j:Nat,j<ts.length→j<us.length→ts[j]?=us[j]?∧ts.take j=us.take j:=by
 intro j
 induction j with
 |zero=>
  intro h1 h2
  obtain⟨x,p1,p2,_⟩:=h 0 h1
  obtain⟨y,q1,q2,_⟩:=k 0 h2
  rw [p1] at q1
  injection q1 with q1
  subst q1
  exact⟨by rw [p2,q2];simp,by simp⟩
 |succ j ih=>
  intro h1 h2
  obtain⟨i1,i2⟩:=ih (by omega) (by omega)
  have he:ts.take (j+1)=us.take (j+1):=by
   rw [List.take_add_one,List.take_add_one,i2,i1]
  obtain⟨x,p1,p2,_⟩:=h (j+1) h1
  obtain⟨y,q1,q2,_⟩:=k (j+1) h2
  rw [p1] at q1
  injection q1 with q1
  subst q1
  exact⟨by rw [p2,q2,he],he⟩
theorem Scan.tf {E:List Ex}: ∀(n:Nat) {ts:List Int},ts.length=n→Scan E ts→tfM (E.drop ts.length) ts=tfM E []:=by
 intro n
 induction n with
 |zero=>intro ts hn h;rw [List.length_eq_zero_iff.1 hn];rfl
 |succ n ih=>
  intro ts hn h
  have hs:Scan E (ts.take n):=fun j hj=>by
   simp at hj
   obtain⟨x,h1,h2,h3⟩:=h j (by omega)
   have e:(ts.take n).take j=ts.take j:=by rw [List.take_take,Nat.min_eq_left (by omega)]
   refine⟨x,h1,?_,?_⟩
   ·rw [e,List.getElem?_take,if_pos (by omega)];exact h2
   ·rw [e];exact h3
  obtain⟨x,h1,h2,h3⟩:=h n (by omega)
  have hln:(ts.take n).length=n:=by simp;omega
  have hi:=ih hln hs
  rw [hln,tfM_step h1] at hi
  have e0:(typeOfM x (typeAtM (List.take n ts) x.left) (typeAtM (List.take n ts) x.right)==0)=false:=by
   rw [beq_eq_false_iff_ne];exact h3
  rw [e0,if_neg (by decide)] at hi
  have et:ts=ts.take n++[tyRow x (ts.take n)]:=by
   have:=List.take_add_one (l:=ts) (i:=n)
   rw [h2] at this
   exact(List.take_of_length_le (by omega)).symm.trans this
  rw [hn,←hi]
  conv=>lhs;rw [et]
  rfl
theorem Flt.tf {E:List Ex}{p:Int}(h:Flt E p):tfM E []=p:=by
 obtain⟨ts,x,h1,h2,h3,h4⟩:=h
 rw [←Scan.tf _ rfl h1,tfM_step h2]
 have e0:(typeOfM x (typeAtM ts x.left) (typeAtM ts x.right)==0)=true:=by
  have h3:typeOfM x (typeAtM ts x.left) (typeAtM ts x.right)=0:=h3
  rw [h3];rfl
 rw [e0,if_pos rfl,h4]
theorem Scan.tf_end {E:List Ex}{ts:List Int}(h:Scan E ts)(hl:ts.length=E.length):tfM E []= -1:=by
 rw [←Scan.tf _ rfl h,List.drop_of_length_le (by omega)]
 rfl
theorem typeIfM_range (b:Bool)(m:Int)(h:m=1∨m=2∨m=3):typeIfM b m=0∨typeIfM b m=1∨typeIfM b m=2∨typeIfM b m=3:=by
 unfold typeIfM
 split<;>omega
theorem tyRow_range (x:Ex)(ts:List Int):tyRow x ts=0∨tyRow x ts=1∨tyRow x ts=2∨tyRow x ts=3:=by
 unfold tyRow typeOfM typeOfPairM
 repeat' split
 all_goals first|omega|exact typeIfM_range _ _ (by omega)
theorem Scan.last {E:List Ex}{us:List Int}{t:Int}(h:Scan E (us++[t])):t=1∨t=2∨t=3:=by
 obtain⟨x,h1,h2,h3⟩:=h us.length (by simp)
 simp at h2
 have:=tyRow_range x (List.take us.length (us++[t]))
 simp at this h3
 omega
def chr (t:Int):Int:=if t=1 then 98 else if t=2 then 110 else 115
def isSignB (op:ByteArray):Bool:=op.toList==[124,124]||op.toList==[38,38]||op.toList==[61,61]||op.toList==[33,61]||op.toList==[60]||op.toList==[60,61]||op.toList==[62]||op.toList==[62,61]||op.toList==[43]||op.toList==[45]||op.toList==[46]||op.toList==[42]||op.toList==[47]||op.toList==[37]
def GoodE (E:List Ex):Prop:= ∀x∈E,0≤x.place∧(x.form=6→isSignB x.text=true)
theorem typeAt_last (us:List Int)(t:Int):typeAtM (us++[t]) (us.length:Int)=t:=by
 unfold typeAtM
 rw [if_neg (by omega)]
 simp
theorem typeAt_some {us:List Int}{j:Nat}{t:Int}(h:us[j]?=some t):typeAtM us (j:Int)=t:=by
 unfold typeAtM
 rw [if_neg (by omega)]
 simp [List.getD,h]
theorem of_toList {op:ByteArray}{l:List UInt8}(h:(op.toList==l)=true):op.toList=l:=eq_of_beq h
theorem endPair {op:ByteArray}(h:isSignB op=true)(a:Int){t1 t2:Int}(h1:t1=1∨t1=2∨t1=3)(h2:t2=1∨t2=2∨t2=3):
  endM op a [chr t1,chr t2]=if typeOfPairM op t1 t2=0 then(98,a) else(chr (typeOfPairM op t1 t2),-1):=by
 unfold isSignB at h
 simp only [Bool.or_eq_true] at h
 unfold endM typeOfPairM isCmp
 rcases h with(((((((((((((h|h)|h)|h)|h)|h)|h)|h)|h)|h)|h)|h)|h)|h)
 all_goals
  have h:=of_toList h
  rw [h]
  rcases h1 with rfl|rfl|rfl<;>rcases h2 with rfl|rfl|rfl<;>rfl
theorem endNot (a:Int){t:Int}(h:t=1∨t=2∨t=3):endM sNot a [chr t]=if typeIfM (t==1) 1=0 then(98,a) else(chr (typeIfM (t==1) 1),-1):=by
 unfold endM
 rw [show sNot.toList=[33] by rw [ByteArray.toList_eq];rfl]
 rcases h with rfl|rfl|rfl<;>rfl
theorem endN (a:Int){t:Int}(h:t=1∨t=2∨t=3):endM sN a [chr t]=if typeIfM (t==2) 2=0 then(98,a) else(chr (typeIfM (t==2) 2),-1):=by
 unfold endM isCmp
 rw [show sN.toList=[110] by rw [ByteArray.toList_eq];rfl]
 rcases h with rfl|rfl|rfl<;>rfl
theorem sign_notleaf {op:ByteArray}(h:isSignB op=true):isLeafB op=false∧(op.toList==[105,102])=false:=by
 unfold isSignB at h
 simp only [Bool.or_eq_true] at h
 unfold isLeafB
 rcases h with((((((((((((((h|h)|h)|h)|h)|h)|h)|h)|h)|h)|h)|h)|h)|h))
 all_goals
  have h:=of_toList h
  rw [h]
  exact⟨rfl,rfl⟩
def QE (E:List Ex)(i:Nat)(c at_:Int):Prop:=(∃us t,Scan E (us++[t])∧us.length=i∧c=chr t∧at_= -1)∨(c=98∧0≤at_∧Flt E at_)
theorem below_same {X:Nat→Prop}{w w':World}(h:Below w.heap.size w w'):SameX X w w':=fun k hk _=>h.block k hk
theorem mem_of_get {E:List Ex}{i:Nat}{x:Ex}(h:E[i]?=some x):x∈E:=List.mem_of_getElem? h
theorem scan_row {E:List Ex}{ts:List Int}{x:Ex}(hs:Scan E ts)(hx:E[ts.length]?=some x)(hg:GoodE E){o:Int}(ho:tyRow x ts=o):
  QE E ts.length (if o=0 then 98 else chr o) (if o=0 then x.place else -1):=by
 by_cases h0:o=0
 ·rw [if_pos h0,if_pos h0]
  exact .inr ⟨rfl,(hg x (mem_of_get hx)).1,ts,x,hs,hx,ho.trans h0,rfl⟩
 ·rw [if_neg h0,if_neg h0]
  exact .inl ⟨ts,o,ho▸hs.push hx (by rw [ho];exact h0),rfl,rfl,rfl⟩
theorem endQ {E:List Ex}{ts:List Int}{x:Ex}(hs:Scan E ts)(hx:E[ts.length]?=some x)(hg:GoodE E){o:Int}(ho:tyRow x ts=o){p:Int×Int}(hp:p=if o=0 then(98,x.place) else(chr o,-1)):QE E ts.length p.1 p.2:=by
 have h:=scan_row hs hx hg ho
 by_cases h0:o=0
 ·rw [if_pos h0] at hp
  rw [if_pos h0,if_pos h0] at h
  rw [hp];exact h
 ·rw [if_neg h0] at hp
  rw [if_neg h0,if_neg h0] at h
  rw [hp];exact h
theorem leaf_eq {op:ByteArray}{l:List UInt8}(h:op.data.toList=l):(op.toList==l)=true:=by
 rw [ByteArray.toList_eq,h];simp
theorem typed_E {X:Nat→Prop}{E:List Ex}(hg:GoodE E): ∀(f:Nat) (v:Value) (a i:Nat) (ts:List Int) (w:World),RefEX X w E f v a i→Scan E ts→ts.length=a→Calls Tryz.prog 53 #[v] w fun e w'=>TPost w (QE E i) e w':=by
 intro f
 induction f with
 |zero=>intro v a i ts w h;exact absurd h id
 |succ f ih=>
  intro v a i ts w h hs hts
  obtain⟨x,hx,h⟩:=h
  have leaf: ∀(c o:Int),a=i→tyRow x ts=o→o≠0→chr o=c→Calls Tryz.prog 53 #[v] w (fun e w'=>e= .returned (.tuple #[.int .u8 c,.int .i64 (-1)])∧w'=w)→Calls Tryz.prog 53 #[v] w fun e w'=>TPost w (QE E i) e w':=by
   intro c o hai ho h0 hco hc
   refine hc.mono ?_
   rintro e w' ⟨rfl,rfl⟩
   subst hai hts
   exact⟨Below.refl _ _,c,-1,rfl,.inl ⟨ts,o,ho▸hs.push hx (by rw [ho];exact h0),rfl,hco.symm,rfl⟩⟩
  rcases h with⟨h1,h2,p,h3⟩|⟨h1,h2,p,h3⟩|⟨h1,h2,h4,p,h3⟩|⟨h1,h2,p,h3⟩|⟨h1,h2,p,h3⟩|⟨h1,v1,j,h2,h3,h4,h5⟩|⟨h1,v1,v2,j,k,h2,h3,h4,h5,h6,h7⟩
  ·exact leaf 110 2 h2 (by unfold tyRow typeOfM;rw [h1];rfl) (by omega) rfl (typed_leaf h3 110 (.inl ⟨rfl,by rw [leaf_eq (op:=sNum) (l:=[110,117,109]) rfl];rfl⟩))
  ·exact leaf 115 3 h2 (by unfold tyRow typeOfM;rw [h1];rfl) (by omega) rfl (typed_leaf h3 115 (.inr (.inl ⟨rfl,by rw [leaf_eq (op:=sStr) (l:=[115,116,114]) rfl];rfl⟩)))
  ·refine leaf 98 1 h2 (by unfold tyRow typeOfM;rw [h1];rfl) (by omega) rfl (typed_leaf h3 98 (.inr (.inr ⟨rfl,?_⟩)))
   rcases h4 with h4|h4
   ·rw [leaf_eq h4];rfl
   ·rw [leaf_eq h4];simp
  ·exact leaf 115 3 h2 (by unfold tyRow typeOfM;rw [h1];rfl) (by omega) rfl (typed_leaf h3 115 (.inr (.inl ⟨rfl,by rw [leaf_eq (op:=sAttr) (l:=[97,116,116,114]) rfl];simp⟩)))
  ·exact leaf 110 2 h2 (by unfold tyRow typeOfM;rw [h1];rfl) (by omega) rfl (typed_leaf h3 110 (.inl ⟨rfl,by rw [leaf_eq (op:=sAt) (l:=[97,116]) rfl];simp⟩))
  ·have hpre: ∀(op:ByteArray) (m:Int),NodeX X w v op ⟨#[]⟩ x.place [v1]→isLeafB op=false→isCmp op=false→(op.toList==[105,102])=false→
     (∀t r:Int,(t=1∨t=2∨t=3)→typeOfM x t r=typeIfM (t==m) m∧endM op x.place [chr t]=if typeIfM (t==m) m=0 then(98,x.place) else(chr (typeIfM (t==m) m),-1))→Calls Tryz.prog 53 #[v] w fun e w'=>TPost w (QE E i) e w':=by
    intro op m hn hl hc hif hend
    refine typed_node hn (by simp) (fun n cs=>(n=0∧cs=[])∨(n=1∧ ∃us t,Scan E (us++[t])∧us.length=j∧cs=[chr t])) (QE E i) (.inl ⟨rfl,rfl⟩) hl (fun e=>by rw [hc] at e;cases e) ?_ ?_
    ·intro n cs wr vi hvi hS hcs hb
     cases n with
     |succ n=>simp at hvi
     |zero=>
      have hv:v1=vi:=by simpa using hvi
      subst hv
      have hcs:cs=[]:=List.length_eq_zero_iff.1 hcs
      subst hcs
      refine(ih v1 a j ts wr (h5.keepX (below_same hb)) hs hts).mono ?_
      rintro e w' ⟨hb2,c,at2,rfl,hq⟩
      refine⟨hb2,c,at2,rfl,?_⟩
      rcases hq with⟨us,t,q1,q2,q3,q4⟩|⟨q1,q2,q3⟩
      ·refine .inr ⟨q4,?_⟩
       rw [hif]
       exact .inr ⟨rfl,us,t,q1,q2,by rw [q3];rfl⟩
      ·exact .inl ⟨q2,.inr ⟨rfl,q2,q3⟩⟩
    ·intro cs hS hl2
     rcases hS with⟨q1,_⟩|⟨_,us,t,q1,q2,q3⟩
     ·cases q1
     ·subst q3
      have ht:=q1.last
      obtain⟨e1,e2⟩:=hend t (typeAtM (us++[t]) x.right) ht
      have hlen:(us++[t]).length=i:=by simp;omega
      have hx':E[(us++[t]).length]?=some x:=by rw [hlen];exact hx
      have ho:tyRow x (us++[t])=typeIfM (t==m) m:=by
       unfold tyRow
       rw [h3,←q2,typeAt_last]
       exact e1
      have hh:=endQ q1 hx' hg ho e2
      rw [hlen] at hh
      exact hh
   rcases h4 with⟨h4,hn⟩|⟨h4,hn⟩
   ·refine hpre sNot 1 hn (by unfold isLeafB;rw [ByteArray.toList_eq];rfl) (by unfold isCmp;rw [ByteArray.toList_eq];rfl) (by rw [ByteArray.toList_eq];rfl) fun t r ht=>⟨?_,endNot x.place ht⟩
    unfold typeOfM
    rw [h1,h4,ByteArray.toList_eq]
    rfl
   ·refine hpre sN 2 hn (by unfold isLeafB;rw [ByteArray.toList_eq];rfl) (by unfold isCmp;rw [ByteArray.toList_eq];rfl) (by rw [ByteArray.toList_eq];rfl) fun t r ht=>⟨?_,endN x.place ht⟩
    unfold typeOfM
    rw [h1,h4,ByteArray.toList_eq]
    rfl
  ·have hgx:=(hg x (mem_of_get hx)).2 h1
   obtain⟨hl,hif⟩:=sign_notleaf hgx
   refine typed_node h5 (by simp) (fun n cs=>(n=0∧cs=[])∨(n=1∧ ∃us t,Scan E (us++[t])∧us.length=j∧cs=[chr t])∨(n=2∧ ∃us t1 t2,Scan E (us++[t2])∧us.length=k∧(us++[t2])[j]?=some t1∧(t1=1∨t1=2∨t1=3)∧cs=[chr t1,chr t2])) (QE E i) (.inl ⟨rfl,rfl⟩) hl (fun _=>by simp) ?_ ?_
   ·intro n cs wr vi hvi hS hcs hb
    rw [hif]
    rcases hS with⟨rfl,rfl⟩|⟨rfl,us,t,q1,q2,rfl⟩|⟨rfl,_⟩
    ·have hv:v1=vi:=by simpa using hvi
     subst hv
     refine(ih v1 a j ts wr (h6.keepX (below_same hb)) hs hts).mono ?_
     rintro e w' ⟨hb2,c,at2,rfl,hq⟩
     refine⟨hb2,c,at2,rfl,?_⟩
     rcases hq with⟨us,t,q1,q2,q3,q4⟩|⟨q1,q2,q3⟩
     ·exact .inr ⟨q4,.inr (.inl ⟨rfl,us,t,q1,q2,by rw [q3];rfl⟩)⟩
     ·exact .inl ⟨q2,.inr ⟨rfl,q2,q3⟩⟩
    ·have hv:v2=vi:=by simpa using hvi
     subst hv
     refine(ih v2 (j+1) k (us++[t]) wr (h7.keepX (below_same hb)) q1 (by simp [q2])).mono ?_
     rintro e w' ⟨hb2,c,at2,rfl,hq⟩
     refine⟨hb2,c,at2,rfl,?_⟩
     rcases hq with⟨us2,t2,r1,r2,r3,r4⟩|⟨r1,r2,r3⟩
     ·refine .inr ⟨r4,.inr (.inr ⟨rfl,us2,t,t2,r1,r2,?_,q1.last,by rw [r3];rfl⟩)⟩
      have hjk:j<us2.length+1:=by
       have hle: ∀f v a i,RefEX X wr E f v a i→a≤i:=by
        intro f
        induction f with
        |zero=>intro v a i h;exact absurd h id
        |succ f ihf=>
         intro v a i h
         obtain⟨y,_,h⟩:=h
         rcases h with⟨_,e,_⟩|⟨_,e,_⟩|⟨_,e,_⟩|⟨_,e,_⟩|⟨_,e,_⟩|⟨_,u1,jj,e1,_,_,e2⟩|⟨_,u1,u2,jj,kk,e1,_,_,_,e2,e3⟩
         ·omega
         ·omega
         ·omega
         ·omega
         ·omega
         ·have:=ihf _ _ _ e2;omega
         ·have:=ihf _ _ _ e2;have:=ihf _ _ _ e3;omega
       have:=hle _ _ _ _ (h7.keepX (below_same hb))
       omega
      have hu:=(q1.unique r1 j (by simp [q2]) (by simpa using hjk)).1
      rw [←hu,←q2]
      simp
     ·exact .inl ⟨r2,.inr ⟨rfl,r2,r3⟩⟩
    ·simp at hvi
   ·intro cs hS hl2
    rcases hS with⟨q1,_⟩|⟨q1,_⟩|⟨_,us,t1,t2,q1,q2,q3,q4,rfl⟩
    ·cases q1
    ·cases q1
    ·have hlen:(us++[t2]).length=i:=by simp;omega
     have hx':E[(us++[t2]).length]?=some x:=by rw [hlen];exact hx
     have ho:tyRow x (us++[t2])=typeOfPairM x.text t1 t2:=by
      unfold tyRow typeOfM
      rw [h1,h3,h4,typeAt_some q3,←q2,typeAt_last]
      rfl
     have hh:=endQ q1 hx' hg ho (endPair hgx x.place q4 q1.last)
     rw [hlen] at hh
     exact hh
def QC (E:List Ex)(e:Nat)(c at_:Int):Prop:=(c=98∧at_= -1∧ ∃us,Scan E us∧us.length=e)∨(c=98∧0≤at_∧Flt E at_)
theorem end_if (a:Int)(cs:List Int):endM sIf a cs=(98,-1):=by unfold endM;rw [ByteArray.toList_eq];rfl
theorem end_all (a:Int)(cs:List Int):endM sAll a cs=(98,-1):=by unfold endM;rw [ByteArray.toList_eq];rfl
theorem SegC.len {P:Value→Cl→Nat→Nat→Prop}: ∀(vs:List Value) (cs:List Cl) (a e:Nat),SegC P vs cs a e→vs.length=cs.length:=by
 intro vs
 induction vs with
 |nil=>intro cs a e h;cases cs with
  |nil=>rfl
  |cons i is=>exact absurd h id
 |cons v vs ih=>
  intro cs a e h
  cases cs with
  |nil=>exact absurd h id
  |cons i is=>obtain⟨j,_,h3⟩:=h;simp [ih is _ _ h3]
theorem typed_Cl {X:Nat→Prop}{E:List Ex}(hg:GoodE E){f:Nat}{sub:Value→Nat→Nat→Nat→Prop}{w0:World}
  (hsub: ∀v ci a e ts wr,Below w0.heap.size w0 wr→sub v ci a e→Scan E ts→ts.length=a→Calls Tryz.prog 53 #[v] wr fun en w'=>TPost wr (QC E e) en w')
  {v:Value} {c:Cl} {a e:Nat} (h:ClX X w0 E f sub v c a e) (ts:List Int) (hs:Scan E ts) (hts:ts.length=a) (w:World) (hb0:Below w0.heap.size w0 w):
  Calls Tryz.prog 53 #[v] w fun en w'=>TPost w (QC E e) en w':=by
 obtain⟨v1,i,x,h1,h2,h3,h4,h5,h6⟩:=h
 have key: ∀(vs:List Value),NodeX X w v sIf ⟨#[]⟩ x.place vs→vs.length≤2→vs[0]?=some v1→(vs.length=1→e=i+2)→(∀v2 us wr,vs[1]?=some v2→Below w.heap.size w wr→Scan E us→us.length=i+2→Calls Tryz.prog 53 #[v2] wr fun en w'=>TPost wr (QC E e) en w')→0<vs.length→Calls Tryz.prog 53 #[v] w fun en w'=>TPost w (QC E e) en w':=by
  intro vs hn hl hv0 hone htwo hpos
  refine typed_node hn (by omega) (fun n cs=>(n=0∧cs=[])∨(n=1∧ ∃us,Scan E us∧us.length=i+2)∨(n=2∧ ∃us,Scan E us∧us.length=e)) (QC E e) (.inl ⟨rfl,rfl⟩) (by unfold isLeafB;rw [ByteArray.toList_eq];rfl) (fun _=>hpos) ?_ ?_
  ·intro n cs wr vi hvi hS hcs hb
   rw [show(sIf.toList==[105,102])=true by rw [ByteArray.toList_eq];rfl]
   rcases hS with⟨rfl,rfl⟩|⟨rfl,us,q1,q2⟩|⟨rfl,_⟩
   ·have hv:v1=vi:=by rw [hv0] at hvi;injection hvi
    subst hv
    have hb1:Below w0.heap.size w0 wr:=hb0.trans (hb.mono hb0.size)
    refine(typed_E hg f v1 a i ts wr (h1.keepX (below_same hb1)) hs hts).mono ?_
    rintro en w' ⟨hb2,c,at2,rfl,hq⟩
    refine⟨hb2,c,at2,rfl,?_⟩
    rcases hq with⟨us,t,q1,q2,q3,q4⟩|⟨q1,q2,q3⟩
    ·refine .inr ⟨q4,?_⟩
     have hx':E[(us++[t]).length]?=some x:=by simp only [List.length_append,List.length_cons,List.length_nil,q2];exact h2
     have ho:tyRow x (us++[t])=typeIfM (t==1) 1:=by
      unfold tyRow typeOfM
      rw [h3,h4,←q2,typeAt_last]
      rfl
     have ht:=q1.last
     subst q3
     rcases ht with rfl|rfl|rfl
     ·exact .inr (.inl ⟨rfl,us++[1]++[1],by have:=q1.push hx' (by rw [ho];decide);rw [ho] at this;exact this,by simp [q2]⟩)
     ·exact .inr ⟨rfl,(hg x (mem_of_get h2)).1,us++[2],x,q1,hx',by rw [ho];rfl,rfl⟩
     ·exact .inr ⟨rfl,(hg x (mem_of_get h2)).1,us++[3],x,q1,hx',by rw [ho];rfl,rfl⟩
    ·exact .inl ⟨q2,.inr ⟨rfl,q2,q3⟩⟩
   ·refine(htwo vi us wr hvi hb q1 q2).mono ?_
    rintro en w' ⟨hb2,c,at2,rfl,hq⟩
    refine⟨hb2,c,at2,rfl,?_⟩
    rcases hq with⟨r1,r2,us2,r3,r4⟩|⟨r1,r2,r3⟩
    ·refine .inr ⟨r2,?_⟩
     exact .inr (.inr ⟨rfl,us2,r3,r4⟩)
    ·exact .inl ⟨r2,.inr ⟨rfl,r2,r3⟩⟩
   ·have:=(List.getElem?_eq_some_iff.1 hvi).1
    omega
  ·intro cs hS hl2
   rw [end_if]
   rcases hS with⟨q1,_⟩|⟨q1,us,q2,q3⟩|⟨q1,us,q2,q3⟩
   ·omega
   ·exact .inl ⟨rfl,rfl,us,q2,by rw [hone q1];exact q3⟩
   ·exact .inl ⟨rfl,rfl,us,q2,q3⟩
 rcases h6 with⟨q1,q2,q3⟩|⟨q1,v2,p,q2,q3,q4⟩|⟨q1,v2,ci,q2,q3,q4⟩
 ·exact key [v1] (q2.keepX (below_same hb0)) (by simp) rfl (fun _=>q3) (fun v2 us wr h=>by simp at h) (by simp)
 ·refine key [v1,v2] (q2.keepX (below_same hb0)) (by simp) rfl (fun h=>by simp at h) (fun v3 us wr h hb hs hl=> ?_) (by simp)
  have hv:v2=v3:=by simpa using h
  subst hv
  refine(typed_leaf ((q3.keepX (below_same hb0)).keepX (below_same hb)) 98 (.inr (.inr ⟨rfl,by rw [leaf_eq (op:=sName) (l:=[110,97,109,101]) rfl];simp⟩))).mono ?_
  rintro en w' ⟨rfl,rfl⟩
  exact⟨Below.refl _ _,98,-1,rfl,.inl ⟨rfl,rfl,us,hs,by rw [q4];exact hl⟩⟩
 ·refine key [v1,v2] (q3.keepX (below_same hb0)) (by simp) rfl (fun h=>by simp at h) (fun v3 us wr h hb hs hl=> ?_) (by simp)
  have hv:v2=v3:=by simpa using h
  subst hv
  exact hsub v2 ci _ e us wr (hb0.trans (hb.mono hb0.size)) q4 hs hl
theorem seg_split {P:Value→Cl→Nat→Nat→Prop}: ∀(vs:List Value) (cs:List Cl) (a e n:Nat) (v:Value),SegC P (vs.drop n) (cs.drop n) a e→vs[n]?=some v→ ∃c m,P v c a m∧SegC P (vs.drop (n+1)) (cs.drop (n+1)) m e:=by
 intro vs cs a e n v h hv
 obtain⟨hl,hx⟩:=List.getElem?_eq_some_iff.1 hv
 rw [List.drop_eq_getElem_cons hl,hx] at h
 cases hc:cs.drop n with
 |nil=>rw [hc] at h;exact absurd h id
 |cons c cs'=>
  rw [hc] at h
  obtain⟨m,h1,h2⟩:=h
  refine⟨c,m,h1,?_⟩
  have:cs.drop (n+1)=cs':=by rw [←List.drop_drop,hc];rfl
  rw [this]
  exact h2
theorem typed_C {X:Nat→Prop}{E:List Ex}{C:List (List Cl)}(hg:GoodE E)(hC: ∀cls∈C,cls.length<100000): ∀(f:Nat) (v:Value) (ci a e:Nat) (ts:List Int) (w:World),RefCX X w E C f v ci a e→Scan E ts→ts.length=a→Calls Tryz.prog 53 #[v] w fun en w'=>TPost w (QC E e) en w':=by
 intro f
 induction f with
 |zero=>intro v ci a e ts w h;exact absurd h id
 |succ f ih=>
  intro v ci a e ts w h hs hts
  obtain⟨cls,vs,p,h1,h2,h3⟩:=h
  have hlen:=SegC.len _ _ _ _ h3
  have hcl:=hC cls (List.mem_of_getElem? h1)
  refine typed_node h2 (by omega) (fun n cs=> ∃us,Scan E us∧SegC (fun v c a e=>ClX X w E f (fun v ci a e=>RefCX X w E C f v ci a e) v c a e) (vs.drop n) (cls.drop n) us.length e) (QC E e) ⟨ts,hs,by rw [hts];exact h3⟩ (by unfold isLeafB;rw [ByteArray.toList_eq];rfl) (fun h=>by unfold isCmp at h;rw [ByteArray.toList_eq] at h;exact absurd h (by decide)) ?_ ?_
  ·intro n cs wr vi hvi hS hcs hb
   rw [show(sAll.toList==[105,102])=false by rw [ByteArray.toList_eq];rfl]
   obtain⟨us,q1,q2⟩:=hS
   obtain⟨c,m,q3,q4⟩:=seg_split _ _ _ _ _ _ q2 hvi
   refine(typed_Cl hg (fun v ci a e ts wr hb h hs hts=>ih v ci a e ts wr (h.keepX (below_same hb)) hs hts) q3 us q1 rfl wr hb).mono ?_
   rintro en w' ⟨hb2,c2,at2,rfl,hq⟩
   refine⟨hb2,c2,at2,rfl,?_⟩
   rcases hq with⟨r1,r2,us2,r3,r4⟩|⟨r1,r2,r3⟩
   ·exact .inr ⟨r2,us2,r3,by rw [r4];exact q4⟩
   ·exact .inl ⟨r2,.inr ⟨rfl,r2,r3⟩⟩
  ·intro cs hS hl2
   rw [end_all]
   obtain⟨us,q1,q2⟩:=hS
   rw [List.drop_of_length_le (Nat.le_refl _),List.drop_of_length_le (by omega)] at q2
   exact .inl ⟨rfl,rfl,us,q1,q2⟩
attribute [local go_sem] wrap64_byte
def firstPos:List Int→Int
 |[]=> -1
 |r::rs=>if 0≤r then r else firstPos rs
theorem firstPos_step {rs:List Int}{i:Nat}{r:Int}(h:rs[i]?=some r):firstPos (rs.drop i)=if 0≤r then r else firstPos (rs.drop (i+1)):=by
 obtain⟨hl,hx⟩:=List.getElem?_eq_some_iff.1 h
 rw [List.drop_eq_getElem_cons hl,hx]
 rfl
def fewEnd (op tx:ByteArray)(a:Int)(n:Nat)(rs:List Int):Int:=
 if op.toList==[111,102] then(if(tx.data.toList.headD 0).toNat=48∨(n:Int)<((tx.data.toList.headD 0).toNat:Int)- 48 then a else firstPos rs) else firstPos rs
theorem few_node {X:Nat→Prop}{w:World}{v:Value}{op tx:ByteArray}{a:Int}{vs:List Value}(h:NodeX X w v op tx a vs)(hlen:vs.length≤100000)(rs:List Int)(hrl:rs.length=vs.length)
  (hof:(op.toList==[111,102])=true→ ∃c:UInt8,tx=⟨#[c]⟩∧48≤c.toNat∧c.toNat≤57)
  (hk: ∀(i:Nat) (vi:Value) (ri:Int),vs[i]?=some vi→rs[i]?=some ri→Calls Tryz.prog 90 #[vi] w fun e w'=>e= .returned (.int .i64 ri)∧w'=w):
  Calls Tryz.prog 90 #[v] w fun e w'=>e= .returned (.int .i64 (fewEnd op tx a vs.length rs))∧w'=w:=by
 obtain⟨g,kv,rfl,hh,hg,how⟩:=node_at h
 obtain⟨a5,k5,rfl⟩:=ownsRow_slc how
 obtain⟨y0,y1,y2,y3,yf⟩:=box4' hh
 have HK:=hide hk
 have HOW:=hide how
 have HRL:=hide hrl
 cases ho:(op.toList==[111,102])
 ·have hf:Hid (fewEnd op tx a vs.length rs=firstPos rs):=hide (by unfold fewEnd;rw [ho,if_neg (by decide)])
  clear hk h hh how hrl hof
  go_enter Tryz.func90,Tryz.ntmps90
  go_wp2_with fail
  go_loopg [4,5] (vs.length+1) (fun k iv _ wr=> ∃i:Nat,k+i=vs.length+1∧i≤vs.length∧iv= .int .i64 i∧wr=w∧Hid (firstPos (rs.drop i)=firstPos rs))
  case atStart=>exact⟨0,rfl,Nat.zero_le _,rfl,rfl,rfl⟩
  case round=>
   obtain⟨i,hgk,hile,rfl,rfl,hfp⟩:=hrel
   have HGK:=hide hgk
   clear hgk
   by_cases hlt:i<vs.length
   ·obtain⟨vi,hvi⟩: ∃vi,vs[i]?=some vi:=⟨vs[i],List.getElem?_eq_getElem hlt⟩
    obtain⟨ri,hri⟩: ∃ri,rs[i]?=some ri:=⟨rs[i]'(by rw [HRL.out];exact hlt),List.getElem?_eq_getElem _⟩
    obtain⟨gk,capk,hv,hb,hgl⟩:=HOW.out.form (by omega)
    injection hv with e1 e2 e3
    subst e1 e3
    have hcell:wr.cell? ⟨gk,i,none⟩=some vi:=row_cell HOW.out _ _ hvi
    have hlti:(i:Int)<vs.length:=by omega
    have HC:=hide (HK.out i vi ri hvi hri)
    have hst:=hide ((firstPos_step hri).symm.trans hfp.out)
    clear hvi hri hfp
    go_wp2_with fail
    refine HC.out.mono ?_
    rintro e w1 ⟨rfl,rfl⟩
    have hst':=hst.out
    clear hst HC
    by_cases hr0:0≤ri
    ·rw [if_pos hr0] at hst'
     have hst:=hide hst'
     clear hst'
     go_wp2_with fail
     go_ret
     exact⟨by rw [hf.out,←hst.out];simp,rfl⟩
    ·rw [if_neg hr0] at hst'
     have hst:=hide hst'
     clear hst'
     go_wp2_with fail
     go_roundg (vs.length - i)
     case measure=>have:=HGK.out;omega
     case rel=>exact⟨i+1,by have:=HGK.out;omega,by omega,by go_num,rfl,hst⟩
   ·have hin:i=vs.length:=by omega
    have hlti: ¬(i:Int)<vs.length:=by omega
    have hfin:Hid (firstPos rs= -1):=hide (by rw [←hfp.out,List.drop_of_length_le (by rw [HRL.out];omega)];rfl)
    go_wp2_with fail
    go_ret
    exact⟨by rw [hf.out,hfin.out];simp,rfl⟩
 ·obtain⟨c,rfl,hc1,hc2⟩:=hof ho
  have hcl:=c.toNat_lt
  have hf:fewEnd op ⟨#[c]⟩ a vs.length rs=if c.toNat=48∨(vs.length:Int)<(c.toNat:Int)- 48 then a else firstPos rs:=by unfold fewEnd;rw [ho,if_pos rfl];rfl
  obtain⟨K,hK⟩: ∃K:Nat,c.toNat=K+48:=⟨c.toNat - 48,by omega⟩
  have hidx: ∀h,(⟨#[c]⟩:ByteArray)[0]'h=c:=fun _=>rfl
  have hm:((c.toNat:Int)- 48)%256=(K:Int):=by omega
  have hK9:K≤9:=by omega
  have HKK:=hide hK
  have hf0:=hf
  clear hk h hh how hrl hof hK hf hcl hc1 hc2
  by_cases h48:K=0
  ·have hf:Hid (fewEnd op ⟨#[c]⟩ a vs.length rs=a):=hide (by rw [hf0,if_pos (.inl (by rw [HKK.out,h48]))])
   subst h48
   clear hf0
   have hm:((c.toNat:Int)- 48)%256=0:=hm
   go_enter Tryz.func90,Tryz.ntmps90
   go_wp2_with fail
   go_ret
   exact⟨by rw [hf.out];simp,rfl⟩
  ·have hK0:((K:Int)==0)=false:=by rw [beq_eq_false_iff_ne];omega
   by_cases hgt:(vs.length:Int)<(K:Int)
   ·have hf:Hid (fewEnd op ⟨#[c]⟩ a vs.length rs=a):=hide (by rw [hf0,if_pos (.inr (by rw [HKK.out];omega))])
    clear hf0
    go_enter Tryz.func90,Tryz.ntmps90
    go_wp2_with fail
    go_ret
    exact⟨by rw [hf.out];simp,rfl⟩
   ·have hf:Hid (fewEnd op ⟨#[c]⟩ a vs.length rs=firstPos rs):=hide (by rw [hf0,if_neg (by rw [HKK.out];omega)])
    clear hf0
    go_enter Tryz.func90,Tryz.ntmps90
    go_wp2_with fail
    go_loopg [4,5] (vs.length+1) (fun k iv _ wr=> ∃i:Nat,k+i=vs.length+1∧i≤vs.length∧iv= .int .i64 i∧wr=w∧Hid (firstPos (rs.drop i)=firstPos rs))
    case atStart=>exact⟨0,rfl,Nat.zero_le _,rfl,rfl,rfl⟩
    case round=>
     obtain⟨i,hgk,hile,rfl,rfl,hfp⟩:=hrel
     have HGK:=hide hgk
     clear hgk
     by_cases hlt:i<vs.length
     ·obtain⟨vi,hvi⟩: ∃vi,vs[i]?=some vi:=⟨vs[i],List.getElem?_eq_getElem hlt⟩
      obtain⟨ri,hri⟩: ∃ri,rs[i]?=some ri:=⟨rs[i]'(by rw [HRL.out];exact hlt),List.getElem?_eq_getElem _⟩
      obtain⟨gk,capk,hv,hb,hgl⟩:=HOW.out.form (by omega)
      injection hv with e1 e2 e3
      subst e1 e3
      have hcell:wr.cell? ⟨gk,i,none⟩=some vi:=row_cell HOW.out _ _ hvi
      have hlti:(i:Int)<vs.length:=by omega
      have HC:=hide (HK.out i vi ri hvi hri)
      have hst:=hide ((firstPos_step hri).symm.trans hfp.out)
      clear hvi hri hfp
      go_wp2_with fail
      refine HC.out.mono ?_
      rintro e w1 ⟨rfl,rfl⟩
      have hst':=hst.out
      clear hst HC
      by_cases hr0:0≤ri
      ·rw [if_pos hr0] at hst'
       have hst:=hide hst'
       clear hst'
       go_wp2_with fail
       go_ret
       exact⟨by rw [hf.out,←hst.out];simp,rfl⟩
      ·rw [if_neg hr0] at hst'
       have hst:=hide hst'
       clear hst'
       go_wp2_with fail
       go_roundg (vs.length - i)
       case measure=>have:=HGK.out;omega
       case rel=>exact⟨i+1,by have:=HGK.out;omega,by omega,by go_num,rfl,hst⟩
     ·have hin:i=vs.length:=by omega
      have hlti: ¬(i:Int)<vs.length:=by omega
      have hfin:Hid (firstPos rs= -1):=hide (by rw [←hfp.out,List.drop_of_length_le (by rw [HRL.out];omega)];rfl)
      go_wp2_with fail
      go_ret
      exact⟨by rw [hf.out,hfin.out];simp,rfl⟩
theorem run_ge (p:Int→Bool)(s:ByteArray)(d:Bool): ∀k a,a≤run p s d k a:=by
 intro k
 induction k with
 |zero=>intro a;exact Nat.le_refl _
 |succ k ih=>
  intro a
  unfold run
  split
  ·have:=ih (a+1);omega
  ·exact Nat.le_refl _
theorem skip_ge (s:ByteArray)(a:Nat)(d:Bool):a≤skip s a d:=run_ge _ _ _ _ _
theorem wordM_ge (s:ByteArray)(d:Bool): ∀l a,a≤(wordM s d l a).1:=by
 intro l
 induction l with
 |nil=>intro a;exact Nat.le_refl _
 |cons c cs ih=>
  intro a
  unfold wordM
  split
  ·have:=ih (a+1);omega
  ·exact Nat.le_refl _
theorem signM_ge (s:ByteArray)(d:Bool)(l:List UInt8)(a:Nat):a≤(signM s d l a).1:=by
 have h1:=wordM_ge s d l a
 have h2:=skip_ge s (wordM s d l a).1 (wordM s d l a).2
 simp only [signM];omega
theorem sgn_ge (s:ByteArray)(l:List UInt8)(st:St):st.at_≤(sgn s l st).at_:=signM_ge s st.bad l st.at_
theorem wrd_ge (s:ByteArray)(l:List UInt8)(st:St):st.at_≤(wrd s l st).at_:=wordM_ge s st.bad l st.at_
theorem tokM_ge (p:Int→Bool)(m:Nat)(s:ByteArray)(a:Nat)(d:Bool):a≤(tokM p m s a d).1:=by
 unfold tokM
 have h1:=run_ge p s d m a
 have h2:=skip_ge s (run p s d m a) d
 simp only
 split
 ·exact h1
 ·exact Nat.le_trans h1 h2
theorem nameM_ge (s:ByteArray)(a:Nat)(d:Bool):a≤(nameM s a d).1:=tokM_ge _ _ _ _ _
theorem numberM_ge (s:ByteArray)(a:Nat)(d:Bool):a≤(numberM s a d).1:=tokM_ge _ _ _ _ _
theorem quotedM_ge (s:ByteArray)(a:Nat)(d:Bool):a≤(quotedM s a d).1:=by
 unfold quotedM
 have h1:=wordM_ge s d [34] a
 have h2:=run_ge isQuotable s (wordM s d [34] a).2 12 (wordM s d [34] a).1
 have h3:=signM_ge s (wordM s d [34] a).2 [34] (run isQuotable s (wordM s d [34] a).2 12 (wordM s d [34] a).1)
 simp only
 omega
theorem orderingM_ge (s short long:ByteArray)(a:Nat)(d:Bool):a≤(orderingM s short long a d).1:=by
 unfold orderingM
 have h1:=wordM_ge s d short.data.toList a
 have h2:=skip_ge s (wordM s d short.data.toList a).1 (wordM s d short.data.toList a).2
 have h3:=signM_ge s (wordM s d short.data.toList a).2 [61] (wordM s d short.data.toList a).1
 simp only
 split<;>simp only<;>omega
theorem comparingM_ge (s:ByteArray)(a:Nat)(d:Bool):a≤(comparingM s a d).1:=by
 unfold comparingM
 split
 ·exact signM_ge _ _ _ _
 ·split
  ·exact signM_ge _ _ _ _
  ·split
   ·exact orderingM_ge _ _ _ _ _
   ·split
    ·exact orderingM_ge _ _ _ _ _
    ·exact Nat.le_refl _
theorem M_ge (s:ByteArray): ∀n tag l st r,M s n tag l st=some r→st.at_≤r.2.at_:=by
 intro n
 induction n with
 |zero=>intro tag l st r h;simp [M] at h
 |succ n ih=>
  intro tag l st r h
  have two: ∀{t1 t2:Nat} {st0:St},((M s n t1 0 st0).bind fun r=>M s n t2 r.1 r.2)=some r→st0.at_≤r.2.at_:=fun h=>by
   obtain⟨q,h1,h2⟩:=Option.bind_eq_some_iff.1 h
   exact Nat.le_trans (ih _ _ _ _ h1) (ih _ _ _ _ h2)
  have three: ∀{t1 t2:Nat} {st0:St} {x:Int×St→Ex},((M s n t1 0 st0).bind fun r=>(addE r.2 (x r)).bind fun q=>M s n t2 q.1 q.2)=some r→st0.at_≤r.2.at_:=fun h=>by
   obtain⟨q,h1,h2⟩:=Option.bind_eq_some_iff.1 h
   obtain⟨q2,h3,h4⟩:=Option.bind_eq_some_iff.1 h2
   have k1:=ih _ _ _ _ h1
   have k2:=(addE_at h3).2
   have k3:=ih _ _ _ _ h4
   omega
  match tag,h with
  |0,h=>rw [M_0] at h;exact two h
  |1,h=>rw [M_1] at h;exact two h
  |4,h=>rw [M_4] at h;exact two h
  |5,h=>rw [M_5] at h;exact two h
  |10,h=>
   rw [M_10] at h
   split at h
   ·exact Nat.le_trans (sgn_ge _ _ _) (three h)
   ·cases h;exact Nat.le_refl _
  |11,h=>
   rw [M_11] at h
   split at h
   ·exact Nat.le_trans (sgn_ge _ _ _) (three h)
   ·cases h;exact Nat.le_refl _
  |14,h=>
   rw [M_14] at h
   simp only at h
   split at h
   ·cases h;exact Nat.le_refl _
   ·exact Nat.le_trans (sgn_ge _ _ _) (three h)
  |15,h=>
   rw [M_15] at h
   simp only at h
   split at h
   ·cases h;exact Nat.le_refl _
   ·exact Nat.le_trans (sgn_ge _ _ _) (three h)
  |2,h=>
   rw [M_2] at h
   split at h
   ·exact ih _ _ _ _ h
   ·obtain⟨q,h1,h2⟩:=Option.bind_eq_some_iff.1 h
    have k1:=ih _ _ _ _ h1
    have k2:=(addE_at h2).2
    have k3:=sgn_ge s [33] st
    omega
  |6,h=>
   rw [M_6] at h
   split at h
   ·exact ih _ _ _ _ h
   ·obtain⟨q,h1,h2⟩:=Option.bind_eq_some_iff.1 h
    have k1:=ih _ _ _ _ h1
    have k2:=(addE_at h2).2
    have k3:=sgn_ge s [45] st
    omega
  |3,h=>
   rw [M_3] at h
   obtain⟨q,h1,h2⟩:=Option.bind_eq_some_iff.1 h
   have k1:=ih _ _ _ _ h1
   have k2:=comparingM_ge s q.2.at_ q.2.bad
   simp only at h2
   split at h2
   ·cases h2
    exact Nat.le_trans k1 k2
   ·obtain⟨q2,h3,h4⟩:=Option.bind_eq_some_iff.1 h2
    have k3:=ih _ _ _ _ h3
    have k4:=(addE_at h4).2
    have k5:q.2.at_≤q2.2.at_:=Nat.le_trans k2 k3
    omega
  |7,h=>
   rw [M_7] at h
   simp only at h
   split at h
   ·have k:=(addE_at h).2
    rw [k];exact numberM_ge _ _ _
   ·split at h
    ·have k:=(addE_at h).2
     rw [k];exact quotedM_ge _ _ _
    ·split at h
     ·have k:=(addE_at h).2
      rw [k]
      exact Nat.le_trans (wrd_ge s [64] st) (nameM_ge _ _ _)
     ·split at h
      ·obtain⟨q,h1,h2⟩:=Option.bind_eq_some_iff.1 h
       cases h2
       exact Nat.le_trans (Nat.le_trans (sgn_ge s [40] st) (ih _ _ _ _ h1)) (sgn_ge s [41] q.2)
      ·split at h
       ·have k:=(addE_at h).2
        rw [k];exact nameM_ge _ _ _
       ·have k:=(addE_at h).2
        rw [k];exact nameM_ge _ _ _
  |8,h=>simp [M] at h
  |9,h=>simp [M] at h
  |12,h=>simp [M] at h
  |13,h=>simp [M] at h
  |t+16,h=>simp [M] at h
theorem MC_ge (s:ByteArray): ∀n tag cls st r,MC s n tag cls st=some r→st.at_≤r.2.2.at_:=by
 intro n
 induction n with
 |zero=>intro tag cls st r h;simp [MC] at h
 |succ n ih=>
  intro tag cls st r h
  match tag,h with
  |0,h=>
   rw [MC_0] at h
   obtain⟨q,h1,h2⟩:=Option.bind_eq_some_iff.1 h
   exact Nat.le_trans (ih _ _ _ _ h1) (ih _ _ _ _ h2)
  |2,h=>
   rw [MC_2] at h
   split at h
   ·split at h
    ·obtain⟨q,h1,h2⟩:=Option.bind_eq_some_iff.1 h
     exact Nat.le_trans (Nat.le_trans (sgn_ge s [59] st) (ih _ _ _ _ h1)) (ih _ _ _ _ h2)
    ·obtain⟨q,h1,h2⟩:=Option.bind_eq_some_iff.1 h
     cases h2
     exact Nat.le_of_eq (addC_at h1).2.symm
   ·cases h
  |1,h=>
   rw [MC_1'] at h
   obtain⟨q,h1,h2⟩:=Option.bind_eq_some_iff.1 h
   obtain⟨q2,h3,h4⟩:=Option.bind_eq_some_iff.1 h2
   have k1:=M_ge s _ _ _ _ _ h1
   have k2:=(addE_at h3).2
   split at h4
   ·cases h4;simp only;omega
   ·obtain⟨x,h5,h6⟩:=Option.bind_eq_some_iff.1 h4
    cases h6
    have k3:=sgn_ge s [45,62] q2.2
    have k4:(sgn s [45,62] q2.2).at_≤x.2.2.2.at_:=by
     unfold MRes at h5
     split at h5
     ·obtain⟨v,h7,h8⟩:=Option.bind_eq_some_iff.1 h5
      cases h8
      exact Nat.le_trans (Nat.le_trans (sgn_ge s [123] _) (ih _ _ _ _ h7)) (sgn_ge s [125] _)
     ·cases h5
      exact nameM_ge _ _ _
    simp only
    omega
  |t+3,h=>simp [MC] at h
def SegO (P:Nat→Nat→Nat→Nat→Prop):List Int→Nat→Nat→Nat→Nat→Prop
 |[],a,e,lo,hi=>a=e∧lo≤hi
 |j::js,a,e,lo,hi=> ∃i m:Nat,j=(i:Int)∧P a i lo m∧SegO P js (i+1) e m hi
theorem SegO.imp {P Q:Nat→Nat→Nat→Nat→Prop}(h: ∀a i lo hi,P a i lo hi→Q a i lo hi): ∀(js:List Int) (a e lo hi:Nat),SegO P js a e lo hi→SegO Q js a e lo hi:=by
 intro js
 induction js with
 |nil=>intro a e lo hi h;exact h
 |cons j js ih=>intro a e lo hi ⟨i,m,h1,h2,h3⟩;exact⟨i,m,h1,h _ _ _ _ h2,ih _ _ _ _ h3⟩
theorem SegO.snoc {P:Nat→Nat→Nat→Nat→Prop}(wk: ∀a i lo hi lo',P a i lo hi→lo'≤lo→P a i lo' hi): ∀(js:List Int) (a e lo mid i hi:Nat),SegO P js a e lo mid→P e i mid hi→SegO P (js++[(i:Int)]) a (i+1) lo hi:=by
 intro js
 induction js with
 |nil=>intro a e lo mid i hi ⟨h1,h2⟩ hp;subst h1;exact⟨i,hi,rfl,wk _ _ _ _ _ hp h2,rfl,Nat.le_refl _⟩
 |cons j js ih=>intro a e lo mid i hi ⟨i',m,h1,h2,h3⟩ hp;exact⟨i',m,h1,h2,ih _ _ _ _ _ _ h3 hp⟩
theorem SegO.wkhi {P:Nat→Nat→Nat→Nat→Prop}: ∀(js:List Int) (a e lo hi hi':Nat),SegO P js a e lo hi→hi≤hi'→SegO P js a e lo hi':=by
 intro js
 induction js with
 |nil=>intro a e lo hi hi' ⟨h1,h2⟩ h;exact⟨h1,Nat.le_trans h2 h⟩
 |cons j js ih=>intro a e lo hi hi' ⟨i',m,h1,h2,h3⟩ h;exact⟨i',m,h1,h2,ih _ _ _ _ _ h3 h⟩
def OrdL (L:List Lc):Nat→Nat→Nat→Nat→Nat→Prop
 |0,_,_,_,_=>False
 |f+1,a,i,lo,hi=> ∃x,L[i]?=some x∧lo≤hi∧((x.form=0∧a=i)∨
   (x.form=1∧ ∃j k m:Nat,i=k+1∧x.left=(j:Int)∧x.right=(k:Int)∧OrdL L f a j lo m∧OrdL L f (j+1) k m hi)∨
   (x.form=2∧ ∃p:Nat,x.place=(p:Int)∧lo≤p∧p<hi∧SegO (fun a i lo hi=>OrdL L f a i lo hi) x.items a i (p+1) hi))
theorem OrdL.wk {L:List Lc}: ∀{f a i lo hi lo' hi':Nat},OrdL L f a i lo hi→lo'≤lo→hi≤hi'→OrdL L f a i lo' hi':=by
 intro f
 induction f with
 |zero=>intro a i lo hi lo' hi' h;exact absurd h id
 |succ f ih=>
  intro a i lo hi lo' hi' ⟨x,h1,h2,h3⟩ h4 h5
  refine⟨x,h1,by omega,?_⟩
  rcases h3 with h3|⟨q1,j,k,m,q2,q3,q4,q5,q6⟩|⟨q1,p,q2,q3,q4,q5⟩
  ·exact .inl h3
  ·exact .inr (.inl ⟨q1,j,k,m,q2,q3,q4,ih q5 h4 (Nat.le_refl _),ih q6 (Nat.le_refl _) h5⟩)
  ·exact .inr (.inr ⟨q1,p,q2,by omega,by omega,SegO.wkhi _ _ _ _ _ _ q5 h5⟩)
theorem OrdL.le {L:List Lc}{f a i lo hi:Nat}(h:OrdL L f a i lo hi):lo≤hi:=by
 cases f with
 |zero=>exact absurd h id
 |succ f=>obtain⟨x,_,h2,_⟩:=h;exact h2
theorem OrdL.more {L:List Lc}(F:List Lc): ∀{f a i lo hi:Nat},OrdL L f a i lo hi→OrdL (L++F) f a i lo hi:=by
 intro f
 induction f with
 |zero=>intro a i lo hi h;exact absurd h id
 |succ f ih=>
  intro a i lo hi ⟨x,h1,h2,h3⟩
  refine⟨x,by rw [List.getElem?_append_left (List.getElem?_eq_some_iff.1 h1).1];exact h1,h2,?_⟩
  rcases h3 with h3|⟨q1,j,k,m,q2,q3,q4,q5,q6⟩|⟨q1,p,q2,q3,q4,q5⟩
  ·exact .inl h3
  ·exact .inr (.inl ⟨q1,j,k,m,q2,q3,q4,ih q5,ih q6⟩)
  ·exact .inr (.inr ⟨q1,p,q2,q3,q4,SegO.imp (fun _ _ _ _ q=>ih q) _ _ _ _ _ q5⟩)
theorem OrdL.up {L:List Lc}: ∀{f a i lo hi:Nat},OrdL L f a i lo hi→OrdL L (f+1) a i lo hi:=by
 intro f
 induction f with
 |zero=>intro a i lo hi h;exact absurd h id
 |succ f ih=>
  intro a i lo hi ⟨x,h1,h2,h3⟩
  refine⟨x,h1,h2,?_⟩
  rcases h3 with h3|⟨q1,j,k,m,q2,q3,q4,q5,q6⟩|⟨q1,p,q2,q3,q4,q5⟩
  ·exact .inl h3
  ·exact .inr (.inl ⟨q1,j,k,m,q2,q3,q4,ih q5,ih q6⟩)
  ·exact .inr (.inr ⟨q1,p,q2,q3,q4,SegO.imp (fun _ _ _ _ q=>ih q) _ _ _ _ _ q5⟩)
theorem OrdL.ups {L:List Lc}{f:Nat}(g:Nat){a i lo hi:Nat}(h:OrdL L f a i lo hi):OrdL L (f+g) a i lo hi:=by
 induction g with
 |zero=>exact h
 |succ g ih=>exact ih.up
def LRes (L:List Lc)(r:Int)(st':St)(a lo:Nat):Prop:= ∃f i:Nat,r=(i:Int)∧i+1=st'.L.length∧OrdL st'.L f a i lo st'.at_
theorem ML_ord (s:ByteArray): ∀n tag l p k its st r,ML s n tag l p k its st=some r→
  ((tag=0∨tag=1∨tag=2∨tag=3)→ ∃f i:Nat,r.1=(i:Int)∧i+1=r.2.L.length∧OrdL r.2.L f st.L.length i st.at_ r.2.at_)∧
  ((tag=10∨tag=11)→ ∀f i a lo:Nat,l=(i:Int)→i+1=st.L.length→OrdL st.L f a i lo st.at_→ ∃f' i':Nat,r.1=(i':Int)∧i'+1=r.2.L.length∧OrdL r.2.L f' a i' lo r.2.at_)∧
  (tag=13→ ∀f a q:Nat,p=(q:Int)→q<st.at_→SegO (fun a i lo hi=>OrdL st.L f a i lo hi) its a st.L.length (q+1) st.at_→ ∃f' i':Nat,r.1=(i':Int)∧i'+1=r.2.L.length∧OrdL r.2.L f' a i' q r.2.at_):=by
 intro n
 induction n with
 |zero=>intro tag l p k its st r h;simp [ML] at h
 |succ n ih=>
  intro tag l p k its st r h
  have loop: ∀(t:Nat) (c:UInt8) (ct:Nat),(ct=1∨ct=2)→(t=10∨t=11)→(ML s (n+1) t l p k its st=if pkS s st==(c.toNat:Int) then(ML s n ct 0 0 0 [] (sgn s [c,c] st)).bind fun r=>(addL r.2 ⟨1,⟨#[c,c]⟩,l,r.1,0,0,[]⟩).bind fun q=>ML s n t q.1 0 0 [] q.2 else some (l,st))→ML s (n+1) t l p k its st=some r→
    ∀f i a lo:Nat,l=(i:Int)→i+1=st.L.length→OrdL st.L f a i lo st.at_→ ∃f' i':Nat,r.1=(i':Int)∧i'+1=r.2.L.length∧OrdL r.2.L f' a i' lo r.2.at_:=by
   intro t c ct hct htt he h f i a lo h1 h2 h3
   rw [he] at h
   split at h
   ·obtain⟨q,g1,g2⟩:=Option.bind_eq_some_iff.1 h
    obtain⟨q2,g3,g4⟩:=Option.bind_eq_some_iff.1 g2
    obtain⟨_,g5⟩:=addL_some g3
    obtain⟨f1,i1,k1,k2,k3⟩:=(ih _ _ _ _ _ _ _ g1).1 (by omega)
    obtain⟨⟨F,hF⟩,_⟩:=ML_ext s _ _ _ _ _ _ _ _ g1
    have hF:q.2.L=st.L++F:=hF
    subst g5
    refine(ih _ _ _ _ _ _ _ g4).2.1 htt (f+f1+1) q.2.L.length a lo rfl (by simp) ?_
    refine⟨⟨1,⟨#[c,c]⟩,l,q.1,0,0,[]⟩,by simp,?_,.inr (.inl ⟨rfl,i,i1,st.at_,k2.symm,h1,k1,?_,?_⟩)⟩
    ·have:=h3.le
     have:=k3.le
     have:=sgn_ge s [c,c] st
     simp only
     omega
    ·have:=(h3.more F).ups f1
     rw [←hF] at this
     exact this.more _
    ·have e:(sgn s [c,c] st).L.length=i+1:=h2.symm
     rw [e] at k3
     have:=((k3.wk (sgn_ge s [c,c] st) (Nat.le_refl _)).ups f).more [⟨1,⟨#[c,c]⟩,l,q.1,0,0,[]⟩]
     rw [Nat.add_comm f1 f] at this
     exact this
   ·cases h;exact⟨f,i,h1,h2,h3⟩
  match tag,h with
  |0,h=>
   refine⟨fun _=> ?_,by omega,by omega⟩
   rw [ML_0] at h
   obtain⟨q,h1,h2⟩:=Option.bind_eq_some_iff.1 h
   obtain⟨f1,i1,k1,k2,k3⟩:=(ih _ _ _ _ _ _ _ h1).1 (by omega)
   exact(ih _ _ _ _ _ _ _ h2).2.1 (by omega) f1 i1 _ _ k1 k2 k3
  |1,h=>
   refine⟨fun _=> ?_,by omega,by omega⟩
   rw [ML_1] at h
   obtain⟨q,h1,h2⟩:=Option.bind_eq_some_iff.1 h
   obtain⟨f1,i1,k1,k2,k3⟩:=(ih _ _ _ _ _ _ _ h1).1 (by omega)
   exact(ih _ _ _ _ _ _ _ h2).2.1 (by omega) f1 i1 _ _ k1 k2 k3
  |10,h=>exact⟨by omega,fun _=>loop 10 124 1 (by omega) (by omega) (ML_10 s n l p k its st) h,by omega⟩
  |11,h=>exact⟨by omega,fun _=>loop 11 38 2 (by omega) (by omega) (ML_11 s n l p k its st) h,by omega⟩
  |2,h=>
   refine⟨fun _=> ?_,by omega,by omega⟩
   rw [ML_2] at h
   simp only at h
   split at h
   ·obtain⟨q,h1,h2⟩:=Option.bind_eq_some_iff.1 h
    obtain⟨f1,i1,k1,k2,k3⟩:=(ih _ _ _ _ _ _ _ h1).1 (by omega)
    cases h2
    exact⟨f1,i1,k1,k2,k3.wk (sgn_ge s [40] st) (sgn_ge s [41] q.2)⟩
   ·split at h
    ·exact(ih _ _ _ _ _ _ _ h).1 (by omega)
    ·obtain⟨_,g5⟩:=addL_some h
     subst g5
     refine⟨1,st.L.length,rfl,by simp [St.put3],⟨0,(nameM s st.at_ st.bad).2.2,-1,-1,0,0,[]⟩,by simp [St.put3],nameM_ge _ _ _,.inl ⟨rfl,rfl⟩⟩
  |3,h=>
   refine⟨fun _=> ?_,by omega,by omega⟩
   rw [ML_3] at h
   obtain⟨q,h1,h2⟩:=Option.bind_eq_some_iff.1 h
   obtain⟨f1,i1,k1,k2,k3⟩:=(ih _ _ _ _ _ _ _ h1).1 (by omega)
   have hg:=sgn_ge s [45,111,102,40] {st with at_:=st.at_+1}
   have hg:st.at_+1≤(sgn s [45,111,102,40] {st with at_:=st.at_+1}).at_:=hg
   have hle:=k3.le
   refine(ih _ _ _ _ _ _ _ h2).2.2 rfl f1 st.L.length st.at_ rfl (by omega) ?_
   exact⟨i1,q.2.at_,k1,k3.wk hg (Nat.le_refl _),k2,Nat.le_refl _⟩
  |13,h=>
   refine⟨by omega,by omega,fun _ f a q hp hq hseg=> ?_⟩
   rw [ML_13] at h
   split at h
   ·split at h
    ·obtain⟨u,h1,h2⟩:=Option.bind_eq_some_iff.1 h
     obtain⟨f1,i1,k1,k2,k3⟩:=(ih _ _ _ _ _ _ _ h1).1 (by omega)
     obtain⟨⟨F,hF⟩,_⟩:=ML_ext s _ _ _ _ _ _ _ _ h1
     have hF:u.2.L=st.L++F:=hF
     have hg:=sgn_ge s [44] st
     have hle:=k3.le
     refine(ih _ _ _ _ _ _ _ h2).2.2 rfl (f+f1) a q hp (by omega) ?_
     rw [k1,←k2]
     refine SegO.snoc (fun a i lo hi lo' h hl=>h.wk hl (Nat.le_refl _)) _ _ _ _ st.at_ _ _ (SegO.imp (fun _ _ _ _ g=> ?_) _ _ _ _ _ hseg) ?_
     ·have:=(g.more F).ups f1
      rw [←hF] at this
      exact this
     ·have:=(k3.wk hg (Nat.le_refl _)).ups f
      rw [Nat.add_comm f1 f] at this
      exact this
    ·obtain⟨_,g5⟩:=addL_some h
     subst g5
     have hg:=sgn_ge s [41] st
     refine⟨f+1,st.L.length,rfl,by simp [sgn,St.put],⟨2,⟨#[]⟩,-1,-1,p,k,its⟩,by simp [sgn,St.put],by simp only;omega,.inr (.inr ⟨rfl,q,hp,Nat.le_refl _,by simp only;omega,?_⟩)⟩
     exact SegO.wkhi _ _ _ _ _ _ (SegO.imp (fun _ _ _ _ g=>g.more _) _ _ _ _ _ hseg) hg
   ·cases h
  |4,h=>simp [ML] at h
  |5,h=>simp [ML] at h
  |6,h=>simp [ML] at h
  |7,h=>simp [ML] at h
  |8,h=>simp [ML] at h
  |9,h=>simp [ML] at h
  |12,h=>simp [ML] at h
  |t+14,h=>simp [ML] at h
def flty (x:Lc):Bool:=x.form==2&& !(decide (1≤x.count)&&decide (x.count≤x.items.length))
def MinF (L:List Lc)(a e:Nat)(r:Int):Prop:=(r= -1∧ ∀(j:Nat) x,a≤j→j<e→L[j]?=some x→flty x=false)∨
 (∃(j:Nat) (x:Lc),a≤j∧j<e∧L[j]?=some x∧flty x=true∧r=x.place∧ ∀(j':Nat) y,a≤j'→j'<e→L[j']?=some y→flty y=true→x.place≤y.place)
structure MF (L:List Lc)(a e lo hi:Nat)(r:Int):Prop where
 ae:a≤e
 lh:lo≤hi
 min:MinF L a e r
 span: ∀(j:Nat) x,a≤j→j<e→L[j]?=some x→flty x=true→(lo:Int)≤x.place∧x.place<(hi:Int)
theorem MF.nil (L:List Lc)(a lo hi:Nat)(h:lo≤hi):MF L a a lo hi (-1):=⟨Nat.le_refl _,h,.inl ⟨rfl,fun j x h1 h2=>by omega⟩,fun j x h1 h2=>by omega⟩
theorem MF.pos {L:List Lc}{a e lo hi:Nat}{r:Int}(h:MF L a e lo hi r):r= -1∨0≤r:=by
 rcases h.min with⟨h1,_⟩|⟨j,x,h1,h2,h3,h4,h5,_⟩
 ·exact .inl h1
 ·have:=(h.span j x h1 h2 h3 h4).1;omega
theorem MF.join {L:List Lc}{a m e lo mid hi:Nat}{r1 r2:Int}(h:MF L a m lo mid r1)(k:MF L m e mid hi r2):MF L a e lo hi (if 0≤r1 then r1 else r2):=by
 refine⟨Nat.le_trans h.ae k.ae,Nat.le_trans h.lh k.lh,?_,fun j x h1 h2 h3 h4=> ?_⟩
 ·rcases h.min with⟨q1,q2⟩|⟨j,x,q1,q2,q3,q4,q5,q6⟩
  ·rw [if_neg (by omega)]
   rcases k.min with⟨p1,p2⟩|⟨j,x,p1,p2,p3,p4,p5,p6⟩
   ·refine .inl ⟨p1,fun j x h1 h2 h3=> ?_⟩
    by_cases hj:j<m
    ·exact q2 j x h1 hj h3
    ·exact p2 j x (by omega) h2 h3
   ·refine .inr ⟨j,x,Nat.le_trans h.ae p1,p2,p3,p4,p5,fun j' y h1 h2 h3 h4=> ?_⟩
    by_cases hj:j'<m
    ·have:=q2 j' y h1 hj h3;rw [h4] at this;cases this
    ·exact p6 j' y (by omega) h2 h3 h4
  ·have hs:=h.span j x q1 q2 q3 q4
   rw [if_pos (by omega)]
   refine .inr ⟨j,x,q1,Nat.lt_of_lt_of_le q2 k.ae,q3,q4,q5,fun j' y h1 h2 h3 h4=> ?_⟩
   by_cases hj:j'<m
   ·exact q6 j' y h1 hj h3 h4
   ·have:=(k.span j' y (by omega) h2 h3 h4).1;omega
 ·by_cases hj:j<m
  ·have:=h.span j x h1 hj h3 h4;have:=k.lh;omega
  ·have:=k.span j x (by omega) h2 h3 h4;have:=h.lh;omega
theorem MF.wk {L:List Lc}{a e lo hi lo' hi':Nat}{r:Int}(h:MF L a e lo hi r)(h1:lo'≤lo)(h2:hi≤hi'):MF L a e lo' hi' r:=
 ⟨h.ae,by have:=h.lh;omega,h.min,fun j x p1 p2 p3 p4=>by have:=h.span j x p1 p2 p3 p4;omega⟩
theorem MF.plain {L:List Lc}{a i lo hi:Nat}{r:Int}{x:Lc}(h:MF L a i lo hi r)(hx:L[i]?=some x)(hf:flty x=false):MF L a (i+1) lo hi r:=by
 have hae:=h.ae
 have same: ∀j y,a≤j→j<i+1→L[j]?=some y→flty y=true→j<i:=fun j y h1 h2 h3 h4=>by
  by_cases hj:j=i
  ·subst hj;rw [hx] at h3;injection h3 with h3;subst h3;rw [hf] at h4;cases h4
  ·omega
 refine⟨by omega,h.lh,?_,fun j y h1 h2 h3 h4=>h.span j y h1 (same j y h1 h2 h3 h4) h3 h4⟩
 rcases h.min with⟨q1,q2⟩|⟨j,y,q1,q2,q3,q4,q5,q6⟩
 ·refine .inl ⟨q1,fun j y h1 h2 h3=> ?_⟩
  cases hy:flty y with
  |false=>rfl
  |true=>have:=q2 j y h1 (same j y h1 h2 h3 hy) h3;rw [hy] at this;cases this
 ·exact .inr ⟨j,y,q1,by omega,q3,q4,q5,fun j' z h1 h2 h3 h4=>q6 j' z h1 (same j' z h1 h2 h3 h4) h3 h4⟩
theorem MF.head {L:List Lc}{a i p hi:Nat}{r:Int}{x:Lc}(h:MF L a i (p+1) hi r)(hx:L[i]?=some x)(hp:x.place=(p:Int))(hf:flty x=true):MF L a (i+1) p hi p:=by
 have hae:=h.ae
 have hlh:=h.lh
 have hall: ∀j y,a≤j→j<i+1→L[j]?=some y→flty y=true→(p:Int)≤y.place∧y.place<(hi:Int):=fun j y h1 h2 h3 h4=>by
  by_cases hj:j=i
  ·subst hj;rw [hx] at h3;injection h3 with h3;subst h3;omega
  ·have:=h.span j y h1 (by omega) h3 h4;omega
 exact⟨by omega,by omega,.inr ⟨i,x,hae,by omega,hx,hf,hp.symm,fun j y h1 h2 h3 h4=>by rw [hp];exact(hall j y h1 h2 h3 h4).1⟩,hall⟩
def fewT (L:List Lc):Nat→Nat→Int
 |0,_=> -1
 |f+1,i=>match L[i]? with
  |none=> -1
  |some x=>if x.form=1 then firstPos [fewT L f x.left.toNat,fewT L f x.right.toNat]
   else if x.form=2 then(if x.count=0∨(x.items.length:Int)<x.count then x.place else firstPos (x.items.map fun j=>fewT L f j.toNat)) else -1
theorem firstPos_join {L:List Lc}{a e lo hi:Nat}{r:Int}(h:MF L a e lo hi (if 0≤r then r else -1))(hr:r= -1∨0≤r):MF L a e lo hi r:=by
 rcases hr with rfl|hr
 ·exact h
 ·rw [if_pos hr] at h;exact h
theorem fewT_seg {L:List Lc}{P:Nat→Nat→Nat→Nat→Prop}{g:Nat→Int}(h: ∀a i lo hi,P a i lo hi→MF L a (i+1) lo hi (g i)): ∀(js:List Int) (a e lo hi:Nat),SegO P js a e lo hi→MF L a e lo hi (firstPos (js.map fun j=>g j.toNat)):=by
 intro js
 induction js with
 |nil=>intro a e lo hi ⟨h1,h2⟩;subst h1;exact MF.nil L a lo hi h2
 |cons j js ih=>
  intro a e lo hi ⟨i,m,h1,h2,h3⟩
  have k1:=h _ _ _ _ h2
  have k2:=ih _ _ _ _ h3
  have:=k1.join k2
  subst h1
  simpa [firstPos] using this
theorem fewT_min {L:List Lc}(hc: ∀x∈L,x.form=2→0≤x.count): ∀(f a i lo hi:Nat),OrdL L f a i lo hi→MF L a (i+1) lo hi (fewT L f i):=by
 intro f
 induction f with
 |zero=>intro a i lo hi h;exact absurd h id
 |succ f ih=>
  intro a i lo hi ⟨x,h1,h2,h3⟩
  unfold fewT
  rw [h1]
  simp only
  rcases h3 with⟨q1,q2⟩|⟨q1,j,k,m,q2,q3,q4,q5,q6⟩|⟨q1,p,q2,q3,q4,q5⟩
  ·rw [if_neg (by omega),if_neg (by omega)]
   subst q2
   exact(MF.nil L a lo hi h2).plain h1 (by simp [flty,q1])
  ·rw [if_pos q1]
   have k1:=ih _ _ _ _ q5
   have k2:=ih _ _ _ _ q6
   have k3:=k1.join k2
   have hl:x.left.toNat=j:=by omega
   have hr:x.right.toNat=k:=by omega
   rw [hl,hr]
   have e:firstPos [fewT L f j,fewT L f k]=if 0≤fewT L f j then fewT L f j else fewT L f k:=by
    unfold firstPos
    split
    ·rfl
    ·unfold firstPos
     split
     ·rfl
     ·rcases k2.pos with e|e
      ·rw [e];rfl
      ·exact absurd e ‹_›
   rw [e,q2]
   exact k3.plain (q2▸h1) (by simp [flty,q1])
  ·rw [if_neg (by omega),if_pos q1]
   have k1:=fewT_seg (g:=fewT L f) (fun a i lo hi h=>ih a i lo hi h) _ _ _ _ _ q5
   have hcx:=hc x (List.mem_of_getElem? h1) q1
   by_cases hz:x.count=0∨(x.items.length:Int)<x.count
   ·rw [if_pos hz,q2]
    refine MF.wk (k1.head h1 q2 ?_) q3 (Nat.le_refl _)
    unfold flty
    rw [q1]
    simp
    omega
   ·rw [if_neg hz]
    refine MF.wk (k1.plain h1 ?_) (by omega) (Nat.le_refl _)
    unfold flty
    rw [q1]
    simp
    omega
theorem fewT_up {X:Nat→Prop}{w:World}{L:List Lc}: ∀(f:Nat) (v:Value) (a i:Nat),RefLX X w L f v a i→fewT L (f+1) i=fewT L f i:=by
 intro f
 induction f with
 |zero=>intro v a i h;exact absurd h id
 |succ f ih=>
  intro v a i ⟨x,hx,h⟩
  have e: ∀f,fewT L (f+1) i=if x.form=1 then firstPos [fewT L f x.left.toNat,fewT L f x.right.toNat] else if x.form=2 then(if x.count=0∨(x.items.length:Int)<x.count then x.place else firstPos (x.items.map fun j=>fewT L f j.toNat)) else -1:=fun f=>by
   rw [fewT,hx]
  rw [e,e]
  rcases h with⟨h1,h2,p,h3⟩|⟨h1,v1,v2,j,k,p,h2,h3,h4,h8,h5,h6,h7⟩|⟨h1,vs,c,h2,h3,h4,h5,h6⟩
  ·rw [if_neg (by omega),if_neg (by omega),if_neg (by omega),if_neg (by omega)]
  ·rw [if_pos h1,if_pos h1,h3,h4]
   have e1:=ih _ _ _ h6
   have e2:=ih _ _ _ h7
   simp only [Int.toNat_natCast]
   rw [e1,e2]
  ·have n1: ¬x.form=1:=by omega
   have hm:x.items.map (fun j=>fewT L (f+1) j.toNat)=x.items.map (fun j=>fewT L f j.toNat):=by
    have gen: ∀(vs:List Value) (is:List Int) (a e:Nat),SegV (fun v a i=>RefLX X w L f v a i) vs is a e→is.map (fun j=>fewT L (f+1) j.toNat)=is.map (fun j=>fewT L f j.toNat):=by
     intro vs
     induction vs with
     |nil=>intro is a e h;cases is with
      |nil=>rfl
      |cons i is=>exact absurd h id
     |cons v vs ihv=>
      intro is a e h
      cases is with
      |nil=>exact absurd h id
      |cons i is=>
       obtain⟨jj,p1,p2,p3⟩:=h
       have:=ihv is _ _ p3
       have e1:=ih _ _ _ p2
       subst p1
       simp only [List.map_cons,Int.toNat_natCast]
       rw [this,e1]
    exact gen _ _ _ _ h6
   simp only [if_neg n1,if_pos h1,hm]
theorem cfM_min: ∀(L:List Lc) (f:Int),(∀x∈L,flty x=true→0≤x.place)→(f= -1∨0≤f)→
  (cfM L f=f∧ ∀x∈L,flty x=true→f≠ -1∧f≤x.place)∨(∃x∈L,flty x=true∧cfM L f=x.place∧(∀y∈L,flty y=true→x.place≤y.place)∧(f= -1∨x.place<f)):=by
 intro L
 induction L with
 |nil=>intro f _ _;exact .inl ⟨rfl,fun x h=>by cases h⟩
 |cons x L ih=>
  intro f hp hf
  have hp': ∀y∈L,flty y=true→0≤y.place:=fun y hy=>hp y (List.mem_cons_of_mem _ hy)
  unfold cfM
  by_cases hx:flty x=true
  ·have hx2:=hx
   unfold flty at hx2
   rw [if_neg (by
    simp only [Bool.and_eq_true,Bool.not_eq_true'] at hx2
    rw [hx2.2]
    simp [show x.form=2 by simpa using hx2.1])]
   have hpx:=hp x (List.mem_cons_self ..) hx
   by_cases hl:(f== -1||decide (x.place<f))=true
   ·rw [if_pos hl]
    have hl2:f= -1∨x.place<f:=by simpa using hl
    rcases ih x.place hp' (.inr hpx) with⟨q1,q2⟩|⟨y,q1,q2,q3,q4,q5⟩
    ·refine .inr ⟨x,List.mem_cons_self ..,hx,q1,fun y hy hfy=> ?_,hl2⟩
     rcases List.mem_cons.1 hy with rfl|hy
     ·exact Int.le_refl _
     ·exact(q2 y hy hfy).2
    ·refine .inr ⟨y,List.mem_cons_of_mem _ q1,q2,q3,fun z hz hfz=> ?_,by omega⟩
     rcases List.mem_cons.1 hz with rfl|hz
     ·omega
     ·exact q4 z hz hfz
   ·rw [if_neg hl]
    have hl2:f≠ -1∧f≤x.place:=by simpa using hl
    rcases ih f hp' hf with⟨q1,q2⟩|⟨y,q1,q2,q3,q4,q5⟩
    ·refine .inl ⟨q1,fun y hy hfy=> ?_⟩
     rcases List.mem_cons.1 hy with rfl|hy
     ·exact hl2
     ·exact q2 y hy hfy
    ·refine .inr ⟨y,List.mem_cons_of_mem _ q1,q2,q3,fun z hz hfz=> ?_,q5⟩
     rcases List.mem_cons.1 hz with rfl|hz
     ·omega
     ·exact q4 z hz hfz
  ·have hx2:flty x=false:=by simpa using hx
   have hx3:=hx2
   unfold flty at hx3
   rw [if_pos (by
    cases h:(x.form==2) with
    |false=>simp [bne,h]
    |true=>rw [h] at hx3;simp only [Bool.true_and,Bool.not_eq_false'] at hx3;rw [hx3];simp)]
   rcases ih f hp' hf with⟨q1,q2⟩|⟨y,q1,q2,q3,q4,q5⟩
   ·refine .inl ⟨q1,fun y hy hfy=> ?_⟩
    rcases List.mem_cons.1 hy with rfl|hy
    ·exact absurd hfy hx
    ·exact q2 y hy hfy
   ·refine .inr ⟨y,List.mem_cons_of_mem _ q1,q2,q3,fun z hz hfz=> ?_,q5⟩
    rcases List.mem_cons.1 hz with rfl|hz
    ·exact absurd hfz hx
    ·exact q4 z hz hfz
theorem MF.cf {L:List Lc}{hi:Nat}{r:Int}(h:MF L 0 L.length 0 hi r):cfM L (-1)=r:=by
 have hp: ∀x∈L,flty x=true→0≤x.place:=fun x hx hf=>by
  obtain⟨j,hj⟩:=List.mem_iff_getElem?.1 hx
  have:=h.span j x (Nat.zero_le _) (List.getElem?_eq_some_iff.1 hj).1 hj hf
  omega
 rcases cfM_min L (-1) hp (.inl rfl) with⟨q1,q2⟩|⟨y,q1,q2,q3,q4,q5⟩
 ·rw [q1]
  rcases h.min with⟨p1,_⟩|⟨j,x,_,p1,p2,p3,p4,_⟩
  ·exact p1.symm
  ·exact absurd rfl (q2 x (List.mem_of_getElem? p2) p3).1
 ·rw [q3]
  rcases h.min with⟨p1,p2⟩|⟨j,x,_,p1,p2,p3,p4,p5⟩
  ·obtain⟨j,hj⟩:=List.mem_iff_getElem?.1 q1
   have:=p2 j y (Nat.zero_le _) (List.getElem?_eq_some_iff.1 hj).1 hj
   rw [q2] at this
   cases this
  ·have e1:=q4 x (List.mem_of_getElem? p2) p3
   obtain⟨j',hj'⟩:=List.mem_iff_getElem?.1 q1
   have e2:=p5 j' y (Nat.zero_le _) (List.getElem?_eq_some_iff.1 hj').1 hj' q2
   omega
theorem few_any {X:Nat→Prop}{w:World}{L:List Lc}(hl: ∀x∈L,x.items.length≤100000): ∀(f:Nat) (v:Value) (a i:Nat),RefLX X w L f v a i→Calls Tryz.prog 90 #[v] w fun e w'=>e= .returned (.int .i64 (fewT L f i))∧w'=w:=by
 intro f
 induction f with
 |zero=>intro v a i h;exact absurd h id
 |succ f ih=>
  intro v a i ⟨x,hx,h⟩
  have e:fewT L (f+1) i=if x.form=1 then firstPos [fewT L f x.left.toNat,fewT L f x.right.toNat] else if x.form=2 then(if x.count=0∨(x.items.length:Int)<x.count then x.place else firstPos (x.items.map fun j=>fewT L f j.toNat)) else -1:=by
   rw [fewT,hx]
  rcases h with⟨h1,h2,p,h3⟩|⟨h1,v1,v2,j,k,p,h2,h3,h4,h8,h5,h6,h7⟩|⟨h1,vs,c,h2,h3,h4,h5,h6⟩
  ·have ho:(sName.toList==[111,102])=false:=by rw [ByteArray.toList_eq];rfl
   have hr:fewT L (f+1) i=fewEnd sName x.text p ([]:List Value).length []:=by
    rw [e,if_neg (by omega),if_neg (by omega)]
    unfold fewEnd
    rw [ho];rfl
   rw [hr]
   exact few_node h3 (by simp) [] rfl (fun q=>by rw [ho] at q;cases q) (fun i vi ri h=>by simp at h)
  ·have ho:(x.text.toList==[111,102])=false:=by
    rcases h8 with h8|h8<;>(rw [h8,ByteArray.toList_eq];rfl)
   have hr:fewT L (f+1) i=fewEnd x.text ⟨#[]⟩ p [v1,v2].length [fewT L f j,fewT L f k]:=by
    rw [e,if_pos h1,h3,h4]
    unfold fewEnd
    rw [ho];rfl
   rw [hr]
   refine few_node h5 (by simp) _ rfl (fun q=>by rw [ho] at q;cases q) (fun n vi ri g1 g2=> ?_)
   match n,g1,g2 with
   |0,g1,g2=>
    have g1:v1=vi:=by simpa using g1
    have g2:fewT L f j=ri:=by simpa using g2
    subst g1 g2
    exact ih _ _ _ h6
   |1,g1,g2=>
    have g1:v2=vi:=by simpa using g1
    have g2:fewT L f k=ri:=by simpa using g2
    subst g1 g2
    exact ih _ _ _ h7
   |n+2,g1,g2=>simp at g1
  ·have ho:(sOf.toList==[111,102])=true:=by rw [ByteArray.toList_eq];rfl
   have hlen:=SegV.length _ _ _ _ h6
   have hli:=hl x (List.mem_of_getElem? hx)
   have hr:fewT L (f+1) i=fewEnd sOf ⟨#[c]⟩ x.place vs.length (x.items.map fun j=>fewT L f j.toNat):=by
    rw [e,if_neg (by omega),if_pos h1]
    unfold fewEnd
    rw [ho,if_pos rfl]
    have hcc:((⟨#[c]⟩:ByteArray).data.toList.headD 0).toNat=c.toNat:=rfl
    rw [hcc]
    by_cases hz:x.count=0∨(x.items.length:Int)<x.count
    ·rw [if_pos hz,if_pos (by omega)]
    ·rw [if_neg hz,if_neg (by omega)]
   rw [hr]
   refine few_node h5 (by omega) _ (by simp [hlen]) (fun _=>⟨c,rfl,h3,h4⟩) ?_
   have gen: ∀(vs:List Value) (is:List Int) (a e:Nat),SegV (fun v a i=>RefLX X w L f v a i) vs is a e→ ∀(n:Nat) (vi:Value) (ri:Int),vs[n]?=some vi→(is.map fun j=>fewT L f j.toNat)[n]?=some ri→Calls Tryz.prog 90 #[vi] w fun e w'=>e= .returned (.int .i64 ri)∧w'=w:=by
    intro vs
    induction vs with
    |nil=>intro is a e h n vi ri h1;simp at h1
    |cons u vs ihv=>
     intro is a e h n vi ri h1 h2
     cases is with
     |nil=>exact absurd h id
     |cons i is=>
      obtain⟨jj,p1,p2,p3⟩:=h
      cases n with
      |zero=>
       have g1:u=vi:=by simpa using h1
       have g2:fewT L f i.toNat=ri:=by simpa using h2
       subst g1 g2 p1
       exact ih _ _ _ p2
      |succ n=>exact ihv is _ _ p3 n vi ri (by simpa using h1) (by simpa using h2)
   exact gen _ _ _ _ h6
end Go.Proofs.YtkoohcilbpdgeaaGreatDoor
