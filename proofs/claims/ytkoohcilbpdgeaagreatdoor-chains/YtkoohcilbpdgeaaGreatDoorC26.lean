import Derived.Test.YtkoohcilbpdgeaaGreatDoorC25
set_option linter.all false
set_option linter.unusedVariables false
set_option linter.unusedSimpArgs false
set_option linter.unnecessarySimpa false
set_option linter.constructorNameAsVariable false
set_option linter.deprecated false
namespace Go.Proofs.YtkoohcilbpdgeaaGreatDoor
open Go Go.RowKit
attribute [local go_sem] wrap64_byte
theorem worthsM_take (l:List (ByteArray×ByteArray))(E:List Ex)(i:Nat)(hi:i≤E.length):(worthsM l E []).take i=worthsM l (E.take i) []:=by
 obtain⟨us,h⟩:=worthsM_prefix l (E.drop i) (worthsM l (E.take i) [])
 rw [←worthsM_append,List.take_append_drop] at h
 rw [h]
 have hl:(worthsM l (E.take i) []).length=i:=by rw [worthsM_length];simp;omega
 rw [List.take_append_of_le_length (by omega),List.take_of_length_le (by omega)]
theorem wAt_row (l:List (ByteArray×ByteArray)){E:List Ex}{i:Nat}{x:Ex}(h:E[i]?=some x):
  wAt (worthsM l E []) i=wOf l x (wAt (worthsM l (E.take i) []) x.left) (wAt (worthsM l (E.take i) []) x.right):=by
 have hi:=(List.getElem?_eq_some_iff.1 h).1
 have h1:=worthsM_take l E (i+1) (by omega)
 rw [worthsM_step l h] at h1
 have hl:(worthsM l (E.take i) []).length=i:=by rw [worthsM_length];simp;omega
 have h2:(worthsM l E [])[i]?=some (wOf l x (wAt (worthsM l (E.take i) []) x.left) (wAt (worthsM l (E.take i) []) x.right)):=by
  have h3:((worthsM l E []).take (i+1))[i]?=(worthsM l E [])[i]?:=List.getElem?_take_of_lt (by omega)
  rw [←h3,h1,List.getElem?_append_right (by omega),hl]
  simp
 generalize wOf l x (wAt (worthsM l (E.take i) []) x.left) (wAt (worthsM l (E.take i) []) x.right)=R at h2 ⊢
 unfold wAt
 rw [if_neg (by omega)]
 simp [List.getD,h2]
theorem wAt_take (l:List (ByteArray×ByteArray))(E:List Ex){i j:Nat}(hi:i≤E.length)(hj:j<i):wAt (worthsM l (E.take i) []) (j:Int)=wAt (worthsM l E []) (j:Int):=by
 rw [←worthsM_take l E i hi]
 unfold wAt
 rw [if_neg (by omega),if_neg (by omega)]
 simp only [List.getD]
 rw [show((j:Int)).toNat=j by omega,List.getElem?_take_of_lt hj]
theorem isForm {x:Ex}{k j:Int}(h:x.form=k)(hne:k≠j):(x.form==j)=false:=by rw [h];simpa using hne
theorem RefEX.le {X:Nat→Prop}{w:World}{E:List Ex}: ∀{f:Nat} {v:Value} {a i:Nat},RefEX X w E f v a i→a≤i:=by
 intro f
 induction f with
 |zero=>intro v a i h;exact absurd h id
 |succ f ih=>
  intro v a i h
  obtain⟨x,hx,h⟩:=h
  rcases h with⟨_,h,_⟩|⟨_,h,_⟩|⟨_,h,_⟩|⟨_,h,_⟩|⟨_,h,_⟩|⟨_,v1,j,h2,_,_,h5⟩|⟨_,v1,v2,j,k,h2,_,_,_,h6,h7⟩
  ·omega
  ·omega
  ·omega
  ·omega
  ·omega
  ·have:=ih h5;omega
  ·have:=ih h6;have:=ih h7;omega
theorem worth_E {X:Nat→Prop}{E:List Ex}(hg:GoodE E)(l:List (ByteArray×ByteArray))(lv:Value)(lb:Nat)(hll:l.length≤100000)(hls: ∀p∈l,p.2.size≤600)(hE: ∀x∈E,x.text.size≤600)
  (hW: ∀x∈worthsM l E [],x.text.size≤100000000∧ -999999999≤x.num∧x.num≤999999999):
  ∀(f:Nat) (v:Value) (a i:Nat) (w:World),RefEX X w E f v a i→w.ownsRow lb 144 2 lv l.length ((l.map prCells).flatten)→Calls Tryz.prog 55 #[v,lv] w fun e w'=>DPost (wAt (worthsM l E []) i) w e w':=by
 have hbd: ∀j:Int,(wAt (worthsM l E []) j).text.size≤100000000∧ -999999999≤(wAt (worthsM l E []) j).num∧(wAt (worthsM l E []) j).num≤999999999:=fun j=>by
  rcases wAt_mem (worthsM l E []) j with q|q
  ·rw [q];decide
  ·exact hW _ q
 intro f
 induction f with
 |zero=>intro v a i w h;exact absurd h id
 |succ f ih=>
  intro v a i w h hl
  obtain⟨x,hx,h⟩:=h
  have hi:=(List.getElem?_eq_some_iff.1 hx).1
  have hxm:x∈E:=List.mem_of_getElem? hx
  have hxs:=hE x hxm
  rw [wAt_row l hx]
  rcases h with⟨hf,_,p,hn⟩|⟨hf,_,p,hn⟩|⟨hf,_,ht,p,hn⟩|⟨hf,_,p,hn⟩|⟨hf,_,p,hn⟩|⟨hf,v1,j,h2,h3,h4,h5⟩|⟨hf,v1,v2,j,k,h2,h3,h4,h5,h6,h7⟩
  ·have e: ∀a b,wOf l x a b=nsM x.text:=fun a b=>by unfold wOf;rw [hf];rfl
   rw [e]
   exact worth_num hn lv hxs
  ·have e: ∀a b,wOf l x a b=wStr x.text:=fun a b=>by unfold wOf;rw [hf];rfl
   rw [e]
   exact worth_str hn lv
  ·have e: ∀a b,wOf l x a b=wBool (x.text.toList==[116,114,117,101]):=fun a b=>by unfold wOf;rw [hf];rfl
   rw [e,ByteArray.toList_eq]
   rcases ht with ht|ht
   ·rw [ht]
    have hxt:x.text=⟨#[116,114,117,101]⟩:=by
     apply ByteArray.ext
     apply Array.ext'
     exact ht
    rw [hxt] at hn
    exact worth_true hn lv
   ·rw [ht]
    have hxt:x.text=⟨#[102,97,108,115,101]⟩:=by
     apply ByteArray.ext
     apply Array.ext'
     exact ht
    rw [hxt] at hn
    exact worth_false hn lv
  ·have e: ∀a b,wOf l x a b=wStr (valM x.text l):=fun a b=>by unfold wOf;rw [hf];rfl
   rw [e]
   exact worth_attr hn lv lb l hl hll
  ·have e: ∀a b,wOf l x a b=nsM (valM x.text l):=fun a b=>by unfold wOf;rw [hf];rfl
   rw [e]
   exact worth_at hn lv lb l hl hll hls
  ·have e: ∀a b,wOf l x a b=prefM x.text a:=fun a b=>by unfold wOf;rw [hf];rfl
   rw [e,h3,wAt_take l E (by omega) (by omega)]
   have hrec: ∀W,Below w.heap.size w W→Calls Tryz.prog 55 #[v1,lv] W fun e w'=>DPost (wAt (worthsM l E []) (j:Int)) W e w':=fun W hB=>
    ih v1 a j W (h5.keepX (below_same hB)) (ownsRow_same hl fun k e=>hB.block k (hl.lt k e).2)
   have hb:=hbd (j:Int)
   generalize wAt (worthsM l E []) (j:Int)=Y at*
   obtain⟨yk,yb,yn,yt⟩:=Y
   rcases h4 with⟨ht,hn⟩|⟨ht,hn⟩
   ·rw [ht]
    exact worth_not hn lv yk yb yn yt hb.2 hrec
   ·rw [ht]
    exact worth_neg hn lv yk yb yn yt hb.2 hrec
  ·have e: ∀a b,wOf l x a b=pairM x.text a b:=fun a b=>by unfold wOf;rw [hf];rfl
   have hjk:=h7.le
   rw [e,h3,h4,wAt_take l E (by omega) (by omega),wAt_take l E (by omega) (by omega)]
   have hb1:=hbd (j:Int)
   have hb2:=hbd (k:Int)
   exact worth_pair h5 lv ((hg x hxm).2 hf) _ _ (by omega) (by omega)
    (fun W hB=>ih v1 a j W (h6.keepX (below_same hB)) (ownsRow_same hl fun k e=>hB.block k (hl.lt k e).2))
    (fun W hB=>ih v2 (j+1) k W (h7.keepX (below_same hB)) (ownsRow_same hl fun k e=>hB.block k (hl.lt k e).2))
def Rng (E:List Ex):Nat→Nat→Nat→Prop
 |0,_,_=>False
 |f+1,a,i=> ∃x,E[i]?=some x∧((0≤x.form∧x.form≤4∧a=i)∨(x.form=5∧ ∃j:Nat,i=j+1∧x.left=(j:Int)∧Rng E f a j)∨
   (x.form=6∧ ∃j k:Nat,i=k+1∧x.left=(j:Int)∧x.right=(k:Int)∧Rng E f a j∧Rng E f (j+1) k))
theorem RefEX.rng {X:Nat→Prop}{w:World}{E:List Ex}: ∀{f:Nat} {v:Value} {a i:Nat},RefEX X w E f v a i→Rng E f a i:=by
 intro f
 induction f with
 |zero=>intro v a i h;exact absurd h id
 |succ f ih=>
  intro v a i h
  obtain⟨x,hx,h⟩:=h
  refine⟨x,hx,?_⟩
  rcases h with⟨h1,h,_⟩|⟨h1,h,_⟩|⟨h1,h,_⟩|⟨h1,h,_⟩|⟨h1,h,_⟩|⟨h1,v1,j,h2,h3,_,h5⟩|⟨h1,v1,v2,j,k,h2,h3,h4,_,h6,h7⟩
  ·exact .inl ⟨by omega,by omega,h⟩
  ·exact .inl ⟨by omega,by omega,h⟩
  ·exact .inl ⟨by omega,by omega,h⟩
  ·exact .inl ⟨by omega,by omega,h⟩
  ·exact .inl ⟨by omega,by omega,h⟩
  ·exact .inr (.inl ⟨h1,j,h2,h3,ih h5⟩)
  ·exact .inr (.inr ⟨h1,j,k,h2,h3,h4,ih h6,ih h7⟩)
theorem Rng.le {E:List Ex}: ∀{f a i:Nat},Rng E f a i→a≤i:=by
 intro f
 induction f with
 |zero=>intro a i h;exact absurd h id
 |succ f ih=>
  intro a i h
  obtain⟨x,hx,h⟩:=h
  rcases h with⟨_,_,h⟩|⟨_,j,h2,_,h5⟩|⟨_,j,k,h2,_,_,h6,h7⟩
  ·omega
  ·have:=ih h5;omega
  ·have:=ih h6;have:=ih h7;omega
theorem Rng.sub {E:List Ex}: ∀{f a i:Nat},Rng E f a i→ ∀p,a≤p→p≤i→ ∃f' a',Rng E f' a' p:=by
 intro f
 induction f with
 |zero=>intro a i h;exact absurd h id
 |succ f ih=>
  intro a i h p h1 h2
  by_cases hp:p=i
  ·exact⟨f+1,a,hp▸h⟩
  ·obtain⟨x,hx,h⟩:=h
   rcases h with⟨_,_,h⟩|⟨_,j,q2,_,q5⟩|⟨_,j,k,q2,_,_,q6,q7⟩
   ·omega
   ·exact ih q5 p h1 (by omega)
   ·by_cases hj:p≤j
    ·exact ih q6 p h1 hj
    ·exact ih q7 p (by omega) (by omega)
theorem wNum_text (n:Int):(wNum n).text.size=0:=by unfold wNum;split<;>rfl
theorem nsM_text (t:ByteArray):(nsM t).text.size=0:=by
 unfold nsM
 simp only
 split
 ·rfl
 ·exact wNum_text _
theorem calcM_text (t:ByteArray)(a b:Int):(calcM t a b).text.size=0:=by
 unfold calcM
 repeat' split
 all_goals first|exact wNum_text _|rfl
theorem pairM_size (t:ByteArray)(x y:Wt):(pairM t x y).text.size≤x.text.size+y.text.size:=by
 unfold pairM
 repeat' split
 all_goals first|omega|(rw [calcM_text];omega)|(show(x.text++y.text).size≤_;rw [ByteArray.size_append];omega)|(show(0:Nat)≤_;omega)
theorem prefM_size (t:ByteArray)(x:Wt):(prefM t x).text.size≤x.text.size:=by
 unfold prefM
 repeat' split
 all_goals first|omega|(rw [wNum_text];omega)|(show(0:Nat)≤_;omega)
theorem Rng.size {E:List Ex}(l:List (ByteArray×ByteArray))(hls: ∀p∈l,p.2.size≤600)(hE: ∀x∈E,x.text.size≤600): ∀{f a i:Nat},Rng E f a i→(wAt (worthsM l E []) i).text.size≤600*(i+1 - a):=by
 intro f
 induction f with
 |zero=>intro a i h;exact absurd h id
 |succ f ih=>
  intro a i h
  obtain⟨x,hx,h⟩:=h
  have hi:=(List.getElem?_eq_some_iff.1 hx).1
  have hxs:=hE x (List.mem_of_getElem? hx)
  have hvs:=valM_size x.text 600 l hls
  rw [wAt_row l hx]
  rcases h with⟨h0,h4,h⟩|⟨hf,j,h2,h3,h5⟩|⟨hf,j,k,h2,h3,h4,h6,h7⟩
  ·subst h
   rw [show 600*(a+1 - a)=600 by omega]
   have hc:x.form=0∨x.form=1∨x.form=2∨x.form=3∨x.form=4:=by omega
   unfold wOf
   rcases hc with e|e|e|e|e
   ·rw [e];show(nsM x.text).text.size≤600;rw [nsM_text];omega
   ·rw [e];exact hxs
   ·rw [e];exact Nat.zero_le _
   ·rw [e];exact hvs
   ·rw [e];show(nsM (valM x.text l)).text.size≤600;rw [nsM_text];omega
  ·have e: ∀a b,wOf l x a b=prefM x.text a:=fun a b=>by unfold wOf;rw [hf];rfl
   rw [e,h3,wAt_take l E (by omega) (by omega)]
   have:=prefM_size x.text (wAt (worthsM l E []) (j:Int))
   have:=ih h5
   have:=h5.le
   omega
  ·have e: ∀a b,wOf l x a b=pairM x.text a b:=fun a b=>by unfold wOf;rw [hf];rfl
   have hjk:=h7.le
   rw [e,h3,h4,wAt_take l E (by omega) (by omega),wAt_take l E (by omega) (by omega)]
   have:=pairM_size x.text (wAt (worthsM l E []) (j:Int)) (wAt (worthsM l E []) (k:Int))
   have:=ih h6
   have:=ih h7
   have:=h6.le
   omega
def NumOk (x:Wt):Prop:= -999999999≤x.num∧x.num≤999999999
theorem wNum_ok (n:Int):NumOk (wNum n):=by
 unfold wNum
 split
 ·exact⟨by decide,by decide⟩
 ·constructor<;>simp only<;>omega
theorem wErr_ok:NumOk wErr:=⟨by decide,by decide⟩
theorem wBool_ok (b:Bool):NumOk (wBool b):=by show(-999999999:Int)≤0∧(0:Int)≤999999999;omega
theorem wStr_ok (t:ByteArray):NumOk (wStr t):=by show(-999999999:Int)≤0∧(0:Int)≤999999999;omega
theorem nsM_ok (t:ByteArray):NumOk (nsM t):=by
 unfold nsM
 simp only
 split
 ·exact wErr_ok
 ·exact wNum_ok _
theorem calcM_ok (t:ByteArray)(a b:Int):NumOk (calcM t a b):=by
 unfold calcM
 repeat' split
 all_goals first|exact wNum_ok _|exact wErr_ok
theorem ite_ok {c:Prop} [Decidable c]{a b:Wt}(ha:NumOk a)(hb:NumOk b):NumOk (if c then a else b):=by
 split
 ·exact ha
 ·exact hb
theorem pairM_ok (t:ByteArray){a b:Wt}(ha:NumOk a)(hb:NumOk b):NumOk (pairM t a b):=
 ite_ok ha (ite_ok (ite_ok ha hb) (ite_ok (ite_ok ha hb) (ite_ok hb (ite_ok (calcM_ok _ _ _) (ite_ok (wStr_ok _) (wBool_ok _))))))
theorem prefM_ok (t:ByteArray){a:Wt}(ha:NumOk a):NumOk (prefM t a):=ite_ok ha (ite_ok (wBool_ok _) (wNum_ok _))
theorem wOf_ok (l:List (ByteArray×ByteArray))(x:Ex){a b:Wt}(ha:NumOk a)(hb:NumOk b):NumOk (wOf l x a b):=
 ite_ok (nsM_ok _) (ite_ok (wStr_ok _) (ite_ok (wBool_ok _) (ite_ok (wStr_ok _) (ite_ok (nsM_ok _) (ite_ok (prefM_ok _ ha) (ite_ok (pairM_ok _ ha hb) (ite_ok ha wErr_ok)))))))
theorem worthsM_ok (l:List (ByteArray×ByteArray)): ∀(xs:List Ex) (ws:List Wt),(∀y∈ws,NumOk y)→ ∀y∈worthsM l xs ws,NumOk y:=by
 intro xs
 induction xs with
 |nil=>intro ws h;exact h
 |cons x xs ih=>
  intro ws h
  have hat: ∀i,NumOk (wAt ws i):=fun i=>by
   rcases wAt_mem ws i with q|q
   ·rw [q];exact wErr_ok
   ·exact h _ q
  refine ih _ fun y hy=> ?_
  rcases List.mem_append.1 hy with q|q
  ·exact h y q
  ·simp at q;subst q;exact wOf_ok l x (hat _) (hat _)
theorem mem_wAt {ws:List Wt}{y:Wt}(h:y∈ws): ∃p:Nat,p<ws.length∧y=wAt ws (p:Int):=by
 obtain⟨p,hp,rfl⟩:=List.getElem_of_mem h
 refine⟨p,hp,?_⟩
 unfold wAt
 rw [if_neg (by omega)]
 simp [List.getD,hp]
theorem worths_small {E:List Ex}(l:List (ByteArray×ByteArray))(hls: ∀p∈l,p.2.size≤600)(hE: ∀x∈E,x.text.size≤600)(hlen:E.length≤100000)(hsz: ∀p:Nat,p<E.length→(wAt (worthsM l E []) (p:Int)).text.size≤600*(p+1)):
  ∀x∈worthsM l E [],x.text.size≤100000000∧ -999999999≤x.num∧x.num≤999999999:=by
 intro y hy
 refine⟨?_,worthsM_ok l E [] (fun y h=>by cases h) y hy⟩
 obtain⟨p,hp,rfl⟩:=mem_wAt hy
 rw [worthsM_length] at hp
 simp at hp
 have:=hsz p hp
 omega
def nextM (s:ByteArray)(n p:Nat)(l:List (ByteArray×ByteArray)):Nat×Bool×List (ByteArray×ByteArray):=
 let v:=attrM s p false
 paM s n v.1 (v.2.1||(attrPlaceM v.2.2.1 l 0 != -1)) (l++[(v.2.2.1,v.2.2.2)])
def okP (s:ByteArray)(P:Nat×Bool×List (ByteArray×ByteArray)):List (ByteArray×ByteArray)×Bool:=(P.2.2,eofM s P.1 P.2.1)
theorem raM_next {s:ByteArray}(h:s.size≠0):raM s=okP s (nextM s (s.size+1) 0 []):=by
 unfold raM nextM okP
 rw [if_neg h]
 simp [attrPlaceM]
theorem paM_bad (s:ByteArray)(n a:Nat)(l:List (ByteArray×ByteArray)):paM s n a true l=(a,true,l):=by
 cases n with
 |zero=>rfl
 |succ n=>unfold paM;rw [show(pk s a true==59)=false from rfl];rfl
theorem ok_bad (s:ByteArray)(n a:Nat)(l:List (ByteArray×ByteArray)):(okP s (paM s n a true l)).2=true:=by rw [paM_bad];rfl
theorem paM_stop {s:ByteArray}{n a:Nat}{d:Bool}{l:List (ByteArray×ByteArray)}(h:(pk s a d==59)=false):paM s n a d l=(a,d,l):=by
 cases n with
 |zero=>rfl
 |succ n=>unfold paM;rw [h];rfl
theorem paM_go {s:ByteArray}{n a:Nat}{l:List (ByteArray×ByteArray)}(h:(pk s a false==59)=true):paM s (n+1) a false l=nextM s n (a+1) l:=by
 conv=>lhs;unfold paM
 rw [h];rfl
theorem attrM_bad {s:ByteArray}{p:Nat}(h:(wordM s (bareName s p false).2.1 [61] (bareName s p false).1).2=true):(attrM s p false).2.1=true:=h
def valEnd (s:ByteArray)(a:Nat):Nat:=run isValue s false (s.size - a) a
theorem valEnd_stop (s:ByteArray)(a:Nat)(h:a≤s.size):isValue (pk s (valEnd s a) false)=false:=by
 unfold valEnd
 have hle:=run_le isValue (by decide) s false (s.size - a) a h
 cases hq:isValue (pk s (run isValue s false (s.size - a) a) false) with
 |false=>rfl
 |true=>
  have hlt:=(pk_lt (s:=s) (a:=run isValue s false (s.size - a) a) (d:=false) (fun e=>by rw [e] at hq;exact absurd hq (by decide))).2
  exfalso
  have key: ∀k a,run isValue s false k a<a+k→isValue (pk s (run isValue s false k a) false)=false:=by
   intro k
   induction k with
   |zero=>intro a h;simp [run] at h
   |succ k ih=>
    intro a h
    unfold run at h ⊢
    by_cases hc:isValue (pk s a false)=true
    ·rw [if_pos hc] at h ⊢
     exact ih (a+1) (by omega)
    ·rw [if_neg hc] at h ⊢
     simpa using hc
  have:=key (s.size - a) a (by omega)
  rw [this] at hq
  cases hq
theorem valEnd_20 {s:ByteArray}{a:Nat}(h:a≤s.size)(h20:valEnd s a≤a+20):run isValue s false 20 a=valEnd s a:=by
 have hle:=run_le isValue (by decide) s false (s.size - a) a h
 exact run_through (valEnd_stop s a h) 20 a hle.1 h20 fun j h1 h2=>run_all isValue s false _ a j h1 h2
theorem valEnd_over {s:ByteArray}{a:Nat}(h:a≤s.size)(h20:a+20<valEnd s a):run isValue s false 20 a=a+20∧isValue (pk s (a+20) false)=true:=by
 have hall: ∀j,a≤j→j<valEnd s a→isValue (pk s j false)=true:=fun j h1 h2=>run_all isValue s false _ a j h1 h2
 refine⟨?_,hall _ (by omega) h20⟩
 have key: ∀k b,(∀j,b≤j→j<b+k→isValue (pk s j false)=true)→run isValue s false k b=b+k:=by
  intro k
  induction k with
  |zero=>intro b _;rfl
  |succ k ih=>
   intro b hb
   rw [run_go (hb b (Nat.le_refl _) (by omega)),ih (b+1) fun j h1 h2=>hb j (by omega) (by omega)]
   omega
 exact key 20 a fun j h1 h2=>hall j h1 (by omega)
theorem next_long {s:ByteArray}{n p f:Nat}{l:List (ByteArray×ByteArray)}(hp:p≤s.size)(hw:wordM s (bareName s p false).2.1 [61] (bareName s p false).1=(f,false))(hf:f≤s.size)(h:f+20<valEnd s f):(okP s (nextM s n p l)).2=true:=by
 obtain⟨h1,h2⟩:=valEnd_over hf h
 have hr:(attrM s p false).1=f+20:=by unfold attrM;simp only;rw [hw];exact h1
 have hd:(attrM s p false).2.1=false:=by unfold attrM;simp only;rw [hw]
 unfold nextM
 simp only
 rw [hr,hd]
 cases attrPlaceM (attrM s p false).2.2.1 l 0 != -1 with
 |true=>exact ok_bad _ _ _ _
 |false=>
  have hlt:=(pk_lt (s:=s) (a:=f+20) (d:=false) (fun e=>by rw [e] at h2;exact absurd h2 (by decide))).2
  rw [show(false||false)=false from rfl,paM_stop (by
   cases hq:(pk s (f+20) false==59) with
   |false=>rfl
   |true=>
     have e:pk s (f+20) false=59:=by simpa using hq
     rw [e] at h2;exact absurd h2 (by decide))]
  simp [okP,eofM,hlt]
theorem next_bad {s:ByteArray}{n p:Nat}{l:List (ByteArray×ByteArray)}(h:(wordM s (bareName s p false).2.1 [61] (bareName s p false).1).2=true):(okP s (nextM s n p l)).2=true:=by
 unfold nextM
 simp only
 rw [attrM_bad h]
 exact ok_bad _ _ _ _
theorem next_dup {s:ByteArray}{n p:Nat}{l:List (ByteArray×ByteArray)}(h:(attrPlaceM (bareName s p false).2.2 l 0 != -1)=true):(okP s (nextM s n p l)).2=true:=by
 unfold nextM
 simp only
 rw [show(attrM s p false).2.2.1=(bareName s p false).2.2 from rfl,h,Bool.or_true]
 exact ok_bad _ _ _ _
theorem next_one {s:ByteArray}{n p f:Nat}{l:List (ByteArray×ByteArray)}(hw:wordM s (bareName s p false).2.1 [61] (bareName s p false).1=(f,false))(hf:f≤s.size)(h20:valEnd s f≤f+20)(hdup:(attrPlaceM (bareName s p false).2.2 l 0 != -1)=false):
  nextM s n p l=paM s n (valEnd s f) false (l++[((bareName s p false).2.2,s.extract f (valEnd s f))]):=by
 have e:attrM s p false=(valEnd s f,false,(bareName s p false).2.2,s.extract f (valEnd s f)):=by
  unfold attrM
  simp only
  rw [hw]
  simp only
  rw [valEnd_20 hf h20]
 unfold nextM
 rw [e]
 simp only
 rw [hdup]
 rfl
end Go.Proofs.YtkoohcilbpdgeaaGreatDoor
