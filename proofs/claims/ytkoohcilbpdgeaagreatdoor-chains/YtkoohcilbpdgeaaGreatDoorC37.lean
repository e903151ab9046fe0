import Derived.Test.YtkoohcilbpdgeaaGreatDoorC36
set_option linter.all false
set_option linter.unusedVariables false
set_option linter.unusedSimpArgs false
set_option linter.unnecessarySimpa false
set_option linter.constructorNameAsVariable false
set_option linter.deprecated false
namespace Go.Proofs.YtkoohcilbpdgeaaGreatDoor
open Go Go.RowKit
def lowM (a b:Int):Int:=if a<b then a else b
def higM (a b:Int):Int:=if b<a then a else b
def stL (nm:ByteArray)(g:List Int):List As→Nat→Int→Int
 |[],_,h=>h
 |x::xs,i,h=>stL nm g xs (i+1) (if(x.by_.toList==nm.toList)&&decide (h<typeAtM g i) then typeAtM g i else h)
def stM (A:List As)(qs:List ByteArray)(top:Nat)(g:List Int)(nm:ByteArray):Int:=if plM nm qs 0 != -1 then(top:Int) else stL nm g A 0 0
def cntM (ls:List Int)(lev:Int):List Int→Int→Int
 |[],c=>c
 |i::is,c=>cntM ls lev is (if lev≤typeAtM ls i then c+1 else c)
def cdM (ls items:List Int)(k:Int):Nat→Int
 |0=>0
 |n+1=>if k≤cntM ls ((n+1:Nat):Int) items 0 then((n+1:Nat):Int) else cdM ls items k n
def llM (sg:ByteArray→Int)(top:Nat)(ls:List Int)(x:Lc):Int:=
 if x.form==2 then cdM ls x.items x.count top else if x.form==1 then(if x.text.toList==[38,38] then lowM (typeAtM ls x.left) (typeAtM ls x.right) else higM (typeAtM ls x.left) (typeAtM ls x.right)) else sg x.text
def lcsM (sg:ByteArray→Int)(top:Nat):List Lc→List Int→List Int
 |[],ls=>ls
 |x::xs,ls=>lcsM sg top xs (ls++[llM sg top ls x])
theorem lcsM_append (sg:ByteArray→Int)(top:Nat): ∀(xs ys:List Lc) (ls:List Int),lcsM sg top (xs++ys) ls=lcsM sg top ys (lcsM sg top xs ls):=by
 intro xs
 induction xs with
 |nil=>intro ys ls;rfl
 |cons x xs ih=>intro ys ls;exact ih ys _
theorem lcsM_length (sg:ByteArray→Int)(top:Nat): ∀(xs:List Lc) (ls:List Int),(lcsM sg top xs ls).length=ls.length+xs.length:=by
 intro xs
 induction xs with
 |nil=>intro ls;rfl
 |cons x xs ih=>intro ls;unfold lcsM;rw [ih];simp;omega
theorem lcsM_step (sg:ByteArray→Int)(top:Nat){L:List Lc}{i:Nat}{x:Lc}(h:L[i]?=some x):
  lcsM sg top (L.take (i+1)) []=lcsM sg top (L.take i) []++[llM sg top (lcsM sg top (L.take i) []) x]:=by
 rw [List.take_add_one,h,lcsM_append]
 rfl
def ltM (A:List As)(W ls:List Int):List Int:=A.map fun x=>lowM (typeAtM W x.conds) (typeAtM ls x.to_)
def gvM (A:List As)(L:List Lc)(qs:List ByteArray)(top:Nat)(W:List Int):Nat→List Int
 |0=>[]
 |r+1=>ltM A W (lcsM (stM A qs top (gvM A L qs top W r)) top L [])
theorem tA_nil (i:Int):typeAtM [] i=0:=by unfold typeAtM;split<;>simp
theorem tA_nat (l:List Int)(i:Nat):typeAtM l (i:Int)=l.getD i 0:=by unfold typeAtM;rw [if_neg (by omega)];simp
theorem tA_map (A:List As)(f:As→Int)(i:Nat):typeAtM (A.map f) (i:Int)=match A[i]? with|some x=>f x|none=>0:=by
 rw [tA_nat]
 simp only [List.getD,List.getElem?_map]
 cases A[i]?<;>rfl
theorem lowM_ge {L a b:Int}:L≤lowM a b↔L≤a∧L≤b:=by unfold lowM;split<;>omega
theorem higM_ge {L a b:Int}:L≤higM a b↔L≤a∨L≤b:=by unfold higM;split<;>omega
theorem cntM_add (ls:List Int)(lev:Int): ∀(is:List Int) (c:Int),cntM ls lev is c=c+cntM ls lev is 0:=by
 intro is
 induction is with
 |nil=>intro c;simp [cntM]
 |cons i is ih=>
  intro c
  unfold cntM
  rw [ih,ih (if lev≤typeAtM ls i then 0+1 else 0)]
  split<;>omega
theorem cntM_mono {ls ls':List Int}{k k':Int}(h: ∀i,k≤typeAtM ls i→k'≤typeAtM ls' i): ∀is:List Int,cntM ls k is 0≤cntM ls' k' is 0:=by
 intro is
 induction is with
 |nil=>exact Int.le_refl _
 |cons i is ih=>
  unfold cntM
  rw [cntM_add,cntM_add ls']
  have:=h i
  split<;>split<;>omega
theorem cdM_ge (ls items:List Int)(k:Int){l:Nat}(hl:1≤l): ∀top:Nat,(l:Int)≤cdM ls items k top↔l≤top∧k≤cntM ls l items 0:=by
 intro top
 induction top with
 |zero=>unfold cdM;constructor<;>intro h<;>omega
 |succ n ih=>
  unfold cdM
  split
  ·rename_i q
   constructor
   ·intro h
    refine⟨by omega,Int.le_trans q (cntM_mono (fun i hi=>by omega) items)⟩
   ·intro h;omega
  ·rename_i q
   rw [ih]
   constructor
   ·intro ⟨h1,h2⟩;exact⟨by omega,h2⟩
   ·intro ⟨h1,h2⟩
    refine⟨?_,h2⟩
    by_cases e:l=n+1
    ·subst e;exact absurd h2 q
    ·omega
theorem cdM_range (ls items:List Int)(k:Int): ∀top:Nat,0≤cdM ls items k top∧cdM ls items k top≤top:=by
 intro top
 induction top with
 |zero=>exact⟨Int.le_refl _,Int.le_refl _⟩
 |succ n ih=>
  unfold cdM
  split<;>omega
def Thr (k:Nat)(g g':List Int):Prop:= ∀i,(k:Int)≤typeAtM g i→(k:Int)≤typeAtM g' i
theorem tA_append {l l':List Int}{i:Nat}:typeAtM (l++l') (i:Int)=if i<l.length then typeAtM l i else typeAtM l' ((i - l.length:Nat):Int):=by
 rw [tA_nat,tA_nat,tA_nat]
 simp only [List.getD]
 split
 ·rename_i h;rw [List.getElem?_append_left h]
 ·rename_i h;rw [List.getElem?_append_right (by omega)]
theorem tA_neg {l:List Int}{i:Int}(h:i<0):typeAtM l i=0:=by unfold typeAtM;rw [if_pos h]
theorem thr_snoc {k:Nat}(hk:1≤k){l l':List Int}{a b:Int}(hl:l.length=l'.length)(h:Thr k l l')(hab:(k:Int)≤a→(k:Int)≤b):Thr k (l++[a]) (l'++[b]):=by
 intro i hi
 by_cases h0:i<0
 ·rw [tA_neg h0] at hi;omega
 ·obtain⟨j,rfl⟩:=Int.eq_ofNat_of_zero_le (show 0≤i by omega)
  rw [tA_append] at hi ⊢
  rw [←hl]
  split at hi
  ·rename_i q;rw [if_pos q];exact h _ hi
  ·rename_i q
   rw [if_neg q]
   rw [tA_nat] at hi ⊢
   cases hm:j - l.length with
   |zero=>rw [hm] at hi;exact hab hi
   |succ m=>rw [hm] at hi;simp at hi;omega
theorem llM_thr {k:Nat}(hk:1≤k){sg sg':ByteArray→Int}{top:Nat}(hs: ∀nm,(k:Int)≤sg nm→(k:Int)≤sg' nm){l l':List Int}(h:Thr k l l')(x:Lc):(k:Int)≤llM sg top l x→(k:Int)≤llM sg' top l' x:=by
 unfold llM
 split
 ·rw [cdM_ge _ _ _ hk,cdM_ge _ _ _ hk]
  intro ⟨h1,h2⟩
  exact⟨h1,Int.le_trans h2 (cntM_mono h _)⟩
 ·split
  ·split
   ·rw [lowM_ge,lowM_ge];exact fun⟨a,b⟩=>⟨h _ a,h _ b⟩
   ·rw [higM_ge,higM_ge];exact fun q=>q.imp (h _) (h _)
  ·exact hs _
theorem lcsM_thr {k:Nat}(hk:1≤k){sg sg':ByteArray→Int}{top:Nat}(hs: ∀nm,(k:Int)≤sg nm→(k:Int)≤sg' nm): ∀(xs:List Lc) (l l':List Int),l.length=l'.length→Thr k l l'→Thr k (lcsM sg top xs l) (lcsM sg' top xs l'):=by
 intro xs
 induction xs with
 |nil=>intro l l' _ h;exact h
 |cons x xs ih=>
  intro l l' hl h
  exact ih _ _ (by simp [hl]) (thr_snoc hk hl h (llM_thr hk hs h x))
theorem stL_ge (nm:ByteArray)(g:List Int)(k:Int): ∀(A:List As) (i:Nat) (h:Int),k≤stL nm g A i h↔k≤h∨ ∃j x,A[j]?=some x∧x.by_.toList=nm.toList∧k≤typeAtM g ((i+j:Nat):Int)∧h<typeAtM g ((i+j:Nat):Int):=by
 intro A
 induction A with
 |nil=>intro i h;simp [stL]
 |cons x xs ih=>
  intro i h
  unfold stL
  rw [ih]
  by_cases hb:((x.by_.toList==nm.toList)&&decide (h<typeAtM g i))=true
  ·rw [if_pos hb]
   have hb':x.by_.toList=nm.toList∧h<typeAtM g i:=by simpa using hb
   constructor
   ·rintro(q|⟨j,y,h1,h2,h3,h4⟩)
    ·exact .inr ⟨0,x,rfl,hb'.1,q,hb'.2⟩
    ·exact .inr ⟨j+1,y,by simpa using h1,h2,by rw [show i+(j+1)=i+1+j by omega];exact h3,by rw [show i+(j+1)=i+1+j by omega];omega⟩
   ·rintro(q|⟨j,y,h1,h2,h3,h4⟩)
    ·exact .inl (by omega)
    ·by_cases hle:k≤typeAtM g i
     ·exact .inl hle
     ·cases j with
      |zero=>exact absurd h3 hle
      |succ j=>
       refine .inr ⟨j,y,by simpa using h1,h2,by rw [show i+1+j=i+(j+1) by omega];exact h3,?_⟩
       rw [show i+1+j=i+(j+1) by omega]
       omega
  ·rw [if_neg hb]
   constructor
   ·rintro(q|⟨j,y,h1,h2,h3,h4⟩)
    ·exact .inl q
    ·exact .inr ⟨j+1,y,by simpa using h1,h2,by rw [show i+(j+1)=i+1+j by omega];exact h3,by rw [show i+(j+1)=i+1+j by omega];exact h4⟩
   ·rintro(q|⟨j,y,h1,h2,h3,h4⟩)
    ·exact .inl q
    ·cases j with
     |zero=>
      have e:x=y:=by simpa using h1
      subst e
      exact absurd (by simpa using ⟨h2,h4⟩) hb
     |succ j=>exact .inr ⟨j,y,by simpa using h1,h2,by rw [show i+1+j=i+(j+1) by omega];exact h3,by rw [show i+1+j=i+(j+1) by omega];exact h4⟩
theorem stL_pos (nm:ByteArray)(g:List Int)(A:List As){k:Int}(hk:1≤k):k≤stL nm g A 0 0↔ ∃(j:Nat) (x:As),A[j]?=some x∧x.by_.toList=nm.toList∧k≤typeAtM g (j:Int):=by
 rw [stL_ge]
 constructor
 ·rintro(q|⟨j,x,h1,h2,h3,_⟩)
  ·omega
  ·exact⟨j,x,h1,h2,by simpa using h3⟩
 ·rintro⟨j,x,h1,h2,h3⟩
  exact .inr ⟨j,x,h1,h2,by simpa using h3,by simp;omega⟩
theorem stM_pos {A:List As}{qs:List ByteArray}{top:Nat}{g:List Int}{nm:ByteArray}{k:Int}(hk:1≤k):k≤stM A qs top g nm↔(plM nm qs 0≠ -1∧k≤top)∨(plM nm qs 0= -1∧ ∃(j:Nat) (x:As),A[j]?=some x∧x.by_.toList=nm.toList∧k≤typeAtM g (j:Int)):=by
 unfold stM
 by_cases h:plM nm qs 0= -1
 ·rw [if_neg (by simp [h]),stL_pos nm g A hk];simp [h]
 ·rw [if_pos (by simpa using h)];simp [h]
theorem stM_thr {A:List As}{qs:List ByteArray}{top k:Nat}(hk:1≤k){g g':List Int}(h:Thr k g g')(nm:ByteArray):(k:Int)≤stM A qs top g nm→(k:Int)≤stM A qs top g' nm:=by
 rw [stM_pos (by omega),stM_pos (by omega)]
 rintro(q|⟨q,j,x,h1,h2,h3⟩)
 ·exact .inl q
 ·exact .inr ⟨q,j,x,h1,h2,h _ h3⟩
theorem ltM_thr {A:List As}{W:List Int}{k:Nat}(hk:1≤k){l l':List Int}(h:Thr k l l'):Thr k (ltM A W l) (ltM A W l'):=by
 intro i hi
 by_cases h0:i<0
 ·rw [tA_neg h0] at hi;omega
 ·obtain⟨j,rfl⟩:=Int.eq_ofNat_of_zero_le (show 0≤i by omega)
  unfold ltM at hi ⊢
  rw [tA_map] at hi ⊢
  cases hq:A[j]? with
  |none=>rw [hq] at hi;simp at hi;omega
  |some x=>
   rw [hq] at hi
   simp only at hi ⊢
   rw [lowM_ge] at hi ⊢
   exact⟨hi.1,h _ hi.2⟩
theorem step_thr {A:List As}{L:List Lc}{qs:List ByteArray}{top:Nat}{W:List Int}{k:Nat}(hk:1≤k){g g':List Int}(h:Thr k g g'):Thr k (ltM A W (lcsM (stM A qs top g) top L [])) (ltM A W (lcsM (stM A qs top g') top L [])):=
 ltM_thr hk (lcsM_thr hk (stM_thr hk h) L [] [] rfl (fun i hi=>hi))
theorem gv_up {A:List As}{L:List Lc}{qs:List ByteArray}{top:Nat}{W:List Int}{k:Nat}(hk:1≤k): ∀r,Thr k (gvM A L qs top W r) (gvM A L qs top W (r+1)):=by
 intro r
 induction r with
 |zero=>intro i hi;unfold gvM at hi;rw [tA_nil] at hi;omega
 |succ r ih=>exact step_thr hk ih
theorem gv_ups {A:List As}{L:List Lc}{qs:List ByteArray}{top:Nat}{W:List Int}{k:Nat}(hk:1≤k){r r':Nat}(h:r≤r'):Thr k (gvM A L qs top W r) (gvM A L qs top W r'):=by
 induction h with
 |refl=>exact fun i hi=>hi
 |step _ ih=>exact fun i hi=>gv_up hk _ i (ih i hi)
theorem count_lt {p q:Nat→Bool}: ∀(l:List Nat) (m:Nat),(∀i,p i=true→q i=true)→m∈l→p m=false→q m=true→l.countP p+1≤l.countP q:=by
 intro l
 induction l with
 |nil=>intro m _ h;cases h
 |cons a l ih=>
  intro m h hm h1 h2
  rw [List.countP_cons,List.countP_cons]
  have hle:l.countP p≤l.countP q:=List.countP_mono_left fun i _=>h i
  rcases List.mem_cons.1 hm with e|e
  ·subst e;simp [h1,h2];omega
  ·have:=ih m h e h1 h2
   have h3:=h a
   cases hpa:p a
   ·simp;cases q a<;>simp<;>omega
   ·simp [h3 hpa];omega
theorem gv_len {A:List As}{L:List Lc}{qs:List ByteArray}{top:Nat}{W:List Int}(r:Nat):(gvM A L qs top W (r+1)).length=A.length:=by unfold gvM ltM;simp
theorem gv_lt {A:List As}{L:List Lc}{qs:List ByteArray}{top:Nat}{W:List Int}{k r:Nat}{i:Int}(hk:1≤k)(h:(k:Int)≤typeAtM (gvM A L qs top W r) i): ∃j:Nat,i=j∧j<A.length:=by
 by_cases h0:i<0
 ·rw [tA_neg h0] at h;omega
 ·obtain⟨j,rfl⟩:=Int.eq_ofNat_of_zero_le (show 0≤i by omega)
  refine⟨j,rfl,?_⟩
  cases r with
  |zero=>unfold gvM at h;rw [tA_nil] at h;omega
  |succ r=>
   rw [tA_nat] at h
   by_cases hj:j<A.length
   ·exact hj
   ·have e:(gvM A L qs top W (r+1))[j]?=none:=List.getElem?_eq_none (by rw [gv_len];omega)
    simp [List.getD,e] at h
    omega
theorem gv_fix {A:List As}{L:List Lc}{qs:List ByteArray}{top:Nat}{W:List Int}{k:Nat}(hk:1≤k):Thr k (gvM A L qs top W (A.length+1)) (gvM A L qs top W A.length):=by
 have key: ∀m,(∃r,r<m∧Thr k (gvM A L qs top W (r+1)) (gvM A L qs top W r))∨m≤(List.range A.length).countP fun(i:Nat)=>decide ((k:Int)≤typeAtM (gvM A L qs top W m) (i:Int)):=by
  intro m
  induction m with
  |zero=>exact .inr (Nat.zero_le _)
  |succ m ih=>
   rcases ih with⟨r,h1,h2⟩|h
   ·exact .inl ⟨r,by omega,h2⟩
   ·by_cases hs:Thr k (gvM A L qs top W (m+1)) (gvM A L qs top W m)
    ·exact .inl ⟨m,by omega,hs⟩
    ·refine .inr ?_
     unfold Thr at hs
     simp only [Classical.not_forall] at hs
     obtain⟨i,h1,h2⟩:=hs
     obtain⟨j,rfl,hj⟩:=gv_lt hk h1
     have:=count_lt (p:=fun(i:Nat)=>decide ((k:Int)≤typeAtM (gvM A L qs top W m) (i:Int))) (q:=fun(i:Nat)=>decide ((k:Int)≤typeAtM (gvM A L qs top W (m+1)) (i:Int))) (List.range A.length) j (fun i hi=>by simp only [decide_eq_true_eq] at hi ⊢;exact gv_up hk m _ hi) (by simpa using hj) (by simpa using h2) (by simpa using h1)
     omega
 have st: ∀r d,Thr k (gvM A L qs top W (r+1)) (gvM A L qs top W r)→Thr k (gvM A L qs top W (r+d+1)) (gvM A L qs top W (r+d)):=by
  intro r d h
  induction d with
  |zero=>exact h
  |succ d ih=>exact step_thr hk ih
 rcases key (A.length+1) with⟨r,h1,h2⟩|h
 ·have:=st r (A.length - r) h2
  rw [show r+(A.length - r)=A.length by omega] at this
  exact this
 ·have hle:(List.range A.length).countP (fun(i:Nat)=>decide ((k:Int)≤typeAtM (gvM A L qs top W (A.length+1)) (i:Int)))≤A.length:=by
   have:=List.countP_le_length (p:=fun(i:Nat)=>decide ((k:Int)≤typeAtM (gvM A L qs top W (A.length+1)) (i:Int))) (l:=List.range A.length)
   simpa using this
  omega
theorem toList_inj {a b:ByteArray}(h:a.toList=b.toList):a=b:=by
 rw [ByteArray.toList_eq,ByteArray.toList_eq] at h
 cases a;cases b
 congr
 exact Array.toList_inj.1 h
def atM:List (ByteArray×Int)→ByteArray→Int
 |[],_=>0
 |p::ps,nm=>if p.1.toList==nm.toList then p.2 else atM ps nm
def rsM:List (ByteArray×Int)→ByteArray→Int→List (ByteArray×Int)×Bool
 |[],nm,v=>([(nm,v)],decide (0<v))
 |p::ps,nm,v=>if p.1.toList==nm.toList then(if v≤p.2 then(p::ps,false) else((p.1,v)::ps,true)) else(p::(rsM ps nm v).1,(rsM ps nm v).2)
theorem rsM_flag: ∀(l:List (ByteArray×Int)) (nm:ByteArray) (v:Int),(rsM l nm v).2=decide (atM l nm<v):=by
 intro l
 induction l with
 |nil=>intro nm v;rfl
 |cons p ps ih=>
  intro nm v
  unfold rsM atM
  split
  ·split
   ·simp;omega
   ·simp;omega
  ·exact ih nm v
theorem rsM_at: ∀(l:List (ByteArray×Int)) (nm m:ByteArray) (v:Int),0≤v→atM (rsM l nm v).1 m=if m=nm then(if v≤atM l nm then atM l nm else v) else atM l m:=by
 intro l
 induction l with
 |nil=>
  intro nm m v hv
  unfold rsM atM
  simp only
  by_cases h:m=nm
  ·subst h;simp [atM];omega
  ·have h':(nm.toList==m.toList)=false:=by simpa using fun e=>h (toList_inj e).symm
   rw [h',if_neg h];rfl
 |cons p ps ih=>
  intro nm m v hv
  unfold rsM
  by_cases hp:(p.1.toList==nm.toList)=true
  ·rw [if_pos hp]
   have hpe:p.1=nm:=toList_inj (by simpa using hp)
   split
   ·rename_i hle
    by_cases h:m=nm
    ·subst h
     simp only [atM,hp,if_true]
     rw [if_pos hle]
    ·rw [if_neg h]
   ·rename_i hle
    by_cases h:m=nm
    ·subst h
     simp only [atM,hp,if_true]
     rw [if_neg hle]
    ·rw [if_neg h]
     have h':(p.1.toList==m.toList)=false:=by rw [hpe];simpa using fun e=>h (toList_inj e).symm
     simp [atM,h']
  ·rw [if_neg hp]
   have hp':(p.1.toList==nm.toList)=false:=by simpa using hp
   by_cases h:m=nm
   ·subst h
    have:=ih m m v hv
    simp only [atM,hp'] at this ⊢
    simpa using this
   ·rw [if_neg h]
    have:=ih nm m v hv
    rw [if_neg h] at this
    simp only [atM,this]
theorem rsM_len (l:List (ByteArray×Int))(nm:ByteArray)(v:Int):(rsM l nm v).1.length≤l.length+1:=by
 induction l with
 |nil=>simp [rsM]
 |cons p ps ih=>
  unfold rsM
  split
  ·split<;>simp
  ·simpa using ih
def cntV (x:Int):List Int→Int→Int
 |[],n=>n
 |y::ys,n=>cntV x ys (if x≤y then n+1 else n)
def kthL (vs:List Int)(k:Int):List Int→Int→Int
 |[],b=>b
 |x::xs,b=>kthL vs k xs (if decide (k≤cntV x vs 0)&&decide (b<x) then x else b)
theorem cntV_add (x:Int): ∀(ys:List Int) (n:Int),cntV x ys n=n+cntV x ys 0:=by
 intro ys
 induction ys with
 |nil=>intro n;simp [cntV]
 |cons y ys ih=>
  intro n
  unfold cntV
  rw [ih,ih (if x≤y then 0+1 else 0)]
  split<;>omega
theorem cntV_mono {x z:Int}: ∀ys:List Int,(∀y∈ys,x≤y→z≤y)→cntV x ys 0≤cntV z ys 0:=by
 intro ys
 induction ys with
 |nil=>intro _;exact Int.le_refl _
 |cons y ys ih=>
  intro h
  unfold cntV
  rw [cntV_add,cntV_add z]
  have h1:=ih fun u hu=>h u (List.mem_cons_of_mem _ hu)
  have h2:=h y List.mem_cons_self
  split<;>split<;>omega
theorem cntV_zero {x:Int}: ∀ys:List Int,(∀y∈ys,¬x≤y)→cntV x ys 0=0:=by
 intro ys
 induction ys with
 |nil=>intro _;rfl
 |cons y ys ih=>
  intro h
  unfold cntV
  rw [if_neg (h y List.mem_cons_self)]
  exact ih fun u hu=>h u (List.mem_cons_of_mem _ hu)
theorem least {l:Int}: ∀vs:List Int,(∃x∈vs,l≤x)→ ∃x∈vs,l≤x∧ ∀y∈vs,l≤y→x≤y:=by
 intro vs
 induction vs with
 |nil=>intro ⟨x,h,_⟩;cases h
 |cons v vs ih=>
  intro h
  by_cases hr: ∃x∈vs,l≤x
  ·obtain⟨x,h1,h2,h3⟩:=ih hr
   by_cases hv:l≤v∧v<x
   ·refine⟨v,List.mem_cons_self,hv.1,fun y hy hl=> ?_⟩
    rcases List.mem_cons.1 hy with e|e
    ·omega
    ·have:=h3 y e hl;omega
   ·refine⟨x,List.mem_cons_of_mem _ h1,h2,fun y hy hl=> ?_⟩
    rcases List.mem_cons.1 hy with e|e
    ·omega
    ·exact h3 y e hl
  ·obtain⟨x,hx,hl⟩:=h
   rcases List.mem_cons.1 hx with e|e
   ·subst e
    refine⟨x,List.mem_cons_self,hl,fun y hy hl'=> ?_⟩
    rcases List.mem_cons.1 hy with e|e
    ·omega
    ·exact absurd ⟨y,e,hl'⟩ hr
   ·exact absurd ⟨x,e,hl⟩ hr
theorem kthL_ge (vs:List Int)(k:Int)(l:Int): ∀(xs:List Int) (b:Int),l≤kthL vs k xs b↔l≤b∨ ∃x∈xs,k≤cntV x vs 0∧l≤x∧b<x:=by
 intro xs
 induction xs with
 |nil=>intro b;simp [kthL]
 |cons x xs ih=>
  intro b
  unfold kthL
  rw [ih]
  by_cases hc:(decide (k≤cntV x vs 0)&&decide (b<x))=true
  ·rw [if_pos hc]
   have hc':k≤cntV x vs 0∧b<x:=by simpa using hc
   constructor
   ·rintro(q|⟨y,h1,h2,h3,h4⟩)
    ·exact .inr ⟨x,List.mem_cons_self,hc'.1,q,hc'.2⟩
    ·exact .inr ⟨y,List.mem_cons_of_mem _ h1,h2,h3,by omega⟩
   ·rintro(q|⟨y,h1,h2,h3,h4⟩)
    ·exact .inl (by omega)
    ·rcases List.mem_cons.1 h1 with e|e
     ·subst e;exact .inl h3
     ·by_cases hx:l≤x
      ·exact .inl hx
      ·exact .inr ⟨y,e,h2,h3,by omega⟩
  ·rw [if_neg hc]
   constructor
   ·rintro(q|⟨y,h1,h2,h3,h4⟩)
    ·exact .inl q
    ·exact .inr ⟨y,List.mem_cons_of_mem _ h1,h2,h3,h4⟩
   ·rintro(q|⟨y,h1,h2,h3,h4⟩)
    ·exact .inl q
    ·rcases List.mem_cons.1 h1 with e|e
     ·subst e;exact absurd (by simpa using ⟨h2,h4⟩) hc
     ·exact .inr ⟨y,e,h2,h3,h4⟩
theorem kth_ge (vs:List Int){k l:Int}(hk:1≤k)(hl:1≤l):l≤kthL vs k vs 0↔k≤cntV l vs 0:=by
 rw [kthL_ge]
 constructor
 ·rintro(q|⟨x,h1,h2,h3,h4⟩)
  ·omega
  ·exact Int.le_trans h2 (cntV_mono vs fun y _ hy=>by omega)
 ·intro h
  by_cases he: ∃x∈vs,l≤x
  ·obtain⟨x,h1,h2,h3⟩:=least vs he
   exact .inr ⟨x,h1,Int.le_trans h (cntV_mono vs fun y hy hl'=>h3 y hy hl'),h2,by omega⟩
  ·rw [cntV_zero vs fun y hy hl'=>he ⟨y,hy,hl'⟩] at h
   omega
theorem kth_nonneg (vs:List Int)(k:Int):0≤kthL vs k vs 0:=(kthL_ge vs k 0 vs 0).2 (.inl (Int.le_refl _))
theorem eq_of_ge {a b:Int}(ha:0≤a)(hb:0≤b)(h: ∀l:Int,1≤l→(l≤a↔l≤b)):a=b:=by
 by_cases h1:a<b
 ·have:=(h b (by omega)).2 (Int.le_refl _);omega
 ·by_cases h2:b<a
  ·have:=(h a (by omega)).1 (Int.le_refl _);omega
  ·omega
theorem cntM_V (ls:List Int)(lev:Int): ∀(is:List Int) (c:Int),cntM ls lev is c=cntV lev (is.map (typeAtM ls)) c:=by
 intro is
 induction is with
 |nil=>intro c;rfl
 |cons i is ih=>intro c;unfold cntM;rw [ih];rfl
theorem kth_cd (ls items:List Int){k:Int}(hk:1≤k)(top:Nat)(ht: ∀i,typeAtM ls i≤top):kthL (items.map (typeAtM ls)) k (items.map (typeAtM ls)) 0=cdM ls items k top:=by
 refine eq_of_ge (kth_nonneg _ _) (cdM_range _ _ _ _).1 fun l hl=> ?_
 obtain⟨m,rfl⟩:=Int.eq_ofNat_of_zero_le (show 0≤l by omega)
 rw [kth_ge _ hk hl,cdM_ge _ _ _ (by omega),←cntM_V]
 constructor
 ·intro h
  refine⟨?_,h⟩
  by_cases hm:m≤top
  ·exact hm
  ·rw [cntM_V,cntV_zero _ fun y hy hl'=> ?_] at h
   ·omega
   ·obtain⟨i,_,rfl⟩:=List.mem_map.1 hy
    have:=ht i;omega
 ·exact fun h=>h.2
theorem kth_or {a b:Int}(ha:0≤a)(hb:0≤b):kthL [a,b] 1 [a,b] 0=higM a b:=by
 refine eq_of_ge (kth_nonneg _ _) (by unfold higM;split<;>omega) fun l hl=> ?_
 rw [kth_ge _ (by omega) hl,higM_ge]
 unfold cntV cntV cntV
 split<;>split<;>omega
theorem kth_and {a b:Int}(ha:0≤a)(hb:0≤b):kthL [a,b] 2 [a,b] 0=lowM a b:=by
 refine eq_of_ge (kth_nonneg _ _) (by unfold lowM;split<;>omega) fun l hl=> ?_
 rw [kth_ge _ (by omega) hl,lowM_ge]
 unfold cntV cntV cntV
 split<;>split<;>omega
theorem low_sym (x y:Int):(if y<x then y else x)=lowM x y:=by unfold lowM;split<;>split<;>omega
def Lvr (top:Nat)(l:List Int):Prop:= ∀i,0≤typeAtM l i∧typeAtM l i≤top
theorem rng_of {top:Nat}{l:List Int}(h: ∀x∈l,0≤x∧x≤top):Lvr top l:=by
 intro i
 unfold typeAtM
 split
 ·omega
 ·simp only [List.getD]
  cases hq:l[i.toNat]? with
  |none=>simp
  |some y=>exact h y (List.mem_of_getElem? hq)
theorem rng_mem {top:Nat}{l:List Int}(h:Lvr top l): ∀x∈l,0≤x∧x≤top:=by
 intro x hx
 obtain⟨i,hi,rfl⟩:=List.getElem_of_mem hx
 have:=h i
 rw [tA_nat] at this
 simpa [List.getD,List.getElem?_eq_getElem hi] using this
theorem lc_rng {sg:ByteArray→Int}{top:Nat}(hs: ∀nm,0≤sg nm∧sg nm≤top): ∀(xs:List Lc) (l:List Int),(∀x∈l,0≤x∧x≤(top:Int))→ ∀x∈lcsM sg top xs l,0≤x∧x≤(top:Int):=by
 intro xs
 induction xs with
 |nil=>intro l h;exact h
 |cons c xs ih=>
  intro l h
  refine ih _ fun x hx=> ?_
  rcases List.mem_append.1 hx with q|q
  ·exact h x q
  ·have e:x=llM sg top l c:=by simpa using q
   rw [e]
   have hr:=rng_of h
   unfold llM
   split
   ·exact cdM_range _ _ _ _
   ·split
    ·split
     ·have:=hr c.left;have:=hr c.right;unfold lowM;split<;>omega
     ·have:=hr c.left;have:=hr c.right;unfold higM;split<;>omega
    ·exact hs _
theorem lcs_rng {sg:ByteArray→Int}{top:Nat}(hs: ∀nm,0≤sg nm∧sg nm≤top)(L:List Lc):Lvr top (lcsM sg top L []):=rng_of (lc_rng hs L [] fun x h=>by cases h)
theorem lt_rng {A:List As}{W ls:List Int}{top:Nat}(hW:Lvr top W)(hl:Lvr top ls):Lvr top (ltM A W ls):=by
 refine rng_of fun x hx=> ?_
 obtain⟨a,_,rfl⟩:=List.mem_map.1 hx
 have:=hW a.conds;have:=hl a.to_
 unfold lowM;split<;>omega
theorem stM_rng {A:List As}{qs:List ByteArray}{top:Nat}{g:List Int}(hg:Lvr top g)(nm:ByteArray):0≤stM A qs top g nm∧stM A qs top g nm≤top:=by
 unfold stM
 split
 ·omega
 ·refine⟨(stL_ge nm g 0 A 0 0).2 (.inl (Int.le_refl _)),?_⟩
  by_cases h:stL nm g A 0 0≤top
  ·exact h
  ·obtain⟨j,x,_,_,h3⟩:=(stL_pos nm g A (k:=(top:Int)+1) (by omega)).1 (by omega)
   have:=hg j;omega
theorem gv_rng {A:List As}{L:List Lc}{qs:List ByteArray}{top:Nat}{W:List Int}(hW:Lvr top W): ∀r,Lvr top (gvM A L qs top W r):=by
 intro r
 induction r with
 |zero=>intro i;unfold gvM;rw [tA_nil];omega
 |succ r ih=>exact lt_rng hW (lcs_rng (stM_rng ih) L)
theorem thr_all {top:Nat}{g g':List Int}(h: ∀k:Nat,1≤k→Thr k g g')(hg':Lvr top g')(i:Int):typeAtM g i≤typeAtM g' i:=by
 by_cases h0:typeAtM g i≤0
 ·have:=hg' i;omega
 ·obtain⟨m,hm⟩:=Int.eq_ofNat_of_zero_le (show 0≤typeAtM g i by omega)
  have:=h m (by omega) i (by omega)
  omega
def gives (L:List Lc)(top:Nat)(W:List Int)(s:List (ByteArray×Int))(a:As):Int:=lowM (typeAtM W a.conds) (typeAtM (lcsM (atM s) top L []) a.to_)
def swM (L:List Lc)(top:Nat)(W:List Int):List As→List (ByteArray×Int)→Bool→List (ByteArray×Int)×Bool
 |[],s,m=>(s,m)
 |a::B,s,m=>swM L top W B (rsM s a.by_ (gives L top W s a)).1 (m||(rsM s a.by_ (gives L top W s a)).2)
structure Std (A:List As)(L:List Lc)(qs:List ByteArray)(top:Nat)(W:List Int)(s:List (ByteArray×Int)):Prop where
 rng: ∀nm,0≤atM s nm∧atM s nm≤top
 req: ∀nm,plM nm qs 0≠ -1→atM s nm=top
 low: ∀nm,atM s nm≤stM A qs top (gvM A L qs top W A.length) nm
theorem gives_rng {L:List Lc}{top:Nat}{W:List Int}{s:List (ByteArray×Int)}(hW:Lvr top W)(hs: ∀nm,0≤atM s nm∧atM s nm≤top)(a:As):0≤gives L top W s a∧gives L top W s a≤top:=by
 have h1:=hW a.conds
 have h2:=lcs_rng hs L a.to_
 unfold gives lowM;split<;>omega
theorem gives_low {A:List As}{L:List Lc}{qs:List ByteArray}{top:Nat}{W:List Int}{s:List (ByteArray×Int)}(hW:Lvr top W)(h:Std A L qs top W s){a:As}(ha:a∈A):gives L top W s a≤stM A qs top (gvM A L qs top W A.length) a.by_:=by
 have hg:=gv_rng (A:=A) (L:=L) (qs:=qs) hW
 by_cases h0:gives L top W s a≤0
 ·have:=(stM_rng (A:=A) (qs:=qs) (hg A.length) a.by_).1;omega
 ·obtain⟨k,hk⟩:=Int.eq_ofNat_of_zero_le (show 0≤gives L top W s a by omega)
  have hk1:1≤k:=by omega
  obtain⟨j,hj,rfl⟩:=List.getElem_of_mem ha
  have hx:A[j]?=some A[j]:=List.getElem?_eq_getElem hj
  have h1:(k:Int)≤gives L top W s A[j]:=by omega
  unfold gives at h1
  rw [lowM_ge] at h1
  have h2:=lcsM_thr hk1 (sg:=atM s) (sg':=stM A qs top (gvM A L qs top W A.length)) (top:=top) (fun nm hn=>Int.le_trans hn (h.low nm)) L [] [] rfl (fun i hi=>hi) _ h1.2
  have h3:(k:Int)≤typeAtM (gvM A L qs top W (A.length+1)) (j:Int):=by
   show(k:Int)≤typeAtM (ltM A W _) (j:Int)
   unfold ltM
   rw [tA_map,hx]
   exact lowM_ge.2 ⟨h1.1,h2⟩
  have h4:=gv_fix hk1 _ h3
  rw [hk]
  refine(stM_pos (by omega)).2 ?_
  by_cases hq:plM A[j].by_ qs 0= -1
  ·exact .inr ⟨hq,j,_,hx,rfl,h4⟩
  ·exact .inl ⟨hq,by have:=hW A[j].conds;omega⟩
theorem std_step {A:List As}{L:List Lc}{qs:List ByteArray}{top:Nat}{W:List Int}{s:List (ByteArray×Int)}(hW:Lvr top W)(h:Std A L qs top W s){a:As}(ha:a∈A):Std A L qs top W (rsM s a.by_ (gives L top W s a)).1:=by
 have hr:=gives_rng (L:=L) hW h.rng a
 have hl:=gives_low hW h ha
 refine⟨fun nm=> ?_,fun nm hq=> ?_,fun nm=> ?_⟩
 ·rw [rsM_at _ _ _ _ hr.1]
  have:=h.rng nm
  have:=h.rng a.by_
  split
  ·split<;>omega
  ·omega
 ·rw [rsM_at _ _ _ _ hr.1]
  have:=h.req nm hq
  split
  ·rename_i e;subst e;split<;>omega
  ·omega
 ·rw [rsM_at _ _ _ _ hr.1]
  have:=h.low nm
  split
  ·rename_i e;subst e;split<;>omega
  ·omega
theorem sw_std {A:List As}{L:List Lc}{qs:List ByteArray}{top:Nat}{W:List Int}(hW:Lvr top W): ∀(B:List As) (s:List (ByteArray×Int)) (m:Bool),(∀a∈B,a∈A)→Std A L qs top W s→Std A L qs top W (swM L top W B s m).1:=by
 intro B
 induction B with
 |nil=>intro s m _ h;exact h
 |cons a B ih=>intro s m hB h;exact ih _ _ (fun x hx=>hB x (List.mem_cons_of_mem _ hx)) (std_step hW h (hB a List.mem_cons_self))
theorem sw_flag {L:List Lc}{top:Nat}{W:List Int}: ∀(B:List As) (s:List (ByteArray×Int)) (m:Bool),(swM L top W B s m).2=false→m=false:=by
 intro B
 induction B with
 |nil=>intro s m h;exact h
 |cons a B ih=>
  intro s m h
  have:=ih _ _ h
  simp only [Bool.or_eq_false_iff] at this
  exact this.1
theorem sw_still {L:List Lc}{top:Nat}{W:List Int}(hW:Lvr top W): ∀(B:List As) (s:List (ByteArray×Int)) (m:Bool),(∀nm,0≤atM s nm∧atM s nm≤top)→(swM L top W B s m).2=false→atM (swM L top W B s m).1=atM s∧ ∀a∈B,gives L top W s a≤atM s a.by_:=by
 intro B
 induction B with
 |nil=>intro s m _ h;exact⟨rfl,fun a h=>by cases h⟩
 |cons a B ih=>
  intro s m hr h
  have hf:=sw_flag B _ _ h
  simp only [Bool.or_eq_false_iff] at hf
  have hf2:=hf.2
  rw [rsM_flag] at hf2
  have hle:gives L top W s a≤atM s a.by_:=by simpa using hf2
  have he:atM (rsM s a.by_ (gives L top W s a)).1=atM s:=by
   funext nm
   rw [rsM_at _ _ _ _ (gives_rng hW hr a).1]
   split
   ·rename_i e;subst e;first|rfl|rw [if_pos hle]
   ·rfl
  obtain⟨h1,h2⟩:=ih _ _ (by rw [he];exact hr) h
  refine⟨by rw [←he];exact h1,fun x hx=> ?_⟩
  rcases List.mem_cons.1 hx with e|e
  ·rw [e];exact hle
  ·have e2: ∀s',atM s'=atM s→gives L top W s' x=gives L top W s x:=fun s' hs=>by unfold gives;rw [hs]
   have:=h2 x e
   rw [e2 _ he,he] at this
   exact this
theorem std_final {A:List As}{L:List Lc}{qs:List ByteArray}{top:Nat}{W:List Int}{s:List (ByteArray×Int)}(hW:Lvr top W)(h:Std A L qs top W s)(hg: ∀a∈A,gives L top W s a≤atM s a.by_)(nm:ByteArray):atM s nm=stM A qs top (gvM A L qs top W A.length) nm:=by
 have key: ∀(r k:Nat),1≤k→ ∀(j:Nat) (x:As),A[j]?=some x→(k:Int)≤typeAtM (gvM A L qs top W r) (j:Int)→(k:Int)≤atM s x.by_:=by
  intro r
  induction r with
  |zero=>intro k hk j x _ h1;unfold gvM at h1;rw [tA_nil] at h1;omega
  |succ r ih=>
   intro k hk j x hx h1
   have h1:(k:Int)≤typeAtM (ltM A W (lcsM (stM A qs top (gvM A L qs top W r)) top L [])) (j:Int):=h1
   unfold ltM at h1
   rw [tA_map,hx] at h1
   have h1:=lowM_ge.1 h1
   have h2:=lcsM_thr hk (sg:=stM A qs top (gvM A L qs top W r)) (sg':=atM s) (top:=top) (fun nm hn=> ?_) L [] [] rfl (fun i hi=>hi) _ h1.2
   ·exact Int.le_trans (lowM_ge.2 ⟨h1.1,h2⟩) (hg x (List.mem_of_getElem? hx))
   ·rcases(stM_pos (by omega)).1 hn with⟨q1,q2⟩|⟨_,j',y,q2,q3,q4⟩
    ·rw [h.req nm q1];exact q2
    ·have:=ih k hk j' y q2 q4
     rw [toList_inj q3] at this
     exact this
 refine eq_of_ge (h.rng nm).1 (stM_rng (gv_rng hW _) nm).1 fun l hl=> ?_
 obtain⟨k,rfl⟩:=Int.eq_ofNat_of_zero_le (show 0≤l by omega)
 constructor
 ·intro h1;exact Int.le_trans h1 (h.low nm)
 ·intro h1
  rcases(stM_pos (by omega)).1 h1 with⟨q1,q2⟩|⟨_,j',y,q2,q3,q4⟩
  ·rw [h.req nm q1];exact q2
  ·have:=key _ k (by omega) j' y q2 q4
   rw [toList_inj q3] at this
   exact this
def lackM (top:Nat)(s:List (ByteArray×Int)):List As→Nat
 |[]=>0
 |a::B=>((top:Int)- atM s a.by_).toNat+lackM top s B
theorem lack_le {top:Nat}{s s':List (ByteArray×Int)}(h: ∀nm,atM s nm≤atM s' nm): ∀A:List As,lackM top s' A≤lackM top s A:=by
 intro A
 induction A with
 |nil=>exact Nat.le_refl _
 |cons a A ih=>unfold lackM;have:=h a.by_;omega
theorem lack_lt {top:Nat}{s s':List (ByteArray×Int)}(h: ∀nm,atM s nm≤atM s' nm): ∀(A:List As) (a:As),a∈A→atM s a.by_<atM s' a.by_→atM s' a.by_≤top→lackM top s' A<lackM top s A:=by
 intro A
 induction A with
 |nil=>intro a h;cases h
 |cons b A ih=>
  intro a ha h1 h2
  unfold lackM
  have hb:=h b.by_
  rcases List.mem_cons.1 ha with e|e
  ·subst e;have:=lack_le (top:=top) h A;omega
  ·have:=ih a e h1 h2;omega
theorem sw_lack {A:List As}{L:List Lc}{top:Nat}{W:List Int}(hW:Lvr top W): ∀(B:List As) (s:List (ByteArray×Int)) (m:Bool),(∀a∈B,a∈A)→(∀nm,0≤atM s nm∧atM s nm≤top)→(∀nm,atM s nm≤atM (swM L top W B s m).1 nm)∧((swM L top W B s m).2=true→m=true∨lackM top (swM L top W B s m).1 A<lackM top s A):=by
 intro B
 induction B with
 |nil=>intro s m _ _;exact⟨fun nm=>Int.le_refl _,fun h=> .inl h⟩
 |cons a B ih=>
  intro s m hB hr
  have hg:=gives_rng (L:=L) hW hr a
  have hr2: ∀nm,0≤atM (rsM s a.by_ (gives L top W s a)).1 nm∧atM (rsM s a.by_ (gives L top W s a)).1 nm≤top:=fun nm=>by
   rw [rsM_at _ _ _ _ hg.1]
   have:=hr nm;have:=hr a.by_
   split
   ·split<;>omega
   ·omega
  have hup: ∀nm,atM s nm≤atM (rsM s a.by_ (gives L top W s a)).1 nm:=fun nm=>by
   rw [rsM_at _ _ _ _ hg.1]
   split
   ·rename_i e;subst e;split<;>omega
   ·exact Int.le_refl _
  obtain⟨h1,h2⟩:=ih _ (m||(rsM s a.by_ (gives L top W s a)).2) (fun x hx=>hB x (List.mem_cons_of_mem _ hx)) hr2
  refine⟨fun nm=>Int.le_trans (hup nm) (h1 nm),fun hm=> ?_⟩
  rcases h2 hm with q|q
  ·by_cases hm0:m=true
   ·exact .inl hm0
   ·have hm1:m=false:=by simpa using hm0
    rw [rsM_flag] at q
    have hlt:atM s a.by_<gives L top W s a:=by simpa [hm1] using q
    refine .inr (Nat.lt_of_le_of_lt (lack_le h1 A) (lack_lt hup A a (hB a List.mem_cons_self) ?_ (hr2 _).2))
    rw [rsM_at _ _ _ _ hg.1,if_pos rfl]
    split<;>omega
  ·exact .inr (Nat.lt_of_lt_of_le q (lack_le hup A))
theorem lack_bound {top:Nat}{s:List (ByteArray×Int)}(h: ∀nm,0≤atM s nm): ∀A:List As,lackM top s A≤A.length*top:=by
 intro A
 induction A with
 |nil=>exact Nat.zero_le _
 |cons a A ih=>
  unfold lackM
  have:=h a.by_
  rw [List.length_cons,Nat.add_mul,Nat.one_mul]
  omega
theorem sw_len {L:List Lc}{top:Nat}{W:List Int}: ∀(B:List As) (s:List (ByteArray×Int)) (m:Bool),(swM L top W B s m).1.length≤s.length+B.length:=by
 intro B
 induction B with
 |nil=>intro s m;exact Nat.le_refl _
 |cons a B ih=>intro s m;have:=ih (rsM s a.by_ (gives L top W s a)).1 (m||(rsM s a.by_ (gives L top W s a)).2);have:=rsM_len s a.by_ (gives L top W s a);simp;unfold swM;omega
end Go.Proofs.YtkoohcilbpdgeaaGreatDoor
