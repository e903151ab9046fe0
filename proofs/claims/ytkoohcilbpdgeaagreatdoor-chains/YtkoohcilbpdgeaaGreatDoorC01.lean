import Derived.WalkKit
import Derived.WalkSpells
import Derived.WalkLawsBesides
import Derived.Deep.QuietTactic
import Derived.BigQuiet
import Derived.Test.YtkoohcilbpdgeaaGreatDoorProg
import Derived.Deep.AppendLies
import Derived.Deep.RegionLaw
set_option linter.all false
set_option linter.unusedVariables false
set_option linter.unusedSimpArgs false
set_option linter.unnecessarySimpa false
set_option linter.constructorNameAsVariable false
set_option linter.deprecated false
set_option maxRecDepth 100000
set_option maxHeartbeats 6400000
namespace Go.Proofs.YtkoohcilbpdgeaaGreatDoor
open Go Go.RowKit
def pk (s:ByteArray)(a:Nat)(d:Bool):Int:=if d then -1 else if h:a<s.size then(s[a].toNat:Int) else -1
structure Rd (w:World)(b:Nat)(s:ByteArray)(a:Nat)(d:Bool):Prop where
 c0:w.cell? ⟨b,0,none⟩=some (.string s)
 c1:w.cell? ⟨b,1,none⟩=some (.int .i64 a)
 c2:w.cell? ⟨b,2,none⟩=some (.bool d)
 f1:w.frozen? ⟨b,1,none⟩=false
 f2:w.frozen? ⟨b,2,none⟩=false
 le:a≤s.size
 sz:s.size≤600
structure Sc (b:Nat)(w w':World):Prop where
 os:w'.os=w.os
 tape:w'.tape=w.tape
 output:w'.output=w.output
 size:w'.heap.size=w.heap.size
 block: ∀k,k≠b→w'.heap[k]?=w.heap[k]?
 cell: ∀o,o≠1→o≠2→w'.cell? ⟨b,o,none⟩=w.cell? ⟨b,o,none⟩
 frozen: ∀o,w'.frozen? ⟨b,o,none⟩=w.frozen? ⟨b,o,none⟩
theorem Sc.refl (b:Nat)(w:World):Sc b w w:=⟨rfl,rfl,rfl,rfl,fun _ _=>rfl,fun _ _ _=>rfl,fun _=>rfl⟩
theorem Sc.trans {b:Nat}{u v w:World}(h:Sc b u v)(k:Sc b v w):Sc b u w:=
 ⟨k.os.trans h.os,k.tape.trans h.tape,k.output.trans h.output,k.size.trans h.size,fun i hi=>(k.block i hi).trans (h.block i hi),
  fun o h1 h2=>(k.cell o h1 h2).trans (h.cell o h1 h2),fun o=>(k.frozen o).trans (h.frozen o)⟩
theorem Sc.drew {b:Nat}{u w:World}(h:Sc b u w):Sc b u w.drew:=⟨h.os,h.tape,h.output,h.size,h.block,h.cell,h.frozen⟩
theorem Sc.drewN {b:Nat}{u w:World}(h:Sc b u w)(n:Nat):Sc b u (w.drewN n):=⟨h.os,h.tape,h.output,h.size,h.block,h.cell,h.frozen⟩
theorem setCell_other (w:World)(b o p:Nat)(v:Value)(h:p≠o):(w.setCell ⟨b,o,none⟩ v).cell? ⟨b,p,none⟩=w.cell? ⟨b,p,none⟩:=
 World.cell?_setCell_other _ _ _ _ (fun e=>h (by injection e with _ e2;exact e2.symm))
theorem Sc.setCell {b:Nat}{u w:World}(h:Sc b u w)(o:Nat)(ho:o=1∨o=2)(v:Value):Sc b u (w.setCell ⟨b,o,none⟩ v):=
 h.trans ⟨rfl,rfl,rfl,by simp [World.setCell],fun k hk=>Below.heap_setCell _ _ _ _ hk,
  fun p h1 h2=>setCell_other w b o p v (by omega),fun p=>World.frozen?_setCell _ _ _ _⟩
theorem Rd.drewN {w:World}{b:Nat}{s:ByteArray}{a:Nat}{d:Bool}(h:Rd w b s a d)(n:Nat):Rd (w.drewN n) b s a d:=⟨h.c0,h.c1,h.c2,h.f1,h.f2,h.le,h.sz⟩
theorem Rd.setAt {w:World}{b:Nat}{s:ByteArray}{a:Nat}{d:Bool}(h:Rd w b s a d)(a':Nat)(ha:a'≤s.size):Rd (w.setCell ⟨b,1,none⟩ (.int .i64 a')) b s a' d:=
 ⟨(setCell_other _ _ _ _ _ (by omega)).trans h.c0,World.cell?_setCell_same _ _ _ h.c1,(setCell_other _ _ _ _ _ (by omega)).trans h.c2,
  (World.frozen?_setCell _ _ _ _).trans h.f1,(World.frozen?_setCell _ _ _ _).trans h.f2,ha,h.sz⟩
theorem Rd.setAt' {w:World}{b:Nat}{s:ByteArray}{a:Nat}{d:Bool}(h:Rd w b s a d)(a':Nat)(x:Int)(hx:x=(a':Int))(ha:a'≤s.size):Rd (w.setCell ⟨b,1,none⟩ (.int .i64 x)) b s a' d:=by
 rw [hx];exact h.setAt a' ha
theorem Rd.setBad {w:World}{b:Nat}{s:ByteArray}{a:Nat}{d:Bool}(h:Rd w b s a d)(d':Bool):Rd (w.setCell ⟨b,2,none⟩ (.bool d')) b s a d':=
 ⟨(setCell_other _ _ _ _ _ (by omega)).trans h.c0,(setCell_other _ _ _ _ _ (by omega)).trans h.c1,World.cell?_setCell_same _ _ _ h.c2,
  (World.frozen?_setCell _ _ _ _).trans h.f1,(World.frozen?_setCell _ _ _ _).trans h.f2,h.le,h.sz⟩
theorem hide {p:Prop}(h:p):Hid p:=h
theorem wrap64_byte (c:UInt8):wrap64 (c.toNat:Int)=c.toNat:=by
 have:=c.toNat_lt
 unfold wrap64
 omega
def atOf (w:World)(b:Nat):Nat:=match w.cell? ⟨b,1,none⟩ with|some (.int _ n)=>n.toNat|_=>0
theorem Rd.atOf {w:World}{b:Nat}{s:ByteArray}{a:Nat}{d:Bool}(h:Rd w b s a d):atOf w b=a:=by
 unfold YtkoohcilbpdgeaaGreatDoor.atOf
 rw [h.c1]
 simp
theorem pk_lt {s:ByteArray}{a:Nat}{d:Bool}(h:pk s a d≠ -1):d=false∧a<s.size:=by
 unfold pk at h
 cases d with
 |true=>exact absurd rfl h
 |false=>
  refine⟨rfl,?_⟩
  by_cases hl:a<s.size
  ·exact hl
  ·simp [hl] at h
theorem pk_range (s:ByteArray)(a:Nat)(d:Bool): -1≤pk s a d∧pk s a d≤255:=by
 unfold pk
 split
 ·omega
 ·split
  ·have:=(s[a]).toNat_lt;omega
  ·omega
def run (p:Int→Bool)(s:ByteArray)(d:Bool):Nat→Nat→Nat
 |0,a=>a
 |k+1,a=>if p (pk s a d) then run p s d k (a+1) else a
def isBlank (c:Int):Bool:=c==32
def isLetter (c:Int):Bool:=decide (97≤c)&&decide (c≤122)||decide (65≤c)&&decide (c≤90)
def isDigit (c:Int):Bool:=decide (48≤c)&&decide (c≤57)
def isQuotable (c:Int):Bool:=(c != -1)&&(c !=34)&&(c !=10)
def skip (s:ByteArray)(a:Nat)(d:Bool):Nat:=run isBlank s d (s.size - a) a
theorem run_le (p:Int→Bool)(hp:p (-1)=false)(s:ByteArray)(d:Bool): ∀k a,a≤s.size→a≤run p s d k a∧run p s d k a≤s.size:=by
 intro k
 induction k with
 |zero=>intro a h;exact⟨Nat.le_refl _,h⟩
 |succ k ih=>
  intro a h
  unfold run
  by_cases hc:p (pk s a d)
  ·rw [if_pos hc]
   have hl:pk s a d≠ -1:=fun e=>by rw [e,hp] at hc;cases hc
   have:=ih (a+1) (pk_lt hl).2
   omega
  ·rw [if_neg hc];omega
theorem skip_le {s:ByteArray}{a:Nat}{d:Bool}(h:a≤s.size):a≤skip s a d∧skip s a d≤s.size:=run_le _ (by decide) s d _ a h
theorem skip_step {s:ByteArray}{a:Nat}{d:Bool}(h:pk s a d=32):skip s (a+1) d=skip s a d:=by
 have hl:=(pk_lt (s:=s) (a:=a) (d:=d) (by omega)).2
 unfold skip
 obtain⟨k,hk⟩: ∃k,s.size - a=k+1:=⟨s.size - a - 1,by omega⟩
 rw [hk,show s.size -(a+1)=k by omega]
 conv=>rhs;unfold run
 rw [if_pos (by simp [isBlank,h])]
theorem skip_stop {s:ByteArray}{a:Nat}{d:Bool}(h:pk s a d≠32):skip s a d=a:=by
 unfold skip
 cases hk:s.size - a with
 |zero=>rfl
 |succ k=>unfold run;rw [if_neg (by simp [isBlank,h])]
def wordM (s:ByteArray)(d:Bool):List UInt8→Nat→Nat×Bool
 |[],a=>(a,d)
 |c::cs,a=>if pk s a d=(c.toNat:Int) then wordM s d cs (a+1) else(a,true)
theorem wordM_le (s:ByteArray)(d:Bool): ∀l a,a≤s.size→a≤(wordM s d l a).1∧(wordM s d l a).1≤s.size:=by
 intro l
 induction l with
 |nil=>intro a h;exact⟨Nat.le_refl _,h⟩
 |cons c cs ih=>
  intro a h
  unfold wordM
  by_cases hc:pk s a d=(c.toNat:Int)
  ·rw [if_pos hc]
   have:=ih (a+1) (pk_lt (s:=s) (a:=a) (d:=d) (by omega)).2
   omega
  ·rw [if_neg hc];exact⟨Nat.le_refl _,h⟩
theorem wordM_cons_yes {s:ByteArray}{d:Bool}{c:UInt8}{cs:List UInt8}{a:Nat}(h:pk s a d=(c.toNat:Int)):wordM s d (c::cs) a=wordM s d cs (a+1):=by
 unfold wordM;rw [if_pos h];cases cs<;>rfl
theorem wordM_cons_no {s:ByteArray}{d:Bool}{c:UInt8}{cs:List UInt8}{a:Nat}(h:pk s a d≠(c.toNat:Int)):wordM s d (c::cs) a=(a,true):=by
 unfold wordM;rw [if_neg h]
def signM (s:ByteArray)(d:Bool)(l:List UInt8)(a:Nat):Nat×Bool:=(skip s (wordM s d l a).1 (wordM s d l a).2,(wordM s d l a).2)
theorem signM_le (s:ByteArray)(d:Bool)(l:List UInt8)(a:Nat)(h:a≤s.size):a≤(signM s d l a).1∧(signM s d l a).1≤s.size:=by
 have:=wordM_le s d l a h
 have:=skip_le (s:=s) (a:=(wordM s d l a).1) (d:=(wordM s d l a).2) this.2
 simp only [signM];omega
theorem drop_cons (t:ByteArray)(k:Nat)(h:k<t.size):t.data.toList.drop k=t[k]::t.data.toList.drop (k+1):=by
 rw [List.drop_eq_getElem_cons (by simpa using h)];rfl
theorem skip_bad (s:ByteArray)(a:Nat):skip s a true=a:=skip_stop (by simp [pk])
def tokM (p:Int→Bool)(m:Nat)(s:ByteArray)(a:Nat)(d:Bool):Nat×Bool×ByteArray:=
 let r:=run p s d m a
 if r==a||p (pk s r d) then(r,true,⟨#[]⟩) else(skip s r d,d,s.extract a r)
def bareM (p:Int→Bool)(m:Nat)(s:ByteArray)(a:Nat)(d:Bool):Nat×Bool×ByteArray:=
 let r:=run p s d m a
 if r==a||p (pk s r d) then(r,true,⟨#[]⟩) else(r,d,s.extract a r)
theorem bareM_bad {p:Int→Bool}{m:Nat}{s:ByteArray}{a k:Nat}{d:Bool}(hr:run p s d m a=k)(h:k=a∨p (pk s k d)=true):bareM p m s a d=(k,true,⟨#[]⟩):=by
 unfold bareM
 simp only [hr]
 rw [if_pos]
 rcases h with rfl|h<;>simp [*]
theorem bareM_ok {p:Int→Bool}{m:Nat}{s:ByteArray}{a k:Nat}{d:Bool}(hr:run p s d m a=k)(h:k≠a)(h2:p (pk s k d)=false):bareM p m s a d=(k,d,s.extract a k):=by
 unfold bareM
 simp only [hr]
 rw [if_neg]
 simp [*]
theorem tokM_bare (p:Int→Bool)(m:Nat)(s:ByteArray)(a:Nat)(d:Bool):tokM p m s a d=(skip s (bareM p m s a d).1 (bareM p m s a d).2.1,(bareM p m s a d).2.1,(bareM p m s a d).2.2):=by
 unfold tokM bareM
 simp only
 split
 ·simp only [skip_bad]
 ·rfl
theorem bareM_le {p:Int→Bool}(hp:p (-1)=false){m:Nat}{s:ByteArray}{a:Nat}{d:Bool}(h:a≤s.size):a≤(bareM p m s a d).1∧(bareM p m s a d).1≤s.size:=by
 unfold bareM
 simp only
 split<;>exact run_le p hp s d m a h
def bareName (s:ByteArray)(a:Nat)(d:Bool):Nat×Bool×ByteArray:=bareM isLetter 8 s a d
def bareNumber (s:ByteArray)(a:Nat)(d:Bool):Nat×Bool×ByteArray:=bareM isDigit (if pk s a d==48 then 1 else 9) s a d
def nameM (s:ByteArray)(a:Nat)(d:Bool):Nat×Bool×ByteArray:=tokM isLetter 8 s a d
def numberM (s:ByteArray)(a:Nat)(d:Bool):Nat×Bool×ByteArray:=tokM isDigit (if pk s a d==48 then 1 else 9) s a d
def quotedM (s:ByteArray)(a:Nat)(d:Bool):Nat×Bool×ByteArray:=
 let v:=wordM s d [34] a
 let r:=run isQuotable s v.2 12 v.1
 let g:=signM s v.2 [34] r
 (g.1,g.2,s.extract v.1 r)
theorem run_stop {p:Int→Bool}{s:ByteArray}{d:Bool}{k a:Nat}(h:p (pk s a d)=false):run p s d k a=a:=by
 cases k with
 |zero=>rfl
 |succ k=>unfold run;rw [if_neg (by simp [h])]
theorem run_go {p:Int→Bool}{s:ByteArray}{d:Bool}{k a:Nat}(h:p (pk s a d)=true):run p s d (k+1) a=run p s d k (a+1):=by
 conv=>lhs;unfold run
 rw [if_pos h]
theorem tokM_bad {p:Int→Bool}{m:Nat}{s:ByteArray}{a k:Nat}{d:Bool}(hr:run p s d m a=k)(h:k=a∨p (pk s k d)=true):tokM p m s a d=(k,true,⟨#[]⟩):=by
 unfold tokM
 simp only [hr]
 rw [if_pos]
 rcases h with rfl|h<;>simp [*]
theorem tokM_ok {p:Int→Bool}{m:Nat}{s:ByteArray}{a k:Nat}{d:Bool}(hr:run p s d m a=k)(h:k≠a)(h2:p (pk s k d)=false):tokM p m s a d=(skip s k d,d,s.extract a k):=by
 unfold tokM
 simp only [hr]
 rw [if_neg]
 simp [*]
def arrowM (s:ByteArray)(a:Nat)(d:Bool):Bool:=(pk s a d==45)&&(pk s (a+1) false==62)
def sumSignM (s:ByteArray)(a:Nat)(d:Bool):ByteArray:=
 if arrowM s a d then⟨#[]⟩ else if pk s a d==43 then⟨#[43]⟩ else if pk s a d==45 then⟨#[45]⟩ else if pk s a d==46 then⟨#[46]⟩ else⟨#[]⟩
def productSignM (s:ByteArray)(a:Nat)(d:Bool):ByteArray:=
 if pk s a d==42 then⟨#[42]⟩ else if pk s a d==47 then⟨#[47]⟩ else if pk s a d==37 then⟨#[37]⟩ else⟨#[]⟩
def orderingM (s:ByteArray)(short long:ByteArray)(a:Nat)(d:Bool):Nat×Bool×ByteArray:=
 let v:=wordM s d short.data.toList a
 if pk s v.1 v.2 !=61 then(skip s v.1 v.2,v.2,short) else((signM s v.2 [61] v.1).1,(signM s v.2 [61] v.1).2,long)
def comparingM (s:ByteArray)(a:Nat)(d:Bool):Nat×Bool×ByteArray:=
 if pk s a d==61 then((signM s d [61,61] a).1,(signM s d [61,61] a).2,⟨#[61,61]⟩)
 else if pk s a d==33 then((signM s d [33,61] a).1,(signM s d [33,61] a).2,⟨#[33,61]⟩)
 else if pk s a d==60 then orderingM s ⟨#[60]⟩ ⟨#[60,61]⟩ a d
 else if pk s a d==62 then orderingM s ⟨#[62]⟩ ⟨#[62,61]⟩ a d
 else(a,d,⟨#[]⟩)
attribute [local go_sem] wrap64_byte
theorem peek_any (b a:Nat)(s:ByteArray)(d:Bool)(w:World)(h:Rd w b s a d):
  Calls Tryz.prog 78 #[.pointer (some ⟨b,0,none⟩)] w fun e w'=>e= .returned (.int .i64 (pk s a d))∧ ∃n,w'=w.drewN n:=by
 obtain⟨h0,h1,h2,_,_,ha,hs⟩:=h
 cases d with
 |true=>
  have hp:pk s a true= -1:=rfl
  rw [hp]
  clear hp
  go_enter Tryz.func78,Tryz.ntmps78
  go_wp2_with fail
  go_quiet (fail)
  go_wp2_with fail
  go_ret
  exact⟨rfl,_,rfl⟩
 |false=>
  by_cases hlt:a<s.size
  ·have hp:pk s a false=s[a].toNat:=by simp [pk,hlt]
   rw [hp]
   clear hp ha
   go_enter Tryz.func78,Tryz.ntmps78
   go_wp2_with fail
   go_quiet (fail)
   go_wp2_with fail
   go_quiet (fail)
   go_wp2_with fail
   go_ret
   exact⟨by simp [wrap64_byte],_,World.drewN_drewN _ _ _⟩
  ·have hp:pk s a false= -1:=by simp [pk,hlt]
   rw [hp]
   clear hp
   go_enter Tryz.func78,Tryz.ntmps78
   go_wp2_with fail
   go_quiet (fail)
   go_wp2_with fail
   go_ret
   exact⟨rfl,_,rfl⟩
theorem fail_any (b a:Nat)(s:ByteArray)(d:Bool)(w:World)(h:Rd w b s a d):
  Calls Tryz.prog 81 #[.pointer (some ⟨b,0,none⟩)] w fun e w'=>e= .returned (.tuple #[])∧Rd w' b s a true∧Sc b w w':=by
 have hr:=h.setBad true
 obtain⟨h0,h1,h2,f1,f2,ha,hs⟩:=h
 go_enter Tryz.func81,Tryz.ntmps81
 go_wp2_with fail
 go_end0
 exact⟨rfl,hr,(Sc.refl _ _).setCell 2 (Or.inr rfl) _⟩
theorem blanks_any (b a:Nat)(s:ByteArray)(d:Bool)(w:World)(h:Rd w b s a d):
  Calls Tryz.prog 72 #[.pointer (some ⟨b,0,none⟩)] w fun e w'=>e= .returned (.tuple #[])∧Rd w' b s (skip s a d) d∧Sc b w w':=by
 go_enter Tryz.func72,Tryz.ntmps72
 go_wp2_with fail
 go_loopw [] (fun wr=> ∃k,Rd wr b s k d∧Sc b w wr∧Hid (skip s k d=skip s a d)) (fun wr=>s.size - atOf wr b)
 case atStart=>exact⟨a,h,Sc.refl _ _,rfl⟩
 case round=>
  obtain⟨k,hk,hsc,hsk⟩:=hrel
  have hat:=hide hk.atOf
  have hk':=hk
  by_cases hb:pk s k d=32
  ·have hlt:=(pk_lt (s:=s) (a:=k) (d:=d) (by omega)).2
   have hset:=fun n=>(hk.drewN n).setAt' (k+1) (k+1) (by omega) hlt
   have hst:=hide (skip_step hb)
   have hb':(pk s k d==32)=true:=by simp [hb]
   clear hb
   obtain⟨h0,h1,h2,f1,f2,ha,hs⟩:=hk
   go_wp2_with (go_at_call 78;refine(peek_any _ _ _ _ _ hk').mono ?_;rintro e w1 ⟨rfl,n,rfl⟩)
   have hset:=hset n
   go_roundw
   case rel=>exact⟨k+1,hset,(hsc.drewN n).setCell 1 (Or.inl rfl) _,hst.out.trans hsk.out⟩
   case measure=>rw [hset.atOf,hat.out];omega
  ·have hst:=hide (skip_stop hb)
   have hb':(pk s k d==32)=false:=by simp [hb]
   clear hb
   obtain⟨h0,h1,h2,f1,f2,ha,hs⟩:=hk
   go_wp2_with (go_at_call 78;refine(peek_any _ _ _ _ _ hk').mono ?_;rintro e w1 ⟨rfl,n,rfl⟩)
   go_end0
   exact⟨rfl,by rw [←hsk.out,hst.out];exact hk'.drewN n,hsc.drewN n⟩
theorem word_any (b a:Nat)(s t:ByteArray)(d:Bool)(w:World)(h:Rd w b s a d)(ht:t.size≤600):
  Calls Tryz.prog 79 #[.pointer (some ⟨b,0,none⟩),.string t] w fun e w'=>e= .returned (.tuple #[])∧Rd w' b s (wordM s d t.data.toList a).1 (wordM s d t.data.toList a).2∧Sc b w w':=by
 go_enter Tryz.func79,Tryz.ntmps79
 go_wp2_with fail
 go_loopw [4] (fun i wr=> ∃k ak:Nat,i= .int .i64 k∧k≤t.size∧Rd wr b s ak d∧Sc b w wr∧Hid (wordM s d (t.data.toList.drop k) ak=wordM s d t.data.toList a)) (fun i wr=>t.size -(intOf i).toNat)
 case atStart=>exact⟨0,a,rfl,Nat.zero_le _,h,Sc.refl _ _,rfl⟩
 case round=>
  obtain⟨k,ak,rfl,hkt,hk,hsc,hsk⟩:=hrel
  have hk':=hk
  by_cases hlt:k<t.size
  ·by_cases hb:pk s ak d=(t[k].toNat:Int)
   ·have hl2:=(pk_lt (s:=s) (a:=ak) (d:=d) (by omega)).2
    have hset:=fun n=>(hk.drewN n).setAt' (ak+1) (ak+1) (by omega) hl2
    have hst:Hid (wordM s d (t.data.toList.drop (k+1)) (ak+1)=wordM s d t.data.toList a):=hide (by rw [←hsk.out,drop_cons t k hlt,wordM_cons_yes hb])
    have hb':(pk s ak d !=(t[k].toNat:Int))=false:=by simp [hb]
    clear hb
    obtain⟨h0,h1,h2,f1,f2,ha,hs⟩:=hk
    go_wp2_with fail
    go_quiet ((go_at_call 78;exact Calls.quiet_of (peek_any _ _ _ _ _ (hk'.drewN _))))
    go_wp2_with fail
    have hset:=hset nq
    go_roundw
    case rel=>exact⟨k+1,ak+1,by go_num,by omega,hset,(hsc.drewN nq).setCell 1 (Or.inl rfl) _,hst⟩
    case measure=>simp [intOf];omega
   ·have hst:Hid (wordM s d t.data.toList a=(ak,true)):=hide (by rw [←hsk.out,drop_cons t k hlt,wordM_cons_no hb])
    have hb':(pk s ak d !=(t[k].toNat:Int))=true:=by simp [hb]
    clear hb
    go_wp2_with fail
    go_quiet ((go_at_call 78;exact Calls.quiet_of (peek_any _ _ _ _ _ (hk'.drewN _))))
    go_wp2_with (go_at_call 81;refine(fail_any _ _ _ _ _ (hk'.drewN _)).mono ?_;rintro e w1 ⟨rfl,hr1,hs1⟩)
    refine bodyPost_ret (results_none rfl _ _ _) rfl ?_
    exact⟨rfl,by rw [hst.out];exact hr1,(hsc.drewN _).trans hs1⟩
  ·have hst:Hid (wordM s d t.data.toList a=(ak,d)):=hide (by rw [←hsk.out,List.drop_of_length_le (by simpa using hlt)];rfl)
   go_wp2_with fail
   go_end0
   exact⟨rfl,by rw [hst.out];exact hk',hsc⟩
theorem sign_any (b a:Nat)(s t:ByteArray)(d:Bool)(w:World)(h:Rd w b s a d)(ht:t.size≤600):
  Calls Tryz.prog 114 #[.pointer (some ⟨b,0,none⟩),.string t] w fun e w'=>e= .returned (.tuple #[])∧Rd w' b s (signM s d t.data.toList a).1 (signM s d t.data.toList a).2∧Sc b w w':=by
 go_enter Tryz.func114,Tryz.ntmps114
 go_wp2_with (first|(go_at_call 79;refine(word_any _ _ _ _ _ _ h ht).mono ?_;rintro e w1 ⟨rfl,hr1,hs1⟩)|(go_at_call 72;refine(blanks_any _ _ _ _ _ hr1).mono ?_;rintro e w2 ⟨rfl,hr2,hs2⟩))
 go_end0
 exact⟨rfl,hr2,hs1.trans hs2⟩
theorem lineStart_any (b a:Nat)(s t:ByteArray)(d:Bool)(w:World)(h:Rd w b s a d)(ht:t.size≤600):
  Calls Tryz.prog 159 #[.pointer (some ⟨b,0,none⟩),.string t] w fun e w'=>e= .returned (.tuple #[])∧
   Rd w' b s (signM s (wordM s d t.data.toList a).2 [32] (wordM s d t.data.toList a).1).1 (signM s (wordM s d t.data.toList a).2 [32] (wordM s d t.data.toList a).1).2∧Sc b w w':=by
 go_enter Tryz.func159,Tryz.ntmps159
 go_wp2_with (first|(go_at_call 79;refine(word_any _ _ _ _ _ _ h ht).mono ?_;rintro e w1 ⟨rfl,hr1,hs1⟩)|(go_at_call 114;refine(sign_any _ _ _ _ _ _ hr1 (by decide)).mono ?_;rintro e w2 ⟨rfl,hr2,hs2⟩))
 go_end0
 exact⟨rfl,hr2,hs1.trans hs2⟩
theorem atDigit_any (b a:Nat)(s:ByteArray)(d:Bool)(w:World)(h:Rd w b s a d):
  Calls Tryz.prog 170 #[.pointer (some ⟨b,0,none⟩)] w fun e w'=>e= .returned (.bool (isDigit (pk s a d)))∧ ∃n,w'=w.drewN n:=by
 have hr:=pk_range s a d
 generalize hp:pk s a d=c at*
 have hP:=peek_any b a s d w h
 rw [hp] at hP
 have HP:=hide hP
 clear hP hp
 by_cases h1:48≤c
 all_goals by_cases h2:c≤57
 all_goals try omega
 all_goals
  go_enter Tryz.func170,Tryz.ntmps170
  go_wp2_with (go_at_call 78;refine HP.out.mono ?_;rintro e w1 ⟨rfl,n,rfl⟩)
  go_ret
  exact⟨by simp [isDigit];omega,_,rfl⟩
theorem atLetter_any (b a:Nat)(s:ByteArray)(d:Bool)(w:World)(h:Rd w b s a d):
  Calls Tryz.prog 149 #[.pointer (some ⟨b,0,none⟩)] w fun e w'=>e= .returned (.bool (isLetter (pk s a d)))∧ ∃n,w'=w.drewN n:=by
 have hr:=pk_range s a d
 generalize hp:pk s a d=c at*
 have hP:=peek_any b a s d w h
 rw [hp] at hP
 have HP:=hide hP
 clear hP hp
 by_cases h1:97≤c
 all_goals by_cases h2:c≤122
 all_goals by_cases h3:65≤c
 all_goals by_cases h4:c≤90
 all_goals try omega
 all_goals
  go_enter Tryz.func149,Tryz.ntmps149
  go_wp2_with (go_at_call 78;refine HP.out.mono ?_;rintro e w1 ⟨rfl,n,rfl⟩)
  go_ret
  exact⟨by simp [isLetter];first|omega|(rw [Bool.eq_iff_iff];simp;omega),_,rfl⟩
theorem atQuotable_any (b a:Nat)(s:ByteArray)(d:Bool)(w:World)(h:Rd w b s a d):
  Calls Tryz.prog 197 #[.pointer (some ⟨b,0,none⟩)] w fun e w'=>e= .returned (.bool (isQuotable (pk s a d)))∧ ∃n,w'=w.drewN n:=by
 have hr:=pk_range s a d
 generalize hp:pk s a d=c at*
 have hP:=peek_any b a s d w h
 rw [hp] at hP
 have HP:=hide hP
 clear hP hp
 cases h1:(c != -1)
 all_goals cases h2:(c !=34)
 all_goals cases h3:(c !=10)
 all_goals
  go_enter Tryz.func197,Tryz.ntmps197
  go_wp2_with (go_at_call 78;refine HP.out.mono ?_;rintro e w1 ⟨rfl,n,rfl⟩)
  go_ret
  exact⟨by simp [isQuotable,h1,h2,h3],_,rfl⟩
theorem bareName_any' (b a:Nat)(s:ByteArray)(d:Bool)(w:World)(h:Rd w b s a d):
  Calls Tryz.prog 118 #[.pointer (some ⟨b,0,none⟩)] w fun e w'=>e= .returned (.string (bareM isLetter 8 s a d).2.2)∧Rd w' b s (bareM isLetter 8 s a d).1 (bareM isLetter 8 s a d).2.1∧Sc b w w':=by
 have hle:=h.le
 have hsz:=h.sz
 obtain⟨h0,h1,h2,f1,f2,_,_⟩:=id h
 go_enter Tryz.func118,Tryz.ntmps118
 go_wp2_with fail
 go_loopw [] (fun wr=> ∃k,Rd wr b s k d∧Sc b w wr∧a≤k∧k≤a+8∧Hid (run isLetter s d (8 -(k - a)) k=run isLetter s d 8 a)) (fun wr=>s.size - atOf wr b)
 case atStart=>exact⟨a,h,Sc.refl _ _,Nat.le_refl _,by omega,by simp [Hid]⟩
 case round=>
  obtain⟨k,hk,hsc,hak,hk8,hsk⟩:=hrel
  have hat:=hide hk.atOf
  have hk':=hk
  clear h0 h1 h2 f1 f2
  obtain⟨h0,h1,h2,f1,f2,ha,hs⟩:=hk
  have hend:k - a<8→isLetter (pk s k d)=true∨Hid (run isLetter s d 8 a=k):=by
   intro h8
   cases hb:isLetter (pk s k d)
   ·exact .inr (hide (by rw [←hsk.out];exact run_stop hb))
   ·exact .inl rfl
  by_cases hgo:k - a<8∧isLetter (pk s k d)=true
  ·obtain⟨h8,hb⟩:=hgo
   have h8':(k:Int)- a<8:=by omega
   have hne:pk s k d≠ -1:=fun e=>by rw [e] at hb;exact absurd hb (by decide)
   have hlt:=(pk_lt hne).2
   have hset:=fun n=>(hk'.drewN n).setAt' (k+1) (k+1) (by omega) hlt
   have hst:Hid (run isLetter s d (8 -(k+1 - a)) (k+1)=run isLetter s d 8 a):=hide (by
    rw [←hsk.out,show 8 -(k - a)=(8 -(k+1 - a))+1 by omega,run_go hb])
   clear hne hend
   go_wp2_with (go_at_call 149;refine(atLetter_any _ _ _ _ _ hk').mono ?_;rintro e w1 ⟨rfl,n,rfl⟩)
   have hset:=hset n
   go_roundw
   case rel=>exact⟨k+1,hset,(hsc.drewN n).setCell 1 (Or.inl rfl) _,by omega,by omega,hst⟩
   case measure=>rw [hset.atOf,hat.out];omega
  ·have hrun:Hid (run isLetter s d 8 a=k):=by
    by_cases h8:k - a<8
    ·exact(hend h8).resolve_left fun e=>hgo ⟨h8,e⟩
    ·exact hide (by rw [←hsk.out,show 8 -(k - a)=0 by omega];rfl)
   clear hend hsk hat hk8
   by_cases h8:k - a<8
   ·have h8':(k:Int)- a<8:=by omega
    have hb:isLetter (pk s k d)=false:=by cases hc:isLetter (pk s k d) with|false=>rfl|true=>exact absurd ⟨h8,hc⟩ hgo
    clear hgo
    by_cases hka:k=a
    ·have hfin:=hide (bareM_bad hrun.out (.inl hka))
     have hka':((k:Int)==a)=true:=by simp [hka]
     clear hka
     go_wp2_with (first|(go_at_call 149;refine(atLetter_any _ _ _ _ _ hk').mono ?_;rintro e w1 ⟨rfl,n,rfl⟩)|(go_at_call 81;refine(fail_any _ _ _ _ _ (hk'.drewN n)).mono ?_;rintro e w1 ⟨rfl,hr1,hs1⟩))
     go_ret
     exact⟨by rw [hfin.out];rfl,by rw [hfin.out];exact hr1,(hsc.drewN n).trans hs1⟩
    ·have hfin:=hide (bareM_ok hrun.out hka hb)
     have hka':((k:Int)==a)=false:=by simp;omega
     clear hka
     go_wp2_with (go_at_call 149;refine(atLetter_any b k s d _ (by first|exact hk'|exact hk'.drewN _)).mono ?_;rintro e w1 ⟨rfl,n,rfl⟩)
     go_quiet (fail)
     go_wp2_with fail
     go_ret
     exact⟨by rw [hfin.out];simp,by rw [hfin.out];exact(hk'.drewN _).drewN _,(hsc.drewN _).drewN _⟩
   ·have h8': ¬(k:Int)- a<8:=by omega
    clear hgo
    have hka':((k:Int)==a)=false:=by simp;omega
    cases hb:isLetter (pk s k d)
    ·have hfin:=hide (bareM_ok hrun.out (by omega) hb)
     go_wp2_with (go_at_call 149;refine(atLetter_any b k s d _ (by first|exact hk'|exact hk'.drewN _)).mono ?_;rintro e w1 ⟨rfl,n,rfl⟩)
     go_quiet (fail)
     go_wp2_with fail
     go_ret
     exact⟨by rw [hfin.out];simp,by rw [hfin.out];exact(hk'.drewN _).drewN _,(hsc.drewN _).drewN _⟩
    ·have hfin:=hide (bareM_bad hrun.out (.inr hb))
     go_wp2_with (first|(go_at_call 149;refine(atLetter_any b k s d _ (by first|exact hk'|exact hk'.drewN _)).mono ?_;rintro e w1 ⟨rfl,n,rfl⟩)|(go_at_call 81;refine(fail_any b k s d _ (by exact hk'.drewN _)).mono ?_;rintro e w1 ⟨rfl,hr1,hs1⟩))
     go_ret
     exact⟨by rw [hfin.out];rfl,by rw [hfin.out];exact hr1,(hsc.drewN _).trans hs1⟩
theorem bareName_any (b a:Nat)(s:ByteArray)(d:Bool)(w:World)(h:Rd w b s a d):
  Calls Tryz.prog 118 #[.pointer (some ⟨b,0,none⟩)] w fun e w'=>e= .returned (.string (bareName s a d).2.2)∧Rd w' b s (bareName s a d).1 (bareName s a d).2.1∧Sc b w w':=bareName_any' b a s d w h
theorem name_any (b a:Nat)(s:ByteArray)(d:Bool)(w:World)(h:Rd w b s a d):
  Calls Tryz.prog 160 #[.pointer (some ⟨b,0,none⟩)] w fun e w'=>e= .returned (.string (nameM s a d).2.2)∧Rd w' b s (nameM s a d).1 (nameM s a d).2.1∧Sc b w w':=by
 unfold nameM
 rw [tokM_bare]
 have HB:=hide (bareName_any' b a s d w h)
 generalize bareM isLetter 8 s a d=v at*
 obtain⟨av,dv,tv⟩:=v
 go_enter Tryz.func160,Tryz.ntmps160
 go_wp2_with fail
 refine HB.out.mono ?_
 rintro e w1 ⟨rfl,hr1,hs1⟩
 go_wp2_with (go_at_call 72;refine(blanks_any b av s dv _ hr1).mono ?_;rintro e w2 ⟨rfl,hr2,hs2⟩)
 go_ret
 exact⟨rfl,hr2,hs1.trans hs2⟩
theorem bareNumber_one (b a:Nat)(s:ByteArray)(d:Bool)(w:World)(h:Rd w b s a d)(hz:(pk s a d==48)=true):
  Calls Tryz.prog 150 #[.pointer (some ⟨b,0,none⟩)] w fun e w'=>e= .returned (.string (bareM isDigit 1 s a d).2.2)∧Rd w' b s (bareM isDigit 1 s a d).1 (bareM isDigit 1 s a d).2.1∧Sc b w w':=by
 have hle:=h.le
 have hsz:=h.sz
 obtain⟨h0,h1,h2,f1,f2,_,_⟩:=id h
 go_enter Tryz.func150,Tryz.ntmps150
 go_wp2_with (go_at_call 78;refine(peek_any _ _ _ _ _ h).mono ?_;rintro e w1 ⟨rfl,n0,rfl⟩)
 clear hz
 go_loopw [] (fun wr=> ∃k,Rd wr b s k d∧Sc b w wr∧a≤k∧k≤a+1∧Hid (run isDigit s d (1 -(k - a)) k=run isDigit s d 1 a)) (fun wr=>s.size - atOf wr b)
 case atStart=>exact⟨a,h.drewN _,(Sc.refl _ _).drewN _,Nat.le_refl _,by omega,by simp [Hid]⟩
 case round=>
  obtain⟨k,hk,hsc,hak,hk8,hsk⟩:=hrel
  have hat:=hide hk.atOf
  have hk':=hk
  clear h0 h1 h2 f1 f2
  obtain⟨h0,h1,h2,f1,f2,ha,hs⟩:=hk
  have hend:k - a<1→isDigit (pk s k d)=true∨Hid (run isDigit s d 1 a=k):=by
   intro h8
   cases hb:isDigit (pk s k d)
   ·exact .inr (hide (by rw [←hsk.out];exact run_stop hb))
   ·exact .inl rfl
  by_cases hgo:k - a<1∧isDigit (pk s k d)=true
  ·obtain⟨h8,hb⟩:=hgo
   have h8':(k:Int)- a<1:=by omega
   have hne:pk s k d≠ -1:=fun e=>by rw [e] at hb;exact absurd hb (by decide)
   have hlt:=(pk_lt hne).2
   have hset:=fun n=>(hk'.drewN n).setAt' (k+1) (k+1) (by omega) hlt
   have hst:Hid (run isDigit s d (1 -(k+1 - a)) (k+1)=run isDigit s d 1 a):=hide (by
    rw [←hsk.out,show 1 -(k - a)=(1 -(k+1 - a))+1 by omega,run_go hb])
   clear hne hend
   go_wp2_with (go_at_call 170;refine(atDigit_any _ _ _ _ _ hk').mono ?_;rintro e w1 ⟨rfl,n,rfl⟩)
   have hset:=hset n
   go_roundw
   case rel=>exact⟨k+1,hset,(hsc.drewN n).setCell 1 (Or.inl rfl) _,by omega,by omega,hst⟩
   case measure=>rw [hset.atOf,hat.out];omega
  ·have hrun:Hid (run isDigit s d 1 a=k):=by
    by_cases h8:k - a<1
    ·exact(hend h8).resolve_left fun e=>hgo ⟨h8,e⟩
    ·exact hide (by rw [←hsk.out,show 1 -(k - a)=0 by omega];rfl)
   clear hend hsk hat hk8
   by_cases h8:k - a<1
   ·have h8':(k:Int)- a<1:=by omega
    have hb:isDigit (pk s k d)=false:=by cases hc:isDigit (pk s k d) with|false=>rfl|true=>exact absurd ⟨h8,hc⟩ hgo
    clear hgo
    by_cases hka:k=a
    ·have hfin:=hide (bareM_bad hrun.out (.inl hka))
     have hka':((k:Int)==a)=true:=by simp [hka]
     clear hka
     go_wp2_with (first|(go_at_call 170;refine(atDigit_any _ _ _ _ _ hk').mono ?_;rintro e w1 ⟨rfl,n,rfl⟩)|(go_at_call 81;refine(fail_any _ _ _ _ _ (hk'.drewN n)).mono ?_;rintro e w1 ⟨rfl,hr1,hs1⟩))
     go_ret
     exact⟨by rw [hfin.out];rfl,by rw [hfin.out];exact hr1,(hsc.drewN n).trans hs1⟩
    ·have hfin:=hide (bareM_ok hrun.out hka hb)
     have hka':((k:Int)==a)=false:=by simp;omega
     clear hka
     go_wp2_with (go_at_call 170;refine(atDigit_any b k s d _ (by first|exact hk'|exact hk'.drewN _)).mono ?_;rintro e w1 ⟨rfl,n,rfl⟩)
     go_quiet (fail)
     go_wp2_with fail
     go_ret
     exact⟨by rw [hfin.out];simp,by rw [hfin.out];exact(hk'.drewN _).drewN _,(hsc.drewN _).drewN _⟩
   ·have h8': ¬(k:Int)- a<1:=by omega
    clear hgo
    have hka':((k:Int)==a)=false:=by simp;omega
    cases hb:isDigit (pk s k d)
    ·have hfin:=hide (bareM_ok hrun.out (by omega) hb)
     go_wp2_with (go_at_call 170;refine(atDigit_any b k s d _ (by first|exact hk'|exact hk'.drewN _)).mono ?_;rintro e w1 ⟨rfl,n,rfl⟩)
     go_quiet (fail)
     go_wp2_with fail
     go_ret
     exact⟨by rw [hfin.out];simp,by rw [hfin.out];exact(hk'.drewN _).drewN _,(hsc.drewN _).drewN _⟩
    ·have hfin:=hide (bareM_bad hrun.out (.inr hb))
     go_wp2_with (first|(go_at_call 170;refine(atDigit_any b k s d _ (by first|exact hk'|exact hk'.drewN _)).mono ?_;rintro e w1 ⟨rfl,n,rfl⟩)|(go_at_call 81;refine(fail_any b k s d _ (by exact hk'.drewN _)).mono ?_;rintro e w1 ⟨rfl,hr1,hs1⟩))
     go_ret
     exact⟨by rw [hfin.out];rfl,by rw [hfin.out];exact hr1,(hsc.drewN _).trans hs1⟩
theorem bareNumber_nine (b a:Nat)(s:ByteArray)(d:Bool)(w:World)(h:Rd w b s a d)(hz:(pk s a d==48)=false):
  Calls Tryz.prog 150 #[.pointer (some ⟨b,0,none⟩)] w fun e w'=>e= .returned (.string (bareM isDigit 9 s a d).2.2)∧Rd w' b s (bareM isDigit 9 s a d).1 (bareM isDigit 9 s a d).2.1∧Sc b w w':=by
 have hle:=h.le
 have hsz:=h.sz
 obtain⟨h0,h1,h2,f1,f2,_,_⟩:=id h
 go_enter Tryz.func150,Tryz.ntmps150
 go_wp2_with (go_at_call 78;refine(peek_any _ _ _ _ _ h).mono ?_;rintro e w1 ⟨rfl,n0,rfl⟩)
 clear hz
 go_loopw [] (fun wr=> ∃k,Rd wr b s k d∧Sc b w wr∧a≤k∧k≤a+9∧Hid (run isDigit s d (9 -(k - a)) k=run isDigit s d 9 a)) (fun wr=>s.size - atOf wr b)
 case atStart=>exact⟨a,h.drewN _,(Sc.refl _ _).drewN _,Nat.le_refl _,by omega,by simp [Hid]⟩
 case round=>
  obtain⟨k,hk,hsc,hak,hk8,hsk⟩:=hrel
  have hat:=hide hk.atOf
  have hk':=hk
  clear h0 h1 h2 f1 f2
  obtain⟨h0,h1,h2,f1,f2,ha,hs⟩:=hk
  have hend:k - a<9→isDigit (pk s k d)=true∨Hid (run isDigit s d 9 a=k):=by
   intro h8
   cases hb:isDigit (pk s k d)
   ·exact .inr (hide (by rw [←hsk.out];exact run_stop hb))
   ·exact .inl rfl
  by_cases hgo:k - a<9∧isDigit (pk s k d)=true
  ·obtain⟨h8,hb⟩:=hgo
   have h8':(k:Int)- a<9:=by omega
   have hne:pk s k d≠ -1:=fun e=>by rw [e] at hb;exact absurd hb (by decide)
   have hlt:=(pk_lt hne).2
   have hset:=fun n=>(hk'.drewN n).setAt' (k+1) (k+1) (by omega) hlt
   have hst:Hid (run isDigit s d (9 -(k+1 - a)) (k+1)=run isDigit s d 9 a):=hide (by
    rw [←hsk.out,show 9 -(k - a)=(9 -(k+1 - a))+1 by omega,run_go hb])
   clear hne hend
   go_wp2_with (go_at_call 170;refine(atDigit_any _ _ _ _ _ hk').mono ?_;rintro e w1 ⟨rfl,n,rfl⟩)
   have hset:=hset n
   go_roundw
   case rel=>exact⟨k+1,hset,(hsc.drewN n).setCell 1 (Or.inl rfl) _,by omega,by omega,hst⟩
   case measure=>rw [hset.atOf,hat.out];omega
  ·have hrun:Hid (run isDigit s d 9 a=k):=by
    by_cases h8:k - a<9
    ·exact(hend h8).resolve_left fun e=>hgo ⟨h8,e⟩
    ·exact hide (by rw [←hsk.out,show 9 -(k - a)=0 by omega];rfl)
   clear hend hsk hat hk8
   by_cases h8:k - a<9
   ·have h8':(k:Int)- a<9:=by omega
    have hb:isDigit (pk s k d)=false:=by cases hc:isDigit (pk s k d) with|false=>rfl|true=>exact absurd ⟨h8,hc⟩ hgo
    clear hgo
    by_cases hka:k=a
    ·have hfin:=hide (bareM_bad hrun.out (.inl hka))
     have hka':((k:Int)==a)=true:=by simp [hka]
     clear hka
     go_wp2_with (first|(go_at_call 170;refine(atDigit_any _ _ _ _ _ hk').mono ?_;rintro e w1 ⟨rfl,n,rfl⟩)|(go_at_call 81;refine(fail_any _ _ _ _ _ (hk'.drewN n)).mono ?_;rintro e w1 ⟨rfl,hr1,hs1⟩))
     go_ret
     exact⟨by rw [hfin.out];rfl,by rw [hfin.out];exact hr1,(hsc.drewN n).trans hs1⟩
    ·have hfin:=hide (bareM_ok hrun.out hka hb)
     have hka':((k:Int)==a)=false:=by simp;omega
     clear hka
     go_wp2_with (go_at_call 170;refine(atDigit_any b k s d _ (by first|exact hk'|exact hk'.drewN _)).mono ?_;rintro e w1 ⟨rfl,n,rfl⟩)
     go_quiet (fail)
     go_wp2_with fail
     go_ret
     exact⟨by rw [hfin.out];simp,by rw [hfin.out];exact(hk'.drewN _).drewN _,(hsc.drewN _).drewN _⟩
   ·have h8': ¬(k:Int)- a<9:=by omega
    clear hgo
    have hka':((k:Int)==a)=false:=by simp;omega
    cases hb:isDigit (pk s k d)
    ·have hfin:=hide (bareM_ok hrun.out (by omega) hb)
     go_wp2_with (go_at_call 170;refine(atDigit_any b k s d _ (by first|exact hk'|exact hk'.drewN _)).mono ?_;rintro e w1 ⟨rfl,n,rfl⟩)
     go_quiet (fail)
     go_wp2_with fail
     go_ret
     exact⟨by rw [hfin.out];simp,by rw [hfin.out];exact(hk'.drewN _).drewN _,(hsc.drewN _).drewN _⟩
    ·have hfin:=hide (bareM_bad hrun.out (.inr hb))
     go_wp2_with (first|(go_at_call 170;refine(atDigit_any b k s d _ (by first|exact hk'|exact hk'.drewN _)).mono ?_;rintro e w1 ⟨rfl,n,rfl⟩)|(go_at_call 81;refine(fail_any b k s d _ (by exact hk'.drewN _)).mono ?_;rintro e w1 ⟨rfl,hr1,hs1⟩))
     go_ret
     exact⟨by rw [hfin.out];rfl,by rw [hfin.out];exact hr1,(hsc.drewN _).trans hs1⟩
theorem bareNumber_any (b a:Nat)(s:ByteArray)(d:Bool)(w:World)(h:Rd w b s a d):
  Calls Tryz.prog 150 #[.pointer (some ⟨b,0,none⟩)] w fun e w'=>e= .returned (.string (bareNumber s a d).2.2)∧Rd w' b s (bareNumber s a d).1 (bareNumber s a d).2.1∧Sc b w w':=by
 unfold bareNumber
 cases hz:(pk s a d==48)
 ·exact bareNumber_nine b a s d w h hz
 ·exact bareNumber_one b a s d w h hz
theorem number_any (b a:Nat)(s:ByteArray)(d:Bool)(w:World)(h:Rd w b s a d):
  Calls Tryz.prog 194 #[.pointer (some ⟨b,0,none⟩)] w fun e w'=>e= .returned (.string (numberM s a d).2.2)∧Rd w' b s (numberM s a d).1 (numberM s a d).2.1∧Sc b w w':=by
 unfold numberM
 rw [tokM_bare]
 have HB:=hide (bareNumber_any b a s d w h)
 unfold bareNumber at HB
 generalize bareM isDigit (if pk s a d==48 then 1 else 9) s a d=v at*
 obtain⟨av,dv,tv⟩:=v
 go_enter Tryz.func194,Tryz.ntmps194
 go_wp2_with fail
 refine HB.out.mono ?_
 rintro e w1 ⟨rfl,hr1,hs1⟩
 go_wp2_with (go_at_call 72;refine(blanks_any b av s dv _ hr1).mono ?_;rintro e w2 ⟨rfl,hr2,hs2⟩)
 go_ret
 exact⟨rfl,hr2,hs1.trans hs2⟩
theorem quoted_any (b a:Nat)(s:ByteArray)(d:Bool)(w:World)(h:Rd w b s a d):
  Calls Tryz.prog 196 #[.pointer (some ⟨b,0,none⟩)] w fun e w'=>e= .returned (.string (quotedM s a d).2.2)∧Rd w' b s (quotedM s a d).1 (quotedM s a d).2.1∧Sc b w w':=by
 have hle:=h.le
 have hsz:=h.sz
 unfold quotedM
 have hW:=word_any b a s ⟨#[34]⟩ d w h (by decide)
 generalize hv:wordM s d [34] a=v at*
 obtain⟨av,dv⟩:=v
 have HW:=hide hW
 clear hW hv
 simp only
 go_enter Tryz.func196,Tryz.ntmps196
 go_wp2_with fail
 refine HW.out.mono ?_
 rintro e w1 ⟨rfl,hr1,hs1⟩
 have hr1:Rd w1 b s av dv:=hr1
 have hav:=hr1.le
 obtain⟨h0,h1,h2,f1,f2,_,_⟩:=id hr1
 go_wp2_with fail
 go_loopw [] (fun wr=> ∃k,Rd wr b s k dv∧Sc b w wr∧av≤k∧k≤av+12∧Hid (run isQuotable s dv (12 -(k - av)) k=run isQuotable s dv 12 av)) (fun wr=>s.size - atOf wr b)
 case atStart=>exact⟨av,hr1,hs1,Nat.le_refl _,by omega,by simp [Hid]⟩
 case round=>
  obtain⟨k,hk,hsc,hak,hk8,hsk⟩:=hrel
  have hat:=hide hk.atOf
  have hk':=hk
  clear h0 h1 h2 f1 f2
  obtain⟨h0,h1,h2,f1,f2,ha,hs⟩:=hk
  by_cases hgo:k - av<12∧isQuotable (pk s k dv)=true
  ·obtain⟨h8,hb⟩:=hgo
   have h8':(k:Int)- av<12:=by omega
   have hne:pk s k dv≠ -1:=fun e=>by rw [e] at hb;exact absurd hb (by decide)
   have hlt:=(pk_lt hne).2
   have hset:=fun n=>(hk'.drewN n).setAt' (k+1) (k+1) (by omega) hlt
   have hst:Hid (run isQuotable s dv (12 -(k+1 - av)) (k+1)=run isQuotable s dv 12 av):=hide (by
    rw [←hsk.out,show 12 -(k - av)=(12 -(k+1 - av))+1 by omega,run_go hb])
   clear hne
   go_wp2_with (go_at_call 197;refine(atQuotable_any _ _ _ _ _ hk').mono ?_;rintro e w2 ⟨rfl,n,rfl⟩)
   have hset:=hset n
   go_roundw
   case rel=>exact⟨k+1,hset,(hsc.drewN n).setCell 1 (Or.inl rfl) _,by omega,by omega,hst⟩
   case measure=>rw [hset.atOf,hat.out];omega
  ·have hrun:Hid (run isQuotable s dv 12 av=k):=by
    by_cases h8:k - av<12
    ·refine hide ?_
     rw [←hsk.out]
     exact run_stop (by cases hc:isQuotable (pk s k dv) with|false=>rfl|true=>exact absurd ⟨h8,hc⟩ hgo)
    ·exact hide (by rw [←hsk.out,show 12 -(k - av)=0 by omega];rfl)
   have hor:k - av<12∧isQuotable (pk s k dv)=false∨ ¬k - av<12:=by
    by_cases h8:k - av<12
    ·exact .inl ⟨h8,by cases hc:isQuotable (pk s k dv) with|false=>rfl|true=>exact absurd ⟨h8,hc⟩ hgo⟩
    ·exact .inr h8
   clear hgo hsk hat hk8
   rcases hor with⟨h8,hb⟩|h8
   ·have h8':(k:Int)- av<12:=by omega
    go_wp2_with (go_at_call 197;refine(atQuotable_any _ _ _ _ _ hk').mono ?_;rintro e w2 ⟨rfl,n,rfl⟩)
    go_quiet (fail)
    go_wp2_with (go_at_call 114;refine(sign_any b k s _ dv _ (by exact hk'.drewN _) (by decide)).mono ?_;rintro e w2 ⟨rfl,hr2,hs2⟩)
    go_ret
    exact⟨by rw [hrun.out];simp,by rw [hrun.out];exact hr2,(hsc.drewN _).trans hs2⟩
   ·have h8': ¬(k:Int)- av<12:=by omega
    go_wp2_with (go_at_call 197;refine(atQuotable_any _ _ _ _ _ hk').mono ?_;rintro e w2 ⟨rfl,n,rfl⟩)
    go_quiet (fail)
    go_wp2_with (go_at_call 114;refine(sign_any b k s _ dv _ (by exact hk'.drewN _) (by decide)).mono ?_;rintro e w2 ⟨rfl,hr2,hs2⟩)
    go_ret
    exact⟨by rw [hrun.out];simp,by rw [hrun.out];exact hr2,(hsc.drewN _).trans hs2⟩
theorem atArrow_any (b a:Nat)(s:ByteArray)(d:Bool)(w:World)(h:Rd w b s a d):
  Calls Tryz.prog 186 #[.pointer (some ⟨b,0,none⟩)] w fun e w'=>e= .returned (.bool (arrowM s a d))∧ ∃n,w'=w.drewN n:=by
 obtain⟨h0,h1,h2,f1,f2,ha,hs⟩:=id h
 cases hc:(pk s a d==45)
 ·have hv:Hid (arrowM s a d=false):=hide (by simp [arrowM,hc])
  have hc':(pk s a d !=45)=true:=by simp at hc;simp [hc]
  go_enter Tryz.func186,Tryz.ntmps186
  go_wp2_with fail
  go_quiet ((go_at_call 78;exact Calls.quiet_of (peek_any _ _ _ _ _ (h.drewN _))))
  go_wp2_with fail
  go_ret
  exact⟨by rw [hv.out];simp,_,rfl⟩
 ·have hc':(pk s a d !=45)=false:=by simp at hc;simp [hc]
  by_cases hlt:a+1<s.size
  ·obtain⟨c,hcc⟩: ∃c,c=a+1:=⟨_,rfl⟩
   have hlt':(a:Int)+1<s.size:=by omega
   have hcs:c<s.size:=by omega
   have hv:Hid (arrowM s a d=((s[c].toNat:Int)==62)):=hide (by subst hcc;unfold arrowM;rw [hc,show pk s (a+1) false=s[a+1].toNat by simp [pk,hlt]];rfl)
   have hwr:IntKind.i64.wrap ((a:Int)+1)=(c:Int):=by rw [IntWalk.i64_left,IntWalk.wrap64_in _ (by omega)];omega
   clear hcc
   go_enter Tryz.func186,Tryz.ntmps186
   go_wp2_with fail
   go_quiet ((go_at_call 78;exact Calls.quiet_of (peek_any _ _ _ _ _ (h.drewN _))))
   go_wp2_with fail
   go_quiet (fail)
   go_wp2_with fail
   go_ret
   refine⟨?_,_,World.drewN_drewN _ _ _⟩
   rw [hv.out]
   simp
  ·have hv:Hid (arrowM s a d=false):=hide (by simp [arrowM,pk,hlt])
   have hlt': ¬(a:Int)+1<s.size:=by omega
   go_enter Tryz.func186,Tryz.ntmps186
   go_wp2_with fail
   go_quiet ((go_at_call 78;exact Calls.quiet_of (peek_any _ _ _ _ _ (h.drewN _))))
   go_wp2_with fail
   go_ret
   exact⟨by rw [hv.out];simp,_,rfl⟩
theorem productSign_any (b a:Nat)(s:ByteArray)(d:Bool)(w:World)(h:Rd w b s a d):
  Calls Tryz.prog 192 #[.pointer (some ⟨b,0,none⟩)] w fun e w'=>e= .returned (.string (productSignM s a d))∧ ∃n,w'=w.drewN n:=by
 have hv:=hide (show productSignM s a d=productSignM s a d from rfl)
 unfold productSignM at hv ⊢
 cases h1:(pk s a d==42)
 all_goals cases h2:(pk s a d==47)
 all_goals cases h3:(pk s a d==37)
 all_goals try(simp at h1 h2 h3;omega)
 all_goals
  go_enter Tryz.func192,Tryz.ntmps192
  go_wp2_with (go_at_call 78;refine(peek_any _ _ _ _ _ h).mono ?_;rintro e w1 ⟨rfl,n,rfl⟩)
  go_ret
  exact⟨by simp,_,rfl⟩
theorem sumSign_any (b a:Nat)(s:ByteArray)(d:Bool)(w:World)(h:Rd w b s a d):
  Calls Tryz.prog 188 #[.pointer (some ⟨b,0,none⟩)] w fun e w'=>e= .returned (.string (sumSignM s a d))∧ ∃n,w'=w.drewN n:=by
 unfold sumSignM
 cases h0:arrowM s a d
 all_goals cases h1:(pk s a d==43)
 all_goals cases h2:(pk s a d==45)
 all_goals cases h3:(pk s a d==46)
 all_goals try(simp at h1 h2 h3;omega)
 all_goals
  go_enter Tryz.func188,Tryz.ntmps188
  go_wp2_with (first|(go_at_call 78;refine(peek_any b a s d _ (by exact h.drewN _)).mono ?_;rintro e w1 ⟨rfl,n,rfl⟩)|(go_at_call 186;refine(atArrow_any _ _ _ _ _ h).mono ?_;rintro e w1 ⟨rfl,n,rfl⟩))
  go_ret
  exact⟨by simp,_,rfl⟩
theorem orderingSign_any (b a:Nat)(s short long:ByteArray)(d:Bool)(w:World)(h:Rd w b s a d)(hs:short.size≤600):
  Calls Tryz.prog 189 #[.pointer (some ⟨b,0,none⟩),.string short,.string long] w fun e w'=>e= .returned (.string (orderingM s short long a d).2.2)∧Rd w' b s (orderingM s short long a d).1 (orderingM s short long a d).2.1∧Sc b w w':=by
 have HW:=hide (word_any b a s short d w h hs)
 unfold orderingM
 generalize wordM s d short.data.toList a=v at*
 obtain⟨av,dv⟩:=v
 cases hc:(pk s av dv !=61)
 ·go_enter Tryz.func189,Tryz.ntmps189
  go_wp2_with (first|(go_at_call 79;refine HW.out.mono ?_;rintro e w1 ⟨rfl,hr1,hs1⟩)|(go_at_call 78;refine(peek_any b av s dv _ hr1).mono ?_;rintro e w2 ⟨rfl,n,rfl⟩)|(go_at_call 114;refine(sign_any b av s _ dv _ (by exact hr1.drewN _) (by decide)).mono ?_;rintro e w3 ⟨rfl,hr3,hs3⟩))
  go_ret
  simp only [hc]
  exact⟨rfl,hr3,(hs1.drewN _).trans hs3⟩
 ·go_enter Tryz.func189,Tryz.ntmps189
  go_wp2_with (first|(go_at_call 79;refine HW.out.mono ?_;rintro e w1 ⟨rfl,hr1,hs1⟩)|(go_at_call 78;refine(peek_any b av s dv _ hr1).mono ?_;rintro e w2 ⟨rfl,n,rfl⟩)|(go_at_call 72;refine(blanks_any b av s dv _ (by exact hr1.drewN _)).mono ?_;rintro e w3 ⟨rfl,hr3,hs3⟩))
  go_ret
  simp only [hc]
  exact⟨rfl,hr3,(hs1.drewN _).trans hs3⟩
theorem comparingSign_any (b a:Nat)(s:ByteArray)(d:Bool)(w:World)(hR:Rd w b s a d):
  Calls Tryz.prog 181 #[.pointer (some ⟨b,0,none⟩)] w fun e w'=>e= .returned (.string (comparingM s a d).2.2)∧Rd w' b s (comparingM s a d).1 (comparingM s a d).2.1∧Sc b w w':=by
 unfold comparingM
 cases h1:(pk s a d==61)
 all_goals cases h2:(pk s a d==33)
 all_goals cases h3:(pk s a d==60)
 all_goals cases h4:(pk s a d==62)
 all_goals try(simp at h1 h2 h3 h4;omega)
 ·go_enter Tryz.func181,Tryz.ntmps181
  go_wp2_with (go_at_call 78;refine(peek_any b a s d _ hR).mono ?_;rintro e w2 ⟨rfl,n,rfl⟩)
  go_ret
  exact⟨by simp,by simpa using hR.drewN n,(Sc.refl _ _).drewN _⟩
 ·go_enter Tryz.func181,Tryz.ntmps181
  go_wp2_with (first|(go_at_call 78;refine(peek_any b a s d _ hR).mono ?_;rintro e w2 ⟨rfl,n,rfl⟩)|(go_at_call 189;refine(orderingSign_any b a s _ _ d _ (by exact hR.drewN _) (by decide)).mono ?_;rintro e w3 ⟨rfl,hr3,hs3⟩))
  go_ret
  exact⟨by simp,by simpa using hr3,((Sc.refl _ _).drewN _).trans hs3⟩
 ·go_enter Tryz.func181,Tryz.ntmps181
  go_wp2_with (first|(go_at_call 78;refine(peek_any b a s d _ hR).mono ?_;rintro e w2 ⟨rfl,n,rfl⟩)|(go_at_call 189;refine(orderingSign_any b a s _ _ d _ (by exact hR.drewN _) (by decide)).mono ?_;rintro e w3 ⟨rfl,hr3,hs3⟩))
  go_ret
  exact⟨by simp,by simpa using hr3,((Sc.refl _ _).drewN _).trans hs3⟩
 ·go_enter Tryz.func181,Tryz.ntmps181
  go_wp2_with (first|(go_at_call 78;refine(peek_any b a s d _ hR).mono ?_;rintro e w2 ⟨rfl,n,rfl⟩)|(go_at_call 114;refine(sign_any b a s _ d _ (by exact hR.drewN _) (by decide)).mono ?_;rintro e w3 ⟨rfl,hr3,hs3⟩))
  go_ret
  exact⟨by simp,by simpa using hr3,((Sc.refl _ _).drewN _).trans hs3⟩
 ·go_enter Tryz.func181,Tryz.ntmps181
  go_wp2_with (first|(go_at_call 78;refine(peek_any b a s d _ hR).mono ?_;rintro e w2 ⟨rfl,n,rfl⟩)|(go_at_call 114;refine(sign_any b a s _ d _ (by exact hR.drewN _) (by decide)).mono ?_;rintro e w3 ⟨rfl,hr3,hs3⟩))
  go_ret
  exact⟨by simp,by simpa using hr3,((Sc.refl _ _).drewN _).trans hs3⟩
structure Ex where
 form:Int
 place:Int
 text:ByteArray
 left:Int
 right:Int
structure Lc where
 form:Int
 text:ByteArray
 left:Int
 right:Int
 place:Int
 count:Int
 items:List Int
structure Cl where
 test:Int
 form:Int
 result:ByteArray
 inner:Int
structure As where
 by_:ByteArray
 to_:Int
 conds:Int
structure St where
 at_:Nat
 bad:Bool
 A:List As
 L:List Lc
 E:List Ex
 C:List (List Cl)
def Ex.cells (x:Ex):List Value:=[.int .i64 x.form,.int .i64 x.place,.string x.text,.int .i64 x.left,.int .i64 x.right]
def Lc.cells (x:Lc)(v:Value):List Value:=[.int .i64 x.form,.string x.text,.int .i64 x.left,.int .i64 x.right,.int .i64 x.place,.int .i64 x.count,v]
def Cl.cells (x:Cl):List Value:=[.int .i64 x.test,.int .i64 x.form,.string x.result,.int .i64 x.inner]
def As.cells (x:As):List Value:=[.string x.by_,.int .i64 x.to_,.int .i64 x.conds]
def elT:Nat→Nat|3=>84|4=>160|5=>120|_=>133
def szT:Nat→Nat|3=>3|4=>7|5=>5|_=>1
def upd {α:Type}(f:Nat→α)(o:Nat)(v:α):Nat→α:=fun i=>if i=o then v else f i
theorem upd_same {α:Type}(f:Nat→α)(o:Nat)(v:α):upd f o v o=v:=if_pos rfl
theorem upd_other {α:Type}(f:Nat→α){o i:Nat}(v:α)(h:i≠o):upd f o v i=f i:=if_neg h
structure Rows4 (X:Nat→Prop)(w:World)(b:Nat)(V:Nat→Value)(n:Nat→Nat)(xs:Nat→List Value):Prop where
 cell: ∀o,3≤o→o≤6→w.cell? ⟨b,o,none⟩=some (V o)
 froz: ∀o,3≤o→o≤6→w.frozen? ⟨b,o,none⟩=false
 own: ∀o,3≤o→o≤6→w.ownsRow (b+1) (elT o) (szT o) (V o) (n o) (xs o)
 apart: ∀o p k,3≤o→o≤6→3≤p→p≤6→o≠p→(V o).ownBlock=some k→(V p).ownBlock≠some k
 nob: ¬X b
 notX: ∀o k,3≤o→o≤6→(V o).ownBlock=some k→ ¬X k
structure Side (X:Nat→Prop)(w:World)(b:Nat)(V:Nat→Value)(e size:Nat)(v:Value)(n:Nat)(xs:List Value):Prop where
 own:w.ownsRow (b+1) e size v n xs
 notX: ∀k,v.ownBlock=some k→ ¬X k
 apart: ∀o k,3≤o→o≤6→v.ownBlock=some k→(V o).ownBlock≠some k
theorem ownsRow_same {w w':World}{base e size n:Nat}{v:Value}{xs:List Value}(h:w.ownsRow base e size v n xs)(hk: ∀k,v.ownBlock=some k→w'.heap[k]?=w.heap[k]?):w'.ownsRow base e size v n xs:=by
 refine⟨h.1,?_⟩
 rcases h.2 with hn|⟨g,cap,cur,rfl,hb,hg,r⟩
 ·exact .inl hn
 ·exact .inr ⟨g,cap,cur,rfl,hb,by rw [hk g rfl];exact hg,r⟩
theorem block_lt_of_cell {w:World}{b o:Nat}{v:Value}(h:w.cell? ⟨b,o,none⟩=some v):b<w.heap.size:=World.block_lt_of_cell? w ⟨b,o,none⟩ h
theorem Rows4.lt {X:Nat→Prop}{w:World}{b:Nat}{V:Nat→Value}{n:Nat→Nat}{xs:Nat→List Value}(h:Rows4 X w b V n xs):b<w.heap.size:=block_lt_of_cell (h.cell 3 (by omega) (by omega))
theorem Rows4.other {X:Nat→Prop}{w w':World}{b:Nat}{V:Nat→Value}{n:Nat→Nat}{xs:Nat→List Value}(h:Rows4 X w b V n xs)
  (hk: ∀k,k<w.heap.size→ ¬X k→w'.heap[k]?=w.heap[k]?):Rows4 X w' b V n xs:=
 ⟨fun o h1 h2=>(World.cell?_of_block (hk b h.lt h.nob)).trans (h.cell o h1 h2),fun o h1 h2=>(World.frozen?_of_block (hk b h.lt h.nob)).trans (h.froz o h1 h2),
  fun o h1 h2=>ownsRow_same (h.own o h1 h2) fun k e=>hk k ((h.own o h1 h2).lt k e).2 (h.notX o k h1 h2 e),h.apart,h.nob,h.notX⟩
theorem Side.other {X:Nat→Prop}{w w':World}{b:Nat}{V:Nat→Value}{e size n:Nat}{v:Value}{xs:List Value}(h:Side X w b V e size v n xs)
  (hk: ∀k,k<w.heap.size→ ¬X k→w'.heap[k]?=w.heap[k]?):Side X w' b V e size v n xs:=
 ⟨ownsRow_same h.own fun k e=>hk k (h.own.lt k e).2 (h.notX k e),h.notX,h.apart⟩
theorem Rows4.mono {X Y:Nat→Prop}{w:World}{b:Nat}{V:Nat→Value}{n:Nat→Nat}{xs:Nat→List Value}(h:Rows4 X w b V n xs)(hY: ∀k,Y k→X k):Rows4 Y w b V n xs:=
 ⟨h.cell,h.froz,h.own,h.apart,fun y=>h.nob (hY _ y),fun o k h1 h2 e y=>h.notX o k h1 h2 e (hY _ y)⟩
theorem Side.mono {X Y:Nat→Prop}{w:World}{b:Nat}{V:Nat→Value}{e size n:Nat}{v:Value}{xs:List Value}(h:Side X w b V e size v n xs)(hY: ∀k,Y k→X k):Side Y w b V e size v n xs:=
 ⟨h.own,fun k e y=>h.notX k e (hY _ y),h.apart⟩
theorem Rows4.more {X:Nat→Prop}{w:World}{b:Nat}{V:Nat→Value}{n:Nat→Nat}{xs:Nat→List Value}(h:Rows4 X w b V n xs):Rows4 (fun k=>X k∨w.heap.size≤k) w b V n xs:=
 ⟨h.cell,h.froz,h.own,h.apart,fun y=>y.elim h.nob fun l=>by have:=h.lt;omega,fun o k h1 h2 e y=>y.elim (h.notX o k h1 h2 e) fun l=>by have:=((h.own o h1 h2).lt k e).2;omega⟩
theorem Side.more {X:Nat→Prop}{w:World}{b:Nat}{V:Nat→Value}{e size n:Nat}{v:Value}{xs:List Value}(h:Side X w b V e size v n xs):Side (fun k=>X k∨w.heap.size≤k) w b V e size v n xs:=
 ⟨h.own,fun k e y=>y.elim (h.notX k e) fun l=>by have:=(h.own.lt k e).2;omega,h.apart⟩
theorem Rows4.push {X:Nat→Prop}{w w2:World}{b:Nat}{V:Nat→Value}{n:Nat→Nat}{xs:Nat→List Value}(h:Rows4 X w b V n xs){o:Nat}(h3:3≤o)(h6:o≤6){v':Value}{n':Nat}{xs':List Value}
  (hown:w2.ownsRow (b+1) (elT o) (szT o) v' n' xs') (hg:w.grownBy w2 (V o).ownBlock) (hat: ∀k,v'.ownBlock=some k→(V o).ownBlock=some k∨w.heap.size≤k) (hX: ∀k,X k→k<w.heap.size):
  Rows4 X (w2.setCell ⟨b,o,none⟩ v') b (upd V o v') (upd n o n') (upd xs o xs'):=by
 have hbo:some b≠(V o).ownBlock:=fun e=>by have:=((h.own o h3 h6).lt b e.symm).1;omega
 have hb2:w2.heap[b]?=w.heap[b]?:=hg.block b h.lt hbo
 refine⟨fun p p3 p6=> ?_,fun p p3 p6=> ?_,fun p p3 p6=> ?_,fun p q k p3 p6 q3 q6 hpq e=> ?_,h.nob,fun p k p3 p6 e=> ?_⟩
 ·by_cases hp:p=o
  ·subst hp
   rw [upd_same]
   exact World.cell?_setCell_same _ _ _ ((World.cell?_of_block (w:=w) hb2).trans (h.cell p h3 h6))
  ·rw [upd_other _ _ hp,setCell_other _ _ _ _ _ hp]
   exact(World.cell?_of_block (w:=w) hb2).trans (h.cell p p3 p6)
 ·rw [World.frozen?_setCell]
  exact(World.frozen?_of_block (w:=w) hb2).trans (h.froz p p3 p6)
 ·by_cases hp:p=o
  ·subst hp
   rw [upd_same,upd_same,upd_same]
   exact ownsRow_same hown fun k e=>Below.heap_setCell _ _ _ _ (by have:=(hown.lt k e).1;simp;omega)
  ·rw [upd_other _ _ hp,upd_other _ _ hp,upd_other _ _ hp]
   refine ownsRow_same (h.own p p3 p6) fun k e=> ?_
   have hl:=(h.own p p3 p6).lt k e
   rw [Below.heap_setCell _ _ _ _ (by simp;omega)]
   exact hg.block k hl.2 fun e2=>h.apart p o k p3 p6 h3 h6 hp e e2.symm
 ·by_cases hp:p=o
  ·subst hp
   rw [upd_same] at e
   rw [upd_other _ _ (Ne.symm hpq)]
   rcases hat k e with e1|e1
   ·exact h.apart p q k p3 p6 q3 q6 hpq e1
   ·intro e2
    have:=((h.own q q3 q6).lt k e2).2
    omega
  ·rw [upd_other _ _ hp] at e
   by_cases hq:q=o
   ·subst hq
    rw [upd_same]
    intro e2
    rcases hat k e2 with e1|e1
    ·exact h.apart p q k p3 p6 q3 q6 hpq e e1
    ·have:=((h.own p p3 p6).lt k e).2
     omega
   ·rw [upd_other _ _ hq]
    exact h.apart p q k p3 p6 q3 q6 hpq e
 ·by_cases hp:p=o
  ·subst hp
   rw [upd_same] at e
   rcases hat k e with e1|e1
   ·exact h.notX p k p3 p6 e1
   ·intro x
    have:=hX k x
    omega
  ·rw [upd_other _ _ hp] at e
   exact h.notX p k p3 p6 e
theorem Side.push {X:Nat→Prop}{w w2:World}{b:Nat}{V:Nat→Value}{e size n:Nat}{v:Value}{xs:List Value}(h:Side X w b V e size v n xs){o:Nat}(h3:3≤o)(h6:o≤6){v':Value}
  (hg:w.grownBy w2 (V o).ownBlock) (hat: ∀k,v'.ownBlock=some k→(V o).ownBlock=some k∨w.heap.size≤k):
  Side X (w2.setCell ⟨b,o,none⟩ v') b (upd V o v') e size v n xs:=by
 refine⟨ownsRow_same h.own fun k e=> ?_,h.notX,fun p k p3 p6 e=> ?_⟩
 ·have hl:=h.own.lt k e
  rw [Below.heap_setCell _ _ _ _ (by simp;omega)]
  exact hg.block k hl.2 fun e2=>h.apart o k h3 h6 e e2.symm
 ·by_cases hp:p=o
  ·subst hp
   rw [upd_same]
   intro e2
   rcases hat k e2 with e1|e1
   ·exact h.apart p k p3 p6 e e1
   ·have:=(h.own.lt k e).2
    omega
  ·rw [upd_other _ _ hp]
   exact h.apart p k p3 p6 e
def nOf (st:St):Nat→Nat|3=>st.A.length|4=>st.L.length|5=>st.E.length|_=>st.C.length
def xsOf (st:St)(iv cv:List Value):Nat→List Value
 |3=>(st.A.map As.cells).flatten
 |4=>(List.zipWith Lc.cells st.L iv).flatten
 |5=>(st.E.map Ex.cells).flatten
 |_=>cv
structure InvV (X:Nat→Prop)(w:World)(b:Nat)(s:ByteArray)(st:St)(V:Nat→Value)(iv cv:List Value):Prop where
 rd:Rd w b s st.at_ st.bad
 rows:Rows4 X w b V (nOf st) (xsOf st iv cv)
 il:iv.length=st.L.length
 cl:cv.length=st.C.length
 items: ∀(i:Nat) (l:Lc) (v:Value),st.L[i]?=some l→iv[i]?=some v→Side X w b V 3 1 v l.items.length (l.items.map (Value.int .i64))
 clauses: ∀(i:Nat) (l:List Cl) (v:Value),st.C[i]?=some l→cv[i]?=some v→Side X w b V 156 4 v l.length ((l.map Cl.cells).flatten)
def Inv (X:Nat→Prop)(w:World)(b:Nat)(s:ByteArray)(st:St):Prop:= ∃V iv cv,InvV X w b s st V iv cv
structure Fr (X:Nat→Prop)(w w':World):Prop where
 os:w'.os=w.os
 tape:w'.tape=w.tape
 output:w'.output=w.output
 size:w.heap.size≤w'.heap.size
 block: ∀k,X k→w'.heap[k]?=w.heap[k]?
theorem Fr.refl (X:Nat→Prop)(w:World):Fr X w w:=⟨rfl,rfl,rfl,Nat.le_refl _,fun _ _=>rfl⟩
theorem Fr.trans {X:Nat→Prop}{u v w:World}(h:Fr X u v)(k:Fr X v w):Fr X u w:=
 ⟨k.os.trans h.os,k.tape.trans h.tape,k.output.trans h.output,Nat.le_trans h.size k.size,fun i hi=>(k.block i hi).trans (h.block i hi)⟩
theorem Fr.mono {X Y:Nat→Prop}{w w':World}(h:Fr X w w')(hY: ∀k,Y k→X k):Fr Y w w':=⟨h.os,h.tape,h.output,h.size,fun k y=>h.block k (hY k y)⟩
theorem Fr.drewN {X:Nat→Prop}{u w:World}(h:Fr X u w)(n:Nat):Fr X u (w.drewN n):=⟨h.os,h.tape,h.output,h.size,h.block⟩
theorem Fr.drew {X:Nat→Prop}{u w:World}(h:Fr X u w):Fr X u w.drew:=⟨h.os,h.tape,h.output,h.size,h.block⟩
theorem Fr.alloc {X:Nat→Prop}{u w:World}(h:Fr X u w)(hX: ∀k,X k→k<w.heap.size)(o:Obj):Fr X u (w.alloc o):=
 h.trans ⟨rfl,rfl,rfl,by simp,fun k hk=>Below.heap_alloc _ _ _ (hX k hk)⟩
theorem Fr.setCell {X:Nat→Prop}{u w:World}(h:Fr X u w){a:Addr}(ha: ¬X a.block)(v:Value):Fr X u (w.setCell a v):=
 h.trans ⟨rfl,rfl,rfl,by simp [World.setCell],fun k hk=>Below.heap_setCell _ _ _ _ fun e=>ha (e▸hk)⟩
theorem Sc.fr {X:Nat→Prop}{b:Nat}{w w':World}(h:Sc b w w')(hX: ¬X b):Fr X w w':=
 ⟨h.os,h.tape,h.output,Nat.le_of_eq h.size.symm,fun k hk=>h.block k fun e=>hX (e▸hk)⟩
theorem Fr.grown {X:Nat→Prop}{u w w':World}{row:Option Nat}(h:Fr X u w)(hg:w.grownBy w' row)(hX: ∀k,X k→k<w.heap.size)(hr: ∀k,row=some k→ ¬X k):Fr X u w':=
 h.trans ⟨hg.os,hg.tape,hg.output,hg.size,fun k hk=>hg.block k (hX k hk) fun e=>hr k e.symm hk⟩
theorem Inv.rd {X:Nat→Prop}{w:World}{b:Nat}{s:ByteArray}{st:St}(h:Inv X w b s st):Rd w b s st.at_ st.bad:=let ⟨_,_,_,g⟩:=h;g.rd
theorem Inv.nob {X:Nat→Prop}{w:World}{b:Nat}{s:ByteArray}{st:St}(h:Inv X w b s st): ¬X b:=let ⟨_,_,_,g⟩:=h;g.rows.nob
theorem Inv.lt {X:Nat→Prop}{w:World}{b:Nat}{s:ByteArray}{st:St}(h:Inv X w b s st):b<w.heap.size:=let ⟨_,_,_,g⟩:=h;g.rows.lt
theorem Rd.other {w w':World}{b:Nat}{s:ByteArray}{a:Nat}{d:Bool}(h:Rd w b s a d)(hb:w'.heap[b]?=w.heap[b]?):Rd w' b s a d:=
 ⟨(World.cell?_of_block (w:=w) hb).trans h.c0,(World.cell?_of_block (w:=w) hb).trans h.c1,(World.cell?_of_block (w:=w) hb).trans h.c2,
  (World.frozen?_of_block (w:=w) hb).trans h.f1,(World.frozen?_of_block (w:=w) hb).trans h.f2,h.le,h.sz⟩
theorem Inv.other {X:Nat→Prop}{w w':World}{b:Nat}{s:ByteArray}{st:St}(h:Inv X w b s st)(hk: ∀k,k<w.heap.size→ ¬X k→w'.heap[k]?=w.heap[k]?):Inv X w' b s st:=by
 obtain⟨V,iv,cv,g⟩:=h
 exact⟨V,iv,cv,g.rd.other (hk b g.rows.lt g.rows.nob),g.rows.other hk,g.il,g.cl,fun i l v h1 h2=>(g.items i l v h1 h2).other hk,fun i l v h1 h2=>(g.clauses i l v h1 h2).other hk⟩
theorem Inv.mono {X Y:Nat→Prop}{w:World}{b:Nat}{s:ByteArray}{st:St}(h:Inv X w b s st)(hY: ∀k,Y k→X k):Inv Y w b s st:=by
 obtain⟨V,iv,cv,g⟩:=h
 exact⟨V,iv,cv,g.rd,g.rows.mono hY,g.il,g.cl,fun i l v h1 h2=>(g.items i l v h1 h2).mono hY,fun i l v h1 h2=>(g.clauses i l v h1 h2).mono hY⟩
theorem Inv.more {X:Nat→Prop}{w:World}{b:Nat}{s:ByteArray}{st:St}(h:Inv X w b s st):Inv (fun k=>X k∨w.heap.size≤k) w b s st:=by
 obtain⟨V,iv,cv,g⟩:=h
 exact⟨V,iv,cv,g.rd,g.rows.more,g.il,g.cl,fun i l v h1 h2=>(g.items i l v h1 h2).more,fun i l v h1 h2=>(g.clauses i l v h1 h2).more⟩
theorem Inv.drewN {X:Nat→Prop}{w:World}{b:Nat}{s:ByteArray}{st:St}(h:Inv X w b s st)(n:Nat):Inv X (w.drewN n) b s st:=h.other fun _ _ _=>rfl
theorem Inv.alloc {X:Nat→Prop}{w:World}{b:Nat}{s:ByteArray}{st:St}(h:Inv X w b s st)(o:Obj):Inv X (w.alloc o) b s st:=h.other fun k hk _=>Below.heap_alloc _ _ _ hk
theorem Inv.allocX {X:Nat→Prop}{w:World}{b:Nat}{s:ByteArray}{st:St}(h:Inv X w b s st)(o:Obj):Inv (fun k=>X k∨k=w.heap.size) (w.alloc o) b s st:=
 (h.more.mono (Y:=fun k=>X k∨k=w.heap.size) fun _ y=>y.imp id fun e=>by omega).alloc o
theorem Inv.setCell {X:Nat→Prop}{w:World}{b:Nat}{s:ByteArray}{st:St}(h:Inv X w b s st){a:Addr}(ha:X a.block)(v:Value):Inv X (w.setCell a v) b s st:=
 h.other fun k _ hx=>Below.heap_setCell _ _ _ _ fun e=>hx (e▸ha)
theorem Inv.sc {X:Nat→Prop}{w w':World}{b:Nat}{s:ByteArray}{st:St}(h:Inv X w b s st){a:Nat}{d:Bool}(hr:Rd w' b s a d)(hs:Sc b w w'):Inv X w' b s {st with at_:=a,bad:=d}:=by
 obtain⟨V,iv,cv,g⟩:=h
 have hside: ∀{e size n:Nat} {v:Value} {xs:List Value},Side X w b V e size v n xs→Side X w' b V e size v n xs:=fun{e size n v xs} q=>
  ⟨ownsRow_same q.own fun k e=>hs.block k (by have:=(q.own.lt k e).1;omega),q.notX,q.apart⟩
 refine⟨V,iv,cv,hr,⟨fun o h3 h6=>(hs.cell o (by omega) (by omega)).trans (g.rows.cell o h3 h6),fun o h3 h6=>(hs.frozen o).trans (g.rows.froz o h3 h6),
  fun o h3 h6=> ?_,g.rows.apart,g.rows.nob,g.rows.notX⟩,g.il,g.cl,fun i l v h1 h2=>hside (g.items i l v h1 h2),fun i l v h1 h2=>hside (g.clauses i l v h1 h2)⟩
 have:=ownsRow_same (g.rows.own o h3 h6) (w':=w') fun k e=>hs.block k (by have:=((g.rows.own o h3 h6).lt k e).1;omega)
 exact this
theorem Rd.setRow {w:World}{b:Nat}{s:ByteArray}{a:Nat}{d:Bool}(h:Rd w b s a d)(o:Nat)(h3:3≤o)(v:Value):Rd (w.setCell ⟨b,o,none⟩ v) b s a d:=
 ⟨(setCell_other _ _ _ _ _ (by omega)).trans h.c0,(setCell_other _ _ _ _ _ (by omega)).trans h.c1,(setCell_other _ _ _ _ _ (by omega)).trans h.c2,
  (World.frozen?_setCell _ _ _ _).trans h.f1,(World.frozen?_setCell _ _ _ _).trans h.f2,h.le,h.sz⟩
section
variable {X:Nat→Prop} {w w2:World} {b:Nat} {s:ByteArray} {st:St} {V:Nat→Value} {iv cv:List Value}
theorem InvV.rd2 (g:InvV X w b s st V iv cv){o:Nat}(h3:3≤o)(h6:o≤6)(hg:w.grownBy w2 (V o).ownBlock)(v':Value):Rd (w2.setCell ⟨b,o,none⟩ v') b s st.at_ st.bad:=
 (g.rd.other (hg.block b g.rows.lt fun e=>by have:=((g.rows.own o h3 h6).lt b e.symm).1;omega)).setRow o h3 v'
theorem Rows4.congr {X:Nat→Prop}{w:World}{b:Nat}{V:Nat→Value}{n n':Nat→Nat}{xs xs':Nat→List Value}(h:Rows4 X w b V n xs)(hn: ∀o,3≤o→o≤6→n' o=n o)(hx: ∀o,3≤o→o≤6→xs' o=xs o):Rows4 X w b V n' xs':=
 ⟨h.cell,h.froz,fun o h3 h6=>by rw [hn o h3 h6,hx o h3 h6];exact h.own o h3 h6,h.apart,h.nob,h.notX⟩
theorem InvV.pushE (g:InvV X w b s st V iv cv)(x:Ex){v':Value}(hown:w2.ownsRow (b+1) 120 5 v' (st.E.length+1) ((st.E.map Ex.cells).flatten++x.cells))
  (hg:w.grownBy w2 (V 5).ownBlock) (hat: ∀k,v'.ownBlock=some k→(V 5).ownBlock=some k∨w.heap.size≤k) (hX: ∀k,X k→k<w.heap.size):
  Inv X (w2.setCell ⟨b,5,none⟩ v') b s {st with E:=st.E++[x]}:=by
 refine⟨upd V 5 v',iv,cv,g.rd2 (by omega) (by omega) hg v',?_,g.il,g.cl,fun i l v h1 h2=>(g.items i l v h1 h2).push (by omega) (by omega) hg hat,fun i l v h1 h2=>(g.clauses i l v h1 h2).push (by omega) (by omega) hg hat⟩
 refine(g.rows.push (o:=5) (by omega) (by omega) hown hg hat hX).congr (fun o h3 h6=> ?_) (fun o h3 h6=> ?_)
 ·match o,h3,h6 with
  |3,_,_=>rfl
  |4,_,_=>rfl
  |5,_,_=>simp [upd,nOf]
  |6,_,_=>rfl
 ·match o,h3,h6 with
  |3,_,_=>rfl
  |4,_,_=>rfl
  |5,_,_=>simp [upd,xsOf]
  |6,_,_=>rfl
theorem InvV.pushA (g:InvV X w b s st V iv cv)(x:As){v':Value}(hown:w2.ownsRow (b+1) 84 3 v' (st.A.length+1) ((st.A.map As.cells).flatten++x.cells))
  (hg:w.grownBy w2 (V 3).ownBlock) (hat: ∀k,v'.ownBlock=some k→(V 3).ownBlock=some k∨w.heap.size≤k) (hX: ∀k,X k→k<w.heap.size):
  Inv X (w2.setCell ⟨b,3,none⟩ v') b s {st with A:=st.A++[x]}:=by
 refine⟨upd V 3 v',iv,cv,g.rd2 (by omega) (by omega) hg v',?_,g.il,g.cl,fun i l v h1 h2=>(g.items i l v h1 h2).push (by omega) (by omega) hg hat,fun i l v h1 h2=>(g.clauses i l v h1 h2).push (by omega) (by omega) hg hat⟩
 refine(g.rows.push (o:=3) (by omega) (by omega) hown hg hat hX).congr (fun o h3 h6=> ?_) (fun o h3 h6=> ?_)
 ·match o,h3,h6 with
  |3,_,_=>simp [upd,nOf]
  |4,_,_=>rfl
  |5,_,_=>rfl
  |6,_,_=>rfl
 ·match o,h3,h6 with
  |3,_,_=>simp [upd,xsOf]
  |4,_,_=>rfl
  |5,_,_=>rfl
  |6,_,_=>rfl
theorem InvV.pushL (g:InvV X w b s st V iv cv)(x:Lc)(u:Value)(hu:Side X w b V 3 1 u x.items.length (x.items.map (Value.int .i64))){v':Value}
  (hown:w2.ownsRow (b+1) 160 7 v' (st.L.length+1) ((List.zipWith Lc.cells st.L iv).flatten++x.cells u))
  (hg:w.grownBy w2 (V 4).ownBlock) (hat: ∀k,v'.ownBlock=some k→(V 4).ownBlock=some k∨w.heap.size≤k) (hX: ∀k,X k→k<w.heap.size):
  Inv X (w2.setCell ⟨b,4,none⟩ v') b s {st with L:=st.L++[x]}:=by
 refine⟨upd V 4 v',iv++[u],cv,g.rd2 (by omega) (by omega) hg v',?_,by simp [g.il],g.cl,fun i l v h1 h2=> ?_,fun i l v h1 h2=>(g.clauses i l v h1 h2).push (by omega) (by omega) hg hat⟩
 ·refine(g.rows.push (o:=4) (by omega) (by omega) hown hg hat hX).congr (fun o h3 h6=> ?_) (fun o h3 h6=> ?_)
  ·match o,h3,h6 with
   |3,_,_=>rfl
   |4,_,_=>simp [upd,nOf]
   |5,_,_=>rfl
   |6,_,_=>rfl
  ·match o,h3,h6 with
   |3,_,_=>rfl
   |4,_,_=>
    simp only [upd,xsOf,if_true]
    rw [List.zipWith_append g.il.symm]
    simp
   |5,_,_=>rfl
   |6,_,_=>rfl
 ·by_cases hi:i<st.L.length
  ·rw [List.getElem?_append_left hi] at h1
   rw [List.getElem?_append_left (by rw [g.il];exact hi)] at h2
   exact(g.items i l v h1 h2).push (by omega) (by omega) hg hat
  ·rw [List.getElem?_append_right (by omega)] at h1
   rw [List.getElem?_append_right (by rw [g.il];omega),g.il] at h2
   cases hz:i - st.L.length with
   |zero=>
    rw [hz] at h1 h2
    simp at h1 h2
    subst h1 h2
    exact hu.push (by omega) (by omega) hg hat
   |succ m=>rw [hz] at h1;simp at h1
theorem InvV.pushC (g:InvV X w b s st V iv cv)(x:List Cl)(u:Value)(hu:Side X w b V 156 4 u x.length ((x.map Cl.cells).flatten)){v':Value}
  (hown:w2.ownsRow (b+1) 133 1 v' (st.C.length+1) (cv++[u]))
  (hg:w.grownBy w2 (V 6).ownBlock) (hat: ∀k,v'.ownBlock=some k→(V 6).ownBlock=some k∨w.heap.size≤k) (hX: ∀k,X k→k<w.heap.size):
  Inv X (w2.setCell ⟨b,6,none⟩ v') b s {st with C:=st.C++[x]}:=by
 refine⟨upd V 6 v',iv,cv++[u],g.rd2 (by omega) (by omega) hg v',?_,g.il,by simp [g.cl],fun i l v h1 h2=>(g.items i l v h1 h2).push (by omega) (by omega) hg hat,fun i l v h1 h2=> ?_⟩
 ·refine(g.rows.push (o:=6) (by omega) (by omega) hown hg hat hX).congr (fun o h3 h6=> ?_) (fun o h3 h6=> ?_)
  ·match o,h3,h6 with
   |3,_,_=>rfl
   |4,_,_=>rfl
   |5,_,_=>rfl
   |6,_,_=>simp [upd,nOf]
  ·match o,h3,h6 with
   |3,_,_=>rfl
   |4,_,_=>rfl
   |5,_,_=>rfl
   |6,_,_=>simp [upd,xsOf]
 ·by_cases hi:i<st.C.length
  ·rw [List.getElem?_append_left hi] at h1
   rw [List.getElem?_append_left (by rw [g.cl];exact hi)] at h2
   exact(g.clauses i l v h1 h2).push (by omega) (by omega) hg hat
  ·rw [List.getElem?_append_right (by omega)] at h1
   rw [List.getElem?_append_right (by rw [g.cl];omega),g.cl] at h2
   cases hz:i - st.C.length with
   |zero=>
    rw [hz] at h1 h2
    simp at h1 h2
    subst h1 h2
    exact hu.push (by omega) (by omega) hg hat
   |succ m=>rw [hz] at h1;simp at h1
theorem grownBy_trans {u v w:World}{row:Option Nat}(h:u.grownBy v row)(k:v.grownBy w row):u.grownBy w row:=
 ⟨k.os.trans h.os,k.tape.trans h.tape,k.output.trans h.output,Nat.le_trans h.size k.size,fun i hi hr=>(k.block i (Nat.lt_of_lt_of_le hi h.size) hr).trans (h.block i hi hr)⟩
theorem InvV.grown (g:InvV X w b s st V iv cv){o:Nat}(h3:3≤o)(h6:o≤6)(hg:w.grownBy w2 (V o).ownBlock)(hX: ∀k,X k→k<w.heap.size):
  w2.cell? ⟨b,o,none⟩=some (V o)∧w2.frozen? ⟨b,o,none⟩=false∧ ∀v',Fr X w (w2.setCell ⟨b,o,none⟩ v'):=by
 have hbo:some b≠(V o).ownBlock:=fun e=>by have:=((g.rows.own o h3 h6).lt b e.symm).1;omega
 have hb2:w2.heap[b]?=w.heap[b]?:=hg.block b g.rows.lt hbo
 exact⟨(World.cell?_of_block (w:=w) hb2).trans (g.rows.cell o h3 h6),(World.frozen?_of_block (w:=w) hb2).trans (g.rows.froz o h3 h6),
  fun v'=>((Fr.refl X w).grown hg hX fun k e=>g.rows.notX o k h3 h6 e).setCell g.rows.nob v'⟩
theorem Side.nil {X:Nat→Prop}{w:World}{b:Nat}{V:Nat→Value}{e size:Nat}:Side X w b V e size (.slice none 0 0) 0 []:=
 ⟨World.ownsRow_nil _ _ _ _,fun k e=>by simp [Value.ownBlock] at e,fun o k _ _ e=>by simp [Value.ownBlock] at e⟩
end
theorem info84:(Tryz.prog.info? 84).map (fun i=>(i.zero,i.size,i.bytes))=some (some (.agg #[.string ⟨#[]⟩,.int .i64 0,.int .i64 0]),3,32):=by kernel_rfl
theorem info160:(Tryz.prog.info? 160).map (fun i=>(i.zero,i.size,i.bytes))=some (some (.agg #[.int .i64 0,.string ⟨#[]⟩,.int .i64 0,.int .i64 0,.int .i64 0,.int .i64 0,.slice none 0 0]),7,80):=by kernel_rfl
theorem info120:(Tryz.prog.info? 120).map (fun i=>(i.zero,i.size,i.bytes))=some (some (.agg #[.int .i64 0,.int .i64 0,.string ⟨#[]⟩,.int .i64 0,.int .i64 0]),5,48):=by kernel_rfl
theorem info133:(Tryz.prog.info? 133).map (fun i=>(i.zero,i.size,i.bytes))=some (some (.agg #[.slice none 0 0]),1,24):=by kernel_rfl
theorem info156:(Tryz.prog.info? 156).map (fun i=>(i.zero,i.size,i.bytes))=some (some (.agg #[.int .i64 0,.int .i64 0,.string ⟨#[]⟩,.int .i64 0]),4,40):=by kernel_rfl
theorem info3:(Tryz.prog.info? 3).map (fun i=>(i.zero,i.size,i.bytes))=some (some (.int .i64 0),1,8):=by kernel_rfl
theorem addLicPair_any (X:Nat→Prop)(b:Nat)(s:ByteArray)(st:St)(t:ByteArray)(l r:Int)(w:World)(h:Inv X w b s st)(hX: ∀k,X k→k<w.heap.size)(hlen:st.L.length<100000):
  Calls Tryz.prog 177 #[.pointer (some ⟨b,0,none⟩),.string t,.int .i64 l,.int .i64 r] w fun e w'=>e= .returned (.int .i64 st.L.length)∧Inv X w' b s {st with L:=st.L++[⟨1,t,l,r,0,0,[]⟩]}∧Fr X w w':=by
 obtain⟨V,iv,cv,g⟩:=h
 obtain⟨i0,hi,hz0,hz1,hz2⟩:=info_parts info160
 have hlt:=g.rows.lt
 have hc:=g.rows.cell 4 (by omega) (by omega)
 have hf:=g.rows.froz 4 (by omega) (by omega)
 have how:=g.rows.own 4 (by omega) (by omega)
 have HG:=hide g
 clear g
 go_enter Tryz.func177,Tryz.ntmps177
 go_wp2_with (at_builtin;go_must (refine wpList_append_lies _ rfl (.tmp 14) (.tmp 19) 50 rfl (b+1) 160 i0 _ 7 80 Tryz.underlying50 hi hz0 hz1 hz2 rfl (by omega) (V 4) st.L.length _ rfl (how.alloc _) ⟨w.heap.size,0,none⟩ 1 1 (Lc.cells ⟨1,t,l,r,0,0,[]⟩ (.slice none 0 0)) rfl rfl ?news ?one (by omega) ?mm ?bys ?base (w.heap.size+1) (by simp) ?rest))
 case news=>exact World.news_of_block (heap_alloc_new w _)
 case one=>intro u hu;simp [Lc.cells] at hu;rcases hu with rfl|rfl|rfl|rfl|rfl|rfl|rfl<;>rfl
 case mm=>unfold maxLen;omega
 case bys=>omega
 case base=>simp;omega
 case rest=>
  intro gb cap w2 hown hgrow hat hlt2
  have hg:=grownBy_trans (World.grownBy_alloc w _ _) hgrow
  obtain⟨k1,k2,hfr⟩:=HG.out.grown (o:=4) (by omega) (by omega) hg hX
  have hI:=HG.out.pushL ⟨1,t,l,r,0,0,[]⟩ (.slice none 0 0) Side.nil hown hg (fun k e=>by
   have:gb=k:=by simpa [Value.ownBlock] using e
   subst this
   exact hat.imp id fun e=>by omega) hX
  have hfr:=hfr (.slice (some ⟨gb,0,none⟩) (st.L.length+1) cap)
  clear hgrow hat hown hg how
  go_wp2_with fail
  go_ret
  exact⟨by simp,hI,hfr⟩
theorem news_two (w:World)(o:Obj)(cs:Array Value)(t:TypeId): ∀j u,cs.toList[j]?=some u→((w.alloc o).alloc (.cells cs t)).drew.cell? ((⟨w.heap.size+1,0,none⟩:Addr).add j)=some u:=by
 have h:=heap_alloc_new (w.alloc o) (.cells cs t)
 simp only [World.alloc,Array.size_push] at h
 exact World.news_of_block (w:=((w.alloc o).alloc (.cells cs t)).drew) h
theorem grownBy_undrew {w w2:World}{row:Option Nat}(h:w.drew.grownBy w2 row):w.grownBy w2 row:=⟨h.os,h.tape,h.output,h.size,h.block⟩
theorem addExpr_any (X:Nat→Prop)(b:Nat)(s:ByteArray)(st:St)(x:Ex)(w:World)(h:Inv X w b s st)(hX: ∀k,X k→k<w.heap.size)(hlen:st.E.length<100000):
  Calls Tryz.prog 148 #[.pointer (some ⟨b,0,none⟩),.agg #[.int .i64 x.form,.int .i64 x.place,.string x.text,.int .i64 x.left,.int .i64 x.right]] w fun e w'=>e= .returned (.int .i64 st.E.length)∧Inv X w' b s {st with E:=st.E++[x]}∧Fr X w w':=by
 obtain⟨V,iv,cv,g⟩:=h
 obtain⟨i0,hi,hz0,hz1,hz2⟩:=info_parts info120
 have hlt:=g.rows.lt
 have hc:=g.rows.cell 5 (by omega) (by omega)
 have hf:=g.rows.froz 5 (by omega) (by omega)
 have how:=g.rows.own 5 (by omega) (by omega)
 have hro:=fun k e=>(how.lt k e)
 have HG:=hide g
 have HRO:=hide hro
 clear g hro
 have hnew:w.heap.size≠b:=by omega
 have hfa: ∀o:Obj,(w.alloc o).frozen? ⟨b,5,none⟩=false:=fun o=>(World.frozen?_of_block (w:=w) (Below.heap_alloc _ _ _ hlt)).trans hf
 have hfb: ∀o p:Obj,((w.alloc o).alloc p).frozen? ⟨b,5,none⟩=false:=fun o p=>(World.frozen?_of_block (w:=w.alloc o) (Below.heap_alloc _ _ _ (by simp;omega))).trans (hfa o)
 go_enter Tryz.func148,Tryz.ntmps148
 go_wp2_with fail
 go_region_law ((refine step_append_lies _ (by rfl) (.tmp 10) (.tmp 12) 51 (by rfl) (b+1) 120 i0 _ 5 48 Tryz.underlying51 hi hz0 hz1 hz2 rfl (by omega) (V 5) st.E.length _ (by rfl) (by exact(how.alloc _).alloc _) ⟨w.heap.size+1,0,none⟩ 1 1 (Ex.cells x) (by rfl) rfl (by exact news_two w _ _ _) (by intro u hu;simp [Ex.cells] at hu;rcases hu with rfl|rfl|rfl|rfl|rfl<;>rfl) (by omega) (by unfold maxLen;omega) (by omega) (by simp;omega) (w.heap.size+2) (by simp) ?_;intro gb cap w2 hown hgrow hat hlt2;have hg:=grownBy_trans (grownBy_trans (World.grownBy_alloc w _ _) (World.grownBy_alloc _ _ _)) (grownBy_undrew hgrow);obtain⟨k1,k2,hfr⟩:=HG.out.grown (o:=5) (by omega) (by omega) hg hX))
 all_goals
  have hI:=HG.out.pushE x hown hg (fun k e=>by
   have:gb=k:=by simpa [Value.ownBlock] using e
   subst this
   exact hat.imp id fun e=>by omega) hX
  have hfr:=hfr (.slice (some ⟨gb,0,none⟩) (st.E.length+1) cap)
  clear hgrow hat hown hg how hfa hfb
  go_wp2_with fail
  go_ret
  exact⟨by simp,hI,hfr⟩
theorem addLeaf_any (X:Nat→Prop)(b:Nat)(s:ByteArray)(st:St)(f p:Int)(t:ByteArray)(w:World)(h:Inv X w b s st)(hX: ∀k,X k→k<w.heap.size)(hlen:st.E.length<100000):
  Calls Tryz.prog 195 #[.pointer (some ⟨b,0,none⟩),.int .i64 f,.int .i64 p,.string t] w fun e w'=>e= .returned (.int .i64 st.E.length)∧Inv X w' b s {st with E:=st.E++[⟨f,p,t,-1,-1⟩]}∧Fr X w w':=by
 go_enter Tryz.func195,Tryz.ntmps195
 go_wp2_with (go_at_call 148;refine(addExpr_any X b s st ⟨f,p,t,-1,-1⟩ _ h hX hlen).mono ?_;rintro e w1 ⟨rfl,hI,hF⟩)
 go_ret
 exact⟨rfl,hI,hF⟩
theorem addPrefix_any (X:Nat→Prop)(b:Nat)(s:ByteArray)(st:St)(p:Int)(t:ByteArray)(i:Int)(w:World)(h:Inv X w b s st)(hX: ∀k,X k→k<w.heap.size)(hlen:st.E.length<100000):
  Calls Tryz.prog 169 #[.pointer (some ⟨b,0,none⟩),.int .i64 p,.string t,.int .i64 i] w fun e w'=>e= .returned (.int .i64 st.E.length)∧Inv X w' b s {st with E:=st.E++[⟨5,p,t,i,-1⟩]}∧Fr X w w':=by
 go_enter Tryz.func169,Tryz.ntmps169
 go_wp2_with (go_at_call 148;refine(addExpr_any X b s st ⟨5,p,t,i,-1⟩ _ h hX hlen).mono ?_;rintro e w1 ⟨rfl,hI,hF⟩)
 go_ret
 exact⟨rfl,hI,hF⟩
theorem addPair_any (X:Nat→Prop)(b:Nat)(s:ByteArray)(st:St)(p:Int)(t:ByteArray)(i j:Int)(w:World)(h:Inv X w b s st)(hX: ∀k,X k→k<w.heap.size)(hlen:st.E.length<100000):
  Calls Tryz.prog 115 #[.pointer (some ⟨b,0,none⟩),.int .i64 p,.string t,.int .i64 i,.int .i64 j] w fun e w'=>e= .returned (.int .i64 st.E.length)∧Inv X w' b s {st with E:=st.E++[⟨6,p,t,i,j⟩]}∧Fr X w w':=by
 go_enter Tryz.func115,Tryz.ntmps115
 go_wp2_with (go_at_call 148;refine(addExpr_any X b s st ⟨6,p,t,i,j⟩ _ h hX hlen).mono ?_;rintro e w1 ⟨rfl,hI,hF⟩)
 go_ret
 exact⟨rfl,hI,hF⟩
theorem addTest_any (X:Nat→Prop)(b:Nat)(s:ByteArray)(st:St)(p:Int)(i:Int)(w:World)(h:Inv X w b s st)(hX: ∀k,X k→k<w.heap.size)(hlen:st.E.length<100000):
  Calls Tryz.prog 185 #[.pointer (some ⟨b,0,none⟩),.int .i64 p,.int .i64 i] w fun e w'=>e= .returned (.int .i64 st.E.length)∧Inv X w' b s {st with E:=st.E++[⟨7,p,⟨#[]⟩,i,-1⟩]}∧Fr X w w':=by
 go_enter Tryz.func185,Tryz.ntmps185
 go_wp2_with (go_at_call 148;refine(addExpr_any X b s st ⟨7,p,⟨#[]⟩,i,-1⟩ _ h hX hlen).mono ?_;rintro e w1 ⟨rfl,hI,hF⟩)
 go_ret
 exact⟨rfl,hI,hF⟩
def St.put (st:St)(p:Nat×Bool):St:={st with at_:=p.1,bad:=p.2}
def St.put3 (st:St)(p:Nat×Bool×ByteArray):St:={st with at_:=p.1,bad:=p.2.1}
def pkS (s:ByteArray)(st:St):Int:=pk s st.at_ st.bad
def sgn (s:ByteArray)(l:List UInt8)(st:St):St:=st.put (signM s st.bad l st.at_)
def wrd (s:ByteArray)(l:List UInt8)(st:St):St:=st.put (wordM s st.bad l st.at_)
def addE (st:St)(x:Ex):Option (Int×St):=if st.E.length<100000 then some (st.E.length,{st with E:=st.E++[x]}) else none
def addL (st:St)(x:Lc):Option (Int×St):=if st.L.length<100000 then some (st.L.length,{st with L:=st.L++[x]}) else none
def addC (st:St)(x:List Cl):Option (Int×St):=if st.C.length<100000 then some (st.C.length,{st with C:=st.C++[x]}) else none
def addA (st:St)(x:As):Option St:=if st.A.length<100000 then some {st with A:=st.A++[x]} else none
def M (s:ByteArray):Nat→Nat→Int→St→Option (Int×St)
 |0,_,_,_=>none
 |n+1,0,_,st=>(M s n 1 0 st).bind fun r=>M s n 10 r.1 r.2
 |n+1,10,l,st=>if pkS s st==124 then(M s n 1 0 (sgn s [124,124] st)).bind fun r=>(addE r.2 ⟨6,st.at_,⟨#[124,124]⟩,l,r.1⟩).bind fun q=>M s n 10 q.1 q.2 else some (l,st)
 |n+1,1,_,st=>(M s n 2 0 st).bind fun r=>M s n 11 r.1 r.2
 |n+1,11,l,st=>if pkS s st==38 then(M s n 2 0 (sgn s [38,38] st)).bind fun r=>(addE r.2 ⟨6,st.at_,⟨#[38,38]⟩,l,r.1⟩).bind fun q=>M s n 11 q.1 q.2 else some (l,st)
 |n+1,2,_,st=>if pkS s st !=33 then M s n 3 0 st else(M s n 2 0 (sgn s [33] st)).bind fun r=>addE r.2 ⟨5,st.at_,⟨#[33]⟩,r.1,-1⟩
 |n+1,3,_,st=>(M s n 4 0 st).bind fun r=>
   let c:=comparingM s r.2.at_ r.2.bad
   if c.2.2.size==0 then some (r.1,r.2.put3 c) else(M s n 4 0 (r.2.put3 c)).bind fun q=>addE q.2 ⟨6,r.2.at_,c.2.2,r.1,q.1⟩
 |n+1,4,_,st=>(M s n 5 0 st).bind fun r=>M s n 14 r.1 r.2
 |n+1,14,l,st=>
   let c:=sumSignM s st.at_ st.bad
   if c.size==0 then some (l,st) else(M s n 5 0 (sgn s c.data.toList st)).bind fun r=>(addE r.2 ⟨6,st.at_,c,l,r.1⟩).bind fun q=>M s n 14 q.1 q.2
 |n+1,5,_,st=>(M s n 6 0 st).bind fun r=>M s n 15 r.1 r.2
 |n+1,15,l,st=>
   let c:=productSignM s st.at_ st.bad
   if c.size==0 then some (l,st) else(M s n 6 0 (sgn s c.data.toList st)).bind fun r=>(addE r.2 ⟨6,st.at_,c,l,r.1⟩).bind fun q=>M s n 15 q.1 q.2
 |n+1,6,_,st=>if pkS s st !=45 then M s n 7 0 st else(M s n 6 0 (sgn s [45] st)).bind fun r=>addE r.2 ⟨5,st.at_,⟨#[45]⟩,r.1,-1⟩
 |n+1,7,_,st=>
   if isDigit (pkS s st) then
    let c:=numberM s st.at_ st.bad
    addE (st.put3 c) ⟨0,st.at_,c.2.2,-1,-1⟩
   else if pkS s st==34 then
    let c:=quotedM s st.at_ st.bad
    addE (st.put3 c) ⟨1,st.at_,c.2.2,-1,-1⟩
   else if pkS s st==64 then
    let u:=wrd s [64] st
    let c:=nameM s u.at_ u.bad
    addE (u.put3 c) ⟨4,st.at_,c.2.2,-1,-1⟩
   else if pkS s st==40 then(M s n 0 0 (sgn s [40] st)).bind fun r=>some (r.1,sgn s [41] r.2)
   else
    let c:=nameM s st.at_ st.bad
    if c.2.2.data.toList==[116,114,117,101]||c.2.2.data.toList==[102,97,108,115,101] then addE (st.put3 c) ⟨2,st.at_,c.2.2,-1,-1⟩ else addE (st.put3 c) ⟨3,st.at_,c.2.2,-1,-1⟩
 |_+1,_,_,_=>none
def ML (s:ByteArray):Nat→Nat→Int→Int→Int→List Int→St→Option (Int×St)
 |0,_,_,_,_,_,_=>none
 |n+1,0,_,_,_,_,st=>(ML s n 1 0 0 0 [] st).bind fun r=>ML s n 10 r.1 0 0 [] r.2
 |n+1,10,l,_,_,_,st=>if pkS s st==124 then(ML s n 1 0 0 0 [] (sgn s [124,124] st)).bind fun r=>(addL r.2 ⟨1,⟨#[124,124]⟩,l,r.1,0,0,[]⟩).bind fun q=>ML s n 10 q.1 0 0 [] q.2 else some (l,st)
 |n+1,1,_,_,_,_,st=>(ML s n 2 0 0 0 [] st).bind fun r=>ML s n 11 r.1 0 0 [] r.2
 |n+1,11,l,_,_,_,st=>if pkS s st==38 then(ML s n 2 0 0 0 [] (sgn s [38,38] st)).bind fun r=>(addL r.2 ⟨1,⟨#[38,38]⟩,l,r.1,0,0,[]⟩).bind fun q=>ML s n 11 q.1 0 0 [] q.2 else some (l,st)
 |n+1,2,_,_,_,_,st=>
   if pkS s st==40 then(ML s n 0 0 0 0 [] (sgn s [40] st)).bind fun r=>some (r.1,sgn s [41] r.2)
   else if isDigit (pkS s st) then ML s n 3 0 0 0 [] st
   else
    let c:=nameM s st.at_ st.bad
    addL (st.put3 c) ⟨0,c.2.2,-1,-1,0,0,[]⟩
 |n+1,3,_,_,_,_,st=>(ML s n 0 0 0 0 [] (sgn s [45,111,102,40] {st with at_:=st.at_+1})).bind fun r=>ML s n 13 0 st.at_ (pkS s st - 48) [r.1] r.2
 |n+1,13,_,p,k,its,st=>
   if its.length<100000 then
    if pkS s st==44 then(ML s n 0 0 0 0 [] (sgn s [44] st)).bind fun r=>ML s n 13 0 p k (its++[r.1]) r.2
    else addL (sgn s [41] st) ⟨2,⟨#[]⟩,-1,-1,p,k,its⟩
   else none
 |_+1,_,_,_,_,_,_=>none
def MC (s:ByteArray):Nat→Nat→List Cl→St→Option (Int×Cl×St)
 |0,_,_,_=>none
 |n+1,0,_,st=>(MC s n 1 [] st).bind fun r=>MC s n 2 [r.2.1] r.2.2
 |n+1,2,cls,st=>
   if cls.length<100000 then
    if pkS s st==59 then(MC s n 1 [] (sgn s [59] st)).bind fun r=>MC s n 2 (cls++[r.2.1]) r.2.2
    else(addC st cls).bind fun r=>some (r.1,⟨0,0,⟨#[]⟩,0⟩,r.2)
   else none
 |n+1,1,_,st=>(M s n 0 0 st).bind fun r=>(addE r.2 ⟨7,st.at_,⟨#[]⟩,r.1,-1⟩).bind fun q=>
   if !arrowM s q.2.at_ q.2.bad then some (0,⟨q.1,0,⟨#[]⟩,-1⟩,q.2)
   else
    let u:=sgn s [45,62] q.2
    if pkS s u==123 then(MC s n 0 [] (sgn s [123] u)).bind fun v=>some (0,⟨q.1,2,⟨#[]⟩,v.1⟩,sgn s [125] v.2.2)
    else
     let c:=nameM s u.at_ u.bad
     some (0,⟨q.1,1,c.2.2,-1⟩,u.put3 c)
 |_+1,_,_,_=>none
def lstart (s:ByteArray)(l:List UInt8)(st:St):St:=sgn s [32] (wrd s l st)
def MA (s:ByteArray)(n:Nat)(st:St):Option St:=
 let a:=lstart s [98,121] st
 let c:=nameM s a.at_ a.bad
 let d:=lstart s [116,111] (wrd s [10] (a.put3 c))
 (ML s n 0 0 0 0 [] d).bind fun r=>
 (MC s n 0 [] (lstart s [105,102] (wrd s [10] r.2))).bind fun q=>
 addA (wrd s [10] q.2.2) ⟨c.2.2,r.1,q.1⟩
def MR (s:ByteArray):Nat→St→Option St
 |0,_=>none
 |n+1,st=>if !st.bad&&decide (st.at_<s.size) then(MA s n st).bind fun u=>MR s n u else some st
theorem Fr.lt {X:Nat→Prop}{w w':World}(h:Fr X w w')(hX: ∀k,X k→k<w.heap.size): ∀k,X k→k<w'.heap.size:=fun k x=>Nat.lt_of_lt_of_le (hX k x) h.size
theorem addE_some {st:St}{x:Ex}{r:Int×St}(h:addE st x=some r):st.E.length<100000∧r=((st.E.length:Int),{st with E:=st.E++[x]}):=by
 unfold addE at h
 split at h
 ·exact⟨‹_›,(Option.some.inj h).symm⟩
 ·cases h
theorem addL_some {st:St}{x:Lc}{r:Int×St}(h:addL st x=some r):st.L.length<100000∧r=((st.L.length:Int),{st with L:=st.L++[x]}):=by
 unfold addL at h
 split at h
 ·exact⟨‹_›,(Option.some.inj h).symm⟩
 ·cases h
theorem addC_some {st:St}{x:List Cl}{r:Int×St}(h:addC st x=some r):st.C.length<100000∧r=((st.C.length:Int),{st with C:=st.C++[x]}):=by
 unfold addC at h
 split at h
 ·exact⟨‹_›,(Option.some.inj h).symm⟩
 ·cases h
theorem addA_some {st:St}{x:As}{r:St}(h:addA st x=some r):st.A.length<100000∧r={st with A:=st.A++[x]}:=by
 unfold addA at h
 split at h
 ·exact⟨‹_›,(Option.some.inj h).symm⟩
 ·cases h
theorem sumSignM_size (s:ByteArray)(a:Nat)(d:Bool):(sumSignM s a d).size≤600:=by
 unfold sumSignM
 split
 ·decide
 ·split
  ·decide
  ·split
   ·decide
   ·split<;>decide
theorem productSignM_size (s:ByteArray)(a:Nat)(d:Bool):(productSignM s a d).size≤600:=by
 unfold productSignM
 split
 ·decide
 ·split
  ·decide
  ·split<;>decide
theorem isEmpty_eq (c:ByteArray):c.toList.isEmpty=(c.size==0):=by
 rw [ByteArray.toList_eq]
 have h:c.size=c.data.toList.length:=by simp
 rw [h]
 cases c.data.toList<;>rfl
theorem isEmpty_no {c:ByteArray}(h:(c.size==0)=false):c.toList.isEmpty=false:=(isEmpty_eq c).trans h
theorem isEmpty_yes {c:ByteArray}(h:(c.size==0)=true):c.toList.isEmpty=true:=(isEmpty_eq c).trans h
theorem M_0 (s:ByteArray)(n:Nat)(l0:Int)(st:St):M s (n+1) 0 l0 st=
  ((M s n 1 0 st).bind fun r=>M s n 10 r.1 r.2):=rfl
theorem M_10 (s:ByteArray)(n:Nat)(l:Int)(st:St):M s (n+1) 10 l st=
  (if pkS s st==124 then(M s n 1 0 (sgn s [124,124] st)).bind fun r=>(addE r.2 ⟨6,st.at_,⟨#[124,124]⟩,l,r.1⟩).bind fun q=>M s n 10 q.1 q.2 else some (l,st)):=rfl
theorem M_1 (s:ByteArray)(n:Nat)(l0:Int)(st:St):M s (n+1) 1 l0 st=
  ((M s n 2 0 st).bind fun r=>M s n 11 r.1 r.2):=rfl
theorem M_11 (s:ByteArray)(n:Nat)(l:Int)(st:St):M s (n+1) 11 l st=
  (if pkS s st==38 then(M s n 2 0 (sgn s [38,38] st)).bind fun r=>(addE r.2 ⟨6,st.at_,⟨#[38,38]⟩,l,r.1⟩).bind fun q=>M s n 11 q.1 q.2 else some (l,st)):=rfl
theorem M_2 (s:ByteArray)(n:Nat)(l0:Int)(st:St):M s (n+1) 2 l0 st=
  (if pkS s st !=33 then M s n 3 0 st else(M s n 2 0 (sgn s [33] st)).bind fun r=>addE r.2 ⟨5,st.at_,⟨#[33]⟩,r.1,-1⟩):=rfl
theorem M_3 (s:ByteArray)(n:Nat)(l0:Int)(st:St):M s (n+1) 3 l0 st=
  ((M s n 4 0 st).bind fun r=>
   let c:=comparingM s r.2.at_ r.2.bad
   if c.2.2.size==0 then some (r.1,r.2.put3 c) else(M s n 4 0 (r.2.put3 c)).bind fun q=>addE q.2 ⟨6,r.2.at_,c.2.2,r.1,q.1⟩):=rfl
theorem M_4 (s:ByteArray)(n:Nat)(l0:Int)(st:St):M s (n+1) 4 l0 st=
  ((M s n 5 0 st).bind fun r=>M s n 14 r.1 r.2):=rfl
theorem M_14 (s:ByteArray)(n:Nat)(l:Int)(st:St):M s (n+1) 14 l st=
  (let c:=sumSignM s st.at_ st.bad
   if c.size==0 then some (l,st) else(M s n 5 0 (sgn s c.data.toList st)).bind fun r=>(addE r.2 ⟨6,st.at_,c,l,r.1⟩).bind fun q=>M s n 14 q.1 q.2):=rfl
theorem M_5 (s:ByteArray)(n:Nat)(l0:Int)(st:St):M s (n+1) 5 l0 st=
  ((M s n 6 0 st).bind fun r=>M s n 15 r.1 r.2):=rfl
theorem M_15 (s:ByteArray)(n:Nat)(l:Int)(st:St):M s (n+1) 15 l st=
  (let c:=productSignM s st.at_ st.bad
   if c.size==0 then some (l,st) else(M s n 6 0 (sgn s c.data.toList st)).bind fun r=>(addE r.2 ⟨6,st.at_,c,l,r.1⟩).bind fun q=>M s n 15 q.1 q.2):=rfl
theorem M_6 (s:ByteArray)(n:Nat)(l0:Int)(st:St):M s (n+1) 6 l0 st=
  (if pkS s st !=45 then M s n 7 0 st else(M s n 6 0 (sgn s [45] st)).bind fun r=>addE r.2 ⟨5,st.at_,⟨#[45]⟩,r.1,-1⟩):=rfl
theorem M_7 (s:ByteArray)(n:Nat)(l0:Int)(st:St):M s (n+1) 7 l0 st=
  (if isDigit (pkS s st) then
    let c:=numberM s st.at_ st.bad
    addE (st.put3 c) ⟨0,st.at_,c.2.2,-1,-1⟩
   else if pkS s st==34 then
    let c:=quotedM s st.at_ st.bad
    addE (st.put3 c) ⟨1,st.at_,c.2.2,-1,-1⟩
   else if pkS s st==64 then
    let u:=wrd s [64] st
    let c:=nameM s u.at_ u.bad
    addE (u.put3 c) ⟨4,st.at_,c.2.2,-1,-1⟩
   else if pkS s st==40 then(M s n 0 0 (sgn s [40] st)).bind fun r=>some (r.1,sgn s [41] r.2)
   else
    let c:=nameM s st.at_ st.bad
    if c.2.2.data.toList==[116,114,117,101]||c.2.2.data.toList==[102,97,108,115,101] then addE (st.put3 c) ⟨2,st.at_,c.2.2,-1,-1⟩ else addE (st.put3 c) ⟨3,st.at_,c.2.2,-1,-1⟩):=rfl
theorem ML_0 (s:ByteArray)(n:Nat)(l0:Int)(p0:Int)(k0:Int)(its0:List Int)(st:St):ML s (n+1) 0 l0 p0 k0 its0 st=
  ((ML s n 1 0 0 0 [] st).bind fun r=>ML s n 10 r.1 0 0 [] r.2):=rfl
theorem ML_10 (s:ByteArray)(n:Nat)(l:Int)(p0:Int)(k0:Int)(its0:List Int)(st:St):ML s (n+1) 10 l p0 k0 its0 st=
  (if pkS s st==124 then(ML s n 1 0 0 0 [] (sgn s [124,124] st)).bind fun r=>(addL r.2 ⟨1,⟨#[124,124]⟩,l,r.1,0,0,[]⟩).bind fun q=>ML s n 10 q.1 0 0 [] q.2 else some (l,st)):=rfl
theorem ML_1 (s:ByteArray)(n:Nat)(l0:Int)(p0:Int)(k0:Int)(its0:List Int)(st:St):ML s (n+1) 1 l0 p0 k0 its0 st=
  ((ML s n 2 0 0 0 [] st).bind fun r=>ML s n 11 r.1 0 0 [] r.2):=rfl
theorem ML_11 (s:ByteArray)(n:Nat)(l:Int)(p0:Int)(k0:Int)(its0:List Int)(st:St):ML s (n+1) 11 l p0 k0 its0 st=
  (if pkS s st==38 then(ML s n 2 0 0 0 [] (sgn s [38,38] st)).bind fun r=>(addL r.2 ⟨1,⟨#[38,38]⟩,l,r.1,0,0,[]⟩).bind fun q=>ML s n 11 q.1 0 0 [] q.2 else some (l,st)):=rfl
theorem ML_2 (s:ByteArray)(n:Nat)(l0:Int)(p0:Int)(k0:Int)(its0:List Int)(st:St):ML s (n+1) 2 l0 p0 k0 its0 st=
  (if pkS s st==40 then(ML s n 0 0 0 0 [] (sgn s [40] st)).bind fun r=>some (r.1,sgn s [41] r.2)
   else if isDigit (pkS s st) then ML s n 3 0 0 0 [] st
   else
    let c:=nameM s st.at_ st.bad
    addL (st.put3 c) ⟨0,c.2.2,-1,-1,0,0,[]⟩):=rfl
theorem ML_3 (s:ByteArray)(n:Nat)(l0:Int)(p0:Int)(k0:Int)(its0:List Int)(st:St):ML s (n+1) 3 l0 p0 k0 its0 st=
  ((ML s n 0 0 0 0 [] (sgn s [45,111,102,40] {st with at_:=st.at_+1})).bind fun r=>ML s n 13 0 st.at_ (pkS s st - 48) [r.1] r.2):=rfl
theorem ML_13 (s:ByteArray)(n:Nat)(l0:Int)(p:Int)(k:Int)(its:List Int)(st:St):ML s (n+1) 13 l0 p k its st=
  (if its.length<100000 then
    if pkS s st==44 then(ML s n 0 0 0 0 [] (sgn s [44] st)).bind fun r=>ML s n 13 0 p k (its++[r.1]) r.2
    else addL (sgn s [41] st) ⟨2,⟨#[]⟩,-1,-1,p,k,its⟩
   else none):=rfl
theorem MC_0 (s:ByteArray)(n:Nat)(cls0:List Cl)(st:St):MC s (n+1) 0 cls0 st=
  ((MC s n 1 [] st).bind fun r=>MC s n 2 [r.2.1] r.2.2):=rfl
theorem MC_2 (s:ByteArray)(n:Nat)(cls:List Cl)(st:St):MC s (n+1) 2 cls st=
  (if cls.length<100000 then
    if pkS s st==59 then(MC s n 1 [] (sgn s [59] st)).bind fun r=>MC s n 2 (cls++[r.2.1]) r.2.2
    else(addC st cls).bind fun r=>some (r.1,⟨0,0,⟨#[]⟩,0⟩,r.2)
   else none):=rfl
theorem MC_1 (s:ByteArray)(n:Nat)(cls0:List Cl)(st:St):MC s (n+1) 1 cls0 st=
  ((M s n 0 0 st).bind fun r=>(addE r.2 ⟨7,st.at_,⟨#[]⟩,r.1,-1⟩).bind fun q=>
   if !arrowM s q.2.at_ q.2.bad then some (0,⟨q.1,0,⟨#[]⟩,-1⟩,q.2)
   else
    let u:=sgn s [45,62] q.2
    if pkS s u==123 then(MC s n 0 [] (sgn s [123] u)).bind fun v=>some (0,⟨q.1,2,⟨#[]⟩,v.1⟩,sgn s [125] v.2.2)
    else
     let c:=nameM s u.at_ u.bad
     some (0,⟨q.1,1,c.2.2,-1⟩,u.put3 c)):=rfl
def OKE (s:ByteArray)(f tag n:Nat):Prop:= ∀(X:Nat→Prop) (b:Nat) (st:St) (w:World) (r:Int) (st':St),M s n tag 0 st=some (r,st')→Inv X w b s st→(∀k,X k→k<w.heap.size)→
 Calls Tryz.prog f #[.pointer (some ⟨b,0,none⟩)] w fun e w'=>e= .returned (.int .i64 r)∧Inv X w' b s st'∧Fr X w w'
def OKL (s:ByteArray)(f tag n:Nat):Prop:= ∀(X:Nat→Prop) (b:Nat) (st:St) (w:World) (r:Int) (st':St),ML s n tag 0 0 0 [] st=some (r,st')→Inv X w b s st→(∀k,X k→k<w.heap.size)→
 Calls Tryz.prog f #[.pointer (some ⟨b,0,none⟩)] w fun e w'=>e= .returned (.int .i64 r)∧Inv X w' b s st'∧Fr X w w'
end Go.Proofs.YtkoohcilbpdgeaaGreatDoor
