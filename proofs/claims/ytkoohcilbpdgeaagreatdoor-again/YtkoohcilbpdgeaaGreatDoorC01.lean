import Derived.WalkKit
import Derived.WalkSpells
import Derived.WalkLawsBesides
import Derived.Deep.QuietTactic
import Derived.BigQuiet
import Derived.Test.YtkoohcilbpdgeaaGreatDoorProg
import Derived.Deep.AppendLies
import Derived.Deep.RegionLaw
import Derived.Deep.LoopGhost
set_option linter.all false
set_option linter.unusedVariables false
set_option linter.unusedSimpArgs false
set_option linter.unnecessarySimpa false
set_option linter.constructorNameAsVariable false
set_option linter.deprecated false
set_option maxRecDepth 100000
set_option maxHeartbeats 6400000
namespace Go.Proofs.YtkoohcilbpdgeaaGreatDoor
open Go Go.RowKit
abbrev zgD:=@Option.bind_eq_some_iff
abbrev zgE:=@List.getElem?_eq_getElem
abbrev zgF:=@List.getElem?_eq_some_iff
abbrev zgG:=@ByteArray.toList_eq
abbrev zgH:=@Nat.le_refl
abbrev zgI:=@And.intro
abbrev zgJ:=@Below.heap_alloc
abbrev zgK:=@List.drop_of_length_le
abbrev zgL:=@List.drop_eq_getElem_cons
abbrev zgM:=@List.mem_of_getElem?
abbrev zgN:=@Nat.lt_of_lt_of_le
abbrev zgO:=@Nat.zero_le
abbrev zgP:=@Nat.le_trans
abbrev zgQ:=@Below.heap_setCell
abbrev zgR:=@Below.refl
abbrev zgS:=ByteArray
def pk (s:zgS)(a:Nat)(d:Bool):Int:=if d then -1 else if h:a<s.size then(s[a].toNat:Int) else -1
structure Rd (w:World)(b:Nat)(s:zgS)(a:Nat)(d:Bool):Prop where
 c0:w.cell? ⟨b,0,none⟩=some (.string s)
 c1:w.cell? ⟨b,1,none⟩=some (.int .i64 a)
 c2:w.cell? ⟨b,2,none⟩=some (.bool d)
 f1:w.frozen? ⟨b,1,none⟩=false
 f2:w.frozen? ⟨b,2,none⟩=false
 le:a≤s.size
 sz:s.size≤600
structure Sc (b:Nat)(w w':World):Prop where
 os:w'.os=w.os
 tape:w'.tape=w.tape
 output:w'.output=w.output
 size:w'.heap.size=w.heap.size
 block: ∀k,k≠b→w'.heap[k]?=w.heap[k]?
 cell: ∀o,o≠1→o≠2→w'.cell? ⟨b,o,none⟩=w.cell? ⟨b,o,none⟩
 frozen: ∀o,w'.frozen? ⟨b,o,none⟩=w.frozen? ⟨b,o,none⟩
theorem Sc.refl (b:Nat)(w:World):Sc b w w:=⟨rfl,rfl,rfl,rfl,fun _ _=>rfl,fun _ _ _=>rfl,fun _=>rfl⟩
theorem Sc.trans {b:Nat}{u v w:World}(h:Sc b u v)(k:Sc b v w):Sc b u w:=
 ⟨k.os.trans h.os,k.tape.trans h.tape,k.output.trans h.output,k.size.trans h.size,fun i hi=>(k.block i hi).trans (h.block i hi),
  fun o h1 h2=>(k.cell o h1 h2).trans (h.cell o h1 h2),fun o=>(k.frozen o).trans (h.frozen o)⟩
theorem Sc.drewN {b:Nat}{u w:World}(h:Sc b u w)(n:Nat):Sc b u (w.drewN n):=⟨h.os,h.tape,h.output,h.size,h.block,h.cell,h.frozen⟩
theorem zX (w:World)(b o p:Nat)(v:Value)(h:p≠o):(w.setCell ⟨b,o,none⟩ v).cell? ⟨b,p,none⟩=w.cell? ⟨b,p,none⟩:=
 World.cell?_setCell_other _ _ _ _ (fun e=>h (by injection e with _ e2;exact e2.symm))
theorem Sc.setCell {b:Nat}{u w:World}(h:Sc b u w)(o:Nat)(ho:o=1∨o=2)(v:Value):Sc b u (w.setCell ⟨b,o,none⟩ v):=
 h.trans ⟨rfl,rfl,rfl,by simp [World.setCell],fun k hk=>zgQ _ _ _ _ hk,
  fun p h1 h2=>zX w b o p v (by omega),fun p=>World.frozen?_setCell _ _ _ _⟩
theorem Rd.drewN {w:World}{b:Nat}{s:zgS}{a:Nat}{d:Bool}(h:Rd w b s a d)(n:Nat):Rd (w.drewN n) b s a d:=⟨h.c0,h.c1,h.c2,h.f1,h.f2,h.le,h.sz⟩
theorem Rd.setAt {w:World}{b:Nat}{s:zgS}{a:Nat}{d:Bool}(h:Rd w b s a d)(a':Nat)(ha:a'≤s.size):Rd (w.setCell ⟨b,1,none⟩ (.int .i64 a')) b s a' d:=
 ⟨(zX _ _ _ _ _ (by omega)).trans h.c0,World.cell?_setCell_same _ _ _ h.c1,(zX _ _ _ _ _ (by omega)).trans h.c2,
  (World.frozen?_setCell _ _ _ _).trans h.f1,(World.frozen?_setCell _ _ _ _).trans h.f2,ha,h.sz⟩
theorem Rd.setAt' {w:World}{b:Nat}{s:zgS}{a:Nat}{d:Bool}(h:Rd w b s a d)(a':Nat)(x:Int)(hx:x=(a':Int))(ha:a'≤s.size):Rd (w.setCell ⟨b,1,none⟩ (.int .i64 x)) b s a' d:=by
 rw [hx];exact h.setAt a' ha
theorem Rd.setBad {w:World}{b:Nat}{s:zgS}{a:Nat}{d:Bool}(h:Rd w b s a d)(d':Bool):Rd (w.setCell ⟨b,2,none⟩ (.bool d')) b s a d':=
 ⟨(zX _ _ _ _ _ (by omega)).trans h.c0,(zX _ _ _ _ _ (by omega)).trans h.c1,World.cell?_setCell_same _ _ _ h.c2,
  (World.frozen?_setCell _ _ _ _).trans h.f1,(World.frozen?_setCell _ _ _ _).trans h.f2,h.le,h.sz⟩
theorem z8 {p:Prop}(h:p):Hid p:=h
theorem wrap64_byte (c:UInt8):wrap64 (c.toNat:Int)=c.toNat:=by
 have:=c.toNat_lt
 unfold wrap64
 omega
def atOf (w:World)(b:Nat):Nat:=match w.cell? ⟨b,1,none⟩ with|some (.int _ n)=>n.toNat|_=>0
theorem Rd.atOf {w:World}{b:Nat}{s:zgS}{a:Nat}{d:Bool}(h:Rd w b s a d):atOf w b=a:=by
 unfold YtkoohcilbpdgeaaGreatDoor.atOf
 rw [h.c1]
 simp
theorem jT {s:zgS}{a:Nat}{d:Bool}(h:pk s a d≠ -1):d=false∧a<s.size:=by
 unfold pk at h
 cases d with
 |true=>exact absurd rfl h
 |false=>
  refine⟨rfl,?_⟩
  by_cases hl:a<s.size
  ·exact hl
  ·simp [hl] at h
theorem z3o (s:zgS)(a:Nat)(d:Bool): -1≤pk s a d∧pk s a d≤255:=by
 unfold pk
 split
 ·omega
 ·split
  ·have:=(s[a]).toNat_lt;omega
  ·omega
def run (p:Int→Bool)(s:zgS)(d:Bool):Nat→Nat→Nat
 |0,a=>a
 |k+1,a=>if p (pk s a d) then run p s d k (a+1) else a
def z70 (c:Int):Bool:=c==32
def zk (c:Int):Bool:=decide (97≤c)&&decide (c≤122)||decide (65≤c)&&decide (c≤90)
def zg (c:Int):Bool:=decide (48≤c)&&decide (c≤57)
def zo (c:Int):Bool:=(c != -1)&&(c !=34)&&(c !=10)
def skip (s:zgS)(a:Nat)(d:Bool):Nat:=run z70 s d (s.size - a) a
theorem z3c (p:Int→Bool)(hp:p (-1)=false)(s:zgS)(d:Bool): ∀k a,a≤s.size→a≤run p s d k a∧run p s d k a≤s.size:=by
 intro k
 induction k with
 |zero=>intro a h;exact⟨zgH _,h⟩
 |succ k ih=>
  intro a h
  unfold run
  by_cases hc:p (pk s a d)
  ·rw [if_pos hc]
   have hl:pk s a d≠ -1:=fun e=>by rw [e,hp] at hc;cases hc
   have:=ih (a+1) (jT hl).2
   omega
  ·rw [if_neg hc];omega
theorem z56 {s:zgS}{a:Nat}{d:Bool}(h:a≤s.size):a≤skip s a d∧skip s a d≤s.size:=z3c _ (by decide) s d _ a h
theorem z0V {s:zgS}{a:Nat}{d:Bool}(h:pk s a d=32):skip s (a+1) d=skip s a d:=by
 have hl:=(jT (s:=s) (a:=a) (d:=d) (by omega)).2
 unfold skip
 obtain⟨k,hk⟩: ∃k,s.size - a=k+1:=⟨s.size - a - 1,by omega⟩
 rw [hk,show s.size -(a+1)=k by omega]
 conv=>rhs;unfold run
 rw [if_pos (by simp [z70,h])]
theorem zI {s:zgS}{a:Nat}{d:Bool}(h:pk s a d≠32):skip s a d=a:=by
 unfold skip
 cases hk:s.size - a with
 |zero=>rfl
 |succ k=>unfold run;rw [if_neg (by simp [z70,h])]
def zt (s:zgS)(d:Bool):List UInt8→Nat→Nat×Bool
 |[],a=>(a,d)
 |c::cs,a=>if pk s a d=(c.toNat:Int) then zt s d cs (a+1) else(a,true)
theorem z0g (s:zgS)(d:Bool): ∀l a,a≤s.size→a≤(zt s d l a).1∧(zt s d l a).1≤s.size:=by
 intro l
 induction l with
 |nil=>intro a h;exact⟨zgH _,h⟩
 |cons c cs ih=>
  intro a h
  unfold zt
  by_cases hc:pk s a d=(c.toNat:Int)
  ·rw [if_pos hc]
   have:=ih (a+1) (jT (s:=s) (a:=a) (d:=d) (by omega)).2
   omega
  ·rw [if_neg hc];exact⟨zgH _,h⟩
theorem jd {s:zgS}{d:Bool}{c:UInt8}{cs:List UInt8}{a:Nat}(h:pk s a d=(c.toNat:Int)):zt s d (c::cs) a=zt s d cs (a+1):=by
 unfold zt;rw [if_pos h];cases cs<;>rfl
theorem je {s:zgS}{d:Bool}{c:UInt8}{cs:List UInt8}{a:Nat}(h:pk s a d≠(c.toNat:Int)):zt s d (c::cs) a=(a,true):=by
 unfold zt;rw [if_neg h]
def jo (s:zgS)(d:Bool)(l:List UInt8)(a:Nat):Nat×Bool:=(skip s (zt s d l a).1 (zt s d l a).2,(zt s d l a).2)
theorem z2h (s:zgS)(d:Bool)(l:List UInt8)(a:Nat)(h:a≤s.size):a≤(jo s d l a).1∧(jo s d l a).1≤s.size:=by
 have:=z0g s d l a h
 have:=z56 (s:=s) (a:=(zt s d l a).1) (d:=(zt s d l a).2) this.2
 simp only [jo];omega
theorem z02 (t:zgS)(k:Nat)(h:k<t.size):t.data.toList.drop k=t[k]::t.data.toList.drop (k+1):=by
 rw [zgL (by simpa using h)];rfl
theorem jJ (s:zgS)(a:Nat):skip s a true=a:=zI (by simp [pk])
def z23 (p:Int→Bool)(m:Nat)(s:zgS)(a:Nat)(d:Bool):Nat×Bool×zgS:=
 let r:=run p s d m a
 if r==a||p (pk s r d) then(r,true,⟨#[]⟩) else(skip s r d,d,s.extract a r)
def z05 (p:Int→Bool)(m:Nat)(s:zgS)(a:Nat)(d:Bool):Nat×Bool×zgS:=
 let r:=run p s d m a
 if r==a||p (pk s r d) then(r,true,⟨#[]⟩) else(r,d,s.extract a r)
theorem z01 {p:Int→Bool}{m:Nat}{s:zgS}{a k:Nat}{d:Bool}(hr:run p s d m a=k)(h:k=a∨p (pk s k d)=true):z05 p m s a d=(k,true,⟨#[]⟩):=by
 unfold z05
 simp only [hr]
 rw [if_pos]
 rcases h with rfl|h<;>simp [*]
theorem z1C {p:Int→Bool}{m:Nat}{s:zgS}{a k:Nat}{d:Bool}(hr:run p s d m a=k)(h:k≠a)(h2:p (pk s k d)=false):z05 p m s a d=(k,d,s.extract a k):=by
 unfold z05
 simp only [hr]
 rw [if_neg]
 simp [*]
theorem z5P (p:Int→Bool)(m:Nat)(s:zgS)(a:Nat)(d:Bool):z23 p m s a d=(skip s (z05 p m s a d).1 (z05 p m s a d).2.1,(z05 p m s a d).2.1,(z05 p m s a d).2.2):=by
 unfold z23 z05
 simp only
 split
 ·simp only [jJ]
 ·rfl
theorem z3p {p:Int→Bool}(hp:p (-1)=false){m:Nat}{s:zgS}{a:Nat}{d:Bool}(h:a≤s.size):a≤(z05 p m s a d).1∧(z05 p m s a d).1≤s.size:=by
 unfold z05
 simp only
 split<;>exact z3c p hp s d m a h
def zi (s:zgS)(a:Nat)(d:Bool):Nat×Bool×zgS:=z05 zk 8 s a d
def zM (s:zgS)(a:Nat)(d:Bool):Nat×Bool×zgS:=z05 zg (if pk s a d==48 then 1 else 9) s a d
def zw (s:zgS)(a:Nat)(d:Bool):Nat×Bool×zgS:=z23 zk 8 s a d
def zO (s:zgS)(a:Nat)(d:Bool):Nat×Bool×zgS:=z23 zg (if pk s a d==48 then 1 else 9) s a d
def zT (s:zgS)(a:Nat)(d:Bool):Nat×Bool×zgS:=
 let v:=zt s d [34] a
 let r:=run zo s v.2 12 v.1
 let g:=jo s v.2 [34] r
 (g.1,g.2,s.extract v.1 r)
theorem ju {p:Int→Bool}{s:zgS}{d:Bool}{k a:Nat}(h:p (pk s a d)=false):run p s d k a=a:=by
 cases k with
 |zero=>rfl
 |succ k=>unfold run;rw [if_neg (by simp [h])]
theorem z1q {p:Int→Bool}{s:zgS}{d:Bool}{k a:Nat}(h:p (pk s a d)=true):run p s d (k+1) a=run p s d k (a+1):=by
 conv=>lhs;unfold run
 rw [if_pos h]
theorem z4O {p:Int→Bool}{m:Nat}{s:zgS}{a k:Nat}{d:Bool}(hr:run p s d m a=k)(h:k=a∨p (pk s k d)=true):z23 p m s a d=(k,true,⟨#[]⟩):=by
 unfold z23
 simp only [hr]
 rw [if_pos]
 rcases h with rfl|h<;>simp [*]
theorem z6J {p:Int→Bool}{m:Nat}{s:zgS}{a k:Nat}{d:Bool}(hr:run p s d m a=k)(h:k≠a)(h2:p (pk s k d)=false):z23 p m s a d=(skip s k d,d,s.extract a k):=by
 unfold z23
 simp only [hr]
 rw [if_neg]
 simp [*]
def zz (s:zgS)(a:Nat)(d:Bool):Bool:=(pk s a d==45)&&(pk s (a+1) false==62)
def zr (s:zgS)(a:Nat)(d:Bool):zgS:=
 if zz s a d then⟨#[]⟩ else if pk s a d==43 then⟨#[43]⟩ else if pk s a d==45 then⟨#[45]⟩ else if pk s a d==46 then⟨#[46]⟩ else⟨#[]⟩
def zh (s:zgS)(a:Nat)(d:Bool):zgS:=
 if pk s a d==42 then⟨#[42]⟩ else if pk s a d==47 then⟨#[47]⟩ else if pk s a d==37 then⟨#[37]⟩ else⟨#[]⟩
def zx (s:zgS)(short long:zgS)(a:Nat)(d:Bool):Nat×Bool×zgS:=
 let v:=zt s d short.data.toList a
 if pk s v.1 v.2 !=61 then(skip s v.1 v.2,v.2,short) else((jo s v.2 [61] v.1).1,(jo s v.2 [61] v.1).2,long)
def ze (s:zgS)(a:Nat)(d:Bool):Nat×Bool×zgS:=
 if pk s a d==61 then((jo s d [61,61] a).1,(jo s d [61,61] a).2,⟨#[61,61]⟩)
 else if pk s a d==33 then((jo s d [33,61] a).1,(jo s d [33,61] a).2,⟨#[33,61]⟩)
 else if pk s a d==60 then zx s ⟨#[60]⟩ ⟨#[60,61]⟩ a d
 else if pk s a d==62 then zx s ⟨#[62]⟩ ⟨#[62,61]⟩ a d
 else(a,d,⟨#[]⟩)
attribute [local go_sem] wrap64_byte
theorem zn (b a:Nat)(s:zgS)(d:Bool)(w:World)(h:Rd w b s a d):
  Calls Tryz.prog 78 #[.pointer (some ⟨b,0,none⟩)] w fun e w'=>e= .returned (.int .i64 (pk s a d))∧ ∃n,w'=w.drewN n:=by
 obtain⟨h0,h1,h2,_,_,ha,hs⟩:=h
 cases d with
 |true=>
  have hp:pk s a true= -1:=rfl
  rw [hp]
  clear hp
  go_enter Tryz.func78,Tryz.ntmps78
  go_wp2_with fail
  go_quiet (fail)
  go_wp2_with fail
  go_ret
  exact⟨rfl,_,rfl⟩
 |false=>
  by_cases hlt:a<s.size
  ·have hp:pk s a false=s[a].toNat:=by simp [pk,hlt]
   rw [hp]
   clear hp ha
   go_enter Tryz.func78,Tryz.ntmps78
   go_wp2_with fail
   go_quiet (fail)
   go_wp2_with fail
   go_quiet (fail)
   go_wp2_with fail
   go_ret
   exact⟨by simp [wrap64_byte],_,World.drewN_drewN _ _ _⟩
  ·have hp:pk s a false= -1:=by simp [pk,hlt]
   rw [hp]
   clear hp
   go_enter Tryz.func78,Tryz.ntmps78
   go_wp2_with fail
   go_quiet (fail)
   go_wp2_with fail
   go_ret
   exact⟨rfl,_,rfl⟩
theorem z0p (b a:Nat)(s:zgS)(d:Bool)(w:World)(h:Rd w b s a d):
  Calls Tryz.prog 81 #[.pointer (some ⟨b,0,none⟩)] w fun e w'=>e= .returned (.tuple #[])∧Rd w' b s a true∧Sc b w w':=by
 have hr:=h.setBad true
 obtain⟨h0,h1,h2,f1,f2,ha,hs⟩:=h
 go_enter Tryz.func81,Tryz.ntmps81
 go_wp2_with fail
 go_end0
 exact⟨rfl,hr,(Sc.refl _ _).setCell 2 (Or.inr rfl) _⟩
theorem z0Z (b a:Nat)(s:zgS)(d:Bool)(w:World)(h:Rd w b s a d):
  Calls Tryz.prog 72 #[.pointer (some ⟨b,0,none⟩)] w fun e w'=>e= .returned (.tuple #[])∧Rd w' b s (skip s a d) d∧Sc b w w':=by
 go_enter Tryz.func72,Tryz.ntmps72
 go_wp2_with fail
 go_loopw [] (fun wr=> ∃k,Rd wr b s k d∧Sc b w wr∧Hid (skip s k d=skip s a d)) (fun wr=>s.size - atOf wr b)
 case atStart=>exact⟨a,h,Sc.refl _ _,rfl⟩
 case round=>
  obtain⟨k,hk,hsc,hsk⟩:=hrel
  have hat:=z8 hk.atOf
  have hk':=hk
  by_cases hb:pk s k d=32
  ·have hlt:=(jT (s:=s) (a:=k) (d:=d) (by omega)).2
   have hset:=fun n=>(hk.drewN n).setAt' (k+1) (k+1) (by omega) hlt
   have hst:=z8 (z0V hb)
   have hb':(pk s k d==32)=true:=by simp [hb]
   clear hb
   obtain⟨h0,h1,h2,f1,f2,ha,hs⟩:=hk
   go_wp2_with (go_at_call 78;refine(zn _ _ _ _ _ hk').mono ?_;rintro e w1 ⟨rfl,n,rfl⟩)
   have hset:=hset n
   go_roundw
   case rel=>exact⟨k+1,hset,(hsc.drewN n).setCell 1 (Or.inl rfl) _,hst.out.trans hsk.out⟩
   case measure=>rw [hset.atOf,hat.out];omega
  ·have hst:=z8 (zI hb)
   have hb':(pk s k d==32)=false:=by simp [hb]
   clear hb
   obtain⟨h0,h1,h2,f1,f2,ha,hs⟩:=hk
   go_wp2_with (go_at_call 78;refine(zn _ _ _ _ _ hk').mono ?_;rintro e w1 ⟨rfl,n,rfl⟩)
   go_end0
   exact⟨rfl,by rw [←hsk.out,hst.out];exact hk'.drewN n,hsc.drewN n⟩
theorem jW (b a:Nat)(s t:zgS)(d:Bool)(w:World)(h:Rd w b s a d)(ht:t.size≤600):
  Calls Tryz.prog 79 #[.pointer (some ⟨b,0,none⟩),.string t] w fun e w'=>e= .returned (.tuple #[])∧Rd w' b s (zt s d t.data.toList a).1 (zt s d t.data.toList a).2∧Sc b w w':=by
 go_enter Tryz.func79,Tryz.ntmps79
 go_wp2_with fail
 go_loopw [4] (fun i wr=> ∃k ak:Nat,i= .int .i64 k∧k≤t.size∧Rd wr b s ak d∧Sc b w wr∧Hid (zt s d (t.data.toList.drop k) ak=zt s d t.data.toList a)) (fun i wr=>t.size -(intOf i).toNat)
 case atStart=>exact⟨0,a,rfl,zgO _,h,Sc.refl _ _,rfl⟩
 case round=>
  obtain⟨k,ak,rfl,hkt,hk,hsc,hsk⟩:=hrel
  have hk':=hk
  by_cases hlt:k<t.size
  ·by_cases hb:pk s ak d=(t[k].toNat:Int)
   ·have hl2:=(jT (s:=s) (a:=ak) (d:=d) (by omega)).2
    have hset:=fun n=>(hk.drewN n).setAt' (ak+1) (ak+1) (by omega) hl2
    have hst:Hid (zt s d (t.data.toList.drop (k+1)) (ak+1)=zt s d t.data.toList a):=z8 (by rw [←hsk.out,z02 t k hlt,jd hb])
    have hb':(pk s ak d !=(t[k].toNat:Int))=false:=by simp [hb]
    clear hb
    obtain⟨h0,h1,h2,f1,f2,ha,hs⟩:=hk
    go_wp2_with fail
    go_quiet ((go_at_call 78;exact Calls.quiet_of (zn _ _ _ _ _ (hk'.drewN _))))
    go_wp2_with fail
    have hset:=hset nq
    go_roundw
    case rel=>exact⟨k+1,ak+1,by go_num,by omega,hset,(hsc.drewN nq).setCell 1 (Or.inl rfl) _,hst⟩
    case measure=>simp [intOf];omega
   ·have hst:Hid (zt s d t.data.toList a=(ak,true)):=z8 (by rw [←hsk.out,z02 t k hlt,je hb])
    have hb':(pk s ak d !=(t[k].toNat:Int))=true:=by simp [hb]
    clear hb
    go_wp2_with fail
    go_quiet ((go_at_call 78;exact Calls.quiet_of (zn _ _ _ _ _ (hk'.drewN _))))
    go_wp2_with (go_at_call 81;refine(z0p _ _ _ _ _ (hk'.drewN _)).mono ?_;rintro e w1 ⟨rfl,hr1,hs1⟩)
    refine bodyPost_ret (results_none rfl _ _ _) rfl ?_
    exact⟨rfl,by rw [hst.out];exact hr1,(hsc.drewN _).trans hs1⟩
  ·have hst:Hid (zt s d t.data.toList a=(ak,d)):=z8 (by rw [←hsk.out,zgK (by simpa using hlt)];rfl)
   go_wp2_with fail
   go_end0
   exact⟨rfl,by rw [hst.out];exact hk',hsc⟩
theorem zP (b a:Nat)(s t:zgS)(d:Bool)(w:World)(h:Rd w b s a d)(ht:t.size≤600):
  Calls Tryz.prog 114 #[.pointer (some ⟨b,0,none⟩),.string t] w fun e w'=>e= .returned (.tuple #[])∧Rd w' b s (jo s d t.data.toList a).1 (jo s d t.data.toList a).2∧Sc b w w':=by
 go_enter Tryz.func114,Tryz.ntmps114
 go_wp2_with (first|(go_at_call 79;refine(jW _ _ _ _ _ _ h ht).mono ?_;rintro e w1 ⟨rfl,hr1,hs1⟩)|(go_at_call 72;refine(z0Z _ _ _ _ _ hr1).mono ?_;rintro e w2 ⟨rfl,hr2,hs2⟩))
 go_end0
 exact⟨rfl,hr2,hs1.trans hs2⟩
theorem z14 (b a:Nat)(s t:zgS)(d:Bool)(w:World)(h:Rd w b s a d)(ht:t.size≤600):
  Calls Tryz.prog 159 #[.pointer (some ⟨b,0,none⟩),.string t] w fun e w'=>e= .returned (.tuple #[])∧
   Rd w' b s (jo s (zt s d t.data.toList a).2 [32] (zt s d t.data.toList a).1).1 (jo s (zt s d t.data.toList a).2 [32] (zt s d t.data.toList a).1).2∧Sc b w w':=by
 go_enter Tryz.func159,Tryz.ntmps159
 go_wp2_with (first|(go_at_call 79;refine(jW _ _ _ _ _ _ h ht).mono ?_;rintro e w1 ⟨rfl,hr1,hs1⟩)|(go_at_call 114;refine(zP _ _ _ _ _ _ hr1 (by decide)).mono ?_;rintro e w2 ⟨rfl,hr2,hs2⟩))
 go_end0
 exact⟨rfl,hr2,hs1.trans hs2⟩
theorem zF (b a:Nat)(s:zgS)(d:Bool)(w:World)(h:Rd w b s a d):
  Calls Tryz.prog 170 #[.pointer (some ⟨b,0,none⟩)] w fun e w'=>e= .returned (.bool (zg (pk s a d)))∧ ∃n,w'=w.drewN n:=by
 have hr:=z3o s a d
 generalize hp:pk s a d=c at*
 have hP:=zn b a s d w h
 rw [hp] at hP
 have HP:=z8 hP
 clear hP hp
 by_cases h1:48≤c
 all_goals by_cases h2:c≤57
 all_goals try omega
 all_goals
  go_enter Tryz.func170,Tryz.ntmps170
  go_wp2_with (go_at_call 78;refine HP.out.mono ?_;rintro e w1 ⟨rfl,n,rfl⟩)
  go_ret
  exact⟨by simp [zg];omega,_,rfl⟩
theorem z0h (b a:Nat)(s:zgS)(d:Bool)(w:World)(h:Rd w b s a d):
  Calls Tryz.prog 149 #[.pointer (some ⟨b,0,none⟩)] w fun e w'=>e= .returned (.bool (zk (pk s a d)))∧ ∃n,w'=w.drewN n:=by
 have hr:=z3o s a d
 generalize hp:pk s a d=c at*
 have hP:=zn b a s d w h
 rw [hp] at hP
 have HP:=z8 hP
 clear hP hp
 by_cases h1:97≤c
 all_goals by_cases h2:c≤122
 all_goals by_cases h3:65≤c
 all_goals by_cases h4:c≤90
 all_goals try omega
 all_goals
  go_enter Tryz.func149,Tryz.ntmps149
  go_wp2_with (go_at_call 78;refine HP.out.mono ?_;rintro e w1 ⟨rfl,n,rfl⟩)
  go_ret
  exact⟨by simp [zk];first|omega|(rw [Bool.eq_iff_iff];simp;omega),_,rfl⟩
theorem z0N (b a:Nat)(s:zgS)(d:Bool)(w:World)(h:Rd w b s a d):
  Calls Tryz.prog 197 #[.pointer (some ⟨b,0,none⟩)] w fun e w'=>e= .returned (.bool (zo (pk s a d)))∧ ∃n,w'=w.drewN n:=by
 have hr:=z3o s a d
 generalize hp:pk s a d=c at*
 have hP:=zn b a s d w h
 rw [hp] at hP
 have HP:=z8 hP
 clear hP hp
 cases h1:(c != -1)
 all_goals cases h2:(c !=34)
 all_goals cases h3:(c !=10)
 all_goals
  go_enter Tryz.func197,Tryz.ntmps197
  go_wp2_with (go_at_call 78;refine HP.out.mono ?_;rintro e w1 ⟨rfl,n,rfl⟩)
  go_ret
  exact⟨by simp [zo,h1,h2,h3],_,rfl⟩
theorem z2f (b a:Nat)(s:zgS)(d:Bool)(w:World)(h:Rd w b s a d):
  Calls Tryz.prog 118 #[.pointer (some ⟨b,0,none⟩)] w fun e w'=>e= .returned (.string (z05 zk 8 s a d).2.2)∧Rd w' b s (z05 zk 8 s a d).1 (z05 zk 8 s a d).2.1∧Sc b w w':=by
 have hle:=h.le
 have hsz:=h.sz
 obtain⟨h0,h1,h2,f1,f2,_,_⟩:=id h
 go_enter Tryz.func118,Tryz.ntmps118
 go_wp2_with fail
 go_loopw [] (fun wr=> ∃k,Rd wr b s k d∧Sc b w wr∧a≤k∧k≤a+8∧Hid (run zk s d (8 -(k - a)) k=run zk s d 8 a)) (fun wr=>s.size - atOf wr b)
 case atStart=>exact⟨a,h,Sc.refl _ _,zgH _,by omega,by simp [Hid]⟩
 case round=>
  obtain⟨k,hk,hsc,hak,hk8,hsk⟩:=hrel
  have hat:=z8 hk.atOf
  have hk':=hk
  clear h0 h1 h2 f1 f2
  obtain⟨h0,h1,h2,f1,f2,ha,hs⟩:=hk
  have hend:k - a<8→zk (pk s k d)=true∨Hid (run zk s d 8 a=k):=by
   intro h8
   cases hb:zk (pk s k d)
   ·exact .inr (z8 (by rw [←hsk.out];exact ju hb))
   ·exact .inl rfl
  by_cases hgo:k - a<8∧zk (pk s k d)=true
  ·obtain⟨h8,hb⟩:=hgo
   have h8':(k:Int)- a<8:=by omega
   have hne:pk s k d≠ -1:=fun e=>by rw [e] at hb;exact absurd hb (by decide)
   have hlt:=(jT hne).2
   have hset:=fun n=>(hk'.drewN n).setAt' (k+1) (k+1) (by omega) hlt
   have hst:Hid (run zk s d (8 -(k+1 - a)) (k+1)=run zk s d 8 a):=z8 (by
    rw [←hsk.out,show 8 -(k - a)=(8 -(k+1 - a))+1 by omega,z1q hb])
   clear hne hend
   go_wp2_with (go_at_call 149;refine(z0h _ _ _ _ _ hk').mono ?_;rintro e w1 ⟨rfl,n,rfl⟩)
   have hset:=hset n
   go_roundw
   case rel=>exact⟨k+1,hset,(hsc.drewN n).setCell 1 (Or.inl rfl) _,by omega,by omega,hst⟩
   case measure=>rw [hset.atOf,hat.out];omega
  ·have hrun:Hid (run zk s d 8 a=k):=by
    by_cases h8:k - a<8
    ·exact(hend h8).resolve_left fun e=>hgo ⟨h8,e⟩
    ·exact z8 (by rw [←hsk.out,show 8 -(k - a)=0 by omega];rfl)
   clear hend hsk hat hk8
   by_cases h8:k - a<8
   ·have h8':(k:Int)- a<8:=by omega
    have hb:zk (pk s k d)=false:=by cases hc:zk (pk s k d) with|false=>rfl|true=>exact absurd ⟨h8,hc⟩ hgo
    clear hgo
    by_cases hka:k=a
    ·have hfin:=z8 (z01 hrun.out (.inl hka))
     have hka':((k:Int)==a)=true:=by simp [hka]
     clear hka
     go_wp2_with (first|(go_at_call 149;refine(z0h _ _ _ _ _ hk').mono ?_;rintro e w1 ⟨rfl,n,rfl⟩)|(go_at_call 81;refine(z0p _ _ _ _ _ (hk'.drewN n)).mono ?_;rintro e w1 ⟨rfl,hr1,hs1⟩))
     go_ret
     exact⟨by rw [hfin.out];rfl,by rw [hfin.out];exact hr1,(hsc.drewN n).trans hs1⟩
    ·have hfin:=z8 (z1C hrun.out hka hb)
     have hka':((k:Int)==a)=false:=by simp;omega
     clear hka
     go_wp2_with (go_at_call 149;refine(z0h b k s d _ (by first|exact hk'|exact hk'.drewN _)).mono ?_;rintro e w1 ⟨rfl,n,rfl⟩)
     go_quiet (fail)
     go_wp2_with fail
     go_ret
     exact⟨by rw [hfin.out];simp,by rw [hfin.out];exact(hk'.drewN _).drewN _,(hsc.drewN _).drewN _⟩
   ·have h8': ¬(k:Int)- a<8:=by omega
    clear hgo
    have hka':((k:Int)==a)=false:=by simp;omega
    cases hb:zk (pk s k d)
    ·have hfin:=z8 (z1C hrun.out (by omega) hb)
     go_wp2_with (go_at_call 149;refine(z0h b k s d _ (by first|exact hk'|exact hk'.drewN _)).mono ?_;rintro e w1 ⟨rfl,n,rfl⟩)
     go_quiet (fail)
     go_wp2_with fail
     go_ret
     exact⟨by rw [hfin.out];simp,by rw [hfin.out];exact(hk'.drewN _).drewN _,(hsc.drewN _).drewN _⟩
    ·have hfin:=z8 (z01 hrun.out (.inr hb))
     go_wp2_with (first|(go_at_call 149;refine(z0h b k s d _ (by first|exact hk'|exact hk'.drewN _)).mono ?_;rintro e w1 ⟨rfl,n,rfl⟩)|(go_at_call 81;refine(z0p b k s d _ (by exact hk'.drewN _)).mono ?_;rintro e w1 ⟨rfl,hr1,hs1⟩))
     go_ret
     exact⟨by rw [hfin.out];rfl,by rw [hfin.out];exact hr1,(hsc.drewN _).trans hs1⟩
theorem z1l (b a:Nat)(s:zgS)(d:Bool)(w:World)(h:Rd w b s a d):
  Calls Tryz.prog 118 #[.pointer (some ⟨b,0,none⟩)] w fun e w'=>e= .returned (.string (zi s a d).2.2)∧Rd w' b s (zi s a d).1 (zi s a d).2.1∧Sc b w w':=z2f b a s d w h
theorem z2y (b a:Nat)(s:zgS)(d:Bool)(w:World)(h:Rd w b s a d):
  Calls Tryz.prog 160 #[.pointer (some ⟨b,0,none⟩)] w fun e w'=>e= .returned (.string (zw s a d).2.2)∧Rd w' b s (zw s a d).1 (zw s a d).2.1∧Sc b w w':=by
 unfold zw
 rw [z5P]
 have HB:=z8 (z2f b a s d w h)
 generalize z05 zk 8 s a d=v at*
 obtain⟨av,dv,tv⟩:=v
 go_enter Tryz.func160,Tryz.ntmps160
 go_wp2_with fail
 refine HB.out.mono ?_
 rintro e w1 ⟨rfl,hr1,hs1⟩
 go_wp2_with (go_at_call 72;refine(z0Z b av s dv _ hr1).mono ?_;rintro e w2 ⟨rfl,hr2,hs2⟩)
 go_ret
 exact⟨rfl,hr2,hs1.trans hs2⟩
theorem z4j (b a:Nat)(s:zgS)(d:Bool)(w:World)(h:Rd w b s a d)(hz:(pk s a d==48)=true):
  Calls Tryz.prog 150 #[.pointer (some ⟨b,0,none⟩)] w fun e w'=>e= .returned (.string (z05 zg 1 s a d).2.2)∧Rd w' b s (z05 zg 1 s a d).1 (z05 zg 1 s a d).2.1∧Sc b w w':=by
 have hle:=h.le
 have hsz:=h.sz
 obtain⟨h0,h1,h2,f1,f2,_,_⟩:=id h
 go_enter Tryz.func150,Tryz.ntmps150
 go_wp2_with (go_at_call 78;refine(zn _ _ _ _ _ h).mono ?_;rintro e w1 ⟨rfl,n0,rfl⟩)
 clear hz
 go_loopw [] (fun wr=> ∃k,Rd wr b s k d∧Sc b w wr∧a≤k∧k≤a+1∧Hid (run zg s d (1 -(k - a)) k=run zg s d 1 a)) (fun wr=>s.size - atOf wr b)
 case atStart=>exact⟨a,h.drewN _,(Sc.refl _ _).drewN _,zgH _,by omega,by simp [Hid]⟩
 case round=>
  obtain⟨k,hk,hsc,hak,hk8,hsk⟩:=hrel
  have hat:=z8 hk.atOf
  have hk':=hk
  clear h0 h1 h2 f1 f2
  obtain⟨h0,h1,h2,f1,f2,ha,hs⟩:=hk
  have hend:k - a<1→zg (pk s k d)=true∨Hid (run zg s d 1 a=k):=by
   intro h8
   cases hb:zg (pk s k d)
   ·exact .inr (z8 (by rw [←hsk.out];exact ju hb))
   ·exact .inl rfl
  by_cases hgo:k - a<1∧zg (pk s k d)=true
  ·obtain⟨h8,hb⟩:=hgo
   have h8':(k:Int)- a<1:=by omega
   have hne:pk s k d≠ -1:=fun e=>by rw [e] at hb;exact absurd hb (by decide)
   have hlt:=(jT hne).2
   have hset:=fun n=>(hk'.drewN n).setAt' (k+1) (k+1) (by omega) hlt
   have hst:Hid (run zg s d (1 -(k+1 - a)) (k+1)=run zg s d 1 a):=z8 (by
    rw [←hsk.out,show 1 -(k - a)=(1 -(k+1 - a))+1 by omega,z1q hb])
   clear hne hend
   go_wp2_with (go_at_call 170;refine(zF _ _ _ _ _ hk').mono ?_;rintro e w1 ⟨rfl,n,rfl⟩)
   have hset:=hset n
   go_roundw
   case rel=>exact⟨k+1,hset,(hsc.drewN n).setCell 1 (Or.inl rfl) _,by omega,by omega,hst⟩
   case measure=>rw [hset.atOf,hat.out];omega
  ·have hrun:Hid (run zg s d 1 a=k):=by
    by_cases h8:k - a<1
    ·exact(hend h8).resolve_left fun e=>hgo ⟨h8,e⟩
    ·exact z8 (by rw [←hsk.out,show 1 -(k - a)=0 by omega];rfl)
   clear hend hsk hat hk8
   by_cases h8:k - a<1
   ·have h8':(k:Int)- a<1:=by omega
    have hb:zg (pk s k d)=false:=by cases hc:zg (pk s k d) with|false=>rfl|true=>exact absurd ⟨h8,hc⟩ hgo
    clear hgo
    by_cases hka:k=a
    ·have hfin:=z8 (z01 hrun.out (.inl hka))
     have hka':((k:Int)==a)=true:=by simp [hka]
     clear hka
     go_wp2_with (first|(go_at_call 170;refine(zF _ _ _ _ _ hk').mono ?_;rintro e w1 ⟨rfl,n,rfl⟩)|(go_at_call 81;refine(z0p _ _ _ _ _ (hk'.drewN n)).mono ?_;rintro e w1 ⟨rfl,hr1,hs1⟩))
     go_ret
     exact⟨by rw [hfin.out];rfl,by rw [hfin.out];exact hr1,(hsc.drewN n).trans hs1⟩
    ·have hfin:=z8 (z1C hrun.out hka hb)
     have hka':((k:Int)==a)=false:=by simp;omega
     clear hka
     go_wp2_with (go_at_call 170;refine(zF b k s d _ (by first|exact hk'|exact hk'.drewN _)).mono ?_;rintro e w1 ⟨rfl,n,rfl⟩)
     go_quiet (fail)
     go_wp2_with fail
     go_ret
     exact⟨by rw [hfin.out];simp,by rw [hfin.out];exact(hk'.drewN _).drewN _,(hsc.drewN _).drewN _⟩
   ·have h8': ¬(k:Int)- a<1:=by omega
    clear hgo
    have hka':((k:Int)==a)=false:=by simp;omega
    cases hb:zg (pk s k d)
    ·have hfin:=z8 (z1C hrun.out (by omega) hb)
     go_wp2_with (go_at_call 170;refine(zF b k s d _ (by first|exact hk'|exact hk'.drewN _)).mono ?_;rintro e w1 ⟨rfl,n,rfl⟩)
     go_quiet (fail)
     go_wp2_with fail
     go_ret
     exact⟨by rw [hfin.out];simp,by rw [hfin.out];exact(hk'.drewN _).drewN _,(hsc.drewN _).drewN _⟩
    ·have hfin:=z8 (z01 hrun.out (.inr hb))
     go_wp2_with (first|(go_at_call 170;refine(zF b k s d _ (by first|exact hk'|exact hk'.drewN _)).mono ?_;rintro e w1 ⟨rfl,n,rfl⟩)|(go_at_call 81;refine(z0p b k s d _ (by exact hk'.drewN _)).mono ?_;rintro e w1 ⟨rfl,hr1,hs1⟩))
     go_ret
     exact⟨by rw [hfin.out];rfl,by rw [hfin.out];exact hr1,(hsc.drewN _).trans hs1⟩
theorem z3Y (b a:Nat)(s:zgS)(d:Bool)(w:World)(h:Rd w b s a d)(hz:(pk s a d==48)=false):
  Calls Tryz.prog 150 #[.pointer (some ⟨b,0,none⟩)] w fun e w'=>e= .returned (.string (z05 zg 9 s a d).2.2)∧Rd w' b s (z05 zg 9 s a d).1 (z05 zg 9 s a d).2.1∧Sc b w w':=by
 have hle:=h.le
 have hsz:=h.sz
 obtain⟨h0,h1,h2,f1,f2,_,_⟩:=id h
 go_enter Tryz.func150,Tryz.ntmps150
 go_wp2_with (go_at_call 78;refine(zn _ _ _ _ _ h).mono ?_;rintro e w1 ⟨rfl,n0,rfl⟩)
 clear hz
 go_loopw [] (fun wr=> ∃k,Rd wr b s k d∧Sc b w wr∧a≤k∧k≤a+9∧Hid (run zg s d (9 -(k - a)) k=run zg s d 9 a)) (fun wr=>s.size - atOf wr b)
 case atStart=>exact⟨a,h.drewN _,(Sc.refl _ _).drewN _,zgH _,by omega,by simp [Hid]⟩
 case round=>
  obtain⟨k,hk,hsc,hak,hk8,hsk⟩:=hrel
  have hat:=z8 hk.atOf
  have hk':=hk
  clear h0 h1 h2 f1 f2
  obtain⟨h0,h1,h2,f1,f2,ha,hs⟩:=hk
  have hend:k - a<9→zg (pk s k d)=true∨Hid (run zg s d 9 a=k):=by
   intro h8
   cases hb:zg (pk s k d)
   ·exact .inr (z8 (by rw [←hsk.out];exact ju hb))
   ·exact .inl rfl
  by_cases hgo:k - a<9∧zg (pk s k d)=true
  ·obtain⟨h8,hb⟩:=hgo
   have h8':(k:Int)- a<9:=by omega
   have hne:pk s k d≠ -1:=fun e=>by rw [e] at hb;exact absurd hb (by decide)
   have hlt:=(jT hne).2
   have hset:=fun n=>(hk'.drewN n).setAt' (k+1) (k+1) (by omega) hlt
   have hst:Hid (run zg s d (9 -(k+1 - a)) (k+1)=run zg s d 9 a):=z8 (by
    rw [←hsk.out,show 9 -(k - a)=(9 -(k+1 - a))+1 by omega,z1q hb])
   clear hne hend
   go_wp2_with (go_at_call 170;refine(zF _ _ _ _ _ hk').mono ?_;rintro e w1 ⟨rfl,n,rfl⟩)
   have hset:=hset n
   go_roundw
   case rel=>exact⟨k+1,hset,(hsc.drewN n).setCell 1 (Or.inl rfl) _,by omega,by omega,hst⟩
   case measure=>rw [hset.atOf,hat.out];omega
  ·have hrun:Hid (run zg s d 9 a=k):=by
    by_cases h8:k - a<9
    ·exact(hend h8).resolve_left fun e=>hgo ⟨h8,e⟩
    ·exact z8 (by rw [←hsk.out,show 9 -(k - a)=0 by omega];rfl)
   clear hend hsk hat hk8
   by_cases h8:k - a<9
   ·have h8':(k:Int)- a<9:=by omega
    have hb:zg (pk s k d)=false:=by cases hc:zg (pk s k d) with|false=>rfl|true=>exact absurd ⟨h8,hc⟩ hgo
    clear hgo
    by_cases hka:k=a
    ·have hfin:=z8 (z01 hrun.out (.inl hka))
     have hka':((k:Int)==a)=true:=by simp [hka]
     clear hka
     go_wp2_with (first|(go_at_call 170;refine(zF _ _ _ _ _ hk').mono ?_;rintro e w1 ⟨rfl,n,rfl⟩)|(go_at_call 81;refine(z0p _ _ _ _ _ (hk'.drewN n)).mono ?_;rintro e w1 ⟨rfl,hr1,hs1⟩))
     go_ret
     exact⟨by rw [hfin.out];rfl,by rw [hfin.out];exact hr1,(hsc.drewN n).trans hs1⟩
    ·have hfin:=z8 (z1C hrun.out hka hb)
     have hka':((k:Int)==a)=false:=by simp;omega
     clear hka
     go_wp2_with (go_at_call 170;refine(zF b k s d _ (by first|exact hk'|exact hk'.drewN _)).mono ?_;rintro e w1 ⟨rfl,n,rfl⟩)
     go_quiet (fail)
     go_wp2_with fail
     go_ret
     exact⟨by rw [hfin.out];simp,by rw [hfin.out];exact(hk'.drewN _).drewN _,(hsc.drewN _).drewN _⟩
   ·have h8': ¬(k:Int)- a<9:=by omega
    clear hgo
    have hka':((k:Int)==a)=false:=by simp;omega
    cases hb:zg (pk s k d)
    ·have hfin:=z8 (z1C hrun.out (by omega) hb)
     go_wp2_with (go_at_call 170;refine(zF b k s d _ (by first|exact hk'|exact hk'.drewN _)).mono ?_;rintro e w1 ⟨rfl,n,rfl⟩)
     go_quiet (fail)
     go_wp2_with fail
     go_ret
     exact⟨by rw [hfin.out];simp,by rw [hfin.out];exact(hk'.drewN _).drewN _,(hsc.drewN _).drewN _⟩
    ·have hfin:=z8 (z01 hrun.out (.inr hb))
     go_wp2_with (first|(go_at_call 170;refine(zF b k s d _ (by first|exact hk'|exact hk'.drewN _)).mono ?_;rintro e w1 ⟨rfl,n,rfl⟩)|(go_at_call 81;refine(z0p b k s d _ (by exact hk'.drewN _)).mono ?_;rintro e w1 ⟨rfl,hr1,hs1⟩))
     go_ret
     exact⟨by rw [hfin.out];rfl,by rw [hfin.out];exact hr1,(hsc.drewN _).trans hs1⟩
theorem z1P (b a:Nat)(s:zgS)(d:Bool)(w:World)(h:Rd w b s a d):
  Calls Tryz.prog 150 #[.pointer (some ⟨b,0,none⟩)] w fun e w'=>e= .returned (.string (zM s a d).2.2)∧Rd w' b s (zM s a d).1 (zM s a d).2.1∧Sc b w w':=by
 unfold zM
 cases hz:(pk s a d==48)
 ·exact z3Y b a s d w h hz
 ·exact z4j b a s d w h hz
theorem z8B (b a:Nat)(s:zgS)(d:Bool)(w:World)(h:Rd w b s a d):
  Calls Tryz.prog 194 #[.pointer (some ⟨b,0,none⟩)] w fun e w'=>e= .returned (.string (zO s a d).2.2)∧Rd w' b s (zO s a d).1 (zO s a d).2.1∧Sc b w w':=by
 unfold zO
 rw [z5P]
 have HB:=z8 (z1P b a s d w h)
 unfold zM at HB
 generalize z05 zg (if pk s a d==48 then 1 else 9) s a d=v at*
 obtain⟨av,dv,tv⟩:=v
 go_enter Tryz.func194,Tryz.ntmps194
 go_wp2_with fail
 refine HB.out.mono ?_
 rintro e w1 ⟨rfl,hr1,hs1⟩
 go_wp2_with (go_at_call 72;refine(z0Z b av s dv _ hr1).mono ?_;rintro e w2 ⟨rfl,hr2,hs2⟩)
 go_ret
 exact⟨rfl,hr2,hs1.trans hs2⟩
theorem z8b (b a:Nat)(s:zgS)(d:Bool)(w:World)(h:Rd w b s a d):
  Calls Tryz.prog 196 #[.pointer (some ⟨b,0,none⟩)] w fun e w'=>e= .returned (.string (zT s a d).2.2)∧Rd w' b s (zT s a d).1 (zT s a d).2.1∧Sc b w w':=by
 have hle:=h.le
 have hsz:=h.sz
 unfold zT
 have hW:=jW b a s ⟨#[34]⟩ d w h (by decide)
 generalize hv:zt s d [34] a=v at*
 obtain⟨av,dv⟩:=v
 have HW:=z8 hW
 clear hW hv
 simp only
 go_enter Tryz.func196,Tryz.ntmps196
 go_wp2_with fail
 refine HW.out.mono ?_
 rintro e w1 ⟨rfl,hr1,hs1⟩
 have hr1:Rd w1 b s av dv:=hr1
 have hav:=hr1.le
 obtain⟨h0,h1,h2,f1,f2,_,_⟩:=id hr1
 go_wp2_with fail
 go_loopw [] (fun wr=> ∃k,Rd wr b s k dv∧Sc b w wr∧av≤k∧k≤av+12∧Hid (run zo s dv (12 -(k - av)) k=run zo s dv 12 av)) (fun wr=>s.size - atOf wr b)
 case atStart=>exact⟨av,hr1,hs1,zgH _,by omega,by simp [Hid]⟩
 case round=>
  obtain⟨k,hk,hsc,hak,hk8,hsk⟩:=hrel
  have hat:=z8 hk.atOf
  have hk':=hk
  clear h0 h1 h2 f1 f2
  obtain⟨h0,h1,h2,f1,f2,ha,hs⟩:=hk
  by_cases hgo:k - av<12∧zo (pk s k dv)=true
  ·obtain⟨h8,hb⟩:=hgo
   have h8':(k:Int)- av<12:=by omega
   have hne:pk s k dv≠ -1:=fun e=>by rw [e] at hb;exact absurd hb (by decide)
   have hlt:=(jT hne).2
   have hset:=fun n=>(hk'.drewN n).setAt' (k+1) (k+1) (by omega) hlt
   have hst:Hid (run zo s dv (12 -(k+1 - av)) (k+1)=run zo s dv 12 av):=z8 (by
    rw [←hsk.out,show 12 -(k - av)=(12 -(k+1 - av))+1 by omega,z1q hb])
   clear hne
   go_wp2_with (go_at_call 197;refine(z0N _ _ _ _ _ hk').mono ?_;rintro e w2 ⟨rfl,n,rfl⟩)
   have hset:=hset n
   go_roundw
   case rel=>exact⟨k+1,hset,(hsc.drewN n).setCell 1 (Or.inl rfl) _,by omega,by omega,hst⟩
   case measure=>rw [hset.atOf,hat.out];omega
  ·have hrun:Hid (run zo s dv 12 av=k):=by
    by_cases h8:k - av<12
    ·refine z8 ?_
     rw [←hsk.out]
     exact ju (by cases hc:zo (pk s k dv) with|false=>rfl|true=>exact absurd ⟨h8,hc⟩ hgo)
    ·exact z8 (by rw [←hsk.out,show 12 -(k - av)=0 by omega];rfl)
   have hor:k - av<12∧zo (pk s k dv)=false∨ ¬k - av<12:=by
    by_cases h8:k - av<12
    ·exact .inl ⟨h8,by cases hc:zo (pk s k dv) with|false=>rfl|true=>exact absurd ⟨h8,hc⟩ hgo⟩
    ·exact .inr h8
   clear hgo hsk hat hk8
   rcases hor with⟨h8,hb⟩|h8
   ·have h8':(k:Int)- av<12:=by omega
    go_wp2_with (go_at_call 197;refine(z0N _ _ _ _ _ hk').mono ?_;rintro e w2 ⟨rfl,n,rfl⟩)
    go_quiet (fail)
    go_wp2_with (go_at_call 114;refine(zP b k s _ dv _ (by exact hk'.drewN _) (by decide)).mono ?_;rintro e w2 ⟨rfl,hr2,hs2⟩)
    go_ret
    exact⟨by rw [hrun.out];simp,by rw [hrun.out];exact hr2,(hsc.drewN _).trans hs2⟩
   ·have h8': ¬(k:Int)- av<12:=by omega
    go_wp2_with (go_at_call 197;refine(z0N _ _ _ _ _ hk').mono ?_;rintro e w2 ⟨rfl,n,rfl⟩)
    go_quiet (fail)
    go_wp2_with (go_at_call 114;refine(zP b k s _ dv _ (by exact hk'.drewN _) (by decide)).mono ?_;rintro e w2 ⟨rfl,hr2,hs2⟩)
    go_ret
    exact⟨by rw [hrun.out];simp,by rw [hrun.out];exact hr2,(hsc.drewN _).trans hs2⟩
theorem z22 (b a:Nat)(s:zgS)(d:Bool)(w:World)(h:Rd w b s a d):
  Calls Tryz.prog 186 #[.pointer (some ⟨b,0,none⟩)] w fun e w'=>e= .returned (.bool (zz s a d))∧ ∃n,w'=w.drewN n:=by
 obtain⟨h0,h1,h2,f1,f2,ha,hs⟩:=id h
 cases hc:(pk s a d==45)
 ·have hv:Hid (zz s a d=false):=z8 (by simp [zz,hc])
  have hc':(pk s a d !=45)=true:=by simp at hc;simp [hc]
  go_enter Tryz.func186,Tryz.ntmps186
  go_wp2_with fail
  go_quiet ((go_at_call 78;exact Calls.quiet_of (zn _ _ _ _ _ (h.drewN _))))
  go_wp2_with fail
  go_ret
  exact⟨by rw [hv.out];simp,_,rfl⟩
 ·have hc':(pk s a d !=45)=false:=by simp at hc;simp [hc]
  by_cases hlt:a+1<s.size
  ·obtain⟨c,hcc⟩: ∃c,c=a+1:=⟨_,rfl⟩
   have hlt':(a:Int)+1<s.size:=by omega
   have hcs:c<s.size:=by omega
   have hv:Hid (zz s a d=((s[c].toNat:Int)==62)):=z8 (by subst hcc;unfold zz;rw [hc,show pk s (a+1) false=s[a+1].toNat by simp [pk,hlt]];rfl)
   have hwr:IntKind.i64.wrap ((a:Int)+1)=(c:Int):=by rw [IntWalk.i64_left,IntWalk.wrap64_in _ (by omega)];omega
   clear hcc
   go_enter Tryz.func186,Tryz.ntmps186
   go_wp2_with fail
   go_quiet ((go_at_call 78;exact Calls.quiet_of (zn _ _ _ _ _ (h.drewN _))))
   go_wp2_with fail
   go_quiet (fail)
   go_wp2_with fail
   go_ret
   refine⟨?_,_,World.drewN_drewN _ _ _⟩
   rw [hv.out]
   simp
  ·have hv:Hid (zz s a d=false):=z8 (by simp [zz,pk,hlt])
   have hlt': ¬(a:Int)+1<s.size:=by omega
   go_enter Tryz.func186,Tryz.ntmps186
   go_wp2_with fail
   go_quiet ((go_at_call 78;exact Calls.quiet_of (zn _ _ _ _ _ (h.drewN _))))
   go_wp2_with fail
   go_ret
   exact⟨by rw [hv.out];simp,_,rfl⟩
theorem z44 (b a:Nat)(s:zgS)(d:Bool)(w:World)(h:Rd w b s a d):
  Calls Tryz.prog 192 #[.pointer (some ⟨b,0,none⟩)] w fun e w'=>e= .returned (.string (zh s a d))∧ ∃n,w'=w.drewN n:=by
 have hv:=z8 (show zh s a d=zh s a d from rfl)
 unfold zh at hv ⊢
 cases h1:(pk s a d==42)
 all_goals cases h2:(pk s a d==47)
 all_goals cases h3:(pk s a d==37)
 all_goals try(simp at h1 h2 h3;omega)
 all_goals
  go_enter Tryz.func192,Tryz.ntmps192
  go_wp2_with (go_at_call 78;refine(zn _ _ _ _ _ h).mono ?_;rintro e w1 ⟨rfl,n,rfl⟩)
  go_ret
  exact⟨by simp,_,rfl⟩
theorem z6V (b a:Nat)(s:zgS)(d:Bool)(w:World)(h:Rd w b s a d):
  Calls Tryz.prog 188 #[.pointer (some ⟨b,0,none⟩)] w fun e w'=>e= .returned (.string (zr s a d))∧ ∃n,w'=w.drewN n:=by
 unfold zr
 cases h0:zz s a d
 all_goals cases h1:(pk s a d==43)
 all_goals cases h2:(pk s a d==45)
 all_goals cases h3:(pk s a d==46)
 all_goals try(simp at h1 h2 h3;omega)
 all_goals
  go_enter Tryz.func188,Tryz.ntmps188
  go_wp2_with (first|(go_at_call 78;refine(zn b a s d _ (by exact h.drewN _)).mono ?_;rintro e w1 ⟨rfl,n,rfl⟩)|(go_at_call 186;refine(z22 _ _ _ _ _ h).mono ?_;rintro e w1 ⟨rfl,n,rfl⟩))
  go_ret
  exact⟨by simp,_,rfl⟩
theorem z1h (b a:Nat)(s short long:zgS)(d:Bool)(w:World)(h:Rd w b s a d)(hs:short.size≤600):
  Calls Tryz.prog 189 #[.pointer (some ⟨b,0,none⟩),.string short,.string long] w fun e w'=>e= .returned (.string (zx s short long a d).2.2)∧Rd w' b s (zx s short long a d).1 (zx s short long a d).2.1∧Sc b w w':=by
 have HW:=z8 (jW b a s short d w h hs)
 unfold zx
 generalize zt s d short.data.toList a=v at*
 obtain⟨av,dv⟩:=v
 cases hc:(pk s av dv !=61)
 ·go_enter Tryz.func189,Tryz.ntmps189
  go_wp2_with (first|(go_at_call 79;refine HW.out.mono ?_;rintro e w1 ⟨rfl,hr1,hs1⟩)|(go_at_call 78;refine(zn b av s dv _ hr1).mono ?_;rintro e w2 ⟨rfl,n,rfl⟩)|(go_at_call 114;refine(zP b av s _ dv _ (by exact hr1.drewN _) (by decide)).mono ?_;rintro e w3 ⟨rfl,hr3,hs3⟩))
  go_ret
  simp only [hc]
  exact⟨rfl,hr3,(hs1.drewN _).trans hs3⟩
 ·go_enter Tryz.func189,Tryz.ntmps189
  go_wp2_with (first|(go_at_call 79;refine HW.out.mono ?_;rintro e w1 ⟨rfl,hr1,hs1⟩)|(go_at_call 78;refine(zn b av s dv _ hr1).mono ?_;rintro e w2 ⟨rfl,n,rfl⟩)|(go_at_call 72;refine(z0Z b av s dv _ (by exact hr1.drewN _)).mono ?_;rintro e w3 ⟨rfl,hr3,hs3⟩))
  go_ret
  simp only [hc]
  exact⟨rfl,hr3,(hs1.drewN _).trans hs3⟩
theorem z2T (b a:Nat)(s:zgS)(d:Bool)(w:World)(hR:Rd w b s a d):
  Calls Tryz.prog 181 #[.pointer (some ⟨b,0,none⟩)] w fun e w'=>e= .returned (.string (ze s a d).2.2)∧Rd w' b s (ze s a d).1 (ze s a d).2.1∧Sc b w w':=by
 unfold ze
 cases h1:(pk s a d==61)
 all_goals cases h2:(pk s a d==33)
 all_goals cases h3:(pk s a d==60)
 all_goals cases h4:(pk s a d==62)
 all_goals try(simp at h1 h2 h3 h4;omega)
 ·go_enter Tryz.func181,Tryz.ntmps181
  go_wp2_with (go_at_call 78;refine(zn b a s d _ hR).mono ?_;rintro e w2 ⟨rfl,n,rfl⟩)
  go_ret
  exact⟨by simp,by simpa using hR.drewN n,(Sc.refl _ _).drewN _⟩
 ·go_enter Tryz.func181,Tryz.ntmps181
  go_wp2_with (first|(go_at_call 78;refine(zn b a s d _ hR).mono ?_;rintro e w2 ⟨rfl,n,rfl⟩)|(go_at_call 189;refine(z1h b a s _ _ d _ (by exact hR.drewN _) (by decide)).mono ?_;rintro e w3 ⟨rfl,hr3,hs3⟩))
  go_ret
  exact⟨by simp,by simpa using hr3,((Sc.refl _ _).drewN _).trans hs3⟩
 ·go_enter Tryz.func181,Tryz.ntmps181
  go_wp2_with (first|(go_at_call 78;refine(zn b a s d _ hR).mono ?_;rintro e w2 ⟨rfl,n,rfl⟩)|(go_at_call 189;refine(z1h b a s _ _ d _ (by exact hR.drewN _) (by decide)).mono ?_;rintro e w3 ⟨rfl,hr3,hs3⟩))
  go_ret
  exact⟨by simp,by simpa using hr3,((Sc.refl _ _).drewN _).trans hs3⟩
 ·go_enter Tryz.func181,Tryz.ntmps181
  go_wp2_with (first|(go_at_call 78;refine(zn b a s d _ hR).mono ?_;rintro e w2 ⟨rfl,n,rfl⟩)|(go_at_call 114;refine(zP b a s _ d _ (by exact hR.drewN _) (by decide)).mono ?_;rintro e w3 ⟨rfl,hr3,hs3⟩))
  go_ret
  exact⟨by simp,by simpa using hr3,((Sc.refl _ _).drewN _).trans hs3⟩
 ·go_enter Tryz.func181,Tryz.ntmps181
  go_wp2_with (first|(go_at_call 78;refine(zn b a s d _ hR).mono ?_;rintro e w2 ⟨rfl,n,rfl⟩)|(go_at_call 114;refine(zP b a s _ d _ (by exact hR.drewN _) (by decide)).mono ?_;rintro e w3 ⟨rfl,hr3,hs3⟩))
  go_ret
  exact⟨by simp,by simpa using hr3,((Sc.refl _ _).drewN _).trans hs3⟩
structure Ex where
 form:Int
 place:Int
 text:zgS
 left:Int
 right:Int
structure Lc where
 form:Int
 text:zgS
 left:Int
 right:Int
 place:Int
 count:Int
 items:List Int
structure Cl where
 test:Int
 form:Int
 result:zgS
 inner:Int
structure As where
 by_:zgS
 to_:Int
 conds:Int
structure St where
 at_:Nat
 bad:Bool
 A:List As
 L:List Lc
 E:List Ex
 C:List (List Cl)
def Ex.cells (x:Ex):List Value:=[.int .i64 x.form,.int .i64 x.place,.string x.text,.int .i64 x.left,.int .i64 x.right]
def Lc.cells (x:Lc)(v:Value):List Value:=[.int .i64 x.form,.string x.text,.int .i64 x.left,.int .i64 x.right,.int .i64 x.place,.int .i64 x.count,v]
def Cl.cells (x:Cl):List Value:=[.int .i64 x.test,.int .i64 x.form,.string x.result,.int .i64 x.inner]
def As.cells (x:As):List Value:=[.string x.by_,.int .i64 x.to_,.int .i64 x.conds]
def elT:Nat→Nat|3=>84|4=>160|5=>120|_=>133
def szT:Nat→Nat|3=>3|4=>7|5=>5|_=>1
def upd {α:Type}(f:Nat→α)(o:Nat)(v:α):Nat→α:=fun i=>if i=o then v else f i
theorem z0I {α:Type}(f:Nat→α)(o:Nat)(v:α):upd f o v o=v:=if_pos rfl
theorem z04 {α:Type}(f:Nat→α){o i:Nat}(v:α)(h:i≠o):upd f o v i=f i:=if_neg h
structure Rows4 (X:Nat→Prop)(w:World)(b:Nat)(V:Nat→Value)(n:Nat→Nat)(xs:Nat→List Value):Prop where
 cell: ∀o,3≤o→o≤6→w.cell? ⟨b,o,none⟩=some (V o)
 froz: ∀o,3≤o→o≤6→w.frozen? ⟨b,o,none⟩=false
 own: ∀o,3≤o→o≤6→w.ownsRow (b+1) (elT o) (szT o) (V o) (n o) (xs o)
 apart: ∀o p k,3≤o→o≤6→3≤p→p≤6→o≠p→(V o).ownBlock=some k→(V p).ownBlock≠some k
 nob: ¬X b
 notX: ∀o k,3≤o→o≤6→(V o).ownBlock=some k→ ¬X k
structure Side (X:Nat→Prop)(w:World)(b:Nat)(V:Nat→Value)(e size:Nat)(v:Value)(n:Nat)(xs:List Value):Prop where
 own:w.ownsRow (b+1) e size v n xs
 notX: ∀k,v.ownBlock=some k→ ¬X k
 apart: ∀o k,3≤o→o≤6→v.ownBlock=some k→(V o).ownBlock≠some k
theorem zc {w w':World}{base e size n:Nat}{v:Value}{xs:List Value}(h:w.ownsRow base e size v n xs)(hk: ∀k,v.ownBlock=some k→w'.heap[k]?=w.heap[k]?):w'.ownsRow base e size v n xs:=by
 refine⟨h.1,?_⟩
 rcases h.2 with hn|⟨g,cap,cur,rfl,hb,hg,r⟩
 ·exact .inl hn
 ·exact .inr ⟨g,cap,cur,rfl,hb,by rw [hk g rfl];exact hg,r⟩
theorem zd {w:World}{b o:Nat}{v:Value}(h:w.cell? ⟨b,o,none⟩=some v):b<w.heap.size:=World.block_lt_of_cell? w ⟨b,o,none⟩ h
theorem Rows4.lt {X:Nat→Prop}{w:World}{b:Nat}{V:Nat→Value}{n:Nat→Nat}{xs:Nat→List Value}(h:Rows4 X w b V n xs):b<w.heap.size:=zd (h.cell 3 (by omega) (by omega))
theorem Rows4.other {X:Nat→Prop}{w w':World}{b:Nat}{V:Nat→Value}{n:Nat→Nat}{xs:Nat→List Value}(h:Rows4 X w b V n xs)
  (hk: ∀k,k<w.heap.size→ ¬X k→w'.heap[k]?=w.heap[k]?):Rows4 X w' b V n xs:=
 ⟨fun o h1 h2=>(World.cell?_of_block (hk b h.lt h.nob)).trans (h.cell o h1 h2),fun o h1 h2=>(World.frozen?_of_block (hk b h.lt h.nob)).trans (h.froz o h1 h2),
  fun o h1 h2=>zc (h.own o h1 h2) fun k e=>hk k ((h.own o h1 h2).lt k e).2 (h.notX o k h1 h2 e),h.apart,h.nob,h.notX⟩
theorem Side.other {X:Nat→Prop}{w w':World}{b:Nat}{V:Nat→Value}{e size n:Nat}{v:Value}{xs:List Value}(h:Side X w b V e size v n xs)
  (hk: ∀k,k<w.heap.size→ ¬X k→w'.heap[k]?=w.heap[k]?):Side X w' b V e size v n xs:=
 ⟨zc h.own fun k e=>hk k (h.own.lt k e).2 (h.notX k e),h.notX,h.apart⟩
theorem Rows4.mono {X Y:Nat→Prop}{w:World}{b:Nat}{V:Nat→Value}{n:Nat→Nat}{xs:Nat→List Value}(h:Rows4 X w b V n xs)(hY: ∀k,Y k→X k):Rows4 Y w b V n xs:=
 ⟨h.cell,h.froz,h.own,h.apart,fun y=>h.nob (hY _ y),fun o k h1 h2 e y=>h.notX o k h1 h2 e (hY _ y)⟩
theorem Side.mono {X Y:Nat→Prop}{w:World}{b:Nat}{V:Nat→Value}{e size n:Nat}{v:Value}{xs:List Value}(h:Side X w b V e size v n xs)(hY: ∀k,Y k→X k):Side Y w b V e size v n xs:=
 ⟨h.own,fun k e y=>h.notX k e (hY _ y),h.apart⟩
theorem Rows4.more {X:Nat→Prop}{w:World}{b:Nat}{V:Nat→Value}{n:Nat→Nat}{xs:Nat→List Value}(h:Rows4 X w b V n xs):Rows4 (fun k=>X k∨w.heap.size≤k) w b V n xs:=
 ⟨h.cell,h.froz,h.own,h.apart,fun y=>y.elim h.nob fun l=>by have:=h.lt;omega,fun o k h1 h2 e y=>y.elim (h.notX o k h1 h2 e) fun l=>by have:=((h.own o h1 h2).lt k e).2;omega⟩
theorem Side.more {X:Nat→Prop}{w:World}{b:Nat}{V:Nat→Value}{e size n:Nat}{v:Value}{xs:List Value}(h:Side X w b V e size v n xs):Side (fun k=>X k∨w.heap.size≤k) w b V e size v n xs:=
 ⟨h.own,fun k e y=>y.elim (h.notX k e) fun l=>by have:=(h.own.lt k e).2;omega,h.apart⟩
theorem Rows4.push {X:Nat→Prop}{w w2:World}{b:Nat}{V:Nat→Value}{n:Nat→Nat}{xs:Nat→List Value}(h:Rows4 X w b V n xs){o:Nat}(h3:3≤o)(h6:o≤6){v':Value}{n':Nat}{xs':List Value}
  (hown:w2.ownsRow (b+1) (elT o) (szT o) v' n' xs') (hg:w.grownBy w2 (V o).ownBlock) (hat: ∀k,v'.ownBlock=some k→(V o).ownBlock=some k∨w.heap.size≤k) (hX: ∀k,X k→k<w.heap.size):
  Rows4 X (w2.setCell ⟨b,o,none⟩ v') b (upd V o v') (upd n o n') (upd xs o xs'):=by
 have hbo:some b≠(V o).ownBlock:=fun e=>by have:=((h.own o h3 h6).lt b e.symm).1;omega
 have hb2:w2.heap[b]?=w.heap[b]?:=hg.block b h.lt hbo
 refine⟨fun p p3 p6=> ?_,fun p p3 p6=> ?_,fun p p3 p6=> ?_,fun p q k p3 p6 q3 q6 hpq e=> ?_,h.nob,fun p k p3 p6 e=> ?_⟩
 ·by_cases hp:p=o
  ·subst hp
   rw [z0I]
   exact World.cell?_setCell_same _ _ _ ((World.cell?_of_block (w:=w) hb2).trans (h.cell p h3 h6))
  ·rw [z04 _ _ hp,zX _ _ _ _ _ hp]
   exact(World.cell?_of_block (w:=w) hb2).trans (h.cell p p3 p6)
 ·rw [World.frozen?_setCell]
  exact(World.frozen?_of_block (w:=w) hb2).trans (h.froz p p3 p6)
 ·by_cases hp:p=o
  ·subst hp
   rw [z0I,z0I,z0I]
   exact zc hown fun k e=>zgQ _ _ _ _ (by have:=(hown.lt k e).1;simp;omega)
  ·rw [z04 _ _ hp,z04 _ _ hp,z04 _ _ hp]
   refine zc (h.own p p3 p6) fun k e=> ?_
   have hl:=(h.own p p3 p6).lt k e
   rw [zgQ _ _ _ _ (by simp;omega)]
   exact hg.block k hl.2 fun e2=>h.apart p o k p3 p6 h3 h6 hp e e2.symm
 ·by_cases hp:p=o
  ·subst hp
   rw [z0I] at e
   rw [z04 _ _ (Ne.symm hpq)]
   rcases hat k e with e1|e1
   ·exact h.apart p q k p3 p6 q3 q6 hpq e1
   ·intro e2
    have:=((h.own q q3 q6).lt k e2).2
    omega
  ·rw [z04 _ _ hp] at e
   by_cases hq:q=o
   ·subst hq
    rw [z0I]
    intro e2
    rcases hat k e2 with e1|e1
    ·exact h.apart p q k p3 p6 q3 q6 hpq e e1
    ·have:=((h.own p p3 p6).lt k e).2
     omega
   ·rw [z04 _ _ hq]
    exact h.apart p q k p3 p6 q3 q6 hpq e
 ·by_cases hp:p=o
  ·subst hp
   rw [z0I] at e
   rcases hat k e with e1|e1
   ·exact h.notX p k p3 p6 e1
   ·intro x
    have:=hX k x
    omega
  ·rw [z04 _ _ hp] at e
   exact h.notX p k p3 p6 e
theorem Side.push {X:Nat→Prop}{w w2:World}{b:Nat}{V:Nat→Value}{e size n:Nat}{v:Value}{xs:List Value}(h:Side X w b V e size v n xs){o:Nat}(h3:3≤o)(h6:o≤6){v':Value}
  (hg:w.grownBy w2 (V o).ownBlock) (hat: ∀k,v'.ownBlock=some k→(V o).ownBlock=some k∨w.heap.size≤k):
  Side X (w2.setCell ⟨b,o,none⟩ v') b (upd V o v') e size v n xs:=by
 refine⟨zc h.own fun k e=> ?_,h.notX,fun p k p3 p6 e=> ?_⟩
 ·have hl:=h.own.lt k e
  rw [zgQ _ _ _ _ (by simp;omega)]
  exact hg.block k hl.2 fun e2=>h.apart o k h3 h6 e e2.symm
 ·by_cases hp:p=o
  ·subst hp
   rw [z0I]
   intro e2
   rcases hat k e2 with e1|e1
   ·exact h.apart p k p3 p6 e e1
   ·have:=(h.own.lt k e).2
    omega
  ·rw [z04 _ _ hp]
   exact h.apart p k p3 p6 e
def nOf (st:St):Nat→Nat|3=>st.A.length|4=>st.L.length|5=>st.E.length|_=>st.C.length
def zdv (st:St)(iv cv:List Value):Nat→List Value
 |3=>(st.A.map As.cells).flatten
 |4=>(List.zipWith Lc.cells st.L iv).flatten
 |5=>(st.E.map Ex.cells).flatten
 |_=>cv
structure InvV (X:Nat→Prop)(w:World)(b:Nat)(s:zgS)(st:St)(V:Nat→Value)(iv cv:List Value):Prop where
 rd:Rd w b s st.at_ st.bad
 rows:Rows4 X w b V (nOf st) (zdv st iv cv)
 il:iv.length=st.L.length
 cl:cv.length=st.C.length
 items: ∀(i:Nat) (l:Lc) (v:Value),st.L[i]?=some l→iv[i]?=some v→Side X w b V 3 1 v l.items.length (l.items.map (Value.int .i64))
 clauses: ∀(i:Nat) (l:List Cl) (v:Value),st.C[i]?=some l→cv[i]?=some v→Side X w b V 156 4 v l.length ((l.map Cl.cells).flatten)
def Inv (X:Nat→Prop)(w:World)(b:Nat)(s:zgS)(st:St):Prop:= ∃V iv cv,InvV X w b s st V iv cv
structure Fr (X:Nat→Prop)(w w':World):Prop where
 os:w'.os=w.os
 tape:w'.tape=w.tape
 output:w'.output=w.output
 size:w.heap.size≤w'.heap.size
 block: ∀k,X k→w'.heap[k]?=w.heap[k]?
theorem Fr.refl (X:Nat→Prop)(w:World):Fr X w w:=⟨rfl,rfl,rfl,zgH _,fun _ _=>rfl⟩
theorem Fr.trans {X:Nat→Prop}{u v w:World}(h:Fr X u v)(k:Fr X v w):Fr X u w:=
 ⟨k.os.trans h.os,k.tape.trans h.tape,k.output.trans h.output,zgP h.size k.size,fun i hi=>(k.block i hi).trans (h.block i hi)⟩
theorem Fr.mono {X Y:Nat→Prop}{w w':World}(h:Fr X w w')(hY: ∀k,Y k→X k):Fr Y w w':=⟨h.os,h.tape,h.output,h.size,fun k y=>h.block k (hY k y)⟩
theorem Fr.drewN {X:Nat→Prop}{u w:World}(h:Fr X u w)(n:Nat):Fr X u (w.drewN n):=⟨h.os,h.tape,h.output,h.size,h.block⟩
theorem Fr.alloc {X:Nat→Prop}{u w:World}(h:Fr X u w)(hX: ∀k,X k→k<w.heap.size)(o:Obj):Fr X u (w.alloc o):=
 h.trans ⟨rfl,rfl,rfl,by simp,fun k hk=>zgJ _ _ _ (hX k hk)⟩
theorem Fr.setCell {X:Nat→Prop}{u w:World}(h:Fr X u w){a:Addr}(ha: ¬X a.block)(v:Value):Fr X u (w.setCell a v):=
 h.trans ⟨rfl,rfl,rfl,by simp [World.setCell],fun k hk=>zgQ _ _ _ _ fun e=>ha (e▸hk)⟩
theorem Sc.fr {X:Nat→Prop}{b:Nat}{w w':World}(h:Sc b w w')(hX: ¬X b):Fr X w w':=
 ⟨h.os,h.tape,h.output,Nat.le_of_eq h.size.symm,fun k hk=>h.block k fun e=>hX (e▸hk)⟩
theorem Fr.grown {X:Nat→Prop}{u w w':World}{row:Option Nat}(h:Fr X u w)(hg:w.grownBy w' row)(hX: ∀k,X k→k<w.heap.size)(hr: ∀k,row=some k→ ¬X k):Fr X u w':=
 h.trans ⟨hg.os,hg.tape,hg.output,hg.size,fun k hk=>hg.block k (hX k hk) fun e=>hr k e.symm hk⟩
theorem Inv.rd {X:Nat→Prop}{w:World}{b:Nat}{s:zgS}{st:St}(h:Inv X w b s st):Rd w b s st.at_ st.bad:=let ⟨_,_,_,g⟩:=h;g.rd
theorem Inv.nob {X:Nat→Prop}{w:World}{b:Nat}{s:zgS}{st:St}(h:Inv X w b s st): ¬X b:=let ⟨_,_,_,g⟩:=h;g.rows.nob
theorem Inv.lt {X:Nat→Prop}{w:World}{b:Nat}{s:zgS}{st:St}(h:Inv X w b s st):b<w.heap.size:=let ⟨_,_,_,g⟩:=h;g.rows.lt
theorem Rd.other {w w':World}{b:Nat}{s:zgS}{a:Nat}{d:Bool}(h:Rd w b s a d)(hb:w'.heap[b]?=w.heap[b]?):Rd w' b s a d:=
 ⟨(World.cell?_of_block (w:=w) hb).trans h.c0,(World.cell?_of_block (w:=w) hb).trans h.c1,(World.cell?_of_block (w:=w) hb).trans h.c2,
  (World.frozen?_of_block (w:=w) hb).trans h.f1,(World.frozen?_of_block (w:=w) hb).trans h.f2,h.le,h.sz⟩
theorem Inv.other {X:Nat→Prop}{w w':World}{b:Nat}{s:zgS}{st:St}(h:Inv X w b s st)(hk: ∀k,k<w.heap.size→ ¬X k→w'.heap[k]?=w.heap[k]?):Inv X w' b s st:=by
 obtain⟨V,iv,cv,g⟩:=h
 exact⟨V,iv,cv,g.rd.other (hk b g.rows.lt g.rows.nob),g.rows.other hk,g.il,g.cl,fun i l v h1 h2=>(g.items i l v h1 h2).other hk,fun i l v h1 h2=>(g.clauses i l v h1 h2).other hk⟩
theorem Inv.mono {X Y:Nat→Prop}{w:World}{b:Nat}{s:zgS}{st:St}(h:Inv X w b s st)(hY: ∀k,Y k→X k):Inv Y w b s st:=by
 obtain⟨V,iv,cv,g⟩:=h
 exact⟨V,iv,cv,g.rd,g.rows.mono hY,g.il,g.cl,fun i l v h1 h2=>(g.items i l v h1 h2).mono hY,fun i l v h1 h2=>(g.clauses i l v h1 h2).mono hY⟩
theorem Inv.more {X:Nat→Prop}{w:World}{b:Nat}{s:zgS}{st:St}(h:Inv X w b s st):Inv (fun k=>X k∨w.heap.size≤k) w b s st:=by
 obtain⟨V,iv,cv,g⟩:=h
 exact⟨V,iv,cv,g.rd,g.rows.more,g.il,g.cl,fun i l v h1 h2=>(g.items i l v h1 h2).more,fun i l v h1 h2=>(g.clauses i l v h1 h2).more⟩
theorem Inv.drewN {X:Nat→Prop}{w:World}{b:Nat}{s:zgS}{st:St}(h:Inv X w b s st)(n:Nat):Inv X (w.drewN n) b s st:=h.other fun _ _ _=>rfl
theorem Inv.alloc {X:Nat→Prop}{w:World}{b:Nat}{s:zgS}{st:St}(h:Inv X w b s st)(o:Obj):Inv X (w.alloc o) b s st:=h.other fun k hk _=>zgJ _ _ _ hk
theorem Inv.allocX {X:Nat→Prop}{w:World}{b:Nat}{s:zgS}{st:St}(h:Inv X w b s st)(o:Obj):Inv (fun k=>X k∨k=w.heap.size) (w.alloc o) b s st:=
 (h.more.mono (Y:=fun k=>X k∨k=w.heap.size) fun _ y=>y.imp id fun e=>by omega).alloc o
theorem Inv.setCell {X:Nat→Prop}{w:World}{b:Nat}{s:zgS}{st:St}(h:Inv X w b s st){a:Addr}(ha:X a.block)(v:Value):Inv X (w.setCell a v) b s st:=
 h.other fun k _ hx=>zgQ _ _ _ _ fun e=>hx (e▸ha)
theorem Inv.sc {X:Nat→Prop}{w w':World}{b:Nat}{s:zgS}{st:St}(h:Inv X w b s st){a:Nat}{d:Bool}(hr:Rd w' b s a d)(hs:Sc b w w'):Inv X w' b s {st with at_:=a,bad:=d}:=by
 obtain⟨V,iv,cv,g⟩:=h
 have hside: ∀{e size n:Nat} {v:Value} {xs:List Value},Side X w b V e size v n xs→Side X w' b V e size v n xs:=fun{e size n v xs} q=>
  ⟨zc q.own fun k e=>hs.block k (by have:=(q.own.lt k e).1;omega),q.notX,q.apart⟩
 refine⟨V,iv,cv,hr,⟨fun o h3 h6=>(hs.cell o (by omega) (by omega)).trans (g.rows.cell o h3 h6),fun o h3 h6=>(hs.frozen o).trans (g.rows.froz o h3 h6),
  fun o h3 h6=> ?_,g.rows.apart,g.rows.nob,g.rows.notX⟩,g.il,g.cl,fun i l v h1 h2=>hside (g.items i l v h1 h2),fun i l v h1 h2=>hside (g.clauses i l v h1 h2)⟩
 have:=zc (g.rows.own o h3 h6) (w':=w') fun k e=>hs.block k (by have:=((g.rows.own o h3 h6).lt k e).1;omega)
 exact this
theorem Rd.setRow {w:World}{b:Nat}{s:zgS}{a:Nat}{d:Bool}(h:Rd w b s a d)(o:Nat)(h3:3≤o)(v:Value):Rd (w.setCell ⟨b,o,none⟩ v) b s a d:=
 ⟨(zX _ _ _ _ _ (by omega)).trans h.c0,(zX _ _ _ _ _ (by omega)).trans h.c1,(zX _ _ _ _ _ (by omega)).trans h.c2,
  (World.frozen?_setCell _ _ _ _).trans h.f1,(World.frozen?_setCell _ _ _ _).trans h.f2,h.le,h.sz⟩
section
variable {X:Nat→Prop} {w w2:World} {b:Nat} {s:zgS} {st:St} {V:Nat→Value} {iv cv:List Value}
theorem InvV.rd2 (g:InvV X w b s st V iv cv){o:Nat}(h3:3≤o)(h6:o≤6)(hg:w.grownBy w2 (V o).ownBlock)(v':Value):Rd (w2.setCell ⟨b,o,none⟩ v') b s st.at_ st.bad:=
 (g.rd.other (hg.block b g.rows.lt fun e=>by have:=((g.rows.own o h3 h6).lt b e.symm).1;omega)).setRow o h3 v'
theorem Rows4.congr {X:Nat→Prop}{w:World}{b:Nat}{V:Nat→Value}{n n':Nat→Nat}{xs xs':Nat→List Value}(h:Rows4 X w b V n xs)(hn: ∀o,3≤o→o≤6→n' o=n o)(hx: ∀o,3≤o→o≤6→xs' o=xs o):Rows4 X w b V n' xs':=
 ⟨h.cell,h.froz,fun o h3 h6=>by rw [hn o h3 h6,hx o h3 h6];exact h.own o h3 h6,h.apart,h.nob,h.notX⟩
theorem InvV.pushE (g:InvV X w b s st V iv cv)(x:Ex){v':Value}(hown:w2.ownsRow (b+1) 120 5 v' (st.E.length+1) ((st.E.map Ex.cells).flatten++x.cells))
  (hg:w.grownBy w2 (V 5).ownBlock) (hat: ∀k,v'.ownBlock=some k→(V 5).ownBlock=some k∨w.heap.size≤k) (hX: ∀k,X k→k<w.heap.size):
  Inv X (w2.setCell ⟨b,5,none⟩ v') b s {st with E:=st.E++[x]}:=by
 refine⟨upd V 5 v',iv,cv,g.rd2 (by omega) (by omega) hg v',?_,g.il,g.cl,fun i l v h1 h2=>(g.items i l v h1 h2).push (by omega) (by omega) hg hat,fun i l v h1 h2=>(g.clauses i l v h1 h2).push (by omega) (by omega) hg hat⟩
 refine(g.rows.push (o:=5) (by omega) (by omega) hown hg hat hX).congr (fun o h3 h6=> ?_) (fun o h3 h6=> ?_)
 ·match o,h3,h6 with
  |3,_,_=>rfl
  |4,_,_=>rfl
  |5,_,_=>simp [upd,nOf]
  |6,_,_=>rfl
 ·match o,h3,h6 with
  |3,_,_=>rfl
  |4,_,_=>rfl
  |5,_,_=>simp [upd,zdv]
  |6,_,_=>rfl
theorem InvV.pushA (g:InvV X w b s st V iv cv)(x:As){v':Value}(hown:w2.ownsRow (b+1) 84 3 v' (st.A.length+1) ((st.A.map As.cells).flatten++x.cells))
  (hg:w.grownBy w2 (V 3).ownBlock) (hat: ∀k,v'.ownBlock=some k→(V 3).ownBlock=some k∨w.heap.size≤k) (hX: ∀k,X k→k<w.heap.size):
  Inv X (w2.setCell ⟨b,3,none⟩ v') b s {st with A:=st.A++[x]}:=by
 refine⟨upd V 3 v',iv,cv,g.rd2 (by omega) (by omega) hg v',?_,g.il,g.cl,fun i l v h1 h2=>(g.items i l v h1 h2).push (by omega) (by omega) hg hat,fun i l v h1 h2=>(g.clauses i l v h1 h2).push (by omega) (by omega) hg hat⟩
 refine(g.rows.push (o:=3) (by omega) (by omega) hown hg hat hX).congr (fun o h3 h6=> ?_) (fun o h3 h6=> ?_)
 ·match o,h3,h6 with
  |3,_,_=>simp [upd,nOf]
  |4,_,_=>rfl
  |5,_,_=>rfl
  |6,_,_=>rfl
 ·match o,h3,h6 with
  |3,_,_=>simp [upd,zdv]
  |4,_,_=>rfl
  |5,_,_=>rfl
  |6,_,_=>rfl
theorem InvV.pushL (g:InvV X w b s st V iv cv)(x:Lc)(u:Value)(hu:Side X w b V 3 1 u x.items.length (x.items.map (Value.int .i64))){v':Value}
  (hown:w2.ownsRow (b+1) 160 7 v' (st.L.length+1) ((List.zipWith Lc.cells st.L iv).flatten++x.cells u))
  (hg:w.grownBy w2 (V 4).ownBlock) (hat: ∀k,v'.ownBlock=some k→(V 4).ownBlock=some k∨w.heap.size≤k) (hX: ∀k,X k→k<w.heap.size):
  Inv X (w2.setCell ⟨b,4,none⟩ v') b s {st with L:=st.L++[x]}:=by
 refine⟨upd V 4 v',iv++[u],cv,g.rd2 (by omega) (by omega) hg v',?_,by simp [g.il],g.cl,fun i l v h1 h2=> ?_,fun i l v h1 h2=>(g.clauses i l v h1 h2).push (by omega) (by omega) hg hat⟩
 ·refine(g.rows.push (o:=4) (by omega) (by omega) hown hg hat hX).congr (fun o h3 h6=> ?_) (fun o h3 h6=> ?_)
  ·match o,h3,h6 with
   |3,_,_=>rfl
   |4,_,_=>simp [upd,nOf]
   |5,_,_=>rfl
   |6,_,_=>rfl
  ·match o,h3,h6 with
   |3,_,_=>rfl
   |4,_,_=>
    simp only [upd,zdv,if_true]
    rw [List.zipWith_append g.il.symm]
    simp
   |5,_,_=>rfl
   |6,_,_=>rfl
 ·by_cases hi:i<st.L.length
  ·rw [List.getElem?_append_left hi] at h1
   rw [List.getElem?_append_left (by rw [g.il];exact hi)] at h2
   exact(g.items i l v h1 h2).push (by omega) (by omega) hg hat
  ·rw [List.getElem?_append_right (by omega)] at h1
   rw [List.getElem?_append_right (by rw [g.il];omega),g.il] at h2
   cases hz:i - st.L.length with
   |zero=>
    rw [hz] at h1 h2
    simp at h1 h2
    subst h1 h2
    exact hu.push (by omega) (by omega) hg hat
   |succ m=>rw [hz] at h1;simp at h1
theorem InvV.pushC (g:InvV X w b s st V iv cv)(x:List Cl)(u:Value)(hu:Side X w b V 156 4 u x.length ((x.map Cl.cells).flatten)){v':Value}
  (hown:w2.ownsRow (b+1) 133 1 v' (st.C.length+1) (cv++[u]))
  (hg:w.grownBy w2 (V 6).ownBlock) (hat: ∀k,v'.ownBlock=some k→(V 6).ownBlock=some k∨w.heap.size≤k) (hX: ∀k,X k→k<w.heap.size):
  Inv X (w2.setCell ⟨b,6,none⟩ v') b s {st with C:=st.C++[x]}:=by
 refine⟨upd V 6 v',iv,cv++[u],g.rd2 (by omega) (by omega) hg v',?_,g.il,by simp [g.cl],fun i l v h1 h2=>(g.items i l v h1 h2).push (by omega) (by omega) hg hat,fun i l v h1 h2=> ?_⟩
 ·refine(g.rows.push (o:=6) (by omega) (by omega) hown hg hat hX).congr (fun o h3 h6=> ?_) (fun o h3 h6=> ?_)
  ·match o,h3,h6 with
   |3,_,_=>rfl
   |4,_,_=>rfl
   |5,_,_=>rfl
   |6,_,_=>simp [upd,nOf]
  ·match o,h3,h6 with
   |3,_,_=>rfl
   |4,_,_=>rfl
   |5,_,_=>rfl
   |6,_,_=>simp [upd,zdv]
 ·by_cases hi:i<st.C.length
  ·rw [List.getElem?_append_left hi] at h1
   rw [List.getElem?_append_left (by rw [g.cl];exact hi)] at h2
   exact(g.clauses i l v h1 h2).push (by omega) (by omega) hg hat
  ·rw [List.getElem?_append_right (by omega)] at h1
   rw [List.getElem?_append_right (by rw [g.cl];omega),g.cl] at h2
   cases hz:i - st.C.length with
   |zero=>
    rw [hz] at h1 h2
    simp at h1 h2
    subst h1 h2
    exact hu.push (by omega) (by omega) hg hat
   |succ m=>rw [hz] at h1;simp at h1
theorem zW {u v w:World}{row:Option Nat}(h:u.grownBy v row)(k:v.grownBy w row):u.grownBy w row:=
 ⟨k.os.trans h.os,k.tape.trans h.tape,k.output.trans h.output,zgP h.size k.size,fun i hi hr=>(k.block i (zgN hi h.size) hr).trans (h.block i hi hr)⟩
theorem InvV.grown (g:InvV X w b s st V iv cv){o:Nat}(h3:3≤o)(h6:o≤6)(hg:w.grownBy w2 (V o).ownBlock)(hX: ∀k,X k→k<w.heap.size):
  w2.cell? ⟨b,o,none⟩=some (V o)∧w2.frozen? ⟨b,o,none⟩=false∧ ∀v',Fr X w (w2.setCell ⟨b,o,none⟩ v'):=by
 have hbo:some b≠(V o).ownBlock:=fun e=>by have:=((g.rows.own o h3 h6).lt b e.symm).1;omega
 have hb2:w2.heap[b]?=w.heap[b]?:=hg.block b g.rows.lt hbo
 exact⟨(World.cell?_of_block (w:=w) hb2).trans (g.rows.cell o h3 h6),(World.frozen?_of_block (w:=w) hb2).trans (g.rows.froz o h3 h6),
  fun v'=>((Fr.refl X w).grown hg hX fun k e=>g.rows.notX o k h3 h6 e).setCell g.rows.nob v'⟩
theorem Side.nil {X:Nat→Prop}{w:World}{b:Nat}{V:Nat→Value}{e size:Nat}:Side X w b V e size (.slice none 0 0) 0 []:=
 ⟨World.ownsRow_nil _ _ _ _,fun k e=>by simp [Value.ownBlock] at e,fun o k _ _ e=>by simp [Value.ownBlock] at e⟩
end
theorem info84:(Tryz.prog.info? 84).map (fun i=>(i.zero,i.size,i.bytes))=some (some (.agg #[.string ⟨#[]⟩,.int .i64 0,.int .i64 0]),3,32):=by kernel_rfl
theorem info160:(Tryz.prog.info? 160).map (fun i=>(i.zero,i.size,i.bytes))=some (some (.agg #[.int .i64 0,.string ⟨#[]⟩,.int .i64 0,.int .i64 0,.int .i64 0,.int .i64 0,.slice none 0 0]),7,80):=by kernel_rfl
theorem info120:(Tryz.prog.info? 120).map (fun i=>(i.zero,i.size,i.bytes))=some (some (.agg #[.int .i64 0,.int .i64 0,.string ⟨#[]⟩,.int .i64 0,.int .i64 0]),5,48):=by kernel_rfl
theorem info133:(Tryz.prog.info? 133).map (fun i=>(i.zero,i.size,i.bytes))=some (some (.agg #[.slice none 0 0]),1,24):=by kernel_rfl
theorem info156:(Tryz.prog.info? 156).map (fun i=>(i.zero,i.size,i.bytes))=some (some (.agg #[.int .i64 0,.int .i64 0,.string ⟨#[]⟩,.int .i64 0]),4,40):=by kernel_rfl
theorem info3:(Tryz.prog.info? 3).map (fun i=>(i.zero,i.size,i.bytes))=some (some (.int .i64 0),1,8):=by kernel_rfl
theorem z1N (X:Nat→Prop)(b:Nat)(s:zgS)(st:St)(t:zgS)(l r:Int)(w:World)(h:Inv X w b s st)(hX: ∀k,X k→k<w.heap.size)(hlen:st.L.length<100000):
  Calls Tryz.prog 177 #[.pointer (some ⟨b,0,none⟩),.string t,.int .i64 l,.int .i64 r] w fun e w'=>e= .returned (.int .i64 st.L.length)∧Inv X w' b s {st with L:=st.L++[⟨1,t,l,r,0,0,[]⟩]}∧Fr X w w':=by
 obtain⟨V,iv,cv,g⟩:=h
 obtain⟨i0,hi,hz0,hz1,hz2⟩:=info_parts info160
 have hlt:=g.rows.lt
 have hc:=g.rows.cell 4 (by omega) (by omega)
 have hf:=g.rows.froz 4 (by omega) (by omega)
 have how:=g.rows.own 4 (by omega) (by omega)
 have HG:=z8 g
 clear g
 go_enter Tryz.func177,Tryz.ntmps177
 go_wp2_with (at_builtin;go_must (refine wpList_append_lies _ rfl (.tmp 14) (.tmp 19) 50 rfl (b+1) 160 i0 _ 7 80 Tryz.underlying50 hi hz0 hz1 hz2 rfl (by omega) (V 4) st.L.length _ rfl (how.alloc _) ⟨w.heap.size,0,none⟩ 1 1 (Lc.cells ⟨1,t,l,r,0,0,[]⟩ (.slice none 0 0)) rfl rfl ?news ?one (by omega) ?mm ?bys ?base (w.heap.size+1) (by simp) ?rest))
 case news=>exact World.news_of_block (heap_alloc_new w _)
 case one=>intro u hu;simp [Lc.cells] at hu;rcases hu with rfl|rfl|rfl|rfl|rfl|rfl|rfl<;>rfl
 case mm=>unfold maxLen;omega
 case bys=>omega
 case base=>simp;omega
 case rest=>
  intro gb cap w2 hown hgrow hat hlt2
  have hg:=zW (World.grownBy_alloc w _ _) hgrow
  obtain⟨k1,k2,hfr⟩:=HG.out.grown (o:=4) (by omega) (by omega) hg hX
  have hI:=HG.out.pushL ⟨1,t,l,r,0,0,[]⟩ (.slice none 0 0) Side.nil hown hg (fun k e=>by
   have:gb=k:=by simpa [Value.ownBlock] using e
   subst this
   exact hat.imp id fun e=>by omega) hX
  have hfr:=hfr (.slice (some ⟨gb,0,none⟩) (st.L.length+1) cap)
  clear hgrow hat hown hg how
  go_wp2_with fail
  go_ret
  exact⟨by simp,hI,hfr⟩
theorem z7r (w:World)(o:Obj)(cs:Array Value)(t:TypeId): ∀j u,cs.toList[j]?=some u→((w.alloc o).alloc (.cells cs t)).drew.cell? ((⟨w.heap.size+1,0,none⟩:Addr).add j)=some u:=by
 have h:=heap_alloc_new (w.alloc o) (.cells cs t)
 simp only [World.alloc,Array.size_push] at h
 exact World.news_of_block (w:=((w.alloc o).alloc (.cells cs t)).drew) h
theorem z4a {w w2:World}{row:Option Nat}(h:w.drew.grownBy w2 row):w.grownBy w2 row:=⟨h.os,h.tape,h.output,h.size,h.block⟩
theorem z13 (X:Nat→Prop)(b:Nat)(s:zgS)(st:St)(x:Ex)(w:World)(h:Inv X w b s st)(hX: ∀k,X k→k<w.heap.size)(hlen:st.E.length<100000):
  Calls Tryz.prog 148 #[.pointer (some ⟨b,0,none⟩),.agg #[.int .i64 x.form,.int .i64 x.place,.string x.text,.int .i64 x.left,.int .i64 x.right]] w fun e w'=>e= .returned (.int .i64 st.E.length)∧Inv X w' b s {st with E:=st.E++[x]}∧Fr X w w':=by
 obtain⟨V,iv,cv,g⟩:=h
 obtain⟨i0,hi,hz0,hz1,hz2⟩:=info_parts info120
 have hlt:=g.rows.lt
 have hc:=g.rows.cell 5 (by omega) (by omega)
 have hf:=g.rows.froz 5 (by omega) (by omega)
 have how:=g.rows.own 5 (by omega) (by omega)
 have hro:=fun k e=>(how.lt k e)
 have HG:=z8 g
 have HRO:=z8 hro
 clear g hro
 have hnew:w.heap.size≠b:=by omega
 have hfa: ∀o:Obj,(w.alloc o).frozen? ⟨b,5,none⟩=false:=fun o=>(World.frozen?_of_block (w:=w) (zgJ _ _ _ hlt)).trans hf
 have hfb: ∀o p:Obj,((w.alloc o).alloc p).frozen? ⟨b,5,none⟩=false:=fun o p=>(World.frozen?_of_block (w:=w.alloc o) (zgJ _ _ _ (by simp;omega))).trans (hfa o)
 go_enter Tryz.func148,Tryz.ntmps148
 go_wp2_with fail
 go_region_law ((refine step_append_lies _ (by rfl) (.tmp 10) (.tmp 12) 51 (by rfl) (b+1) 120 i0 _ 5 48 Tryz.underlying51 hi hz0 hz1 hz2 rfl (by omega) (V 5) st.E.length _ (by rfl) (by exact(how.alloc _).alloc _) ⟨w.heap.size+1,0,none⟩ 1 1 (Ex.cells x) (by rfl) rfl (by exact z7r w _ _ _) (by intro u hu;simp [Ex.cells] at hu;rcases hu with rfl|rfl|rfl|rfl|rfl<;>rfl) (by omega) (by unfold maxLen;omega) (by omega) (by simp;omega) (w.heap.size+2) (by simp) ?_;intro gb cap w2 hown hgrow hat hlt2;have hg:=zW (zW (World.grownBy_alloc w _ _) (World.grownBy_alloc _ _ _)) (z4a hgrow);obtain⟨k1,k2,hfr⟩:=HG.out.grown (o:=5) (by omega) (by omega) hg hX))
 all_goals
  have hI:=HG.out.pushE x hown hg (fun k e=>by
   have:gb=k:=by simpa [Value.ownBlock] using e
   subst this
   exact hat.imp id fun e=>by omega) hX
  have hfr:=hfr (.slice (some ⟨gb,0,none⟩) (st.E.length+1) cap)
  clear hgrow hat hown hg how hfa hfb
  go_wp2_with fail
  go_ret
  exact⟨by simp,hI,hfr⟩
theorem z0c (X:Nat→Prop)(b:Nat)(s:zgS)(st:St)(f p:Int)(t:zgS)(w:World)(h:Inv X w b s st)(hX: ∀k,X k→k<w.heap.size)(hlen:st.E.length<100000):
  Calls Tryz.prog 195 #[.pointer (some ⟨b,0,none⟩),.int .i64 f,.int .i64 p,.string t] w fun e w'=>e= .returned (.int .i64 st.E.length)∧Inv X w' b s {st with E:=st.E++[⟨f,p,t,-1,-1⟩]}∧Fr X w w':=by
 go_enter Tryz.func195,Tryz.ntmps195
 go_wp2_with (go_at_call 148;refine(z13 X b s st ⟨f,p,t,-1,-1⟩ _ h hX hlen).mono ?_;rintro e w1 ⟨rfl,hI,hF⟩)
 go_ret
 exact⟨rfl,hI,hF⟩
theorem z2v (X:Nat→Prop)(b:Nat)(s:zgS)(st:St)(p:Int)(t:zgS)(i:Int)(w:World)(h:Inv X w b s st)(hX: ∀k,X k→k<w.heap.size)(hlen:st.E.length<100000):
  Calls Tryz.prog 169 #[.pointer (some ⟨b,0,none⟩),.int .i64 p,.string t,.int .i64 i] w fun e w'=>e= .returned (.int .i64 st.E.length)∧Inv X w' b s {st with E:=st.E++[⟨5,p,t,i,-1⟩]}∧Fr X w w':=by
 go_enter Tryz.func169,Tryz.ntmps169
 go_wp2_with (go_at_call 148;refine(z13 X b s st ⟨5,p,t,i,-1⟩ _ h hX hlen).mono ?_;rintro e w1 ⟨rfl,hI,hF⟩)
 go_ret
 exact⟨rfl,hI,hF⟩
theorem z0w (X:Nat→Prop)(b:Nat)(s:zgS)(st:St)(p:Int)(t:zgS)(i j:Int)(w:World)(h:Inv X w b s st)(hX: ∀k,X k→k<w.heap.size)(hlen:st.E.length<100000):
  Calls Tryz.prog 115 #[.pointer (some ⟨b,0,none⟩),.int .i64 p,.string t,.int .i64 i,.int .i64 j] w fun e w'=>e= .returned (.int .i64 st.E.length)∧Inv X w' b s {st with E:=st.E++[⟨6,p,t,i,j⟩]}∧Fr X w w':=by
 go_enter Tryz.func115,Tryz.ntmps115
 go_wp2_with (go_at_call 148;refine(z13 X b s st ⟨6,p,t,i,j⟩ _ h hX hlen).mono ?_;rintro e w1 ⟨rfl,hI,hF⟩)
 go_ret
 exact⟨rfl,hI,hF⟩
theorem z6y (X:Nat→Prop)(b:Nat)(s:zgS)(st:St)(p:Int)(i:Int)(w:World)(h:Inv X w b s st)(hX: ∀k,X k→k<w.heap.size)(hlen:st.E.length<100000):
  Calls Tryz.prog 185 #[.pointer (some ⟨b,0,none⟩),.int .i64 p,.int .i64 i] w fun e w'=>e= .returned (.int .i64 st.E.length)∧Inv X w' b s {st with E:=st.E++[⟨7,p,⟨#[]⟩,i,-1⟩]}∧Fr X w w':=by
 go_enter Tryz.func185,Tryz.ntmps185
 go_wp2_with (go_at_call 148;refine(z13 X b s st ⟨7,p,⟨#[]⟩,i,-1⟩ _ h hX hlen).mono ?_;rintro e w1 ⟨rfl,hI,hF⟩)
 go_ret
 exact⟨rfl,hI,hF⟩
def St.put (st:St)(p:Nat×Bool):St:={st with at_:=p.1,bad:=p.2}
def St.put3 (st:St)(p:Nat×Bool×zgS):St:={st with at_:=p.1,bad:=p.2.1}
def pkS (s:zgS)(st:St):Int:=pk s st.at_ st.bad
def sgn (s:zgS)(l:List UInt8)(st:St):St:=st.put (jo s st.bad l st.at_)
def wrd (s:zgS)(l:List UInt8)(st:St):St:=st.put (zt s st.bad l st.at_)
def jQ (st:St)(x:Ex):Option (Int×St):=if st.E.length<100000 then some (st.E.length,{st with E:=st.E++[x]}) else none
def z2H (st:St)(x:Lc):Option (Int×St):=if st.L.length<100000 then some (st.L.length,{st with L:=st.L++[x]}) else none
def z8I (st:St)(x:List Cl):Option (Int×St):=if st.C.length<100000 then some (st.C.length,{st with C:=st.C++[x]}) else none
def zbp (st:St)(x:As):Option St:=if st.A.length<100000 then some {st with A:=st.A++[x]} else none
def M (s:zgS):Nat→Nat→Int→St→Option (Int×St)
 |0,_,_,_=>none
 |n+1,0,_,st=>(M s n 1 0 st).bind fun r=>M s n 10 r.1 r.2
 |n+1,10,l,st=>if pkS s st==124 then(M s n 1 0 (sgn s [124,124] st)).bind fun r=>(jQ r.2 ⟨6,st.at_,⟨#[124,124]⟩,l,r.1⟩).bind fun q=>M s n 10 q.1 q.2 else some (l,st)
 |n+1,1,_,st=>(M s n 2 0 st).bind fun r=>M s n 11 r.1 r.2
 |n+1,11,l,st=>if pkS s st==38 then(M s n 2 0 (sgn s [38,38] st)).bind fun r=>(jQ r.2 ⟨6,st.at_,⟨#[38,38]⟩,l,r.1⟩).bind fun q=>M s n 11 q.1 q.2 else some (l,st)
 |n+1,2,_,st=>if pkS s st !=33 then M s n 3 0 st else(M s n 2 0 (sgn s [33] st)).bind fun r=>jQ r.2 ⟨5,st.at_,⟨#[33]⟩,r.1,-1⟩
 |n+1,3,_,st=>(M s n 4 0 st).bind fun r=>
   let c:=ze s r.2.at_ r.2.bad
   if c.2.2.size==0 then some (r.1,r.2.put3 c) else(M s n 4 0 (r.2.put3 c)).bind fun q=>jQ q.2 ⟨6,r.2.at_,c.2.2,r.1,q.1⟩
 |n+1,4,_,st=>(M s n 5 0 st).bind fun r=>M s n 14 r.1 r.2
 |n+1,14,l,st=>
   let c:=zr s st.at_ st.bad
   if c.size==0 then some (l,st) else(M s n 5 0 (sgn s c.data.toList st)).bind fun r=>(jQ r.2 ⟨6,st.at_,c,l,r.1⟩).bind fun q=>M s n 14 q.1 q.2
 |n+1,5,_,st=>(M s n 6 0 st).bind fun r=>M s n 15 r.1 r.2
 |n+1,15,l,st=>
   let c:=zh s st.at_ st.bad
   if c.size==0 then some (l,st) else(M s n 6 0 (sgn s c.data.toList st)).bind fun r=>(jQ r.2 ⟨6,st.at_,c,l,r.1⟩).bind fun q=>M s n 15 q.1 q.2
 |n+1,6,_,st=>if pkS s st !=45 then M s n 7 0 st else(M s n 6 0 (sgn s [45] st)).bind fun r=>jQ r.2 ⟨5,st.at_,⟨#[45]⟩,r.1,-1⟩
 |n+1,7,_,st=>
   if zg (pkS s st) then
    let c:=zO s st.at_ st.bad
    jQ (st.put3 c) ⟨0,st.at_,c.2.2,-1,-1⟩
   else if pkS s st==34 then
    let c:=zT s st.at_ st.bad
    jQ (st.put3 c) ⟨1,st.at_,c.2.2,-1,-1⟩
   else if pkS s st==64 then
    let u:=wrd s [64] st
    let c:=zw s u.at_ u.bad
    jQ (u.put3 c) ⟨4,st.at_,c.2.2,-1,-1⟩
   else if pkS s st==40 then(M s n 0 0 (sgn s [40] st)).bind fun r=>some (r.1,sgn s [41] r.2)
   else
    let c:=zw s st.at_ st.bad
    if c.2.2.data.toList==[116,114,117,101]||c.2.2.data.toList==[102,97,108,115,101] then jQ (st.put3 c) ⟨2,st.at_,c.2.2,-1,-1⟩ else jQ (st.put3 c) ⟨3,st.at_,c.2.2,-1,-1⟩
 |_+1,_,_,_=>none
def ML (s:zgS):Nat→Nat→Int→Int→Int→List Int→St→Option (Int×St)
 |0,_,_,_,_,_,_=>none
 |n+1,0,_,_,_,_,st=>(ML s n 1 0 0 0 [] st).bind fun r=>ML s n 10 r.1 0 0 [] r.2
 |n+1,10,l,_,_,_,st=>if pkS s st==124 then(ML s n 1 0 0 0 [] (sgn s [124,124] st)).bind fun r=>(z2H r.2 ⟨1,⟨#[124,124]⟩,l,r.1,0,0,[]⟩).bind fun q=>ML s n 10 q.1 0 0 [] q.2 else some (l,st)
 |n+1,1,_,_,_,_,st=>(ML s n 2 0 0 0 [] st).bind fun r=>ML s n 11 r.1 0 0 [] r.2
 |n+1,11,l,_,_,_,st=>if pkS s st==38 then(ML s n 2 0 0 0 [] (sgn s [38,38] st)).bind fun r=>(z2H r.2 ⟨1,⟨#[38,38]⟩,l,r.1,0,0,[]⟩).bind fun q=>ML s n 11 q.1 0 0 [] q.2 else some (l,st)
 |n+1,2,_,_,_,_,st=>
   if pkS s st==40 then(ML s n 0 0 0 0 [] (sgn s [40] st)).bind fun r=>some (r.1,sgn s [41] r.2)
   else if zg (pkS s st) then ML s n 3 0 0 0 [] st
   else
    let c:=zw s st.at_ st.bad
    z2H (st.put3 c) ⟨0,c.2.2,-1,-1,0,0,[]⟩
 |n+1,3,_,_,_,_,st=>(ML s n 0 0 0 0 [] (sgn s [45,111,102,40] {st with at_:=st.at_+1})).bind fun r=>ML s n 13 0 st.at_ (pkS s st - 48) [r.1] r.2
 |n+1,13,_,p,k,its,st=>
   if its.length<100000 then
    if pkS s st==44 then(ML s n 0 0 0 0 [] (sgn s [44] st)).bind fun r=>ML s n 13 0 p k (its++[r.1]) r.2
    else z2H (sgn s [41] st) ⟨2,⟨#[]⟩,-1,-1,p,k,its⟩
   else none
 |_+1,_,_,_,_,_,_=>none
def MC (s:zgS):Nat→Nat→List Cl→St→Option (Int×Cl×St)
 |0,_,_,_=>none
 |n+1,0,_,st=>(MC s n 1 [] st).bind fun r=>MC s n 2 [r.2.1] r.2.2
 |n+1,2,cls,st=>
   if cls.length<100000 then
    if pkS s st==59 then(MC s n 1 [] (sgn s [59] st)).bind fun r=>MC s n 2 (cls++[r.2.1]) r.2.2
    else(z8I st cls).bind fun r=>some (r.1,⟨0,0,⟨#[]⟩,0⟩,r.2)
   else none
 |n+1,1,_,st=>(M s n 0 0 st).bind fun r=>(jQ r.2 ⟨7,st.at_,⟨#[]⟩,r.1,-1⟩).bind fun q=>
   if !zz s q.2.at_ q.2.bad then some (0,⟨q.1,0,⟨#[]⟩,-1⟩,q.2)
   else
    let u:=sgn s [45,62] q.2
    if pkS s u==123 then(MC s n 0 [] (sgn s [123] u)).bind fun v=>some (0,⟨q.1,2,⟨#[]⟩,v.1⟩,sgn s [125] v.2.2)
    else
     let c:=zw s u.at_ u.bad
     some (0,⟨q.1,1,c.2.2,-1⟩,u.put3 c)
 |_+1,_,_,_=>none
def zp (s:zgS)(l:List UInt8)(st:St):St:=sgn s [32] (wrd s l st)
def MA (s:zgS)(n:Nat)(st:St):Option St:=
 let a:=zp s [98,121] st
 let c:=zw s a.at_ a.bad
 let d:=zp s [116,111] (wrd s [10] (a.put3 c))
 (ML s n 0 0 0 0 [] d).bind fun r=>
 (MC s n 0 [] (zp s [105,102] (wrd s [10] r.2))).bind fun q=>
 zbp (wrd s [10] q.2.2) ⟨c.2.2,r.1,q.1⟩
def MR (s:zgS):Nat→St→Option St
 |0,_=>none
 |n+1,st=>if !st.bad&&decide (st.at_<s.size) then(MA s n st).bind fun u=>MR s n u else some st
theorem Fr.lt {X:Nat→Prop}{w w':World}(h:Fr X w w')(hX: ∀k,X k→k<w.heap.size): ∀k,X k→k<w'.heap.size:=fun k x=>zgN (hX k x) h.size
theorem zj {st:St}{x:Ex}{r:Int×St}(h:jQ st x=some r):st.E.length<100000∧r=((st.E.length:Int),{st with E:=st.E++[x]}):=by
 unfold jQ at h
 split at h
 ·exact⟨‹_›,(Option.some.inj h).symm⟩
 ·cases h
theorem zJ {st:St}{x:Lc}{r:Int×St}(h:z2H st x=some r):st.L.length<100000∧r=((st.L.length:Int),{st with L:=st.L++[x]}):=by
 unfold z2H at h
 split at h
 ·exact⟨‹_›,(Option.some.inj h).symm⟩
 ·cases h
theorem jy {st:St}{x:List Cl}{r:Int×St}(h:z8I st x=some r):st.C.length<100000∧r=((st.C.length:Int),{st with C:=st.C++[x]}):=by
 unfold z8I at h
 split at h
 ·exact⟨‹_›,(Option.some.inj h).symm⟩
 ·cases h
theorem jl {st:St}{x:As}{r:St}(h:zbp st x=some r):st.A.length<100000∧r={st with A:=st.A++[x]}:=by
 unfold zbp at h
 split at h
 ·exact⟨‹_›,(Option.some.inj h).symm⟩
 ·cases h
theorem z2s (s:zgS)(a:Nat)(d:Bool):(zr s a d).size≤600:=by
 unfold zr
 split
 ·decide
 ·split
  ·decide
  ·split
   ·decide
   ·split<;>decide
theorem z0T (s:zgS)(a:Nat)(d:Bool):(zh s a d).size≤600:=by
 unfold zh
 split
 ·decide
 ·split
  ·decide
  ·split<;>decide
theorem z2M (c:zgS):c.toList.isEmpty=(c.size==0):=by
 rw [zgG]
 have h:c.size=c.data.toList.length:=by simp
 rw [h]
 cases c.data.toList<;>rfl
theorem z1E {c:zgS}(h:(c.size==0)=false):c.toList.isEmpty=false:=(z2M c).trans h
theorem z1e {c:zgS}(h:(c.size==0)=true):c.toList.isEmpty=true:=(z2M c).trans h
theorem M_0 (s:zgS)(n:Nat)(l0:Int)(st:St):M s (n+1) 0 l0 st=
  ((M s n 1 0 st).bind fun r=>M s n 10 r.1 r.2):=rfl
theorem z71 (s:zgS)(n:Nat)(l:Int)(st:St):M s (n+1) 10 l st=
  (if pkS s st==124 then(M s n 1 0 (sgn s [124,124] st)).bind fun r=>(jQ r.2 ⟨6,st.at_,⟨#[124,124]⟩,l,r.1⟩).bind fun q=>M s n 10 q.1 q.2 else some (l,st)):=rfl
theorem M_1 (s:zgS)(n:Nat)(l0:Int)(st:St):M s (n+1) 1 l0 st=
  ((M s n 2 0 st).bind fun r=>M s n 11 r.1 r.2):=rfl
theorem z7h (s:zgS)(n:Nat)(l:Int)(st:St):M s (n+1) 11 l st=
  (if pkS s st==38 then(M s n 2 0 (sgn s [38,38] st)).bind fun r=>(jQ r.2 ⟨6,st.at_,⟨#[38,38]⟩,l,r.1⟩).bind fun q=>M s n 11 q.1 q.2 else some (l,st)):=rfl
theorem M_2 (s:zgS)(n:Nat)(l0:Int)(st:St):M s (n+1) 2 l0 st=
  (if pkS s st !=33 then M s n 3 0 st else(M s n 2 0 (sgn s [33] st)).bind fun r=>jQ r.2 ⟨5,st.at_,⟨#[33]⟩,r.1,-1⟩):=rfl
theorem M_3 (s:zgS)(n:Nat)(l0:Int)(st:St):M s (n+1) 3 l0 st=
  ((M s n 4 0 st).bind fun r=>
   let c:=ze s r.2.at_ r.2.bad
   if c.2.2.size==0 then some (r.1,r.2.put3 c) else(M s n 4 0 (r.2.put3 c)).bind fun q=>jQ q.2 ⟨6,r.2.at_,c.2.2,r.1,q.1⟩):=rfl
theorem M_4 (s:zgS)(n:Nat)(l0:Int)(st:St):M s (n+1) 4 l0 st=
  ((M s n 5 0 st).bind fun r=>M s n 14 r.1 r.2):=rfl
theorem z6x (s:zgS)(n:Nat)(l:Int)(st:St):M s (n+1) 14 l st=
  (let c:=zr s st.at_ st.bad
   if c.size==0 then some (l,st) else(M s n 5 0 (sgn s c.data.toList st)).bind fun r=>(jQ r.2 ⟨6,st.at_,c,l,r.1⟩).bind fun q=>M s n 14 q.1 q.2):=rfl
theorem M_5 (s:zgS)(n:Nat)(l0:Int)(st:St):M s (n+1) 5 l0 st=
  ((M s n 6 0 st).bind fun r=>M s n 15 r.1 r.2):=rfl
theorem z7L (s:zgS)(n:Nat)(l:Int)(st:St):M s (n+1) 15 l st=
  (let c:=zh s st.at_ st.bad
   if c.size==0 then some (l,st) else(M s n 6 0 (sgn s c.data.toList st)).bind fun r=>(jQ r.2 ⟨6,st.at_,c,l,r.1⟩).bind fun q=>M s n 15 q.1 q.2):=rfl
theorem M_6 (s:zgS)(n:Nat)(l0:Int)(st:St):M s (n+1) 6 l0 st=
  (if pkS s st !=45 then M s n 7 0 st else(M s n 6 0 (sgn s [45] st)).bind fun r=>jQ r.2 ⟨5,st.at_,⟨#[45]⟩,r.1,-1⟩):=rfl
theorem M_7 (s:zgS)(n:Nat)(l0:Int)(st:St):M s (n+1) 7 l0 st=
  (if zg (pkS s st) then
    let c:=zO s st.at_ st.bad
    jQ (st.put3 c) ⟨0,st.at_,c.2.2,-1,-1⟩
   else if pkS s st==34 then
    let c:=zT s st.at_ st.bad
    jQ (st.put3 c) ⟨1,st.at_,c.2.2,-1,-1⟩
   else if pkS s st==64 then
    let u:=wrd s [64] st
    let c:=zw s u.at_ u.bad
    jQ (u.put3 c) ⟨4,st.at_,c.2.2,-1,-1⟩
   else if pkS s st==40 then(M s n 0 0 (sgn s [40] st)).bind fun r=>some (r.1,sgn s [41] r.2)
   else
    let c:=zw s st.at_ st.bad
    if c.2.2.data.toList==[116,114,117,101]||c.2.2.data.toList==[102,97,108,115,101] then jQ (st.put3 c) ⟨2,st.at_,c.2.2,-1,-1⟩ else jQ (st.put3 c) ⟨3,st.at_,c.2.2,-1,-1⟩):=rfl
theorem z7G (s:zgS)(n:Nat)(l0:Int)(p0:Int)(k0:Int)(its0:List Int)(st:St):ML s (n+1) 0 l0 p0 k0 its0 st=
  ((ML s n 1 0 0 0 [] st).bind fun r=>ML s n 10 r.1 0 0 [] r.2):=rfl
theorem z2n (s:zgS)(n:Nat)(l:Int)(p0:Int)(k0:Int)(its0:List Int)(st:St):ML s (n+1) 10 l p0 k0 its0 st=
  (if pkS s st==124 then(ML s n 1 0 0 0 [] (sgn s [124,124] st)).bind fun r=>(z2H r.2 ⟨1,⟨#[124,124]⟩,l,r.1,0,0,[]⟩).bind fun q=>ML s n 10 q.1 0 0 [] q.2 else some (l,st)):=rfl
theorem z7I (s:zgS)(n:Nat)(l0:Int)(p0:Int)(k0:Int)(its0:List Int)(st:St):ML s (n+1) 1 l0 p0 k0 its0 st=
  ((ML s n 2 0 0 0 [] st).bind fun r=>ML s n 11 r.1 0 0 [] r.2):=rfl
theorem z2w (s:zgS)(n:Nat)(l:Int)(p0:Int)(k0:Int)(its0:List Int)(st:St):ML s (n+1) 11 l p0 k0 its0 st=
  (if pkS s st==38 then(ML s n 2 0 0 0 [] (sgn s [38,38] st)).bind fun r=>(z2H r.2 ⟨1,⟨#[38,38]⟩,l,r.1,0,0,[]⟩).bind fun q=>ML s n 11 q.1 0 0 [] q.2 else some (l,st)):=rfl
theorem z6l (s:zgS)(n:Nat)(l0:Int)(p0:Int)(k0:Int)(its0:List Int)(st:St):ML s (n+1) 2 l0 p0 k0 its0 st=
  (if pkS s st==40 then(ML s n 0 0 0 0 [] (sgn s [40] st)).bind fun r=>some (r.1,sgn s [41] r.2)
   else if zg (pkS s st) then ML s n 3 0 0 0 [] st
   else
    let c:=zw s st.at_ st.bad
    z2H (st.put3 c) ⟨0,c.2.2,-1,-1,0,0,[]⟩):=rfl
theorem z9z (s:zgS)(n:Nat)(l0:Int)(p0:Int)(k0:Int)(its0:List Int)(st:St):ML s (n+1) 3 l0 p0 k0 its0 st=
  ((ML s n 0 0 0 0 [] (sgn s [45,111,102,40] {st with at_:=st.at_+1})).bind fun r=>ML s n 13 0 st.at_ (pkS s st - 48) [r.1] r.2):=rfl
theorem z2U (s:zgS)(n:Nat)(l0:Int)(p:Int)(k:Int)(its:List Int)(st:St):ML s (n+1) 13 l0 p k its st=
  (if its.length<100000 then
    if pkS s st==44 then(ML s n 0 0 0 0 [] (sgn s [44] st)).bind fun r=>ML s n 13 0 p k (its++[r.1]) r.2
    else z2H (sgn s [41] st) ⟨2,⟨#[]⟩,-1,-1,p,k,its⟩
   else none):=rfl
theorem z8h (s:zgS)(n:Nat)(cls0:List Cl)(st:St):MC s (n+1) 0 cls0 st=
  ((MC s n 1 [] st).bind fun r=>MC s n 2 [r.2.1] r.2.2):=rfl
theorem z7k (s:zgS)(n:Nat)(cls:List Cl)(st:St):MC s (n+1) 2 cls st=
  (if cls.length<100000 then
    if pkS s st==59 then(MC s n 1 [] (sgn s [59] st)).bind fun r=>MC s n 2 (cls++[r.2.1]) r.2.2
    else(z8I st cls).bind fun r=>some (r.1,⟨0,0,⟨#[]⟩,0⟩,r.2)
   else none):=rfl
theorem zai (s:zgS)(n:Nat)(cls0:List Cl)(st:St):MC s (n+1) 1 cls0 st=
  ((M s n 0 0 st).bind fun r=>(jQ r.2 ⟨7,st.at_,⟨#[]⟩,r.1,-1⟩).bind fun q=>
   if !zz s q.2.at_ q.2.bad then some (0,⟨q.1,0,⟨#[]⟩,-1⟩,q.2)
   else
    let u:=sgn s [45,62] q.2
    if pkS s u==123 then(MC s n 0 [] (sgn s [123] u)).bind fun v=>some (0,⟨q.1,2,⟨#[]⟩,v.1⟩,sgn s [125] v.2.2)
    else
     let c:=zw s u.at_ u.bad
     some (0,⟨q.1,1,c.2.2,-1⟩,u.put3 c)):=rfl
def OKE (s:zgS)(f tag n:Nat):Prop:= ∀(X:Nat→Prop) (b:Nat) (st:St) (w:World) (r:Int) (st':St),M s n tag 0 st=some (r,st')→Inv X w b s st→(∀k,X k→k<w.heap.size)→
 Calls Tryz.prog f #[.pointer (some ⟨b,0,none⟩)] w fun e w'=>e= .returned (.int .i64 r)∧Inv X w' b s st'∧Fr X w w'
def OKL (s:zgS)(f tag n:Nat):Prop:= ∀(X:Nat→Prop) (b:Nat) (st:St) (w:World) (r:Int) (st':St),ML s n tag 0 0 0 [] st=some (r,st')→Inv X w b s st→(∀k,X k→k<w.heap.size)→
 Calls Tryz.prog f #[.pointer (some ⟨b,0,none⟩)] w fun e w'=>e= .returned (.int .i64 r)∧Inv X w' b s st'∧Fr X w w'
theorem z9Q (s:zgS)(n:Nat)(ih: ∀m,m≤n→OKE s 113 1 m):OKE s 73 0 (n+1):=by
 intro X b st w r st' hM hI hX
 have hM':(M s n 1 0 st).bind (fun r=>M s n 10 r.1 r.2)=some (r,st'):=hM
 obtain⟨⟨l1,st1⟩,h1,h2⟩:=zgD.1 hM'
 have IH:=z8 ih
 have H1:=z8 h1
 have H2:=z8 h2
 clear hM hM' h1 h2 ih
 go_enter Tryz.func73,Tryz.ntmps73
 go_wp2_with fail
 refine(IH.out n (zgH _) X b st w l1 st1 H1.out hI hX).mono ?_
 rintro e w1 ⟨rfl,hI1,hF1⟩
 go_wp2_with fail
 go_loopg [3] n (fun k l wr=>k≤n∧ ∃(lv:Int) (sv:St),l= .int .i64 lv∧Hid (M s k 10 lv sv=some (r,st'))∧Inv X wr b s sv∧Fr X w wr)
 case atStart=>exact⟨zgH _,l1,st1,rfl,H2,hI1,hF1⟩
 case round=>
  obtain⟨hkn,lv,sv,rfl,hm,hi,hf⟩:=hrel
  cases gk with
  |zero=>exact absurd hm.out (by simp [M])
  |succ k=>
   have hm':(if pkS s sv==124 then(M s k 1 0 (sgn s [124,124] sv)).bind fun r=>(jQ r.2 ⟨6,sv.at_,⟨#[124,124]⟩,lv,r.1⟩).bind fun q=>M s k 10 q.1 q.2 else some (lv,sv))=some (r,st'):=hm.out
   clear hm
   have hrd:=hi.rd
   obtain⟨c0,c1,c2,f1,f2,_,_⟩:=id hrd
   cases hc:(pkS s sv==124)
   ·rw [hc] at hm'
    simp at hm'
    obtain⟨rfl,rfl⟩:=hm'
    have hc:(pk s sv.at_ sv.bad==124)=false:=hc
    go_wp2_with (go_at_call 78;refine(zn _ _ _ _ _ hrd).mono ?_;rintro e w2 ⟨rfl,n2,rfl⟩)
    go_ret
    exact⟨rfl,hi.drewN _,hf.drewN _⟩
   ·rw [hc] at hm'
    have hc:(pk s sv.at_ sv.bad==124)=true:=hc
    obtain⟨⟨r2,st2⟩,h2,h3⟩:=zgD.1 hm'
    obtain⟨⟨r3,st3⟩,h4,h5⟩:=zgD.1 h3
    obtain⟨hl,h6⟩:=zj h4
    cases h6
    have HH:=z8 (zgI h2 h5)
    clear hm' h2 h3 h4 h5
    go_wp2_with (first|(go_at_call 78;refine(zn _ _ _ _ _ hrd).mono ?_;rintro e w2 ⟨rfl,n2,rfl⟩)|(go_at_call 114;refine(zP b _ s _ _ _ (by exact hrd.drewN _) (by decide)).mono ?_;rintro e w3 ⟨rfl,hr3,hs3⟩))
    have hI3:=(hi.drewN n2).sc hr3 hs3
    have hF3:=(hf.drewN n2).trans (hs3.fr hI3.nob)
    refine(IH.out k (by omega) X b _ _ r2 st2 HH.out.1 hI3 (hF3.lt hX)).mono ?_
    rintro e w4 ⟨rfl,hI4,hF4⟩
    go_wp2_with fail
    refine(z0w X b s st2 _ _ _ _ _ hI4 (hF4.lt (hF3.lt hX)) hl).mono ?_
    rintro e w5 ⟨rfl,hI5,hF5⟩
    go_wp2_with fail
    go_roundg k
    case measure=>omega
    case rel=>exact⟨by omega,_,_,rfl,HH.out.2,hI5,(hF3.trans hF4).trans hF5⟩
theorem z68 (s:zgS)(n:Nat)(ih: ∀m,m≤n→OKE s 147 2 m):OKE s 113 1 (n+1):=by
 intro X b st w r st' hM hI hX
 have hM':(M s n 2 0 st).bind (fun r=>M s n 11 r.1 r.2)=some (r,st'):=hM
 obtain⟨⟨l1,st1⟩,h1,h2⟩:=zgD.1 hM'
 have IH:=z8 ih
 have H1:=z8 h1
 have H2:=z8 h2
 clear hM hM' h1 h2 ih
 go_enter Tryz.func113,Tryz.ntmps113
 go_wp2_with fail
 refine(IH.out n (zgH _) X b st w l1 st1 H1.out hI hX).mono ?_
 rintro e w1 ⟨rfl,hI1,hF1⟩
 go_wp2_with fail
 go_loopg [3] n (fun k l wr=>k≤n∧ ∃(lv:Int) (sv:St),l= .int .i64 lv∧Hid (M s k 11 lv sv=some (r,st'))∧Inv X wr b s sv∧Fr X w wr)
 case atStart=>exact⟨zgH _,l1,st1,rfl,H2,hI1,hF1⟩
 case round=>
  obtain⟨hkn,lv,sv,rfl,hm,hi,hf⟩:=hrel
  cases gk with
  |zero=>exact absurd hm.out (by simp [M])
  |succ k=>
   have hm':(if pkS s sv==38 then(M s k 2 0 (sgn s [38,38] sv)).bind fun r=>(jQ r.2 ⟨6,sv.at_,⟨#[38,38]⟩,lv,r.1⟩).bind fun q=>M s k 11 q.1 q.2 else some (lv,sv))=some (r,st'):=hm.out
   clear hm
   have hrd:=hi.rd
   obtain⟨c0,c1,c2,f1,f2,_,_⟩:=id hrd
   cases hc:(pkS s sv==38)
   ·rw [hc] at hm'
    simp at hm'
    obtain⟨rfl,rfl⟩:=hm'
    have hc:(pk s sv.at_ sv.bad==38)=false:=hc
    go_wp2_with (go_at_call 78;refine(zn _ _ _ _ _ hrd).mono ?_;rintro e w2 ⟨rfl,n2,rfl⟩)
    go_ret
    exact⟨rfl,hi.drewN _,hf.drewN _⟩
   ·rw [hc] at hm'
    have hc:(pk s sv.at_ sv.bad==38)=true:=hc
    obtain⟨⟨r2,st2⟩,h2,h3⟩:=zgD.1 hm'
    obtain⟨⟨r3,st3⟩,h4,h5⟩:=zgD.1 h3
    obtain⟨hl,h6⟩:=zj h4
    cases h6
    have HH:=z8 (zgI h2 h5)
    clear hm' h2 h3 h4 h5
    go_wp2_with (first|(go_at_call 78;refine(zn _ _ _ _ _ hrd).mono ?_;rintro e w2 ⟨rfl,n2,rfl⟩)|(go_at_call 114;refine(zP b _ s _ _ _ (by exact hrd.drewN _) (by decide)).mono ?_;rintro e w3 ⟨rfl,hr3,hs3⟩))
    have hI3:=(hi.drewN n2).sc hr3 hs3
    have hF3:=(hf.drewN n2).trans (hs3.fr hI3.nob)
    refine(IH.out k (by omega) X b _ _ r2 st2 HH.out.1 hI3 (hF3.lt hX)).mono ?_
    rintro e w4 ⟨rfl,hI4,hF4⟩
    go_wp2_with fail
    refine(z0w X b s st2 _ _ _ _ _ hI4 (hF4.lt (hF3.lt hX)) hl).mono ?_
    rintro e w5 ⟨rfl,hI5,hF5⟩
    go_wp2_with fail
    go_roundg k
    case measure=>omega
    case rel=>exact⟨by omega,_,_,rfl,HH.out.2,hI5,(hF3.trans hF4).trans hF5⟩
theorem zaE (s:zgS)(n:Nat)(ih: ∀m,m≤n→OKE s 187 5 m):OKE s 180 4 (n+1):=by
 intro X b st w r st' hM hI hX
 have hM':(M s n 5 0 st).bind (fun r=>M s n 14 r.1 r.2)=some (r,st'):=hM
 obtain⟨⟨l1,st1⟩,h1,h2⟩:=zgD.1 hM'
 have IH:=z8 ih
 have H1:=z8 h1
 have H2:=z8 h2
 clear hM hM' h1 h2 ih
 go_enter Tryz.func180,Tryz.ntmps180
 go_wp2_with fail
 refine(IH.out n (zgH _) X b st w l1 st1 H1.out hI hX).mono ?_
 rintro e w1 ⟨rfl,hI1,hF1⟩
 go_wp2_with fail
 go_loopg [3] n (fun k l wr=>k≤n∧ ∃(lv:Int) (sv:St),l= .int .i64 lv∧Hid (M s k 14 lv sv=some (r,st'))∧Inv X wr b s sv∧Fr X w wr)
 case atStart=>exact⟨zgH _,l1,st1,rfl,H2,hI1,hF1⟩
 case round=>
  obtain⟨hkn,lv,sv,rfl,hm,hi,hf⟩:=hrel
  cases gk with
  |zero=>exact absurd hm.out (by simp [M])
  |succ k=>
   have hm':(if(zr s sv.at_ sv.bad).size==0 then some (lv,sv) else(M s k 5 0 (sgn s (zr s sv.at_ sv.bad).data.toList sv)).bind fun r=>(jQ r.2 ⟨6,sv.at_,zr s sv.at_ sv.bad,lv,r.1⟩).bind fun q=>M s k 14 q.1 q.2)=some (r,st'):=hm.out
   clear hm
   have hrd:=hi.rd
   have hsz:(zr s sv.at_ sv.bad).size≤600:=z2s s sv.at_ sv.bad
   have HS:=z8 (z6V b sv.at_ s sv.bad wr hrd)
   obtain⟨c0,c1,c2,f1,f2,_,_⟩:=id hrd
   generalize zr s sv.at_ sv.bad=c at*
   cases hc:(c.size==0)
   ·rw [hc] at hm'
    have hc2:=z1E hc
    obtain⟨⟨r2,st2⟩,h2,h3⟩:=zgD.1 hm'
    obtain⟨⟨r3,st3⟩,h4,h5⟩:=zgD.1 h3
    obtain⟨hl,h6⟩:=zj h4
    cases h6
    have HH:=z8 (zgI h2 h5)
    clear hm' h2 h3 h4 h5
    go_wp2_with (first|(go_at_call 188;refine HS.out.mono ?_;rintro e w2 ⟨rfl,n2,rfl⟩)|(go_at_call 114;refine(zP b _ s _ _ _ (by exact hrd.drewN _) hsz).mono ?_;rintro e w3 ⟨rfl,hr3,hs3⟩))
    have hI3:=(hi.drewN n2).sc hr3 hs3
    have hF3:=(hf.drewN n2).trans (hs3.fr hI3.nob)
    refine(IH.out k (by omega) X b _ _ r2 st2 HH.out.1 hI3 (hF3.lt hX)).mono ?_
    rintro e w4 ⟨rfl,hI4,hF4⟩
    go_wp2_with fail
    refine(z0w X b s st2 _ _ _ _ _ hI4 (hF4.lt (hF3.lt hX)) hl).mono ?_
    rintro e w5 ⟨rfl,hI5,hF5⟩
    go_wp2_with fail
    go_roundg k
    case measure=>omega
    case rel=>exact⟨by omega,_,_,rfl,HH.out.2,hI5,(hF3.trans hF4).trans hF5⟩
   ·rw [hc] at hm'
    have hc2:=z1e hc
    simp at hm'
    obtain⟨rfl,rfl⟩:=hm'
    go_wp2_with (go_at_call 188;refine HS.out.mono ?_;rintro e w2 ⟨rfl,n2,rfl⟩)
    go_ret
    exact⟨rfl,hi.drewN _,hf.drewN _⟩
theorem z6i (s:zgS)(n:Nat)(ih: ∀m,m≤n→OKE s 191 6 m):OKE s 187 5 (n+1):=by
 intro X b st w r st' hM hI hX
 have hM':(M s n 6 0 st).bind (fun r=>M s n 15 r.1 r.2)=some (r,st'):=hM
 obtain⟨⟨l1,st1⟩,h1,h2⟩:=zgD.1 hM'
 have IH:=z8 ih
 have H1:=z8 h1
 have H2:=z8 h2
 clear hM hM' h1 h2 ih
 go_enter Tryz.func187,Tryz.ntmps187
 go_wp2_with fail
 refine(IH.out n (zgH _) X b st w l1 st1 H1.out hI hX).mono ?_
 rintro e w1 ⟨rfl,hI1,hF1⟩
 go_wp2_with fail
 go_loopg [3] n (fun k l wr=>k≤n∧ ∃(lv:Int) (sv:St),l= .int .i64 lv∧Hid (M s k 15 lv sv=some (r,st'))∧Inv X wr b s sv∧Fr X w wr)
 case atStart=>exact⟨zgH _,l1,st1,rfl,H2,hI1,hF1⟩
 case round=>
  obtain⟨hkn,lv,sv,rfl,hm,hi,hf⟩:=hrel
  cases gk with
  |zero=>exact absurd hm.out (by simp [M])
  |succ k=>
   have hm':(if(zh s sv.at_ sv.bad).size==0 then some (lv,sv) else(M s k 6 0 (sgn s (zh s sv.at_ sv.bad).data.toList sv)).bind fun r=>(jQ r.2 ⟨6,sv.at_,zh s sv.at_ sv.bad,lv,r.1⟩).bind fun q=>M s k 15 q.1 q.2)=some (r,st'):=hm.out
   clear hm
   have hrd:=hi.rd
   have hsz:(zh s sv.at_ sv.bad).size≤600:=z0T s sv.at_ sv.bad
   have HS:=z8 (z44 b sv.at_ s sv.bad wr hrd)
   obtain⟨c0,c1,c2,f1,f2,_,_⟩:=id hrd
   generalize zh s sv.at_ sv.bad=c at*
   cases hc:(c.size==0)
   ·rw [hc] at hm'
    have hc2:=z1E hc
    obtain⟨⟨r2,st2⟩,h2,h3⟩:=zgD.1 hm'
    obtain⟨⟨r3,st3⟩,h4,h5⟩:=zgD.1 h3
    obtain⟨hl,h6⟩:=zj h4
    cases h6
    have HH:=z8 (zgI h2 h5)
    clear hm' h2 h3 h4 h5
    go_wp2_with (first|(go_at_call 192;refine HS.out.mono ?_;rintro e w2 ⟨rfl,n2,rfl⟩)|(go_at_call 114;refine(zP b _ s _ _ _ (by exact hrd.drewN _) hsz).mono ?_;rintro e w3 ⟨rfl,hr3,hs3⟩))
    have hI3:=(hi.drewN n2).sc hr3 hs3
    have hF3:=(hf.drewN n2).trans (hs3.fr hI3.nob)
    refine(IH.out k (by omega) X b _ _ r2 st2 HH.out.1 hI3 (hF3.lt hX)).mono ?_
    rintro e w4 ⟨rfl,hI4,hF4⟩
    go_wp2_with fail
    refine(z0w X b s st2 _ _ _ _ _ hI4 (hF4.lt (hF3.lt hX)) hl).mono ?_
    rintro e w5 ⟨rfl,hI5,hF5⟩
    go_wp2_with fail
    go_roundg k
    case measure=>omega
    case rel=>exact⟨by omega,_,_,rfl,HH.out.2,hI5,(hF3.trans hF4).trans hF5⟩
   ·rw [hc] at hm'
    have hc2:=z1e hc
    simp at hm'
    obtain⟨rfl,rfl⟩:=hm'
    go_wp2_with (go_at_call 192;refine HS.out.mono ?_;rintro e w2 ⟨rfl,n2,rfl⟩)
    go_ret
    exact⟨rfl,hi.drewN _,hf.drewN _⟩
theorem z5G (s:zgS)(n:Nat)(ihs:OKE s 147 2 n)(ihn:OKE s 168 3 n):OKE s 147 2 (n+1):=by
 intro X b st w r st' hM hI hX
 have hM':(if pkS s st !=33 then M s n 3 0 st else(M s n 2 0 (sgn s [33] st)).bind fun r=>jQ r.2 ⟨5,st.at_,⟨#[33]⟩,r.1,-1⟩)=some (r,st'):=hM
 clear hM
 have hrd:=hI.rd
 obtain⟨c0,c1,c2,f1,f2,_,_⟩:=id hrd
 cases hc:(pkS s st !=33)
 ·rw [hc] at hM'
  have hc:(pk s st.at_ st.bad !=33)=false:=hc
  obtain⟨⟨r2,st2⟩,h2,h3⟩:=zgD.1 hM'
  obtain⟨hl,h6⟩:=zj h3
  cases h6
  have HH:=z8 h2
  clear hM' h2 h3
  go_enter Tryz.func147,Tryz.ntmps147
  go_wp2_with (first|(go_at_call 78;refine(zn _ _ _ _ _ hrd).mono ?_;rintro e w2 ⟨rfl,n2,rfl⟩)|(go_at_call 114;refine(zP b _ s _ _ _ (by exact hrd.drewN _) (by decide)).mono ?_;rintro e w3 ⟨rfl,hr3,hs3⟩))
  have hI3:=(hI.drewN n2).sc hr3 hs3
  have hF3:=((Fr.refl X w).drewN n2).trans (hs3.fr hI3.nob)
  refine(ihs X b _ _ r2 st2 HH.out hI3 (hF3.lt hX)).mono ?_
  rintro e w4 ⟨rfl,hI4,hF4⟩
  go_wp2_with fail
  refine(z2v X b s st2 _ _ _ _ hI4 (hF4.lt (hF3.lt hX)) hl).mono ?_
  rintro e w5 ⟨rfl,hI5,hF5⟩
  go_wp2_with fail
  go_ret
  exact⟨rfl,hI5,(hF3.trans hF4).trans hF5⟩
 ·rw [hc] at hM'
  have hc:(pk s st.at_ st.bad !=33)=true:=hc
  have HH:Hid (M s n 3 0 st=some (r,st')):=z8 hM'
  clear hM'
  go_enter Tryz.func147,Tryz.ntmps147
  go_wp2_with (go_at_call 78;refine(zn _ _ _ _ _ hrd).mono ?_;rintro e w2 ⟨rfl,n2,rfl⟩)
  refine(ihn X b st _ r st' HH.out (hI.drewN _) hX).mono ?_
  rintro e w4 ⟨rfl,hI4,hF4⟩
  go_wp2_with fail
  go_ret
  exact⟨rfl,hI4,((Fr.refl X w).drewN n2).trans hF4⟩
theorem z8w (s:zgS)(n:Nat)(ihs:OKE s 191 6 n)(ihn:OKE s 193 7 n):OKE s 191 6 (n+1):=by
 intro X b st w r st' hM hI hX
 have hM':(if pkS s st !=45 then M s n 7 0 st else(M s n 6 0 (sgn s [45] st)).bind fun r=>jQ r.2 ⟨5,st.at_,⟨#[45]⟩,r.1,-1⟩)=some (r,st'):=hM
 clear hM
 have hrd:=hI.rd
 obtain⟨c0,c1,c2,f1,f2,_,_⟩:=id hrd
 cases hc:(pkS s st !=45)
 ·rw [hc] at hM'
  have hc:(pk s st.at_ st.bad !=45)=false:=hc
  obtain⟨⟨r2,st2⟩,h2,h3⟩:=zgD.1 hM'
  obtain⟨hl,h6⟩:=zj h3
  cases h6
  have HH:=z8 h2
  clear hM' h2 h3
  go_enter Tryz.func191,Tryz.ntmps191
  go_wp2_with (first|(go_at_call 78;refine(zn _ _ _ _ _ hrd).mono ?_;rintro e w2 ⟨rfl,n2,rfl⟩)|(go_at_call 114;refine(zP b _ s _ _ _ (by exact hrd.drewN _) (by decide)).mono ?_;rintro e w3 ⟨rfl,hr3,hs3⟩))
  have hI3:=(hI.drewN n2).sc hr3 hs3
  have hF3:=((Fr.refl X w).drewN n2).trans (hs3.fr hI3.nob)
  refine(ihs X b _ _ r2 st2 HH.out hI3 (hF3.lt hX)).mono ?_
  rintro e w4 ⟨rfl,hI4,hF4⟩
  go_wp2_with fail
  refine(z2v X b s st2 _ _ _ _ hI4 (hF4.lt (hF3.lt hX)) hl).mono ?_
  rintro e w5 ⟨rfl,hI5,hF5⟩
  go_wp2_with fail
  go_ret
  exact⟨rfl,hI5,(hF3.trans hF4).trans hF5⟩
 ·rw [hc] at hM'
  have hc:(pk s st.at_ st.bad !=45)=true:=hc
  have HH:Hid (M s n 7 0 st=some (r,st')):=z8 hM'
  clear hM'
  go_enter Tryz.func191,Tryz.ntmps191
  go_wp2_with (go_at_call 78;refine(zn _ _ _ _ _ hrd).mono ?_;rintro e w2 ⟨rfl,n2,rfl⟩)
  refine(ihn X b st _ r st' HH.out (hI.drewN _) hX).mono ?_
  rintro e w4 ⟨rfl,hI4,hF4⟩
  go_wp2_with fail
  go_ret
  exact⟨rfl,hI4,((Fr.refl X w).drewN n2).trans hF4⟩
theorem z3R (s:zgS)(n:Nat)(ih:OKE s 180 4 n):OKE s 168 3 (n+1):=by
 intro X b st w r st' hM hI hX
 have hM':((M s n 4 0 st).bind fun r=>if(ze s r.2.at_ r.2.bad).2.2.size==0 then some (r.1,r.2.put3 (ze s r.2.at_ r.2.bad)) else(M s n 4 0 (r.2.put3 (ze s r.2.at_ r.2.bad))).bind fun q=>jQ q.2 ⟨6,r.2.at_,(ze s r.2.at_ r.2.bad).2.2,r.1,q.1⟩)=some (r,st'):=hM
 obtain⟨⟨l1,st1⟩,h1,h2⟩:=zgD.1 hM'
 have H1:=z8 h1
 have H2:=z8 h2
 clear hM hM' h1 h2
 go_enter Tryz.func168,Tryz.ntmps168
 go_wp2_with fail
 refine(ih X b st w l1 st1 H1.out hI hX).mono ?_
 rintro e w1 ⟨rfl,hI1,hF1⟩
 have hrd:=hI1.rd
 have HS:=fun n2=>z2T b st1.at_ s st1.bad (w1.drewN n2) (hrd.drewN n2)
 have HS:=z8 HS
 obtain⟨c0,c1,c2,f1,f2,_,_⟩:=id hrd
 have h2:=H2.out
 clear H2
 generalize ze s st1.at_ st1.bad=c at*
 obtain⟨ca,cd,ct⟩:=c
 simp only at h2
 have HS':Hid (Calls Tryz.prog 181 #[.pointer (some ⟨b,0,none⟩)] w1 fun e w'=>e= .returned (.string ct)∧Rd w' b s ca cd∧Sc b w1 w'):=HS.out 0
 clear HS
 cases hc:(ct.size==0)
 ·rw [hc] at h2
  have hc2:=z1E hc
  obtain⟨⟨r2,st2⟩,h3,h4⟩:=zgD.1 h2
  obtain⟨hl,h6⟩:=zj h4
  cases h6
  have HH:=z8 h3
  clear h2 h3 h4
  go_wp2_with (go_at_call 181;refine HS'.out.mono ?_;rintro e w3 ⟨rfl,hr3,hs3⟩)
  have hI3:=hI1.sc hr3 hs3
  have hF3:=hF1.trans (hs3.fr hI3.nob)
  refine(ih X b _ _ r2 st2 HH.out hI3 (hF3.lt hX)).mono ?_
  rintro e w4 ⟨rfl,hI4,hF4⟩
  go_wp2_with fail
  refine(z0w X b s st2 _ _ _ _ _ hI4 (hF4.lt (hF3.lt hX)) hl).mono ?_
  rintro e w5 ⟨rfl,hI5,hF5⟩
  go_wp2_with fail
  go_ret
  exact⟨rfl,hI5,(hF3.trans hF4).trans hF5⟩
 ·rw [hc] at h2
  have hc2:=z1e hc
  simp at h2
  obtain⟨rfl,rfl⟩:=h2
  go_wp2_with (go_at_call 181;refine HS'.out.mono ?_;rintro e w3 ⟨rfl,hr3,hs3⟩)
  have hI3:=hI1.sc hr3 hs3
  go_ret
  exact⟨rfl,hI3,hF1.trans (hs3.fr hI3.nob)⟩
theorem z7t {c:zgS}{l:List UInt8}(h:(c.data.toList==l)=false):(c.toList==l)=false∧ ¬c.toList=l:=by
 rw [zgG]
 exact⟨h,by simpa using h⟩
theorem z5m {c:zgS}{l:List UInt8}(h:(c.data.toList==l)=true):c.toList=l:=by
 rw [zgG]
 simpa using h
theorem z6c (s:zgS)(n:Nat)(ih:OKE s 73 0 n):OKE s 193 7 (n+1):=by
 intro X b st w r st' hM hI hX
 have hrd:=hI.rd
 obtain⟨c0,c1,c2,f1,f2,_,_⟩:=id hrd
 rw [M_7] at hM
 cases hd:zg (pkS s st)
 ·rw [hd,if_neg (by decide)] at hM
  have hd:zg (pk s st.at_ st.bad)=false:=hd
  cases hq:(pkS s st==34)
  ·rw [hq,if_neg (by decide)] at hM
   have hq:(pk s st.at_ st.bad==34)=false:=hq
   cases ha:(pkS s st==64)
   ·rw [ha,if_neg (by decide)] at hM
    have ha:(pk s st.at_ st.bad==64)=false:=ha
    cases hp:(pkS s st==40)
    ·rw [hp,if_neg (by decide)] at hM
     have hp:(pk s st.at_ st.bad==40)=false:=hp
     have HN:=fun m=>z2y b st.at_ s st.bad (w.drewN m) (hrd.drewN m)
     simp only at hM
     generalize zw s st.at_ st.bad=c at*
     obtain⟨ca,cd,ct⟩:=c
     have HN:Hid (∀m,Calls Tryz.prog 160 #[.pointer (some ⟨b,0,none⟩)] (w.drewN m) fun e w'=>e= .returned (.string ct)∧Rd w' b s ca cd∧Sc b (w.drewN m) w'):=z8 HN
     simp only at hM
     cases ht:(ct.data.toList==[116,114,117,101])
     ·cases hf:(ct.data.toList==[102,97,108,115,101])
      ·rw [ht,hf,if_neg (by decide)] at hM
       obtain⟨n1,n1'⟩:=z7t ht
       obtain⟨n2',n2''⟩:=z7t hf
       clear ht hf
       obtain⟨hl,h6⟩:=zj hM
       cases h6
       clear hM
       go_enter Tryz.func193,Tryz.ntmps193
       go_wp2_with (first|(go_at_call 170;refine(zF _ _ _ _ _ hrd).mono ?_;rintro e w2 ⟨rfl,n2,rfl⟩)|(go_at_call 78;refine(zn b st.at_ s st.bad _ (by exact hrd.drewN _)).mono ?_;rintro e w2 ⟨rfl,n3,rfl⟩)|(go_at_call 160;refine(HN.out _).mono ?_;rintro e w3 ⟨rfl,hr3,hs3⟩))
       have hI3:=(hI.drewN _).sc hr3 hs3
       have hF3:=((Fr.refl X w).drewN _).trans (hs3.fr hI3.nob)
       refine(z0c X b s _ _ _ _ _ hI3 (hF3.lt hX) hl).mono ?_
       rintro e w5 ⟨rfl,hI5,hF5⟩
       go_wp2_with fail
       go_ret
       exact⟨rfl,hI5,hF3.trans hF5⟩
      ·rw [ht,hf,if_pos (by decide)] at hM
       have n1:=z5m hf
       clear ht hf
       obtain⟨hl,h6⟩:=zj hM
       cases h6
       clear hM
       go_enter Tryz.func193,Tryz.ntmps193
       go_wp2_with (first|(go_at_call 170;refine(zF _ _ _ _ _ hrd).mono ?_;rintro e w2 ⟨rfl,n2,rfl⟩)|(go_at_call 78;refine(zn b st.at_ s st.bad _ (by exact hrd.drewN _)).mono ?_;rintro e w2 ⟨rfl,n3,rfl⟩)|(go_at_call 160;refine(HN.out _).mono ?_;rintro e w3 ⟨rfl,hr3,hs3⟩))
       have hI3:=(hI.drewN _).sc hr3 hs3
       have hF3:=((Fr.refl X w).drewN _).trans (hs3.fr hI3.nob)
       refine(z0c X b s _ _ _ _ _ hI3 (hF3.lt hX) hl).mono ?_
       rintro e w5 ⟨rfl,hI5,hF5⟩
       go_wp2_with fail
       go_ret
       exact⟨rfl,hI5,hF3.trans hF5⟩
     ·rw [ht] at hM
      rw [if_pos (by simp)] at hM
      have n1:=z5m ht
      clear ht
      obtain⟨hl,h6⟩:=zj hM
      cases h6
      clear hM
      go_enter Tryz.func193,Tryz.ntmps193
      go_wp2_with (first|(go_at_call 170;refine(zF _ _ _ _ _ hrd).mono ?_;rintro e w2 ⟨rfl,n2,rfl⟩)|(go_at_call 78;refine(zn b st.at_ s st.bad _ (by exact hrd.drewN _)).mono ?_;rintro e w2 ⟨rfl,n3,rfl⟩)|(go_at_call 160;refine(HN.out _).mono ?_;rintro e w3 ⟨rfl,hr3,hs3⟩))
      have hI3:=(hI.drewN _).sc hr3 hs3
      have hF3:=((Fr.refl X w).drewN _).trans (hs3.fr hI3.nob)
      refine(z0c X b s _ _ _ _ _ hI3 (hF3.lt hX) hl).mono ?_
      rintro e w5 ⟨rfl,hI5,hF5⟩
      go_wp2_with fail
      go_ret
      exact⟨rfl,hI5,hF3.trans hF5⟩
    ·rw [hp,if_pos rfl] at hM
     have hp:(pk s st.at_ st.bad==40)=true:=hp
     obtain⟨⟨r2,st2⟩,h2,h3⟩:=zgD.1 hM
     simp only [Option.some.injEq,Prod.mk.injEq] at h3
     obtain⟨rfl,rfl⟩:=h3
     have HH:=z8 h2
     clear hM h2
     go_enter Tryz.func193,Tryz.ntmps193
     go_wp2_with (first|(go_at_call 170;refine(zF _ _ _ _ _ hrd).mono ?_;rintro e w2 ⟨rfl,n2,rfl⟩)|(go_at_call 78;refine(zn b st.at_ s st.bad _ (by exact hrd.drewN _)).mono ?_;rintro e w2 ⟨rfl,n3,rfl⟩)|(go_at_call 114;refine(zP b _ s _ _ _ (by exact hrd.drewN _) (by decide)).mono ?_;rintro e w3 ⟨rfl,hr3,hs3⟩))
     have hI3:=(hI.drewN _).sc hr3 hs3
     have hF3:=((Fr.refl X w).drewN _).trans (hs3.fr hI3.nob)
     refine(ih X b _ _ r2 st2 HH.out hI3 (hF3.lt hX)).mono ?_
     rintro e w4 ⟨rfl,hI4,hF4⟩
     have hrd4:=hI4.rd
     go_wp2_with (go_at_call 114;refine(zP b _ s _ _ _ hrd4 (by decide)).mono ?_;rintro e w5 ⟨rfl,hr5,hs5⟩)
     go_ret
     exact⟨rfl,hI4.sc hr5 hs5,(hF3.trans hF4).trans (hs5.fr hI4.nob)⟩
   ·rw [ha,if_pos rfl] at hM
    have ha:(pk s st.at_ st.bad==64)=true:=ha
    have hM':jQ ((wrd s [64] st).put3 (zw s (wrd s [64] st).at_ (wrd s [64] st).bad)) ⟨4,st.at_,(zw s (wrd s [64] st).at_ (wrd s [64] st).bad).2.2,-1,-1⟩=some (r,st'):=hM
    obtain⟨hl,h6⟩:=zj hM'
    cases h6
    clear hM hM'
    go_enter Tryz.func193,Tryz.ntmps193
    go_wp2_with (first|(go_at_call 170;refine(zF _ _ _ _ _ hrd).mono ?_;rintro e w2 ⟨rfl,n2,rfl⟩)|(go_at_call 78;refine(zn b st.at_ s st.bad _ (by exact hrd.drewN _)).mono ?_;rintro e w2 ⟨rfl,n3,rfl⟩)|(go_at_call 79;refine(jW b _ s _ _ _ (by exact hrd.drewN _) (by decide)).mono ?_;rintro e w3 ⟨rfl,hr3,hs3⟩)|(go_at_call 160;refine(z2y b _ s _ _ hr3).mono ?_;rintro e w4 ⟨rfl,hr4,hs4⟩))
    have hI3:=(hI.drewN _).sc hr3 hs3
    have hI4:=hI3.sc hr4 hs4
    have hF3:=(((Fr.refl X w).drewN _).trans (hs3.fr hI3.nob)).trans (hs4.fr hI3.nob)
    refine(z0c X b s _ _ _ _ _ hI4 (hF3.lt hX) hl).mono ?_
    rintro e w5 ⟨rfl,hI5,hF5⟩
    go_wp2_with fail
    go_ret
    exact⟨rfl,hI5,hF3.trans hF5⟩
  ·rw [hq,if_pos rfl] at hM
   have hq:(pk s st.at_ st.bad==34)=true:=hq
   have hM':jQ (st.put3 (zT s st.at_ st.bad)) ⟨1,st.at_,(zT s st.at_ st.bad).2.2,-1,-1⟩=some (r,st'):=hM
   obtain⟨hl,h6⟩:=zj hM'
   cases h6
   clear hM hM'
   go_enter Tryz.func193,Tryz.ntmps193
   go_wp2_with (first|(go_at_call 170;refine(zF _ _ _ _ _ hrd).mono ?_;rintro e w2 ⟨rfl,n2,rfl⟩)|(go_at_call 78;refine(zn b st.at_ s st.bad _ (by exact hrd.drewN _)).mono ?_;rintro e w2 ⟨rfl,n3,rfl⟩)|(go_at_call 196;refine(z8b b _ s _ _ (by exact hrd.drewN _)).mono ?_;rintro e w3 ⟨rfl,hr3,hs3⟩))
   have hI3:=(hI.drewN _).sc hr3 hs3
   have hF3:=((Fr.refl X w).drewN _).trans (hs3.fr hI3.nob)
   refine(z0c X b s _ _ _ _ _ hI3 (hF3.lt hX) hl).mono ?_
   rintro e w5 ⟨rfl,hI5,hF5⟩
   go_wp2_with fail
   go_ret
   exact⟨rfl,hI5,hF3.trans hF5⟩
 ·rw [hd,if_pos rfl] at hM
  have hd:zg (pk s st.at_ st.bad)=true:=hd
  have hM':jQ (st.put3 (zO s st.at_ st.bad)) ⟨0,st.at_,(zO s st.at_ st.bad).2.2,-1,-1⟩=some (r,st'):=hM
  obtain⟨hl,h6⟩:=zj hM'
  cases h6
  clear hM hM'
  go_enter Tryz.func193,Tryz.ntmps193
  go_wp2_with (first|(go_at_call 170;refine(zF _ _ _ _ _ hrd).mono ?_;rintro e w2 ⟨rfl,n2,rfl⟩)|(go_at_call 194;refine(z8B b _ s _ _ (by exact hrd.drewN _)).mono ?_;rintro e w3 ⟨rfl,hr3,hs3⟩))
  have hI3:=(hI.drewN n2).sc hr3 hs3
  have hF3:=((Fr.refl X w).drewN n2).trans (hs3.fr hI3.nob)
  refine(z0c X b s _ _ _ _ _ hI3 (hF3.lt hX) hl).mono ?_
  rintro e w5 ⟨rfl,hI5,hF5⟩
  go_wp2_with fail
  go_ret
  exact⟨rfl,hI5,hF3.trans hF5⟩
theorem zaK (s:zgS)(n:Nat)(ih: ∀m,m≤n→OKL s 176 1 m):OKL s 161 0 (n+1):=by
 intro X b st w r st' hM hI hX
 rw [z7G] at hM
 obtain⟨⟨l1,st1⟩,h1,h2⟩:=zgD.1 hM
 have IH:=z8 ih
 have H1:=z8 h1
 have H2:=z8 h2
 clear hM h1 h2 ih
 go_enter Tryz.func161,Tryz.ntmps161
 go_wp2_with fail
 refine(IH.out n (zgH _) X b st w l1 st1 H1.out hI hX).mono ?_
 rintro e w1 ⟨rfl,hI1,hF1⟩
 go_wp2_with fail
 go_loopg [3] n (fun k l wr=>k≤n∧ ∃(lv:Int) (sv:St),l= .int .i64 lv∧Hid (ML s k 10 lv 0 0 [] sv=some (r,st'))∧Inv X wr b s sv∧Fr X w wr)
 case atStart=>exact⟨zgH _,l1,st1,rfl,H2,hI1,hF1⟩
 case round=>
  obtain⟨hkn,lv,sv,rfl,hm,hi,hf⟩:=hrel
  cases gk with
  |zero=>exact absurd hm.out (by simp [ML])
  |succ k=>
   have hm':=hm.out
   rw [z2n] at hm'
   clear hm
   have hrd:=hi.rd
   obtain⟨c0,c1,c2,f1,f2,_,_⟩:=id hrd
   cases hc:(pkS s sv==124)
   ·rw [hc] at hm'
    simp at hm'
    obtain⟨rfl,rfl⟩:=hm'
    have hc:(pk s sv.at_ sv.bad==124)=false:=hc
    go_wp2_with (go_at_call 78;refine(zn _ _ _ _ _ hrd).mono ?_;rintro e w2 ⟨rfl,n2,rfl⟩)
    go_ret
    exact⟨rfl,hi.drewN _,hf.drewN _⟩
   ·rw [hc] at hm'
    have hc:(pk s sv.at_ sv.bad==124)=true:=hc
    obtain⟨⟨r2,st2⟩,h2,h3⟩:=zgD.1 hm'
    obtain⟨⟨r3,st3⟩,h4,h5⟩:=zgD.1 h3
    obtain⟨hl,h6⟩:=zJ h4
    cases h6
    have HH:=z8 (zgI h2 h5)
    clear hm' h2 h3 h4 h5
    go_wp2_with (first|(go_at_call 78;refine(zn _ _ _ _ _ hrd).mono ?_;rintro e w2 ⟨rfl,n2,rfl⟩)|(go_at_call 114;refine(zP b _ s _ _ _ (by exact hrd.drewN _) (by decide)).mono ?_;rintro e w3 ⟨rfl,hr3,hs3⟩))
    have hI3:=(hi.drewN n2).sc hr3 hs3
    have hF3:=(hf.drewN n2).trans (hs3.fr hI3.nob)
    refine(IH.out k (by omega) X b _ _ r2 st2 HH.out.1 hI3 (hF3.lt hX)).mono ?_
    rintro e w4 ⟨rfl,hI4,hF4⟩
    go_wp2_with fail
    refine(z1N X b s st2 _ _ _ _ hI4 (hF4.lt (hF3.lt hX)) hl).mono ?_
    rintro e w5 ⟨rfl,hI5,hF5⟩
    go_wp2_with fail
    go_roundg k
    case measure=>omega
    case rel=>exact⟨by omega,_,_,rfl,HH.out.2,hI5,(hF3.trans hF4).trans hF5⟩
theorem z6U (s:zgS)(n:Nat)(ih: ∀m,m≤n→OKL s 184 2 m):OKL s 176 1 (n+1):=by
 intro X b st w r st' hM hI hX
 rw [z7I] at hM
 obtain⟨⟨l1,st1⟩,h1,h2⟩:=zgD.1 hM
 have IH:=z8 ih
 have H1:=z8 h1
 have H2:=z8 h2
 clear hM h1 h2 ih
 go_enter Tryz.func176,Tryz.ntmps176
 go_wp2_with fail
 refine(IH.out n (zgH _) X b st w l1 st1 H1.out hI hX).mono ?_
 rintro e w1 ⟨rfl,hI1,hF1⟩
 go_wp2_with fail
 go_loopg [3] n (fun k l wr=>k≤n∧ ∃(lv:Int) (sv:St),l= .int .i64 lv∧Hid (ML s k 11 lv 0 0 [] sv=some (r,st'))∧Inv X wr b s sv∧Fr X w wr)
 case atStart=>exact⟨zgH _,l1,st1,rfl,H2,hI1,hF1⟩
 case round=>
  obtain⟨hkn,lv,sv,rfl,hm,hi,hf⟩:=hrel
  cases gk with
  |zero=>exact absurd hm.out (by simp [ML])
  |succ k=>
   have hm':=hm.out
   rw [z2w] at hm'
   clear hm
   have hrd:=hi.rd
   obtain⟨c0,c1,c2,f1,f2,_,_⟩:=id hrd
   cases hc:(pkS s sv==38)
   ·rw [hc] at hm'
    simp at hm'
    obtain⟨rfl,rfl⟩:=hm'
    have hc:(pk s sv.at_ sv.bad==38)=false:=hc
    go_wp2_with (go_at_call 78;refine(zn _ _ _ _ _ hrd).mono ?_;rintro e w2 ⟨rfl,n2,rfl⟩)
    go_ret
    exact⟨rfl,hi.drewN _,hf.drewN _⟩
   ·rw [hc] at hm'
    have hc:(pk s sv.at_ sv.bad==38)=true:=hc
    obtain⟨⟨r2,st2⟩,h2,h3⟩:=zgD.1 hm'
    obtain⟨⟨r3,st3⟩,h4,h5⟩:=zgD.1 h3
    obtain⟨hl,h6⟩:=zJ h4
    cases h6
    have HH:=z8 (zgI h2 h5)
    clear hm' h2 h3 h4 h5
    go_wp2_with (first|(go_at_call 78;refine(zn _ _ _ _ _ hrd).mono ?_;rintro e w2 ⟨rfl,n2,rfl⟩)|(go_at_call 114;refine(zP b _ s _ _ _ (by exact hrd.drewN _) (by decide)).mono ?_;rintro e w3 ⟨rfl,hr3,hs3⟩))
    have hI3:=(hi.drewN n2).sc hr3 hs3
    have hF3:=(hf.drewN n2).trans (hs3.fr hI3.nob)
    refine(IH.out k (by omega) X b _ _ r2 st2 HH.out.1 hI3 (hF3.lt hX)).mono ?_
    rintro e w4 ⟨rfl,hI4,hF4⟩
    go_wp2_with fail
    refine(z1N X b s st2 _ _ _ _ hI4 (hF4.lt (hF3.lt hX)) hl).mono ?_
    rintro e w5 ⟨rfl,hI5,hF5⟩
    go_wp2_with fail
    go_roundg k
    case measure=>omega
    case rel=>exact⟨by omega,_,_,rfl,HH.out.2,hI5,(hF3.trans hF4).trans hF5⟩
theorem z6w (s:zgS)(n:Nat)(ih:OKL s 161 0 n)(iho: ∀(X:Nat→Prop) (b:Nat) (st:St) (w:World) (r:Int) (st':St),ML s n 3 0 0 0 [] st=some (r,st')→zg (pkS s st)=true→Inv X w b s st→(∀k,X k→k<w.heap.size)→
  Calls Tryz.prog 190 #[.pointer (some ⟨b,0,none⟩)] w fun e w'=>e= .returned (.int .i64 r)∧Inv X w' b s st'∧Fr X w w'):OKL s 184 2 (n+1):=by
 intro X b st w r st' hM hI hX
 have hrd:=hI.rd
 obtain⟨c0,c1,c2,f1,f2,_,_⟩:=id hrd
 have IHO:=z8 iho
 clear iho
 rw [z6l] at hM
 cases hp:(pkS s st==40)
 ·rw [hp,if_neg (by decide)] at hM
  have hp:(pk s st.at_ st.bad==40)=false:=hp
  cases hd:zg (pkS s st)
  ·rw [hd,if_neg (by decide)] at hM
   have hd:zg (pk s st.at_ st.bad)=false:=hd
   have hM':z2H (st.put3 (zw s st.at_ st.bad)) ⟨0,(zw s st.at_ st.bad).2.2,-1,-1,0,0,[]⟩=some (r,st'):=hM
   obtain⟨hl,h6⟩:=zJ hM'
   cases h6
   clear hM hM'
   go_enter Tryz.func184,Tryz.ntmps184
   go_wp2_with (first|(go_at_call 170;refine(zF b st.at_ s st.bad _ (by exact hrd.drewN _)).mono ?_;rintro e w2 ⟨rfl,n3,rfl⟩)|(go_at_call 78;refine(zn b st.at_ s st.bad _ hrd).mono ?_;rintro e w2 ⟨rfl,n2,rfl⟩))
   refine(z2y b st.at_ s st.bad _ (by exact hrd.drewN _)).mono ?_
   rintro e w3 ⟨rfl,hr3,hs3⟩
   have hI3:=(hI.drewN _).sc hr3 hs3
   have hF3:=((Fr.refl X w).drewN _).trans (hs3.fr hI3.nob)
   have hX3:=z8 (hF3.lt hX)
   have HF3:=z8 hF3
   have hl3:st.L.length<100000:=hl
   clear hr3 hs3 hI hF3 hX hrd c0 c1 c2 f1 f2 hp hd hl IHO ih
   obtain⟨V,iv,cv,g⟩:=hI3
   obtain⟨i0,hi,hz0,hz1,hz2⟩:=info_parts info160
   have hlt:=g.rows.lt
   have hc:=g.rows.cell 4 (by omega) (by omega)
   have hf:=g.rows.froz 4 (by omega) (by omega)
   have how:=g.rows.own 4 (by omega) (by omega)
   have HG:=z8 g
   clear g
   go_wp2_with (at_builtin;go_must (refine wpList_append_lies _ rfl (.tmp 26) (.tmp 29) 50 rfl (b+1) 160 i0 _ 7 80 Tryz.underlying50 hi hz0 hz1 hz2 rfl (by omega) (V 4) st.L.length _ rfl (how.alloc _) ⟨w3.heap.size,0,none⟩ 1 1 (Lc.cells ⟨0,(zw s st.at_ st.bad).2.2,-1,-1,0,0,[]⟩ (.slice none 0 0)) rfl rfl ?news ?one (by omega) ?mm ?bys ?base (w3.heap.size+1) (by simp) ?rest))
   case news=>exact World.news_of_block (heap_alloc_new w3 _)
   case one=>intro u hu;simp [Lc.cells] at hu;rcases hu with rfl|rfl|rfl|rfl|rfl<;>rfl
   case mm=>unfold maxLen;omega
   case bys=>omega
   case base=>simp;omega
   case rest=>
    intro gb cap w4 hown hgrow hat hlt2
    have hg:=zW (World.grownBy_alloc w3 _ _) hgrow
    obtain⟨k1,k2,hfr⟩:=HG.out.grown (o:=4) (by omega) (by omega) hg hX3.out
    have hI5:=HG.out.pushL ⟨0,(zw s st.at_ st.bad).2.2,-1,-1,0,0,[]⟩ (.slice none 0 0) Side.nil hown hg (fun k e=>by
     have:gb=k:=by simpa [Value.ownBlock] using e
     subst this
     exact hat.imp id fun e=>by omega) hX3.out
    have hfr:=hfr (.slice (some ⟨gb,0,none⟩) (st.L.length+1) cap)
    clear hgrow hat hown hg how
    go_wp2_with fail
    go_ret
    exact⟨by simp [St.put3],hI5,HF3.out.trans hfr⟩
  ·rw [hd,if_pos rfl] at hM
   have hd0:=z8 hd
   have hd:zg (pk s st.at_ st.bad)=true:=hd
   have HH:=z8 hM
   clear hM
   go_enter Tryz.func184,Tryz.ntmps184
   go_wp2_with (first|(go_at_call 170;refine(zF b st.at_ s st.bad _ (by exact hrd.drewN _)).mono ?_;rintro e w2 ⟨rfl,n3,rfl⟩)|(go_at_call 78;refine(zn b st.at_ s st.bad _ hrd).mono ?_;rintro e w2 ⟨rfl,n2,rfl⟩))
   refine(IHO.out X b st _ r st' HH.out hd0.out (hI.drewN _) hX).mono ?_
   rintro e w4 ⟨rfl,hI4,hF4⟩
   go_wp2_with fail
   go_ret
   exact⟨rfl,hI4,((Fr.refl X w).drewN _).trans hF4⟩
 ·rw [hp,if_pos rfl] at hM
  have hp:(pk s st.at_ st.bad==40)=true:=hp
  obtain⟨⟨r2,st2⟩,h2,h3⟩:=zgD.1 hM
  simp only [Option.some.injEq,Prod.mk.injEq] at h3
  obtain⟨rfl,rfl⟩:=h3
  have HH:=z8 h2
  clear hM h2
  go_enter Tryz.func184,Tryz.ntmps184
  go_wp2_with (first|(go_at_call 78;refine(zn b st.at_ s st.bad _ hrd).mono ?_;rintro e w2 ⟨rfl,n3,rfl⟩)|(go_at_call 114;refine(zP b _ s _ _ _ (by exact hrd.drewN _) (by decide)).mono ?_;rintro e w3 ⟨rfl,hr3,hs3⟩))
  have hI3:=(hI.drewN _).sc hr3 hs3
  have hF3:=((Fr.refl X w).drewN _).trans (hs3.fr hI3.nob)
  refine(ih X b _ _ r2 st2 HH.out hI3 (hF3.lt hX)).mono ?_
  rintro e w4 ⟨rfl,hI4,hF4⟩
  have hrd4:=hI4.rd
  go_wp2_with (go_at_call 114;refine(zP b _ s _ _ _ hrd4 (by decide)).mono ?_;rintro e w5 ⟨rfl,hr5,hs5⟩)
  go_ret
  exact⟨rfl,hI4.sc hr5 hs5,(hF3.trans hF4).trans (hs5.fr hI4.nob)⟩
theorem InvV.mono {X Y:Nat→Prop}{w:World}{b:Nat}{s:zgS}{st:St}{V:Nat→Value}{iv cv:List Value}(g:InvV X w b s st V iv cv)(hY: ∀k,Y k→X k):InvV Y w b s st V iv cv:=
 ⟨g.rd,g.rows.mono hY,g.il,g.cl,fun i l v h1 h2=>(g.items i l v h1 h2).mono hY,fun i l v h1 h2=>(g.clauses i l v h1 h2).mono hY⟩
structure HeldY (X Y:Nat→Prop)(w0 w:World)(b:Nat)(s:zgS)(st:St)(e size:Nat)(v:Value)(n:Nat)(xs:List Value):Prop where
 sub: ∀k,X k→Y k
 lt: ∀k,Y k→k<w.heap.size
 inv:Inv Y w b s st
 own:w.ownsRow (b+1) e size v n xs
 inY: ∀k,v.ownBlock=some k→Y k∧w0.heap.size≤k
 fr:Fr X w0 w
def zgg (X:Nat→Prop)(w0 w:World)(b:Nat)(s:zgS)(st:St)(e size:Nat)(v:Value)(n:Nat)(xs:List Value):Prop:= ∃Y,HeldY X Y w0 w b s st e size v n xs
section
variable {X Y:Nat→Prop} {w0 w w':World} {b:Nat} {s:zgS} {st st':St} {e size:Nat} {v:Value} {n:Nat} {xs:List Value}
theorem HeldY.call (h:HeldY X Y w0 w b s st e size v n xs)(hi:Inv Y w' b s st')(hf:Fr Y w w'):HeldY X Y w0 w' b s st' e size v n xs:=
 ⟨h.sub,hf.lt h.lt,hi,zc h.own fun k e=>hf.block k (h.inY k e).1,h.inY,h.fr.trans (hf.mono h.sub)⟩
theorem HeldY.drewN (h:HeldY X Y w0 w b s st e size v n xs)(m:Nat):HeldY X Y w0 (w.drewN m) b s st e size v n xs:=
 ⟨h.sub,h.lt,h.inv.drewN m,h.own,h.inY,h.fr.drewN m⟩
theorem HeldY.sc (h:HeldY X Y w0 w b s st e size v n xs){a:Nat}{d:Bool}(hr:Rd w' b s a d)(hs:Sc b w w'):HeldY X Y w0 w' b s {st with at_:=a,bad:=d} e size v n xs:=
 h.call (h.inv.sc hr hs) (hs.fr h.inv.nob)
theorem z5D (hI:Inv X w b s st)(hX: ∀k,X k→k<w.heap.size)(hf:Fr X w0 w)(e size:Nat):zgg X w0 (w.alloc (.cells #[] e)) b s st e size (.slice (some ⟨w.heap.size,0,none⟩) 0 0) 0 []:=by
 refine⟨fun k=>X k∨k=w.heap.size,fun k x=> .inl x,fun k y=> ?_,hI.allocX _,World.ownsRow_made w #[] 0 hI.lt (by decide) (by simp),fun k e=> ?_,hf.alloc hX _⟩
 ·show k<(w.alloc _).heap.size
  rcases y with y|y
  ·have:=hX k y;simp;omega
  ·simp;omega
 ·have:w.heap.size=k:=by simpa [Value.ownBlock] using e
  subst this
  exact⟨.inr rfl,hf.size⟩
theorem HeldY.grown (h:HeldY X Y w0 w b s st e size v n xs){v':Value}{n':Nat}{xs':List Value}(hown:w'.ownsRow (b+1) e size v' n' xs')(hg:w.grownBy w' v.ownBlock)
  (hat: ∀k,v'.ownBlock=some k→v.ownBlock=some k∨w.heap.size≤k) (hX: ∀k,X k→k<w0.heap.size):HeldY X (fun k=>Y k∨v'.ownBlock=some k) w0 w' b s st e size v' n' xs':=by
 refine⟨fun k x=> .inl (h.sub k x),fun k y=> ?_,?_,hown,fun k e=>⟨.inr e,?_⟩,h.fr.grown hg (fun k x=>h.lt k (h.sub k x)) fun k e x=> ?_⟩
 ·rcases y with y|y
  ·exact zgN (h.lt k y) hg.size
  ·exact(hown.lt k y).2
 ·have h1:Inv (fun k=>Y k∨v'.ownBlock=some k) w b s st:=h.inv.more.mono fun k y=>by
   rcases y with y|y
   ·exact .inl y
   ·rcases hat k y with q|q
    ·exact .inl (h.inY k q).1
    ·exact .inr q
  exact h1.other fun k hk hn=>hg.block k hk fun e=>hn (.inl (h.inY k e.symm).1)
 ·rcases hat k e with q|q
  ·exact(h.inY k q).2
  ·exact zgP h.fr.size q
 ·have:=(h.inY k e).2
  have:=hX k x
  omega
theorem HeldY.more (h:HeldY X Y w0 w b s st e size v n xs)(o:Obj):HeldY X (fun k=>Y k∨k=w.heap.size) w0 (w.alloc o) b s st e size v n xs:=
 ⟨fun k x=> .inl (h.sub k x),fun k y=>by
  show k<(w.alloc o).heap.size
  rcases y with y|y
  ·have:=h.lt k y;simp;omega
  ·simp;omega,h.inv.allocX o,h.own.alloc o,fun k e=>⟨.inl (h.inY k e).1,(h.inY k e).2⟩,h.fr.alloc (fun k x=>h.lt k (h.sub k x)) o⟩
theorem HeldY.setCell (h:HeldY X Y w0 w b s st e size v n xs){a:Addr}(ha:Y a.block)(hne:v.ownBlock≠some a.block)(h0:w0.heap.size≤a.block)(hX: ∀k,X k→k<w0.heap.size)(u:Value):HeldY X Y w0 (w.setCell a u) b s st e size v n xs:=
 ⟨h.sub,fun k y=>by have:=h.lt k y;simpa [World.setCell] using this,h.inv.setCell ha u,zc h.own fun k e=>zgQ _ _ _ _ fun q=>hne (q▸e),h.inY,h.fr.setCell (fun x=>by have:=hX _ x;omega) u⟩
theorem HeldY.side (h:HeldY X Y w0 w b s st e size v n xs)(hX: ∀k,X k→k<w0.heap.size){V:Nat→Value}{iv cv:List Value}(g:InvV Y w b s st V iv cv):Side X w b V e size v n xs:=
 ⟨h.own,fun k e x=>by have:=(h.inY k e).2;have:=hX k x;omega,fun o k h3 h6 e e2=>g.rows.notX o k h3 h6 e2 (h.inY k e).1⟩
end
def zdD (s:zgS)(n:Nat):Prop:= ∀(X:Nat→Prop) (b:Nat) (st:St) (w:World) (r:Int) (st':St),ML s n 3 0 0 0 [] st=some (r,st')→zg (pkS s st)=true→Inv X w b s st→(∀k,X k→k<w.heap.size)→
  Calls Tryz.prog 190 #[.pointer (some ⟨b,0,none⟩)] w fun e w'=>e= .returned (.int .i64 r)∧Inv X w' b s st'∧Fr X w w'
theorem z8u (s:zgS)(n:Nat)(ih: ∀m,m≤n→OKL s 161 0 m):zdD s (n+1):=by
 intro X b st w r st' hM hdig hI hX
 rw [z9z] at hM
 obtain⟨⟨l1,st1⟩,h1,h2⟩:=zgD.1 hM
 have IH:=z8 ih
 have H1:=z8 h1
 have H2:=z8 h2
 have HX:=z8 hX
 clear hM h1 h2 ih hX
 have hrd:=hI.rd
 have hpk:48≤pk s st.at_ st.bad∧pk s st.at_ st.bad≤57:=by have h:=hdig;unfold zg at h;rw [Bool.and_eq_true] at h;exact⟨of_decide_eq_true h.1,of_decide_eq_true h.2⟩
 have hlt:=(jT (s:=s) (a:=st.at_) (d:=st.bad) (by omega)).2
 have hset:=fun m=>(hrd.drewN m).setAt' (st.at_+1) (st.at_+1) (by omega) hlt
 obtain⟨hp1,hp2⟩:=hpk
 obtain⟨c0,c1,c2,f1,f2,_,_⟩:=id hrd
 go_enter Tryz.func190,Tryz.ntmps190
 go_wp2_with (go_at_call 78;refine(zn b st.at_ s st.bad _ hrd).mono ?_;rintro e w2 ⟨rfl,n2,rfl⟩)
 have hset:=hset n2
 have hsc2:=((Sc.refl b w).drewN n2).setCell 1 (Or.inl rfl) (.int .i64 (st.at_+1))
 refine(zP b (st.at_+1) s _ st.bad _ hset (by decide)).mono ?_
 rintro e w3 ⟨rfl,hr3,hs3⟩
 have hI3:=hI.sc hr3 (hsc2.trans hs3)
 have hF3:Fr X w w3:=(hsc2.trans hs3).fr hI.nob
 clear hr3 hs3 hsc2 hset c0 c1 c2 f1 f2 hrd
 go_wp2_with fail
 obtain⟨Y,hY⟩:=z5D hI3 (hF3.lt HX.out) hF3 3 1
 refine(IH.out n (zgH _) Y b _ _ l1 st1 H1.out hY.inv hY.lt).mono ?_
 rintro e w4 ⟨rfl,hI4,hF4⟩
 have hY4:=hY.call hI4 hF4
 clear hY hI4 hF4 hI3 hF3
 obtain⟨i0,hi,hz0,hz1,hz2⟩:=info_parts info3
 have how:=hY4.own
 have hbl:=hY4.inv.lt
 generalize hsz:w4.heap.size=H4 at*
 have HSZ:=z8 hsz
 clear hsz
 go_wp2_with (at_builtin;go_must (refine wpList_append_lies _ rfl (.tmp 26) (.tmp 28) 60 rfl (b+1) 3 i0 _ 1 8 Tryz.underlying60 hi hz0 hz1 hz2 rfl (by omega) _ 0 _ rfl (how.alloc _) ⟨w4.heap.size,0,none⟩ 1 1 [.int .i64 l1] rfl rfl ?news ?one (by omega) ?mm ?bys ?base (w4.heap.size+1) (by simp) ?rest))
 case news=>exact World.news_of_block (heap_alloc_new w4 _)
 case one=>intro u hu;simp at hu;subst hu;rfl
 case mm=>unfold maxLen;omega
 case bys=>omega
 case base=>simp;rw [HSZ.out];omega
 case rest=>
  intro gb cap w5 hown hgrow hat hlt2
  have hH:=hY4.grown hown (zW (World.grownBy_alloc w4 _ _) hgrow) (fun k e=>by
   have:gb=k:=by simpa [Value.ownBlock] using e
   subst this
   exact hat.imp id fun e=>by omega) HX.out
  clear hgrow hat hown how hY4 hlt2 hbl HSZ H4
  go_wp2_with fail
  go_loopg [5,6] n (fun k v _ wr=>k≤n∧ ∃(il:List Int) (sv:St),0<il.length∧Hid (ML s k 13 0 st.at_ (pkS s st - 48) il sv=some (r,st'))∧zgg X w wr b s sv 3 1 v il.length (il.map (Value.int .i64)))
  case atStart=>exact⟨zgH _,[l1],st1,Nat.zero_lt_one,H2,_,hH⟩
  case round=>
   obtain⟨hkn,il,sv,hpos,hm,Y,hY⟩:=hrel
   obtain⟨g5,cap5,rfl,_,_⟩:=hY.own.form hpos
   cases gk with
   |zero=>exact absurd hm.out (by simp [ML])
   |succ k=>
    have hm':=hm.out
    rw [z2U] at hm'
    clear hm hH
    have hil:il.length<100000:=by
     by_cases hx:il.length<100000
     ·exact hx
     ·rw [if_neg hx] at hm';cases hm'
    rw [if_pos hil] at hm'
    have hrd:=hY.inv.rd
    cases hc:(pkS s sv==44)
    ·rw [hc,if_neg (by decide)] at hm'
     have hc:(pk s sv.at_ sv.bad==44)=false:=hc
     obtain⟨hl,h6⟩:=zJ hm'
     cases h6
     clear hm' H2
     go_wp2_with (go_at_call 78;refine(zn _ _ _ _ _ hrd).mono ?_;rintro e w2 ⟨rfl,n2,rfl⟩)
     refine(zP b _ s _ _ _ (by exact hrd.drewN _) (by decide)).mono ?_
     rintro e w6 ⟨rfl,hr6,hs6⟩
     have hY6:=(hY.drewN n2).sc hr6 hs6
     clear hY hr6 hs6 hrd hc
     obtain⟨V,iv,cv,g⟩:=hY6.inv
     obtain⟨i1,hi1,hy0,hy1,hy2⟩:=info_parts info160
     have hlt6:=g.rows.lt
     have hcc:=g.rows.cell 4 (by omega) (by omega)
     have hff:=g.rows.froz 4 (by omega) (by omega)
     have how6:=g.rows.own 4 (by omega) (by omega)
     have HS:=z8 (hY6.side HX.out g)
     have HG:=z8 (g.mono hY6.sub)
     have HX6:=z8 (hY6.fr.lt HX.out)
     have HF6:=z8 hY6.fr
     have hl:sv.L.length<100000:=hl
     clear g hY6
     go_wp2_with (at_builtin;go_must (refine wpList_append_lies _ rfl (.tmp 48) (.tmp 53) 50 rfl (b+1) 160 i1 _ 7 80 Tryz.underlying50 hi1 hy0 hy1 hy2 rfl (by omega) (V 4) sv.L.length _ rfl (how6.alloc _) ⟨w6.heap.size,0,none⟩ 1 1 (Lc.cells ⟨2,⟨#[]⟩,-1,-1,st.at_,pk s st.at_ st.bad - 48,il⟩ (.slice (some ⟨g5,0,none⟩) il.length cap5)) rfl rfl ?news2 ?one2 (by omega) ?mm2 ?bys2 ?base2 (w6.heap.size+1) (by simp) ?rest2))
     case news2=>exact World.news_of_block (heap_alloc_new w6 _)
     case one2=>
      intro x hx
      simp [Lc.cells] at hx
      rcases hx with rfl|rfl|rfl|rfl|rfl|rfl<;>rfl
     case mm2=>unfold maxLen;omega
     case bys2=>omega
     case base2=>simp;omega
     case rest2=>
      intro gb cap w7 hown hgrow hat hlt2
      have hg:=zW (World.grownBy_alloc w6 _ _) hgrow
      obtain⟨k1,k2,hfr⟩:=HG.out.grown (o:=4) (by omega) (by omega) hg HX6.out
      have hI7:=HG.out.pushL ⟨2,⟨#[]⟩,-1,-1,st.at_,pk s st.at_ st.bad - 48,il⟩ _ HS.out hown hg (fun k e=>by
       have:gb=k:=by simpa [Value.ownBlock] using e
       subst this
       exact hat.imp id fun e=>by omega) HX6.out
      have hfr:=hfr (.slice (some ⟨gb,0,none⟩) (sv.L.length+1) cap)
      clear hgrow hat hown hg how6
      go_wp2_with fail
      go_ret
      exact⟨by simp [sgn,St.put],hI7,HF6.out.trans hfr⟩
    ·rw [hc,if_pos rfl] at hm'
     have hc:(pk s sv.at_ sv.bad==44)=true:=hc
     obtain⟨⟨r2,st2⟩,h2,h3⟩:=zgD.1 hm'
     have HH:=z8 (zgI h2 h3)
     clear hm' h2 h3
     go_wp2_with (first|(go_at_call 78;refine(zn _ _ _ _ _ hrd).mono ?_;rintro e w2 ⟨rfl,n2,rfl⟩)|(go_at_call 114;refine(zP b _ s _ _ _ (by exact hrd.drewN _) (by decide)).mono ?_;rintro e w6 ⟨rfl,hr6,hs6⟩))
     have hY6:=(hY.drewN n2).sc hr6 hs6
     refine(IH.out k (by omega) Y b _ _ r2 st2 HH.out.1 hY6.inv hY6.lt).mono ?_
     rintro e w7 ⟨rfl,hI7,hF7⟩
     have hY7:=hY6.call hI7 hF7
     clear hY hr6 hs6 hrd hc hY6 hI7 hF7
     have how7:=hY7.own
     have hbl7:=hY7.inv.lt
     go_wp2_with (at_builtin;go_must (refine wpList_append_lies _ rfl (.tmp 37) (.tmp 39) 60 rfl (b+1) 3 i0 _ 1 8 Tryz.underlying60 hi hz0 hz1 hz2 rfl (by omega) _ il.length _ rfl (how7.alloc _) ⟨w7.heap.size,0,none⟩ 1 1 [.int .i64 r2] rfl rfl ?news3 ?one3 (by omega) ?mm3 ?bys3 ?base3 (w7.heap.size+1) (by simp) ?rest3))
     case news3=>exact World.news_of_block (heap_alloc_new w7 _)
     case one3=>intro u hu;simp at hu;subst hu;rfl
     case mm3=>unfold maxLen;omega
     case bys3=>omega
     case base3=>simp;omega
     case rest3=>
      intro gb cap w8 hown hgrow hat hlt2
      have hH:=hY7.grown hown (zW (World.grownBy_alloc w7 _ _) hgrow) (fun k e=>by
       have:gb=k:=by simpa [Value.ownBlock] using e
       subst this
       exact hat.imp id fun e=>by omega) HX.out
      clear hgrow hat hown how7 hY7 hlt2 hbl7
      go_wp2_with fail
      go_roundg k
      case measure=>omega
      case rel=>exact⟨by omega,il++[r2],st2,by simp,HH.out.2,_,by simpa using hH⟩
def zfz (s:zgS)(n:Nat):Prop:= ∀(X:Nat→Prop) (b:Nat) (st:St) (w:World) (r:Int) (c:Cl) (st':St),MC s n 1 [] st=some (r,c,st')→Inv X w b s st→(∀k,X k→k<w.heap.size)→
  Calls Tryz.prog 178 #[.pointer (some ⟨b,0,none⟩)] w fun e w'=>e= .returned (.agg #[.int .i64 c.test,.int .i64 c.form,.string c.result,.int .i64 c.inner])∧Inv X w' b s st'∧Fr X w w'
def zfD (s:zgS)(n:Nat):Prop:= ∀(X:Nat→Prop) (b:Nat) (st:St) (w:World) (r:Int) (c:Cl) (st':St),MC s n 0 [] st=some (r,c,st')→Inv X w b s st→(∀k,X k→k<w.heap.size)→
  Calls Tryz.prog 162 #[.pointer (some ⟨b,0,none⟩)] w fun e w'=>e= .returned (.int .i64 r)∧Inv X w' b s st'∧Fr X w w'
theorem zfl {w:World}{g:Nat}{a b c d:Value}{t:TypeId}(h:w.heap[g]?=some (.cells #[a,b,c,d] t)):
  w.cell? ⟨g,0,none⟩=some a∧w.cell? ⟨g,1,none⟩=some b∧w.cell? ⟨g,2,none⟩=some c∧w.cell? ⟨g,3,none⟩=some d∧(∀o,w.frozen? ⟨g,o,none⟩=false):=by
 simp [World.cell?,World.frozen?,h]
theorem z78 (s:zgS)(n:Nat)(ihe:OKE s 73 0 n)(ihc:zfD s n):zfz s (n+1):=by
 intro X b st w r c st' hM hI hX
 rw [zai] at hM
 obtain⟨⟨r1,st1⟩,h1,h2⟩:=zgD.1 hM
 obtain⟨⟨r2,st2⟩,h3,h4⟩:=zgD.1 h2
 obtain⟨hl,h6⟩:=zj h3
 cases h6
 have H1:=z8 h1
 have H4:=z8 h4
 clear hM h1 h2 h3 h4
 have hrd:=hI.rd
 have hblt:=hI.lt
 have hnew:w.heap.size≠b:=by omega
 have hIa:=hI.allocX (.cells #[.int .i64 0,.int .i64 0,.string ⟨#[]⟩,.int .i64 0] 156)
 have hbx:(w.alloc (.cells #[.int .i64 0,.int .i64 0,.string ⟨#[]⟩,.int .i64 0] 156)).heap[w.heap.size]?=some (.cells #[.int .i64 0,.int .i64 0,.string ⟨#[]⟩,.int .i64 0] 156):=heap_alloc_new w _
 have hFa:=(Fr.refl X w).alloc hX (.cells #[.int .i64 0,.int .i64 0,.string ⟨#[]⟩,.int .i64 0] 156)
 have hXa: ∀k,(X k∨k=w.heap.size)→k<(w.alloc (.cells #[.int .i64 0,.int .i64 0,.string ⟨#[]⟩,.int .i64 0] 156)).heap.size:=fun k y=>by
  rcases y with y|y
  ·have:=hX k y;simp;omega
  ·simp;omega
 have HB:=z8 hbx
 have HFa:=z8 hFa
 have HXa:=z8 hXa
 have HX:=z8 hX
 clear hbx hFa hXa hX
 obtain⟨c0,c1,c2,f1,f2,_,_⟩:=id hrd
 go_enter Tryz.func178,Tryz.ntmps178
 go_wp2_with fail
 refine(ihe _ b _ _ r1 st1 H1.out hIa HXa.out).mono ?_
 rintro e w1 ⟨rfl,hI1,hF1⟩
 go_wp2_with fail
 refine(z6y _ b s st1 _ _ _ hI1 (hF1.lt HXa.out) hl).mono ?_
 rintro e w2 ⟨rfl,hI2,hF2⟩
 have hrd2:=hI2.rd
 have hF12:=hF1.trans hF2
 have hb2:=(hF12.block w.heap.size (.inr rfl)).trans HB.out
 have HF02:=z8 (HFa.out.trans (hF12.mono fun k x=> .inl x))
 have HX2:=z8 (hF12.lt HXa.out)
 have hng:Hid (¬X w.heap.size):=z8 fun x=>absurd (HX.out _ x) (Nat.lt_irrefl _)
 clear hI hIa hI1 hF1 hF2 hF12 hrd c0 c1 c2 f1 f2
 have h4:=H4.out
 clear H4
 cases har:zz s st1.at_ st1.bad
 ·rw [har,if_pos (by decide)] at h4
  simp only [Option.some.injEq,Prod.mk.injEq] at h4
  obtain⟨rfl,rfl,rfl⟩:=h4
  obtain⟨b0,b1,b2,b3,bf⟩:=zfl hb2
  clear hb2
  go_wp2_with (go_at_call 186;refine(z22 b _ s _ _ hrd2).mono ?_;rintro e w3 ⟨rfl,n3,rfl⟩)
  have hbel:=hI2.nob
  refine bodyPost_ret (v:= .agg #[.int .i64 st1.E.length,.int .i64 0,.string ⟨#[]⟩,.int .i64 (-1)]) (by simp [results,Tryz.results178,go_sem,b0,b1,b2,b3]) rfl ⟨rfl,?_,?_⟩
  ·exact(((((hI2.drewN _).setCell (.inr rfl) _).setCell (.inr rfl) _).setCell (.inr rfl) _).setCell (.inr rfl) _).mono fun k x=> .inl x
  ·exact((((HF02.out.drewN _).setCell hng.out _).setCell hng.out _).setCell hng.out _).setCell hng.out _
 ·rw [har,if_neg (by decide)] at h4
  have h4':(if pkS s (sgn s [45,62] {st1 with E:=st1.E++[⟨7,st.at_,⟨#[]⟩,r1,-1⟩]})==123 then(MC s n 0 [] (sgn s [123] (sgn s [45,62] {st1 with E:=st1.E++[⟨7,st.at_,⟨#[]⟩,r1,-1⟩]}))).bind fun v=>some (0,(⟨st1.E.length,2,⟨#[]⟩,v.1⟩:Cl),sgn s [125] v.2.2)
    else some (0,⟨st1.E.length,1,(zw s (sgn s [45,62] {st1 with E:=st1.E++[⟨7,st.at_,⟨#[]⟩,r1,-1⟩]}).at_ (sgn s [45,62] {st1 with E:=st1.E++[⟨7,st.at_,⟨#[]⟩,r1,-1⟩]}).bad).2.2,-1⟩,(sgn s [45,62] {st1 with E:=st1.E++[⟨7,st.at_,⟨#[]⟩,r1,-1⟩]}).put3 (zw s (sgn s [45,62] {st1 with E:=st1.E++[⟨7,st.at_,⟨#[]⟩,r1,-1⟩]}).at_ (sgn s [45,62] {st1 with E:=st1.E++[⟨7,st.at_,⟨#[]⟩,r1,-1⟩]}).bad)))=some (r,c,st'):=h4
  have H4:=z8 h4'
  clear h4 h4'
  go_wp2_with (go_at_call 186;refine(z22 b _ s _ _ hrd2).mono ?_;rintro e w3 ⟨rfl,n3,rfl⟩)
  refine(zP b _ s _ _ _ (by exact hrd2.drewN _) (by decide)).mono ?_
  rintro e w4 ⟨rfl,hr4,hs4⟩
  have hI4:=(hI2.drewN n3).sc hr4 hs4
  have hF24:=((Fr.refl (fun k=>X k∨k=w.heap.size) w2).drewN n3).trans (hs4.fr hI2.nob)
  have hI4:Inv (fun k=>X k∨k=w.heap.size) w4 b s (sgn s [45,62] {st1 with E:=st1.E++[⟨7,st.at_,⟨#[]⟩,r1,-1⟩]}):=hI4
  have hb4:=(hF24.block w.heap.size (.inr rfl)).trans hb2
  have HF04:=z8 (HF02.out.trans (hF24.mono fun k x=> .inl x))
  have HX4:=z8 (hF24.lt HX2.out)
  have h4:=H4.out
  clear H4 hr4 hs4 hI2 hF24 hb2 HF02 HX2 hrd2 har
  generalize sgn s [45,62] {st1 with E:=st1.E++[⟨7,st.at_,⟨#[]⟩,r1,-1⟩]}=u at*
  have hrd4:=hI4.rd
  cases hc:(pkS s u==123)
  ·rw [hc,if_neg (by decide)] at h4
   have hc:(pk s u.at_ u.bad==123)=false:=hc
   simp only [Option.some.injEq,Prod.mk.injEq] at h4
   obtain⟨rfl,rfl,rfl⟩:=h4
   go_wp2_with (go_at_call 78;refine(zn b _ s _ _ hrd4).mono ?_;rintro e w5 ⟨rfl,n5,rfl⟩)
   refine(z2y b _ s _ _ (by exact hrd4.drewN _)).mono ?_
   rintro e w6 ⟨rfl,hr6,hs6⟩
   have hI6:=(hI4.drewN n5).sc hr6 hs6
   have hF46:=((Fr.refl (fun k=>X k∨k=w.heap.size) w4).drewN n5).trans (hs6.fr hI4.nob)
   obtain⟨b0,b1,b2,b3,bf⟩:=zfl ((hF46.block w.heap.size (.inr rfl)).trans hb4)
   have HF06:=z8 (HF04.out.trans (hF46.mono fun k x=> .inl x))
   clear hb4 hr6 hs6 hF46 hrd4 hI4
   go_wp2_with fail
   refine bodyPost_ret (v:= .agg #[.int .i64 st1.E.length,.int .i64 1,.string (zw s u.at_ u.bad).2.2,.int .i64 (-1)]) (by simp [results,Tryz.results178,go_sem,b0,b1,b2,b3]) rfl ⟨rfl,?_,?_⟩
   ·exact(((((hI6).setCell (.inr rfl) _).setCell (.inr rfl) _).setCell (.inr rfl) _).setCell (.inr rfl) _).mono fun k x=> .inl x
   ·exact((((HF06.out).setCell hng.out _).setCell hng.out _).setCell hng.out _).setCell hng.out _
  ·rw [hc,if_pos rfl] at h4
   have hc:(pk s u.at_ u.bad==123)=true:=hc
   obtain⟨⟨r5,c5,st5⟩,h5,h6⟩:=zgD.1 h4
   simp only [Option.some.injEq,Prod.mk.injEq] at h6
   obtain⟨rfl,rfl,rfl⟩:=h6
   have H5:=z8 h5
   clear h4 h5
   go_wp2_with (go_at_call 78;refine(zn b _ s _ _ hrd4).mono ?_;rintro e w5 ⟨rfl,n5,rfl⟩)
   refine(zP b _ s _ _ _ (by exact hrd4.drewN _) (by decide)).mono ?_
   rintro e w6 ⟨rfl,hr6,hs6⟩
   have hI6:=(hI4.drewN n5).sc hr6 hs6
   have hF46:=((Fr.refl (fun k=>X k∨k=w.heap.size) w4).drewN n5).trans (hs6.fr hI4.nob)
   have HF06:=z8 (HF04.out.trans (hF46.mono fun k x=> .inl x))
   have hb6:=(hF46.block w.heap.size (.inr rfl)).trans hb4
   go_wp2_with fail
   refine(ihc _ b _ _ r5 c5 st5 H5.out hI6 (hF46.lt HX4.out)).mono ?_
   rintro e w7 ⟨rfl,hI7,hF7⟩
   have hrd7:=hI7.rd
   clear hr6 hs6 hI6 hI4 hrd4 hb4
   go_wp2_with fail
   refine(zP b _ s _ _ _ hrd7 (by decide)).mono ?_
   rintro e w8 ⟨rfl,hr8,hs8⟩
   have hI8:=hI7.sc hr8 hs8
   have hF8:=hF7.trans (hs8.fr hI7.nob)
   obtain⟨b0,b1,b2,b3,bf⟩:=zfl ((hF8.block w.heap.size (.inr rfl)).trans hb6)
   have HF08:=z8 (HF06.out.trans (hF8.mono fun k x=> .inl x))
   clear hb6 hr8 hs8 hF8 hrd7 hI7 hF7 hF46
   go_wp2_with fail
   refine bodyPost_ret (v:= .agg #[.int .i64 st1.E.length,.int .i64 2,.string ⟨#[]⟩,.int .i64 r5]) (by simp [results,Tryz.results178,go_sem,b0,b1,b2,b3]) rfl ⟨rfl,?_,?_⟩
   ·exact(((((hI8).setCell (.inr rfl) _).setCell (.inr rfl) _).setCell (.inr rfl) _).setCell (.inr rfl) _).mono fun k x=> .inl x
   ·exact((((HF08.out).setCell hng.out _).setCell hng.out _).setCell hng.out _).setCell hng.out _
end Go.Proofs.YtkoohcilbpdgeaaGreatDoor
