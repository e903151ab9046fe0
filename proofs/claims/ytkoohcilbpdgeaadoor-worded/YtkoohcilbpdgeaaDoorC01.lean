import Derived.WalkKit
import Derived.WalkSpells
import Derived.WalkLawsBesides
import Derived.Deep.QuietTactic
import Derived.BigQuiet
import Derived.Deep.AppendLies
import Derived.Test.YtkoohcilbpdgeaaDoorProg
import Derived.Deep.RegionLaw
import Derived.Deep.LoopGhost
set_option linter.all false
set_option linter.unusedVariables false
set_option linter.unusedSimpArgs false
set_option linter.unnecessarySimpa false
set_option linter.constructorNameAsVariable false
set_option linter.deprecated false
set_option maxRecDepth 100000
set_option maxHeartbeats 6400000
namespace Go.Proofs.YtkoohcilbpdgeaaDoor
open Go Go.RowKit
abbrev z6A:=@Option.bind_eq_some_iff
abbrev z6B:=@List.getElem?_eq_getElem
abbrev z6C:=@List.getElem?_eq_some_iff
abbrev z6D:=@ByteArray.toList_eq
abbrev z6E:=@Nat.le_refl
abbrev z6F:=@And.intro
abbrev z6G:=@Below.heap_alloc
abbrev z6H:=@List.drop_of_length_le
abbrev z6I:=@List.drop_eq_getElem_cons
abbrev z6J:=@List.mem_of_getElem?
abbrev z6K:=@Nat.lt_of_lt_of_le
abbrev z6L:=@Nat.zero_le
abbrev z6M:=@Nat.le_trans
abbrev z6N:=@Below.heap_setCell
abbrev z6O:=@Below.refl
abbrev z6P:=ByteArray
def pk (s:z6P)(a:Nat)(d:Bool):Int:=if d then -1 else if h:a<s.size then(s[a].toNat:Int) else -1
structure Rd (w:World)(b:Nat)(s:z6P)(a:Nat)(d:Bool):Prop where
 c0:w.cell? ⟨b,0,none⟩=some (.string s)
 c1:w.cell? ⟨b,1,none⟩=some (.int .i64 a)
 c2:w.cell? ⟨b,2,none⟩=some (.bool d)
 f1:w.frozen? ⟨b,1,none⟩=false
 f2:w.frozen? ⟨b,2,none⟩=false
 le:a≤s.size
 sz:s.size≤600
structure Sc (b:Nat)(w w':World):Prop where
 os:w'.os=w.os
 tape:w'.tape=w.tape
 output:w'.output=w.output
 size:w'.heap.size=w.heap.size
 block: ∀k,k≠b→w'.heap[k]?=w.heap[k]?
 cell: ∀o,o≠1→o≠2→w'.cell? ⟨b,o,none⟩=w.cell? ⟨b,o,none⟩
 frozen: ∀o,w'.frozen? ⟨b,o,none⟩=w.frozen? ⟨b,o,none⟩
theorem Sc.refl (b:Nat)(w:World):Sc b w w:=⟨rfl,rfl,rfl,rfl,fun _ _=>rfl,fun _ _ _=>rfl,fun _=>rfl⟩
theorem Sc.trans {b:Nat}{u v w:World}(h:Sc b u v)(k:Sc b v w):Sc b u w:=
 ⟨k.os.trans h.os,k.tape.trans h.tape,k.output.trans h.output,k.size.trans h.size,fun i hi=>(k.block i hi).trans (h.block i hi),
  fun o h1 h2=>(k.cell o h1 h2).trans (h.cell o h1 h2),fun o=>(k.frozen o).trans (h.frozen o)⟩
theorem Sc.drewN {b:Nat}{u w:World}(h:Sc b u w)(n:Nat):Sc b u (w.drewN n):=⟨h.os,h.tape,h.output,h.size,h.block,h.cell,h.frozen⟩
theorem zu (w:World)(b o p:Nat)(v:Value)(h:p≠o):(w.setCell ⟨b,o,none⟩ v).cell? ⟨b,p,none⟩=w.cell? ⟨b,p,none⟩:=
 World.cell?_setCell_other _ _ _ _ (fun e=>h (by injection e with _ e2;exact e2.symm))
theorem Sc.setCell {b:Nat}{u w:World}(h:Sc b u w)(o:Nat)(ho:o=1∨o=2)(v:Value):Sc b u (w.setCell ⟨b,o,none⟩ v):=
 h.trans ⟨rfl,rfl,rfl,by simp [World.setCell],fun k hk=>z6N _ _ _ _ hk,
  fun p h1 h2=>zu w b o p v (by omega),fun p=>World.frozen?_setCell _ _ _ _⟩
theorem Rd.drewN {w:World}{b:Nat}{s:z6P}{a:Nat}{d:Bool}(h:Rd w b s a d)(n:Nat):Rd (w.drewN n) b s a d:=⟨h.c0,h.c1,h.c2,h.f1,h.f2,h.le,h.sz⟩
theorem Rd.setAt {w:World}{b:Nat}{s:z6P}{a:Nat}{d:Bool}(h:Rd w b s a d)(a':Nat)(ha:a'≤s.size):Rd (w.setCell ⟨b,1,none⟩ (.int .i64 a')) b s a' d:=
 ⟨(zu _ _ _ _ _ (by omega)).trans h.c0,World.cell?_setCell_same _ _ _ h.c1,(zu _ _ _ _ _ (by omega)).trans h.c2,
  (World.frozen?_setCell _ _ _ _).trans h.f1,(World.frozen?_setCell _ _ _ _).trans h.f2,ha,h.sz⟩
theorem Rd.setAt' {w:World}{b:Nat}{s:z6P}{a:Nat}{d:Bool}(h:Rd w b s a d)(a':Nat)(x:Int)(hx:x=(a':Int))(ha:a'≤s.size):Rd (w.setCell ⟨b,1,none⟩ (.int .i64 x)) b s a' d:=by
 rw [hx];exact h.setAt a' ha
theorem Rd.setBad {w:World}{b:Nat}{s:z6P}{a:Nat}{d:Bool}(h:Rd w b s a d)(d':Bool):Rd (w.setCell ⟨b,2,none⟩ (.bool d')) b s a d':=
 ⟨(zu _ _ _ _ _ (by omega)).trans h.c0,(zu _ _ _ _ _ (by omega)).trans h.c1,World.cell?_setCell_same _ _ _ h.c2,
  (World.frozen?_setCell _ _ _ _).trans h.f1,(World.frozen?_setCell _ _ _ _).trans h.f2,h.le,h.sz⟩
theorem z6 {p:Prop}(h:p):Hid p:=h
theorem wrap64_byte (c:UInt8):wrap64 (c.toNat:Int)=c.toNat:=by
 have:=c.toNat_lt
 unfold wrap64
 omega
def atOf (w:World)(b:Nat):Nat:=match w.cell? ⟨b,1,none⟩ with|some (.int _ n)=>n.toNat|_=>0
theorem Rd.atOf {w:World}{b:Nat}{s:z6P}{a:Nat}{d:Bool}(h:Rd w b s a d):atOf w b=a:=by
 unfold YtkoohcilbpdgeaaDoor.atOf
 rw [h.c1]
 simp
theorem jQ {s:z6P}{a:Nat}{d:Bool}(h:pk s a d≠ -1):d=false∧a<s.size:=by
 unfold pk at h
 cases d with
 |true=>exact absurd rfl h
 |false=>
  refine⟨rfl,?_⟩
  by_cases hl:a<s.size
  ·exact hl
  ·simp [hl] at h
theorem z0L (s:z6P)(a:Nat)(d:Bool): -1≤pk s a d∧pk s a d≤255:=by
 unfold pk
 split
 ·omega
 ·split
  ·have:=(s[a]).toNat_lt;omega
  ·omega
def run (p:Int→Bool)(s:z6P)(d:Bool):Nat→Nat→Nat
 |0,a=>a
 |k+1,a=>if p (pk s a d) then run p s d k (a+1) else a
def z2F (c:Int):Bool:=c==32
def zr (c:Int):Bool:=decide (97≤c)&&decide (c≤122)||decide (65≤c)&&decide (c≤90)
def zc (c:Int):Bool:=decide (48≤c)&&decide (c≤57)
def zi (c:Int):Bool:=(c != -1)&&(c !=34)&&(c !=10)
def skip (s:z6P)(a:Nat)(d:Bool):Nat:=run z2F s d (s.size - a) a
theorem z25 (p:Int→Bool)(hp:p (-1)=false)(s:z6P)(d:Bool): ∀k a,a≤s.size→a≤run p s d k a∧run p s d k a≤s.size:=by
 intro k
 induction k with
 |zero=>intro a h;exact⟨z6E _,h⟩
 |succ k ih=>
  intro a h
  unfold run
  by_cases hc:p (pk s a d)
  ·rw [if_pos hc]
   have hl:pk s a d≠ -1:=fun e=>by rw [e,hp] at hc;cases hc
   have:=ih (a+1) (jQ hl).2
   omega
  ·rw [if_neg hc];omega
theorem z1P {s:z6P}{a:Nat}{d:Bool}(h:a≤s.size):a≤skip s a d∧skip s a d≤s.size:=z25 _ (by decide) s d _ a h
theorem z0f {s:z6P}{a:Nat}{d:Bool}(h:pk s a d=32):skip s (a+1) d=skip s a d:=by
 have hl:=(jQ (s:=s) (a:=a) (d:=d) (by omega)).2
 unfold skip
 obtain⟨k,hk⟩: ∃k,s.size - a=k+1:=⟨s.size - a - 1,by omega⟩
 rw [hk,show s.size -(a+1)=k by omega]
 conv=>rhs;unfold run
 rw [if_pos (by simp [z2F,h])]
theorem zx {s:z6P}{a:Nat}{d:Bool}(h:pk s a d≠32):skip s a d=a:=by
 unfold skip
 cases hk:s.size - a with
 |zero=>rfl
 |succ k=>unfold run;rw [if_neg (by simp [z2F,h])]
def zm (s:z6P)(d:Bool):List UInt8→Nat→Nat×Bool
 |[],a=>(a,d)
 |c::cs,a=>if pk s a d=(c.toNat:Int) then zm s d cs (a+1) else(a,true)
theorem z0j (s:z6P)(d:Bool): ∀l a,a≤s.size→a≤(zm s d l a).1∧(zm s d l a).1≤s.size:=by
 intro l
 induction l with
 |nil=>intro a h;exact⟨z6E _,h⟩
 |cons c cs ih=>
  intro a h
  unfold zm
  by_cases hc:pk s a d=(c.toNat:Int)
  ·rw [if_pos hc]
   have:=ih (a+1) (jQ (s:=s) (a:=a) (d:=d) (by omega)).2
   omega
  ·rw [if_neg hc];exact⟨z6E _,h⟩
theorem j8 {s:z6P}{d:Bool}{c:UInt8}{cs:List UInt8}{a:Nat}(h:pk s a d=(c.toNat:Int)):zm s d (c::cs) a=zm s d cs (a+1):=by
 unfold zm;rw [if_pos h];cases cs<;>rfl
theorem z0q {s:z6P}{d:Bool}{c:UInt8}{cs:List UInt8}{a:Nat}(h:pk s a d≠(c.toNat:Int)):zm s d (c::cs) a=(a,true):=by
 unfold zm;rw [if_neg h]
def j7 (s:z6P)(d:Bool)(l:List UInt8)(a:Nat):Nat×Bool:=(skip s (zm s d l a).1 (zm s d l a).2,(zm s d l a).2)
theorem z0u (s:z6P)(d:Bool)(l:List UInt8)(a:Nat)(h:a≤s.size):a≤(j7 s d l a).1∧(j7 s d l a).1≤s.size:=by
 have:=z0j s d l a h
 have:=z1P (s:=s) (a:=(zm s d l a).1) (d:=(zm s d l a).2) this.2
 simp only [j7];omega
theorem jO (t:z6P)(k:Nat)(h:k<t.size):t.data.toList.drop k=t[k]::t.data.toList.drop (k+1):=by
 rw [z6I (by simpa using h)];rfl
theorem z32 (s:z6P)(a:Nat):skip s a true=a:=zx (by simp [pk])
def z0b (p:Int→Bool)(m:Nat)(s:z6P)(a:Nat)(d:Bool):Nat×Bool×z6P:=
 let r:=run p s d m a
 if r==a||p (pk s r d) then(r,true,⟨#[]⟩) else(skip s r d,d,s.extract a r)
def jb (p:Int→Bool)(m:Nat)(s:z6P)(a:Nat)(d:Bool):Nat×Bool×z6P:=
 let r:=run p s d m a
 if r==a||p (pk s r d) then(r,true,⟨#[]⟩) else(r,d,s.extract a r)
theorem jw {p:Int→Bool}{m:Nat}{s:z6P}{a k:Nat}{d:Bool}(hr:run p s d m a=k)(h:k=a∨p (pk s k d)=true):jb p m s a d=(k,true,⟨#[]⟩):=by
 unfold jb
 simp only [hr]
 rw [if_pos]
 rcases h with rfl|h<;>simp [*]
theorem jH {p:Int→Bool}{m:Nat}{s:z6P}{a k:Nat}{d:Bool}(hr:run p s d m a=k)(h:k≠a)(h2:p (pk s k d)=false):jb p m s a d=(k,d,s.extract a k):=by
 unfold jb
 simp only [hr]
 rw [if_neg]
 simp [*]
theorem z26 (p:Int→Bool)(m:Nat)(s:z6P)(a:Nat)(d:Bool):z0b p m s a d=(skip s (jb p m s a d).1 (jb p m s a d).2.1,(jb p m s a d).2.1,(jb p m s a d).2.2):=by
 unfold z0b jb
 simp only
 split
 ·simp only [z32]
 ·rfl
theorem z4j {p:Int→Bool}(hp:p (-1)=false){m:Nat}{s:z6P}{a:Nat}{d:Bool}(h:a≤s.size):a≤(jb p m s a d).1∧(jb p m s a d).1≤s.size:=by
 unfold jb
 simp only
 split<;>exact z25 p hp s d m a h
def zH (s:z6P)(a:Nat)(d:Bool):Nat×Bool×z6P:=jb zr 8 s a d
def zp (s:z6P)(a:Nat)(d:Bool):Nat×Bool×z6P:=jb zc (if pk s a d==48 then 1 else 9) s a d
def zK (s:z6P)(a:Nat)(d:Bool):Nat×Bool×z6P:=z0b zr 8 s a d
def zA (s:z6P)(a:Nat)(d:Bool):Nat×Bool×z6P:=z0b zc (if pk s a d==48 then 1 else 9) s a d
def zw (s:z6P)(a:Nat)(d:Bool):Nat×Bool×z6P:=
 let v:=zm s d [34] a
 let r:=run zi s v.2 12 v.1
 let g:=j7 s v.2 [34] r
 (g.1,g.2,s.extract v.1 r)
theorem jr {p:Int→Bool}{s:z6P}{d:Bool}{k a:Nat}(h:p (pk s a d)=false):run p s d k a=a:=by
 cases k with
 |zero=>rfl
 |succ k=>unfold run;rw [if_neg (by simp [h])]
theorem z1t {p:Int→Bool}{s:z6P}{d:Bool}{k a:Nat}(h:p (pk s a d)=true):run p s d (k+1) a=run p s d k (a+1):=by
 conv=>lhs;unfold run
 rw [if_pos h]
theorem z43 {p:Int→Bool}{m:Nat}{s:z6P}{a k:Nat}{d:Bool}(hr:run p s d m a=k)(h:k=a∨p (pk s k d)=true):z0b p m s a d=(k,true,⟨#[]⟩):=by
 unfold z0b
 simp only [hr]
 rw [if_pos]
 rcases h with rfl|h<;>simp [*]
theorem z5k {p:Int→Bool}{m:Nat}{s:z6P}{a k:Nat}{d:Bool}(hr:run p s d m a=k)(h:k≠a)(h2:p (pk s k d)=false):z0b p m s a d=(skip s k d,d,s.extract a k):=by
 unfold z0b
 simp only [hr]
 rw [if_neg]
 simp [*]
def jc (s:z6P)(a:Nat)(d:Bool):Bool:=(pk s a d==45)&&(pk s (a+1) false==62)
def zd (s:z6P)(a:Nat)(d:Bool):z6P:=
 if jc s a d then⟨#[]⟩ else if pk s a d==43 then⟨#[43]⟩ else if pk s a d==45 then⟨#[45]⟩ else if pk s a d==46 then⟨#[46]⟩ else⟨#[]⟩
def z8 (s:z6P)(a:Nat)(d:Bool):z6P:=
 if pk s a d==42 then⟨#[42]⟩ else if pk s a d==47 then⟨#[47]⟩ else if pk s a d==37 then⟨#[37]⟩ else⟨#[]⟩
def zl (s:z6P)(short long:z6P)(a:Nat)(d:Bool):Nat×Bool×z6P:=
 let v:=zm s d short.data.toList a
 if pk s v.1 v.2 !=61 then(skip s v.1 v.2,v.2,short) else((j7 s v.2 [61] v.1).1,(j7 s v.2 [61] v.1).2,long)
def z7 (s:z6P)(a:Nat)(d:Bool):Nat×Bool×z6P:=
 if pk s a d==61 then((j7 s d [61,61] a).1,(j7 s d [61,61] a).2,⟨#[61,61]⟩)
 else if pk s a d==33 then((j7 s d [33,61] a).1,(j7 s d [33,61] a).2,⟨#[33,61]⟩)
 else if pk s a d==60 then zl s ⟨#[60]⟩ ⟨#[60,61]⟩ a d
 else if pk s a d==62 then zl s ⟨#[62]⟩ ⟨#[62,61]⟩ a d
 else(a,d,⟨#[]⟩)
structure Ex where
 form:Int
 place:Int
 text:z6P
 left:Int
 right:Int
structure Lc where
 form:Int
 text:z6P
 left:Int
 right:Int
 place:Int
 count:Int
 items:List Int
structure Cl where
 test:Int
 form:Int
 result:z6P
 inner:Int
structure As where
 by_:z6P
 to_:Int
 conds:Int
structure St where
 at_:Nat
 bad:Bool
 A:List As
 L:List Lc
 E:List Ex
 C:List (List Cl)
def Ex.cells (x:Ex):List Value:=[.int .i64 x.form,.int .i64 x.place,.string x.text,.int .i64 x.left,.int .i64 x.right]
def Lc.cells (x:Lc)(v:Value):List Value:=[.int .i64 x.form,.string x.text,.int .i64 x.left,.int .i64 x.right,.int .i64 x.place,.int .i64 x.count,v]
def Cl.cells (x:Cl):List Value:=[.int .i64 x.test,.int .i64 x.form,.string x.result,.int .i64 x.inner]
def As.cells (x:As):List Value:=[.string x.by_,.int .i64 x.to_,.int .i64 x.conds]
def elT:Nat→Nat|3=>113|4=>115|5=>55|_=>118
def szT:Nat→Nat|3=>3|4=>7|5=>5|_=>1
def upd {α:Type}(f:Nat→α)(o:Nat)(v:α):Nat→α:=fun i=>if i=o then v else f i
theorem jq {α:Type}(f:Nat→α)(o:Nat)(v:α):upd f o v o=v:=if_pos rfl
theorem j0 {α:Type}(f:Nat→α){o i:Nat}(v:α)(h:i≠o):upd f o v i=f i:=if_neg h
structure Rows4 (X:Nat→Prop)(w:World)(b:Nat)(V:Nat→Value)(n:Nat→Nat)(xs:Nat→List Value):Prop where
 cell: ∀o,3≤o→o≤6→w.cell? ⟨b,o,none⟩=some (V o)
 froz: ∀o,3≤o→o≤6→w.frozen? ⟨b,o,none⟩=false
 own: ∀o,3≤o→o≤6→w.ownsRow (b+1) (elT o) (szT o) (V o) (n o) (xs o)
 apart: ∀o p k,3≤o→o≤6→3≤p→p≤6→o≠p→(V o).ownBlock=some k→(V p).ownBlock≠some k
 nob: ¬X b
 notX: ∀o k,3≤o→o≤6→(V o).ownBlock=some k→ ¬X k
structure Side (X:Nat→Prop)(w:World)(b:Nat)(V:Nat→Value)(e size:Nat)(v:Value)(n:Nat)(xs:List Value):Prop where
 own:w.ownsRow (b+1) e size v n xs
 notX: ∀k,v.ownBlock=some k→ ¬X k
 apart: ∀o k,3≤o→o≤6→v.ownBlock=some k→(V o).ownBlock≠some k
theorem ze {w w':World}{base e size n:Nat}{v:Value}{xs:List Value}(h:w.ownsRow base e size v n xs)(hk: ∀k,v.ownBlock=some k→w'.heap[k]?=w.heap[k]?):w'.ownsRow base e size v n xs:=by
 refine⟨h.1,?_⟩
 rcases h.2 with hn|⟨g,cap,cur,rfl,hb,hg,r⟩
 ·exact .inl hn
 ·exact .inr ⟨g,cap,cur,rfl,hb,by rw [hk g rfl];exact hg,r⟩
theorem zC {w:World}{b o:Nat}{v:Value}(h:w.cell? ⟨b,o,none⟩=some v):b<w.heap.size:=World.block_lt_of_cell? w ⟨b,o,none⟩ h
theorem Rows4.lt {X:Nat→Prop}{w:World}{b:Nat}{V:Nat→Value}{n:Nat→Nat}{xs:Nat→List Value}(h:Rows4 X w b V n xs):b<w.heap.size:=zC (h.cell 3 (by omega) (by omega))
theorem Rows4.other {X:Nat→Prop}{w w':World}{b:Nat}{V:Nat→Value}{n:Nat→Nat}{xs:Nat→List Value}(h:Rows4 X w b V n xs)
  (hk: ∀k,k<w.heap.size→ ¬X k→w'.heap[k]?=w.heap[k]?):Rows4 X w' b V n xs:=
 ⟨fun o h1 h2=>(World.cell?_of_block (hk b h.lt h.nob)).trans (h.cell o h1 h2),fun o h1 h2=>(World.frozen?_of_block (hk b h.lt h.nob)).trans (h.froz o h1 h2),
  fun o h1 h2=>ze (h.own o h1 h2) fun k e=>hk k ((h.own o h1 h2).lt k e).2 (h.notX o k h1 h2 e),h.apart,h.nob,h.notX⟩
theorem Side.other {X:Nat→Prop}{w w':World}{b:Nat}{V:Nat→Value}{e size n:Nat}{v:Value}{xs:List Value}(h:Side X w b V e size v n xs)
  (hk: ∀k,k<w.heap.size→ ¬X k→w'.heap[k]?=w.heap[k]?):Side X w' b V e size v n xs:=
 ⟨ze h.own fun k e=>hk k (h.own.lt k e).2 (h.notX k e),h.notX,h.apart⟩
theorem Rows4.push {X:Nat→Prop}{w w2:World}{b:Nat}{V:Nat→Value}{n:Nat→Nat}{xs:Nat→List Value}(h:Rows4 X w b V n xs){o:Nat}(h3:3≤o)(h6:o≤6){v':Value}{n':Nat}{xs':List Value}
  (hown:w2.ownsRow (b+1) (elT o) (szT o) v' n' xs') (hg:w.grownBy w2 (V o).ownBlock) (hat: ∀k,v'.ownBlock=some k→(V o).ownBlock=some k∨w.heap.size≤k) (hX: ∀k,X k→k<w.heap.size):
  Rows4 X (w2.setCell ⟨b,o,none⟩ v') b (upd V o v') (upd n o n') (upd xs o xs'):=by
 have hbo:some b≠(V o).ownBlock:=fun e=>by have:=((h.own o h3 h6).lt b e.symm).1;omega
 have hb2:w2.heap[b]?=w.heap[b]?:=hg.block b h.lt hbo
 refine⟨fun p p3 p6=> ?_,fun p p3 p6=> ?_,fun p p3 p6=> ?_,fun p q k p3 p6 q3 q6 hpq e=> ?_,h.nob,fun p k p3 p6 e=> ?_⟩
 ·by_cases hp:p=o
  ·subst hp
   rw [jq]
   exact World.cell?_setCell_same _ _ _ ((World.cell?_of_block (w:=w) hb2).trans (h.cell p h3 h6))
  ·rw [j0 _ _ hp,zu _ _ _ _ _ hp]
   exact(World.cell?_of_block (w:=w) hb2).trans (h.cell p p3 p6)
 ·rw [World.frozen?_setCell]
  exact(World.frozen?_of_block (w:=w) hb2).trans (h.froz p p3 p6)
 ·by_cases hp:p=o
  ·subst hp
   rw [jq,jq,jq]
   exact ze hown fun k e=>z6N _ _ _ _ (by have:=(hown.lt k e).1;simp;omega)
  ·rw [j0 _ _ hp,j0 _ _ hp,j0 _ _ hp]
   refine ze (h.own p p3 p6) fun k e=> ?_
   have hl:=(h.own p p3 p6).lt k e
   rw [z6N _ _ _ _ (by simp;omega)]
   exact hg.block k hl.2 fun e2=>h.apart p o k p3 p6 h3 h6 hp e e2.symm
 ·by_cases hp:p=o
  ·subst hp
   rw [jq] at e
   rw [j0 _ _ (Ne.symm hpq)]
   rcases hat k e with e1|e1
   ·exact h.apart p q k p3 p6 q3 q6 hpq e1
   ·intro e2
    have:=((h.own q q3 q6).lt k e2).2
    omega
  ·rw [j0 _ _ hp] at e
   by_cases hq:q=o
   ·subst hq
    rw [jq]
    intro e2
    rcases hat k e2 with e1|e1
    ·exact h.apart p q k p3 p6 q3 q6 hpq e e1
    ·have:=((h.own p p3 p6).lt k e).2
     omega
   ·rw [j0 _ _ hq]
    exact h.apart p q k p3 p6 q3 q6 hpq e
 ·by_cases hp:p=o
  ·subst hp
   rw [jq] at e
   rcases hat k e with e1|e1
   ·exact h.notX p k p3 p6 e1
   ·intro x
    have:=hX k x
    omega
  ·rw [j0 _ _ hp] at e
   exact h.notX p k p3 p6 e
theorem Side.push {X:Nat→Prop}{w w2:World}{b:Nat}{V:Nat→Value}{e size n:Nat}{v:Value}{xs:List Value}(h:Side X w b V e size v n xs){o:Nat}(h3:3≤o)(h6:o≤6){v':Value}
  (hg:w.grownBy w2 (V o).ownBlock) (hat: ∀k,v'.ownBlock=some k→(V o).ownBlock=some k∨w.heap.size≤k):
  Side X (w2.setCell ⟨b,o,none⟩ v') b (upd V o v') e size v n xs:=by
 refine⟨ze h.own fun k e=> ?_,h.notX,fun p k p3 p6 e=> ?_⟩
 ·have hl:=h.own.lt k e
  rw [z6N _ _ _ _ (by simp;omega)]
  exact hg.block k hl.2 fun e2=>h.apart o k h3 h6 e e2.symm
 ·by_cases hp:p=o
  ·subst hp
   rw [jq]
   intro e2
   rcases hat k e2 with e1|e1
   ·exact h.apart p k p3 p6 e e1
   ·have:=(h.own.lt k e).2
    omega
  ·rw [j0 _ _ hp]
   exact h.apart p k p3 p6 e
def nOf (st:St):Nat→Nat|3=>st.A.length|4=>st.L.length|5=>st.E.length|_=>st.C.length
def z6k (st:St)(iv cv:List Value):Nat→List Value
 |3=>(st.A.map As.cells).flatten
 |4=>(List.zipWith Lc.cells st.L iv).flatten
 |5=>(st.E.map Ex.cells).flatten
 |_=>cv
structure InvV (X:Nat→Prop)(w:World)(b:Nat)(s:z6P)(st:St)(V:Nat→Value)(iv cv:List Value):Prop where
 rd:Rd w b s st.at_ st.bad
 rows:Rows4 X w b V (nOf st) (z6k st iv cv)
 il:iv.length=st.L.length
 cl:cv.length=st.C.length
 items: ∀(i:Nat) (l:Lc) (v:Value),st.L[i]?=some l→iv[i]?=some v→Side X w b V 3 1 v l.items.length (l.items.map (Value.int .i64))
 clauses: ∀(i:Nat) (l:List Cl) (v:Value),st.C[i]?=some l→cv[i]?=some v→Side X w b V 121 4 v l.length ((l.map Cl.cells).flatten)
def Inv (X:Nat→Prop)(w:World)(b:Nat)(s:z6P)(st:St):Prop:= ∃V iv cv,InvV X w b s st V iv cv
structure Fr (X:Nat→Prop)(w w':World):Prop where
 os:w'.os=w.os
 tape:w'.tape=w.tape
 output:w'.output=w.output
 size:w.heap.size≤w'.heap.size
 block: ∀k,X k→w'.heap[k]?=w.heap[k]?
theorem Fr.refl (X:Nat→Prop)(w:World):Fr X w w:=⟨rfl,rfl,rfl,z6E _,fun _ _=>rfl⟩
theorem Fr.trans {X:Nat→Prop}{u v w:World}(h:Fr X u v)(k:Fr X v w):Fr X u w:=
 ⟨k.os.trans h.os,k.tape.trans h.tape,k.output.trans h.output,z6M h.size k.size,fun i hi=>(k.block i hi).trans (h.block i hi)⟩
theorem Fr.mono {X Y:Nat→Prop}{w w':World}(h:Fr X w w')(hY: ∀k,Y k→X k):Fr Y w w':=⟨h.os,h.tape,h.output,h.size,fun k y=>h.block k (hY k y)⟩
theorem Fr.drewN {X:Nat→Prop}{u w:World}(h:Fr X u w)(n:Nat):Fr X u (w.drewN n):=⟨h.os,h.tape,h.output,h.size,h.block⟩
theorem Fr.alloc {X:Nat→Prop}{u w:World}(h:Fr X u w)(hX: ∀k,X k→k<w.heap.size)(o:Obj):Fr X u (w.alloc o):=
 h.trans ⟨rfl,rfl,rfl,by simp,fun k hk=>z6G _ _ _ (hX k hk)⟩
theorem Fr.setCell {X:Nat→Prop}{u w:World}(h:Fr X u w){a:Addr}(ha: ¬X a.block)(v:Value):Fr X u (w.setCell a v):=
 h.trans ⟨rfl,rfl,rfl,by simp [World.setCell],fun k hk=>z6N _ _ _ _ fun e=>ha (e▸hk)⟩
theorem Sc.fr {X:Nat→Prop}{b:Nat}{w w':World}(h:Sc b w w')(hX: ¬X b):Fr X w w':=
 ⟨h.os,h.tape,h.output,Nat.le_of_eq h.size.symm,fun k hk=>h.block k fun e=>hX (e▸hk)⟩
theorem Fr.grown {X:Nat→Prop}{u w w':World}{row:Option Nat}(h:Fr X u w)(hg:w.grownBy w' row)(hX: ∀k,X k→k<w.heap.size)(hr: ∀k,row=some k→ ¬X k):Fr X u w':=
 h.trans ⟨hg.os,hg.tape,hg.output,hg.size,fun k hk=>hg.block k (hX k hk) fun e=>hr k e.symm hk⟩
theorem Inv.rd {X:Nat→Prop}{w:World}{b:Nat}{s:z6P}{st:St}(h:Inv X w b s st):Rd w b s st.at_ st.bad:=let ⟨_,_,_,g⟩:=h;g.rd
theorem Inv.nob {X:Nat→Prop}{w:World}{b:Nat}{s:z6P}{st:St}(h:Inv X w b s st): ¬X b:=let ⟨_,_,_,g⟩:=h;g.rows.nob
theorem Inv.lt {X:Nat→Prop}{w:World}{b:Nat}{s:z6P}{st:St}(h:Inv X w b s st):b<w.heap.size:=let ⟨_,_,_,g⟩:=h;g.rows.lt
theorem Rd.other {w w':World}{b:Nat}{s:z6P}{a:Nat}{d:Bool}(h:Rd w b s a d)(hb:w'.heap[b]?=w.heap[b]?):Rd w' b s a d:=
 ⟨(World.cell?_of_block (w:=w) hb).trans h.c0,(World.cell?_of_block (w:=w) hb).trans h.c1,(World.cell?_of_block (w:=w) hb).trans h.c2,
  (World.frozen?_of_block (w:=w) hb).trans h.f1,(World.frozen?_of_block (w:=w) hb).trans h.f2,h.le,h.sz⟩
theorem Inv.other {X:Nat→Prop}{w w':World}{b:Nat}{s:z6P}{st:St}(h:Inv X w b s st)(hk: ∀k,k<w.heap.size→ ¬X k→w'.heap[k]?=w.heap[k]?):Inv X w' b s st:=by
 obtain⟨V,iv,cv,g⟩:=h
 exact⟨V,iv,cv,g.rd.other (hk b g.rows.lt g.rows.nob),g.rows.other hk,g.il,g.cl,fun i l v h1 h2=>(g.items i l v h1 h2).other hk,fun i l v h1 h2=>(g.clauses i l v h1 h2).other hk⟩
theorem Inv.drewN {X:Nat→Prop}{w:World}{b:Nat}{s:z6P}{st:St}(h:Inv X w b s st)(n:Nat):Inv X (w.drewN n) b s st:=h.other fun _ _ _=>rfl
theorem Inv.sc {X:Nat→Prop}{w w':World}{b:Nat}{s:z6P}{st:St}(h:Inv X w b s st){a:Nat}{d:Bool}(hr:Rd w' b s a d)(hs:Sc b w w'):Inv X w' b s {st with at_:=a,bad:=d}:=by
 obtain⟨V,iv,cv,g⟩:=h
 have hside: ∀{e size n:Nat} {v:Value} {xs:List Value},Side X w b V e size v n xs→Side X w' b V e size v n xs:=fun{e size n v xs} q=>
  ⟨ze q.own fun k e=>hs.block k (by have:=(q.own.lt k e).1;omega),q.notX,q.apart⟩
 refine⟨V,iv,cv,hr,⟨fun o h3 h6=>(hs.cell o (by omega) (by omega)).trans (g.rows.cell o h3 h6),fun o h3 h6=>(hs.frozen o).trans (g.rows.froz o h3 h6),
  fun o h3 h6=> ?_,g.rows.apart,g.rows.nob,g.rows.notX⟩,g.il,g.cl,fun i l v h1 h2=>hside (g.items i l v h1 h2),fun i l v h1 h2=>hside (g.clauses i l v h1 h2)⟩
 have:=ze (g.rows.own o h3 h6) (w':=w') fun k e=>hs.block k (by have:=((g.rows.own o h3 h6).lt k e).1;omega)
 exact this
theorem Rd.setRow {w:World}{b:Nat}{s:z6P}{a:Nat}{d:Bool}(h:Rd w b s a d)(o:Nat)(h3:3≤o)(v:Value):Rd (w.setCell ⟨b,o,none⟩ v) b s a d:=
 ⟨(zu _ _ _ _ _ (by omega)).trans h.c0,(zu _ _ _ _ _ (by omega)).trans h.c1,(zu _ _ _ _ _ (by omega)).trans h.c2,
  (World.frozen?_setCell _ _ _ _).trans h.f1,(World.frozen?_setCell _ _ _ _).trans h.f2,h.le,h.sz⟩
section
variable {X:Nat→Prop} {w w2:World} {b:Nat} {s:z6P} {st:St} {V:Nat→Value} {iv cv:List Value}
theorem InvV.rd2 (g:InvV X w b s st V iv cv){o:Nat}(h3:3≤o)(h6:o≤6)(hg:w.grownBy w2 (V o).ownBlock)(v':Value):Rd (w2.setCell ⟨b,o,none⟩ v') b s st.at_ st.bad:=
 (g.rd.other (hg.block b g.rows.lt fun e=>by have:=((g.rows.own o h3 h6).lt b e.symm).1;omega)).setRow o h3 v'
theorem Rows4.congr {X:Nat→Prop}{w:World}{b:Nat}{V:Nat→Value}{n n':Nat→Nat}{xs xs':Nat→List Value}(h:Rows4 X w b V n xs)(hn: ∀o,3≤o→o≤6→n' o=n o)(hx: ∀o,3≤o→o≤6→xs' o=xs o):Rows4 X w b V n' xs':=
 ⟨h.cell,h.froz,fun o h3 h6=>by rw [hn o h3 h6,hx o h3 h6];exact h.own o h3 h6,h.apart,h.nob,h.notX⟩
theorem InvV.pushE (g:InvV X w b s st V iv cv)(x:Ex){v':Value}(hown:w2.ownsRow (b+1) 55 5 v' (st.E.length+1) ((st.E.map Ex.cells).flatten++x.cells))
  (hg:w.grownBy w2 (V 5).ownBlock) (hat: ∀k,v'.ownBlock=some k→(V 5).ownBlock=some k∨w.heap.size≤k) (hX: ∀k,X k→k<w.heap.size):
  Inv X (w2.setCell ⟨b,5,none⟩ v') b s {st with E:=st.E++[x]}:=by
 refine⟨upd V 5 v',iv,cv,g.rd2 (by omega) (by omega) hg v',?_,g.il,g.cl,fun i l v h1 h2=>(g.items i l v h1 h2).push (by omega) (by omega) hg hat,fun i l v h1 h2=>(g.clauses i l v h1 h2).push (by omega) (by omega) hg hat⟩
 refine(g.rows.push (o:=5) (by omega) (by omega) hown hg hat hX).congr (fun o h3 h6=> ?_) (fun o h3 h6=> ?_)
 ·match o,h3,h6 with
  |3,_,_=>rfl
  |4,_,_=>rfl
  |5,_,_=>simp [upd,nOf]
  |6,_,_=>rfl
 ·match o,h3,h6 with
  |3,_,_=>rfl
  |4,_,_=>rfl
  |5,_,_=>simp [upd,z6k]
  |6,_,_=>rfl
theorem z0l {u v w:World}{row:Option Nat}(h:u.grownBy v row)(k:v.grownBy w row):u.grownBy w row:=
 ⟨k.os.trans h.os,k.tape.trans h.tape,k.output.trans h.output,z6M h.size k.size,fun i hi hr=>(k.block i (z6K hi h.size) hr).trans (h.block i hi hr)⟩
theorem InvV.grown (g:InvV X w b s st V iv cv){o:Nat}(h3:3≤o)(h6:o≤6)(hg:w.grownBy w2 (V o).ownBlock)(hX: ∀k,X k→k<w.heap.size):
  w2.cell? ⟨b,o,none⟩=some (V o)∧w2.frozen? ⟨b,o,none⟩=false∧ ∀v',Fr X w (w2.setCell ⟨b,o,none⟩ v'):=by
 have hbo:some b≠(V o).ownBlock:=fun e=>by have:=((g.rows.own o h3 h6).lt b e.symm).1;omega
 have hb2:w2.heap[b]?=w.heap[b]?:=hg.block b g.rows.lt hbo
 exact⟨(World.cell?_of_block (w:=w) hb2).trans (g.rows.cell o h3 h6),(World.frozen?_of_block (w:=w) hb2).trans (g.rows.froz o h3 h6),
  fun v'=>((Fr.refl X w).grown hg hX fun k e=>g.rows.notX o k h3 h6 e).setCell g.rows.nob v'⟩
end
def St.put (st:St)(p:Nat×Bool):St:={st with at_:=p.1,bad:=p.2}
def St.put3 (st:St)(p:Nat×Bool×z6P):St:={st with at_:=p.1,bad:=p.2.1}
def pkS (s:z6P)(st:St):Int:=pk s st.at_ st.bad
def sgn (s:z6P)(l:List UInt8)(st:St):St:=st.put (j7 s st.bad l st.at_)
def wrd (s:z6P)(l:List UInt8)(st:St):St:=st.put (zm s st.bad l st.at_)
def zX (st:St)(x:Ex):Option (Int×St):=if st.E.length<100000 then some (st.E.length,{st with E:=st.E++[x]}) else none
def M (s:z6P):Nat→Nat→Int→St→Option (Int×St)
 |0,_,_,_=>none
 |n+1,0,_,st=>(M s n 1 0 st).bind fun r=>M s n 10 r.1 r.2
 |n+1,10,l,st=>if pkS s st==124 then(M s n 1 0 (sgn s [124,124] st)).bind fun r=>(zX r.2 ⟨6,st.at_,⟨#[124,124]⟩,l,r.1⟩).bind fun q=>M s n 10 q.1 q.2 else some (l,st)
 |n+1,1,_,st=>(M s n 2 0 st).bind fun r=>M s n 11 r.1 r.2
 |n+1,11,l,st=>if pkS s st==38 then(M s n 2 0 (sgn s [38,38] st)).bind fun r=>(zX r.2 ⟨6,st.at_,⟨#[38,38]⟩,l,r.1⟩).bind fun q=>M s n 11 q.1 q.2 else some (l,st)
 |n+1,2,_,st=>if pkS s st !=33 then M s n 3 0 st else(M s n 2 0 (sgn s [33] st)).bind fun r=>zX r.2 ⟨5,st.at_,⟨#[33]⟩,r.1,-1⟩
 |n+1,3,_,st=>(M s n 4 0 st).bind fun r=>
   let c:=z7 s r.2.at_ r.2.bad
   if c.2.2.size==0 then some (r.1,r.2.put3 c) else(M s n 4 0 (r.2.put3 c)).bind fun q=>zX q.2 ⟨6,r.2.at_,c.2.2,r.1,q.1⟩
 |n+1,4,_,st=>(M s n 5 0 st).bind fun r=>M s n 14 r.1 r.2
 |n+1,14,l,st=>
   let c:=zd s st.at_ st.bad
   if c.size==0 then some (l,st) else(M s n 5 0 (sgn s c.data.toList st)).bind fun r=>(zX r.2 ⟨6,st.at_,c,l,r.1⟩).bind fun q=>M s n 14 q.1 q.2
 |n+1,5,_,st=>(M s n 6 0 st).bind fun r=>M s n 15 r.1 r.2
 |n+1,15,l,st=>
   let c:=z8 s st.at_ st.bad
   if c.size==0 then some (l,st) else(M s n 6 0 (sgn s c.data.toList st)).bind fun r=>(zX r.2 ⟨6,st.at_,c,l,r.1⟩).bind fun q=>M s n 15 q.1 q.2
 |n+1,6,_,st=>if pkS s st !=45 then M s n 7 0 st else(M s n 6 0 (sgn s [45] st)).bind fun r=>zX r.2 ⟨5,st.at_,⟨#[45]⟩,r.1,-1⟩
 |n+1,7,_,st=>
   if zc (pkS s st) then
    let c:=zA s st.at_ st.bad
    zX (st.put3 c) ⟨0,st.at_,c.2.2,-1,-1⟩
   else if pkS s st==34 then
    let c:=zw s st.at_ st.bad
    zX (st.put3 c) ⟨1,st.at_,c.2.2,-1,-1⟩
   else if pkS s st==64 then
    let u:=wrd s [64] st
    let c:=zK s u.at_ u.bad
    zX (u.put3 c) ⟨4,st.at_,c.2.2,-1,-1⟩
   else if pkS s st==40 then(M s n 0 0 (sgn s [40] st)).bind fun r=>some (r.1,sgn s [41] r.2)
   else
    let c:=zK s st.at_ st.bad
    if c.2.2.data.toList==[116,114,117,101]||c.2.2.data.toList==[102,97,108,115,101] then zX (st.put3 c) ⟨2,st.at_,c.2.2,-1,-1⟩ else zX (st.put3 c) ⟨3,st.at_,c.2.2,-1,-1⟩
 |_+1,_,_,_=>none
theorem Fr.lt {X:Nat→Prop}{w w':World}(h:Fr X w w')(hX: ∀k,X k→k<w.heap.size): ∀k,X k→k<w'.heap.size:=fun k x=>z6K (hX k x) h.size
theorem zh {st:St}{x:Ex}{r:Int×St}(h:zX st x=some r):st.E.length<100000∧r=((st.E.length:Int),{st with E:=st.E++[x]}):=by
 unfold zX at h
 split at h
 ·exact⟨‹_›,(Option.some.inj h).symm⟩
 ·cases h
theorem z0e (s:z6P)(a:Nat)(d:Bool):(zd s a d).size≤600:=by
 unfold zd
 split
 ·decide
 ·split
  ·decide
  ·split
   ·decide
   ·split<;>decide
theorem jz (s:z6P)(a:Nat)(d:Bool):(z8 s a d).size≤600:=by
 unfold z8
 split
 ·decide
 ·split
  ·decide
  ·split<;>decide
theorem z0z (c:z6P):c.toList.isEmpty=(c.size==0):=by
 rw [z6D]
 have h:c.size=c.data.toList.length:=by simp
 rw [h]
 cases c.data.toList<;>rfl
theorem z0B {c:z6P}(h:(c.size==0)=false):c.toList.isEmpty=false:=(z0z c).trans h
theorem z07 {c:z6P}(h:(c.size==0)=true):c.toList.isEmpty=true:=(z0z c).trans h
theorem M_0 (s:z6P)(n:Nat)(l0:Int)(st:St):M s (n+1) 0 l0 st=
  ((M s n 1 0 st).bind fun r=>M s n 10 r.1 r.2):=rfl
theorem z2K (s:z6P)(n:Nat)(l:Int)(st:St):M s (n+1) 10 l st=
  (if pkS s st==124 then(M s n 1 0 (sgn s [124,124] st)).bind fun r=>(zX r.2 ⟨6,st.at_,⟨#[124,124]⟩,l,r.1⟩).bind fun q=>M s n 10 q.1 q.2 else some (l,st)):=rfl
theorem M_1 (s:z6P)(n:Nat)(l0:Int)(st:St):M s (n+1) 1 l0 st=
  ((M s n 2 0 st).bind fun r=>M s n 11 r.1 r.2):=rfl
theorem z2p (s:z6P)(n:Nat)(l:Int)(st:St):M s (n+1) 11 l st=
  (if pkS s st==38 then(M s n 2 0 (sgn s [38,38] st)).bind fun r=>(zX r.2 ⟨6,st.at_,⟨#[38,38]⟩,l,r.1⟩).bind fun q=>M s n 11 q.1 q.2 else some (l,st)):=rfl
theorem M_2 (s:z6P)(n:Nat)(l0:Int)(st:St):M s (n+1) 2 l0 st=
  (if pkS s st !=33 then M s n 3 0 st else(M s n 2 0 (sgn s [33] st)).bind fun r=>zX r.2 ⟨5,st.at_,⟨#[33]⟩,r.1,-1⟩):=rfl
theorem M_3 (s:z6P)(n:Nat)(l0:Int)(st:St):M s (n+1) 3 l0 st=
  ((M s n 4 0 st).bind fun r=>
   let c:=z7 s r.2.at_ r.2.bad
   if c.2.2.size==0 then some (r.1,r.2.put3 c) else(M s n 4 0 (r.2.put3 c)).bind fun q=>zX q.2 ⟨6,r.2.at_,c.2.2,r.1,q.1⟩):=rfl
theorem M_4 (s:z6P)(n:Nat)(l0:Int)(st:St):M s (n+1) 4 l0 st=
  ((M s n 5 0 st).bind fun r=>M s n 14 r.1 r.2):=rfl
theorem z2z (s:z6P)(n:Nat)(l:Int)(st:St):M s (n+1) 14 l st=
  (let c:=zd s st.at_ st.bad
   if c.size==0 then some (l,st) else(M s n 5 0 (sgn s c.data.toList st)).bind fun r=>(zX r.2 ⟨6,st.at_,c,l,r.1⟩).bind fun q=>M s n 14 q.1 q.2):=rfl
theorem M_5 (s:z6P)(n:Nat)(l0:Int)(st:St):M s (n+1) 5 l0 st=
  ((M s n 6 0 st).bind fun r=>M s n 15 r.1 r.2):=rfl
theorem z2B (s:z6P)(n:Nat)(l:Int)(st:St):M s (n+1) 15 l st=
  (let c:=z8 s st.at_ st.bad
   if c.size==0 then some (l,st) else(M s n 6 0 (sgn s c.data.toList st)).bind fun r=>(zX r.2 ⟨6,st.at_,c,l,r.1⟩).bind fun q=>M s n 15 q.1 q.2):=rfl
theorem M_6 (s:z6P)(n:Nat)(l0:Int)(st:St):M s (n+1) 6 l0 st=
  (if pkS s st !=45 then M s n 7 0 st else(M s n 6 0 (sgn s [45] st)).bind fun r=>zX r.2 ⟨5,st.at_,⟨#[45]⟩,r.1,-1⟩):=rfl
theorem M_7 (s:z6P)(n:Nat)(l0:Int)(st:St):M s (n+1) 7 l0 st=
  (if zc (pkS s st) then
    let c:=zA s st.at_ st.bad
    zX (st.put3 c) ⟨0,st.at_,c.2.2,-1,-1⟩
   else if pkS s st==34 then
    let c:=zw s st.at_ st.bad
    zX (st.put3 c) ⟨1,st.at_,c.2.2,-1,-1⟩
   else if pkS s st==64 then
    let u:=wrd s [64] st
    let c:=zK s u.at_ u.bad
    zX (u.put3 c) ⟨4,st.at_,c.2.2,-1,-1⟩
   else if pkS s st==40 then(M s n 0 0 (sgn s [40] st)).bind fun r=>some (r.1,sgn s [41] r.2)
   else
    let c:=zK s st.at_ st.bad
    if c.2.2.data.toList==[116,114,117,101]||c.2.2.data.toList==[102,97,108,115,101] then zX (st.put3 c) ⟨2,st.at_,c.2.2,-1,-1⟩ else zX (st.put3 c) ⟨3,st.at_,c.2.2,-1,-1⟩):=rfl
def ExtE (st st':St):Prop:=(∃F,st'.E=st.E++F)∧st'.A=st.A∧st'.L=st.L∧st'.C=st.C
theorem ExtE.refl (st:St):ExtE st st:=⟨⟨[],by simp⟩,rfl,rfl,rfl⟩
theorem ExtE.trans {a b c:St}(h:ExtE a b)(k:ExtE b c):ExtE a c:=by
 obtain⟨⟨F,h1⟩,h2,h3,h4⟩:=h
 obtain⟨⟨G,k1⟩,k2,k3,k4⟩:=k
 exact⟨⟨F++G,by rw [k1,h1,List.append_assoc]⟩,k2.trans h2,k3.trans h3,k4.trans h4⟩
theorem ExtE.put3 {st st':St}(p:Nat×Bool×z6P)(h:ExtE (st.put3 p) st'):ExtE st st':=h
theorem ExtE.sgn {s:z6P}{l:List UInt8}{st st':St}(h:ExtE (sgn s l st) st'):ExtE st st':=h
theorem jI {st:St}{x:Ex}{r:Int×St}(h:zX st x=some r):ExtE st r.2:=by
 obtain⟨_,rfl⟩:=zh h
 exact⟨⟨[x],rfl⟩,rfl,rfl,rfl⟩
theorem z3W (s:z6P): ∀n tag l st r,M s n tag l st=some r→ExtE st r.2:=by
 intro n
 induction n with
 |zero=>intro tag l st r h;simp [M] at h
 |succ n ih=>
  intro tag l st r h
  have two: ∀{t1 t2:Nat} {st0:St},((M s n t1 0 st0).bind fun r=>M s n t2 r.1 r.2)=some r→ExtE st0 r.2:=fun h=>by
   obtain⟨q,h1,h2⟩:=z6A.1 h
   exact(ih _ _ _ _ h1).trans (ih _ _ _ _ h2)
  have three: ∀{t1 t2:Nat} {st0:St} {x:Int×St→Ex},((M s n t1 0 st0).bind fun r=>(zX r.2 (x r)).bind fun q=>M s n t2 q.1 q.2)=some r→ExtE st0 r.2:=fun h=>by
   obtain⟨q,h1,h2⟩:=z6A.1 h
   obtain⟨q2,h3,h4⟩:=z6A.1 h2
   exact((ih _ _ _ _ h1).trans (jI h3)).trans (ih _ _ _ _ h4)
  have one: ∀{t1:Nat} {st0:St} {x:Int×St→Ex},((M s n t1 0 st0).bind fun r=>zX r.2 (x r))=some r→ExtE st0 r.2:=fun h=>by
   obtain⟨q,h1,h2⟩:=z6A.1 h
   exact(ih _ _ _ _ h1).trans (jI h2)
  match tag,h with
  |0,h=>rw [M_0] at h;exact two h
  |1,h=>rw [M_1] at h;exact two h
  |4,h=>rw [M_4] at h;exact two h
  |5,h=>rw [M_5] at h;exact two h
  |10,h=>
   rw [z2K] at h
   split at h
   ·exact(three h).sgn
   ·cases h;exact .refl _
  |11,h=>
   rw [z2p] at h
   split at h
   ·exact(three h).sgn
   ·cases h;exact .refl _
  |14,h=>
   rw [z2z] at h
   simp only at h
   split at h
   ·cases h;exact .refl _
   ·exact(three h).sgn
  |15,h=>
   rw [z2B] at h
   simp only at h
   split at h
   ·cases h;exact .refl _
   ·exact(three h).sgn
  |2,h=>
   rw [M_2] at h
   split at h
   ·exact ih _ _ _ _ h
   ·exact(one h).sgn
  |6,h=>
   rw [M_6] at h
   split at h
   ·exact ih _ _ _ _ h
   ·exact(one h).sgn
  |3,h=>
   rw [M_3] at h
   obtain⟨q,h1,h2⟩:=z6A.1 h
   simp only at h2
   split at h2
   ·have k:=ih _ _ _ _ h1;cases h2;exact k
   ·exact(ih _ _ _ _ h1).trans ((one h2).put3)
  |7,h=>
   rw [M_7] at h
   simp only at h
   split at h
   ·exact(jI h).put3
   ·split at h
    ·exact(jI h).put3
    ·split at h
     ·have k:=jI h;exact k
     ·split at h
      ·obtain⟨q,h1,h2⟩:=z6A.1 h
       have k:=ih _ _ _ _ h1
       cases h2
       exact k
      ·split at h
       ·exact(jI h).put3
       ·exact(jI h).put3
  |8,h=>simp [M] at h
  |9,h=>simp [M] at h
  |12,h=>simp [M] at h
  |13,h=>simp [M] at h
  |t+16,h=>simp [M] at h
theorem z3K (s:z6P)(c:UInt8)(cs:List UInt8)(a:Nat):zm s true (c::cs) a=(a,true):=z0q (by simp [pk])
theorem z15 (s:z6P)(c:UInt8)(cs:List UInt8)(a:Nat):j7 s true (c::cs) a=(a,true):=by
 unfold j7
 rw [z3K]
 simp [z32]
def z6u (st st':St):Prop:=st'.bad=true∧st'.at_=st.at_
theorem z10 (s:z6P)(a:Nat):zK s a true=(a,true,⟨#[]⟩):=z43 (jr (by simp [pk];decide)) (.inl rfl)
theorem z4W {s:z6P}{c:UInt8}{cs:List UInt8}{st:St}(h:st.bad=true):(sgn s (c::cs) st).bad=true∧(sgn s (c::cs) st).at_=st.at_:=by
 unfold sgn St.put
 rw [h,z15]
 exact⟨rfl,rfl⟩
theorem z54 {s:z6P}{st:St}(h:st.bad=true):pkS s st= -1:=by simp [pkS,pk,h]
theorem zM {st:St}{x:Ex}{r:Int×St}(h:zX st x=some r):r.2.bad=st.bad∧r.2.at_=st.at_:=by
 obtain⟨_,rfl⟩:=zh h
 exact⟨rfl,rfl⟩
theorem z6m (s:z6P): ∀n tag l st r,M s n tag l st=some r→st.bad=true→z6u st r.2:=by
 intro n
 induction n with
 |zero=>intro tag l st r h;simp [M] at h
 |succ n ih=>
  intro tag l st r h hb
  have hpk:=z54 (s:=s) hb
  have two: ∀{t1 t2:Nat},((M s n t1 0 st).bind fun r=>M s n t2 r.1 r.2)=some r→z6u st r.2:=fun h=>by
   obtain⟨q,h1,h2⟩:=z6A.1 h
   have k1:=ih _ _ _ _ h1 hb
   have k2:=ih _ _ _ _ h2 k1.1
   exact⟨k2.1,k2.2.trans k1.2⟩
  match tag,h with
  |0,h=>rw [M_0] at h;exact two h
  |1,h=>rw [M_1] at h;exact two h
  |4,h=>rw [M_4] at h;exact two h
  |5,h=>rw [M_5] at h;exact two h
  |10,h=>
   rw [z2K,if_neg (by rw [hpk];decide)] at h
   cases h;exact⟨hb,rfl⟩
  |11,h=>
   rw [z2p,if_neg (by rw [hpk];decide)] at h
   cases h;exact⟨hb,rfl⟩
  |14,h=>
   rw [z2z] at h
   simp only at h
   rw [if_pos (by simp [zd,jc,pk,hb];decide)] at h
   cases h;exact⟨hb,rfl⟩
  |15,h=>
   rw [z2B] at h
   simp only at h
   rw [if_pos (by simp [z8,pk,hb];decide)] at h
   cases h;exact⟨hb,rfl⟩
  |2,h=>
   rw [M_2,if_pos (by rw [hpk];decide)] at h
   exact ih _ _ _ _ h hb
  |6,h=>
   rw [M_6,if_pos (by rw [hpk];decide)] at h
   exact ih _ _ _ _ h hb
  |3,h=>
   rw [M_3] at h
   obtain⟨q,h1,h2⟩:=z6A.1 h
   have k1:=ih _ _ _ _ h1 hb
   simp only at h2
   have hc:z7 s q.2.at_ q.2.bad=(q.2.at_,true,⟨#[]⟩):=by simp [z7,pk,k1.1]
   rw [hc,if_pos (show(((q.snd.at_,true,(⟨#[]⟩:z6P)).snd.snd.size==0)=true) from rfl)] at h2
   cases h2
   exact⟨rfl,k1.2⟩
  |7,h=>
   rw [M_7] at h
   simp only at h
   rw [if_neg (by rw [hpk];decide),if_neg (by rw [hpk];decide),if_neg (by rw [hpk];decide),if_neg (by rw [hpk];decide)] at h
   rw [hb,z10,if_neg (by simp)] at h
   have:=zM h
   exact⟨this.1,this.2⟩
  |8,h=>simp [M] at h
  |9,h=>simp [M] at h
  |12,h=>simp [M] at h
  |13,h=>simp [M] at h
  |t+16,h=>simp [M] at h
theorem z0D (p:Int→Bool)(s:z6P)(d:Bool): ∀k a,a≤run p s d k a:=by
 intro k
 induction k with
 |zero=>intro a;exact z6E _
 |succ k ih=>
  intro a
  unfold run
  split
  ·have:=ih (a+1);omega
  ·exact z6E _
theorem jJ (s:z6P)(a:Nat)(d:Bool):a≤skip s a d:=z0D _ _ _ _ _
theorem jV (s:z6P)(d:Bool): ∀l a,a≤(zm s d l a).1:=by
 intro l
 induction l with
 |nil=>intro a;exact z6E _
 |cons c cs ih=>
  intro a
  unfold zm
  split
  ·have:=ih (a+1);omega
  ·exact z6E _
theorem jC (s:z6P)(d:Bool)(l:List UInt8)(a:Nat):a≤(j7 s d l a).1:=by
 have h1:=jV s d l a
 have h2:=jJ s (zm s d l a).1 (zm s d l a).2
 simp only [j7];omega
theorem jY (s:z6P)(l:List UInt8)(st:St):st.at_≤(sgn s l st).at_:=jC s st.bad l st.at_
theorem z4D (s:z6P)(l:List UInt8)(st:St):st.at_≤(wrd s l st).at_:=jV s st.bad l st.at_
theorem z3O (p:Int→Bool)(m:Nat)(s:z6P)(a:Nat)(d:Bool):a≤(z0b p m s a d).1:=by
 unfold z0b
 have h1:=z0D p s d m a
 have h2:=jJ s (run p s d m a) d
 simp only
 split
 ·exact h1
 ·exact z6M h1 h2
theorem jK (s:z6P)(a:Nat)(d:Bool):a≤(zK s a d).1:=z3O _ _ _ _ _
theorem z1B (s:z6P)(a:Nat)(d:Bool):a≤(zA s a d).1:=z3O _ _ _ _ _
theorem z1x (s:z6P)(a:Nat)(d:Bool):a≤(zw s a d).1:=by
 unfold zw
 have h1:=jV s d [34] a
 have h2:=z0D zi s (zm s d [34] a).2 12 (zm s d [34] a).1
 have h3:=jC s (zm s d [34] a).2 [34] (run zi s (zm s d [34] a).2 12 (zm s d [34] a).1)
 simp only
 omega
theorem z0C (s short long:z6P)(a:Nat)(d:Bool):a≤(zl s short long a d).1:=by
 unfold zl
 have h1:=jV s d short.data.toList a
 have h2:=jJ s (zm s d short.data.toList a).1 (zm s d short.data.toList a).2
 have h3:=jC s (zm s d short.data.toList a).2 [61] (zm s d short.data.toList a).1
 simp only
 split<;>simp only<;>omega
theorem jG (s:z6P)(a:Nat)(d:Bool):a≤(z7 s a d).1:=by
 unfold z7
 split
 ·exact jC _ _ _ _
 ·split
  ·exact jC _ _ _ _
  ·split
   ·exact z0C _ _ _ _ _
   ·split
    ·exact z0C _ _ _ _ _
    ·exact z6E _
theorem z3c (s:z6P): ∀n tag l st r,M s n tag l st=some r→st.at_≤r.2.at_:=by
 intro n
 induction n with
 |zero=>intro tag l st r h;simp [M] at h
 |succ n ih=>
  intro tag l st r h
  have two: ∀{t1 t2:Nat} {st0:St},((M s n t1 0 st0).bind fun r=>M s n t2 r.1 r.2)=some r→st0.at_≤r.2.at_:=fun h=>by
   obtain⟨q,h1,h2⟩:=z6A.1 h
   exact z6M (ih _ _ _ _ h1) (ih _ _ _ _ h2)
  have three: ∀{t1 t2:Nat} {st0:St} {x:Int×St→Ex},((M s n t1 0 st0).bind fun r=>(zX r.2 (x r)).bind fun q=>M s n t2 q.1 q.2)=some r→st0.at_≤r.2.at_:=fun h=>by
   obtain⟨q,h1,h2⟩:=z6A.1 h
   obtain⟨q2,h3,h4⟩:=z6A.1 h2
   have k1:=ih _ _ _ _ h1
   have k2:=(zM h3).2
   have k3:=ih _ _ _ _ h4
   omega
  match tag,h with
  |0,h=>rw [M_0] at h;exact two h
  |1,h=>rw [M_1] at h;exact two h
  |4,h=>rw [M_4] at h;exact two h
  |5,h=>rw [M_5] at h;exact two h
  |10,h=>
   rw [z2K] at h
   split at h
   ·exact z6M (jY _ _ _) (three h)
   ·cases h;exact z6E _
  |11,h=>
   rw [z2p] at h
   split at h
   ·exact z6M (jY _ _ _) (three h)
   ·cases h;exact z6E _
  |14,h=>
   rw [z2z] at h
   simp only at h
   split at h
   ·cases h;exact z6E _
   ·exact z6M (jY _ _ _) (three h)
  |15,h=>
   rw [z2B] at h
   simp only at h
   split at h
   ·cases h;exact z6E _
   ·exact z6M (jY _ _ _) (three h)
  |2,h=>
   rw [M_2] at h
   split at h
   ·exact ih _ _ _ _ h
   ·obtain⟨q,h1,h2⟩:=z6A.1 h
    have k1:=ih _ _ _ _ h1
    have k2:=(zM h2).2
    have k3:=jY s [33] st
    omega
  |6,h=>
   rw [M_6] at h
   split at h
   ·exact ih _ _ _ _ h
   ·obtain⟨q,h1,h2⟩:=z6A.1 h
    have k1:=ih _ _ _ _ h1
    have k2:=(zM h2).2
    have k3:=jY s [45] st
    omega
  |3,h=>
   rw [M_3] at h
   obtain⟨q,h1,h2⟩:=z6A.1 h
   have k1:=ih _ _ _ _ h1
   have k2:=jG s q.2.at_ q.2.bad
   simp only at h2
   split at h2
   ·cases h2
    exact z6M k1 k2
   ·obtain⟨q2,h3,h4⟩:=z6A.1 h2
    have k3:=ih _ _ _ _ h3
    have k4:=(zM h4).2
    have k5:q.2.at_≤q2.2.at_:=z6M k2 k3
    omega
  |7,h=>
   rw [M_7] at h
   simp only at h
   split at h
   ·have k:=(zM h).2
    rw [k];exact z1B _ _ _
   ·split at h
    ·have k:=(zM h).2
     rw [k];exact z1x _ _ _
    ·split at h
     ·have k:=(zM h).2
      rw [k]
      exact z6M (z4D s [64] st) (jK _ _ _)
     ·split at h
      ·obtain⟨q,h1,h2⟩:=z6A.1 h
       cases h2
       exact z6M (z6M (jY s [40] st) (ih _ _ _ _ h1)) (jY s [41] q.2)
      ·split at h
       ·have k:=(zM h).2
        rw [k];exact jK _ _ _
       ·have k:=(zM h).2
        rw [k];exact jK _ _ _
  |8,h=>simp [M] at h
  |9,h=>simp [M] at h
  |12,h=>simp [M] at h
  |13,h=>simp [M] at h
  |t+16,h=>simp [M] at h
theorem z3Z (p:Int→Bool)(hp:p (-1)=false)(m:Nat)(s:z6P)(a:Nat)(d:Bool)(h:a≤s.size):(z0b p m s a d).1≤s.size:=by
 unfold z0b
 have h1:=z25 p hp s d m a h
 simp only
 split
 ·exact h1.2
 ·exact(z1P h1.2).2
theorem z1U (s:z6P)(a:Nat)(d:Bool)(h:a≤s.size):(zK s a d).1≤s.size:=z3Z _ (by decide) _ _ _ _ h
theorem z33 (s:z6P)(a:Nat)(d:Bool)(h:a≤s.size):(zA s a d).1≤s.size:=z3Z _ (by decide) _ _ _ _ h
theorem z3f (s:z6P)(a:Nat)(d:Bool)(h:a≤s.size):(zw s a d).1≤s.size:=by
 unfold zw
 have h1:=z0j s d [34] a h
 have h2:=z25 zi (by decide) s (zm s d [34] a).2 12 _ h1.2
 exact(z0u s _ [34] _ h2.2).2
theorem z0H (s short long:z6P)(a:Nat)(d:Bool)(h:a≤s.size):(zl s short long a d).1≤s.size:=by
 unfold zl
 have h1:=z0j s d short.data.toList a h
 simp only
 split
 ·exact(z1P h1.2).2
 ·exact(z0u s _ [61] _ h1.2).2
theorem z1H (s:z6P)(a:Nat)(d:Bool)(h:a≤s.size):(z7 s a d).1≤s.size:=by
 unfold z7
 split
 ·exact(z0u _ _ _ _ h).2
 ·split
  ·exact(z0u _ _ _ _ h).2
  ·split
   ·exact z0H _ _ _ _ _ h
   ·split
    ·exact z0H _ _ _ _ _ h
    ·exact h
theorem z0E {s:z6P}{l:List UInt8}{st:St}(h:st.at_≤s.size):(sgn s l st).at_≤s.size:=(z0u s st.bad l st.at_ h).2
theorem z5W {s:z6P}{l:List UInt8}{st:St}(h:st.at_≤s.size):(wrd s l st).at_≤s.size:=(z0j s st.bad l st.at_ h).2
theorem jT {s:z6P}{c:UInt8}{cs:List UInt8}{a:Nat}{d:Bool}(h:(pk s a d==(c.toNat:Int))=true):a+1≤(zm s d (c::cs) a).1∧a<s.size:=by
 have h1:pk s a d=(c.toNat:Int):=by simpa using h
 rw [j8 h1]
 exact⟨jV s d cs (a+1),(jQ (s:=s) (a:=a) (d:=d) (by rw [h1];omega)).2⟩
theorem zQ {s:z6P}{c:UInt8}{cs:List UInt8}{st:St}(h:(pkS s st==(c.toNat:Int))=true):st.at_+1≤(sgn s (c::cs) st).at_∧st.at_<s.size:=by
 obtain⟨h1,h2⟩:=jT (cs:=cs) h
 exact⟨z6M h1 (jJ _ _ _),h2⟩
theorem z3u {s:z6P}{st:St}(h: ¬((zd s st.at_ st.bad).size==0)=true):st.at_+1≤(sgn s (zd s st.at_ st.bad).data.toList st).at_∧st.at_<s.size:=by
 unfold zd at h ⊢
 split
 ·rename_i e;rw [if_pos e] at h;exact absurd rfl h
 ·rename_i e
  rw [if_neg e] at h
  split
  ·rename_i e;exact zQ (c:=43) (cs:=[]) e
  ·rename_i e
   rw [if_neg e] at h
   split
   ·rename_i e;exact zQ (c:=45) (cs:=[]) e
   ·rename_i e
    rw [if_neg e] at h
    split
    ·rename_i e;exact zQ (c:=46) (cs:=[]) e
    ·rename_i e;rw [if_neg e] at h;exact absurd rfl h
theorem z1M {s:z6P}{st:St}(h: ¬((z8 s st.at_ st.bad).size==0)=true):st.at_+1≤(sgn s (z8 s st.at_ st.bad).data.toList st).at_∧st.at_<s.size:=by
 unfold z8 at h ⊢
 split
 ·rename_i e;exact zQ (c:=42) (cs:=[]) e
 ·rename_i e
  rw [if_neg e] at h
  split
  ·rename_i e;exact zQ (c:=47) (cs:=[]) e
  ·rename_i e
   rw [if_neg e] at h
   split
   ·rename_i e;exact zQ (c:=37) (cs:=[]) e
   ·rename_i e;rw [if_neg e] at h;exact absurd rfl h
theorem jZ {s long:z6P}{c:UInt8}{a:Nat}{d:Bool}(h:(pk s a d==(c.toNat:Int))=true):a+1≤(zl s ⟨#[c]⟩ long a d).1∧a<s.size:=by
 obtain⟨h1,h2⟩:=jT (cs:=[]) h
 refine⟨?_,h2⟩
 unfold zl
 have h3:a+1≤(zm s d (⟨#[c]⟩:z6P).data.toList a).1:=h1
 simp only
 split
 ·exact z6M h3 (jJ _ _ _)
 ·exact z6M h3 (jC _ _ _ _)
theorem z1b {s:z6P}{a:Nat}{d:Bool}(h: ¬((z7 s a d).2.2.size==0)=true):a+1≤(z7 s a d).1∧a<s.size:=by
 unfold z7 at h ⊢
 split
 ·rename_i e
  obtain⟨h1,h2⟩:=jT (c:=61) (cs:=[61]) e
  exact⟨z6M h1 (jJ _ _ _),h2⟩
 ·rename_i e
  rw [if_neg e] at h
  split
  ·rename_i e
   obtain⟨h1,h2⟩:=jT (c:=33) (cs:=[61]) e
   exact⟨z6M h1 (jJ _ _ _),h2⟩
  ·rename_i e
   rw [if_neg e] at h
   split
   ·rename_i e;exact jZ (c:=60) e
   ·rename_i e
    rw [if_neg e] at h
    split
    ·rename_i e;exact jZ (c:=62) e
    ·rename_i e;rw [if_neg e] at h;exact absurd rfl h
structure PE (s:z6P)(st:St)(k:Nat):Prop where
 le:st.at_≤s.size
 room:st.E.length+2*(s.size - st.at_)+k<100000
structure QM (s:z6P)(st st':St)(k:Nat):Prop where
 le:st'.at_≤s.size
 ge:st.at_≤st'.at_
 grow:st'.E.length+2*(s.size - st'.at_)≤st.E.length+2*(s.size - st.at_)+k
theorem z0t {st:St}(x:Ex)(h:st.E.length<100000):zX st x=some ((st.E.length:Int),{st with E:=st.E++[x]}):=by
 unfold zX
 rw [if_pos h]
def jj:Nat→Nat
 |7=>1|6=>2|5=>3|4=>4|3=>5|2=>6|1=>7|0=>8|_=>1
def z40 (tag:Nat):Prop:=tag=10∨tag=11∨tag=14∨tag=15
theorem z5b (s:z6P): ∀n tag l st,(tag≤7∨z40 tag)→PE s st (if tag≤7 then 1 else 0)→jj tag+20*(s.size - st.at_)≤n→ ∃r,M s n tag l st=some r∧QM s st r.2 (if tag≤7 then 1 else 0):=by
 intro n
 induction n with
 |zero=>
  intro tag l st ht hp hn
  exfalso
  have:1≤jj tag:=by
   rcases ht with h|rfl|rfl|rfl|rfl
   ·match tag,h with
    |0,_=>decide
    |1,_=>decide
    |2,_=>decide
    |3,_=>decide
    |4,_=>decide
    |5,_=>decide
    |6,_=>decide
    |7,_=>decide
   all_goals decide
  omega
 |succ n ih=>
  intro tag l st ht hp hn
  have hle:=hp.le
  have hroom:=hp.room
  have two: ∀(t1 t2:Nat),t1≤7→z40 t2→st.E.length+2*(s.size - st.at_)+1<100000→jj t1+20*(s.size - st.at_)≤n→1+20*(s.size - st.at_)≤n→ ∃r,((M s n t1 0 st).bind fun r=>M s n t2 r.1 r.2)=some r∧QM s st r.2 1:=by
   intro t1 t2 h1 h2 h0 h3 h4
   obtain⟨q,e1,k1⟩:=ih t1 0 st (.inl h1) (by rw [if_pos h1];exact⟨hle,h0⟩) h3
   rw [if_pos h1] at k1
   have g1:=k1.le;have g2:=k1.ge;have g3:=k1.grow
   have hf:jj t2=1:=by rcases h2 with rfl|rfl|rfl|rfl<;>rfl
   have hn7: ¬t2≤7:=by rcases h2 with rfl|rfl|rfl|rfl<;>omega
   obtain⟨q2,e2,k2⟩:=ih t2 q.1 q.2 (.inr h2) (by rw [if_neg hn7];exact⟨g1,by omega⟩) (by rw [hf];omega)
   rw [if_neg hn7] at k2
   have g4:=k2.le;have g5:=k2.ge;have g6:=k2.grow
   exact⟨q2,by rw [e1];exact e2,⟨g4,by omega,by omega⟩⟩
  have three: ∀(t1 t2:Nat) (u:St) (x:Int×St→Ex),t1≤7→z40 t2→st.E.length+2*(s.size - st.at_)<100000→u.E=st.E→st.at_+1≤u.at_→st.at_<s.size→u.at_≤s.size→20*(s.size - st.at_)≤n→jj t1≤8→ ∃r,((M s n t1 0 u).bind fun r=>(zX r.2 (x r)).bind fun q=>M s n t2 q.1 q.2)=some r∧QM s st r.2 0:=by
   intro t1 t2 u x h1 h2 h0 hE h5 h6 h7 h3 h4
   have hEl:u.E.length=st.E.length:=by rw [hE]
   obtain⟨q,e1,k1⟩:=ih t1 0 u (.inl h1) (by rw [if_pos h1];exact⟨h7,by omega⟩) (by omega)
   rw [if_pos h1] at k1
   have g1:=k1.le;have g2:=k1.ge;have g3:=k1.grow
   have hf:jj t2=1:=by rcases h2 with rfl|rfl|rfl|rfl<;>rfl
   have hn7: ¬t2≤7:=by rcases h2 with rfl|rfl|rfl|rfl<;>omega
   have ha:=z0t (st:=q.2) (x q) (by omega)
   obtain⟨q2,e2,k2⟩:=ih t2 q.2.E.length {q.2 with E:=q.2.E++[x q]} (.inr h2) (by rw [if_neg hn7];exact⟨g1,by simp;omega⟩) (by rw [hf];simp only;omega)
   rw [if_neg hn7] at k2
   have g4:=k2.le;have g5:=k2.ge;have g6:=k2.grow
   simp only [List.length_append,List.length_cons,List.length_nil] at g5 g6
   exact⟨q2,by rw [e1];simp only [Option.bind_some];rw [ha];exact e2,⟨g4,by omega,by omega⟩⟩
  have stop: ∀k,∃r,some (l,st)=some r∧QM s st r.2 k:=fun k=>⟨_,rfl,hle,z6E _,Nat.le_add_right _ _⟩
  rcases ht with ht|ht
  ·rw [if_pos ht] at hroom ⊢
   match tag,ht,hn with
   |0,_,hn=>rw [M_0];exact two 1 10 (by omega) (.inl rfl) hroom (by simp [jj] at hn ⊢;omega) (by simp [jj] at hn ⊢;omega)
   |1,_,hn=>rw [M_1];exact two 2 11 (by omega) (.inr (.inl rfl)) hroom (by simp [jj] at hn ⊢;omega) (by simp [jj] at hn ⊢;omega)
   |4,_,hn=>rw [M_4];exact two 5 14 (by omega) (.inr (.inr (.inl rfl))) hroom (by simp [jj] at hn ⊢;omega) (by simp [jj] at hn ⊢;omega)
   |5,_,hn=>rw [M_5];exact two 6 15 (by omega) (.inr (.inr (.inr rfl))) hroom (by simp [jj] at hn ⊢;omega) (by simp [jj] at hn ⊢;omega)
   |2,_,hn=>
    rw [M_2]
    split
    ·obtain⟨q,e1,k1⟩:=ih 3 0 st (.inl (by omega)) (by rw [if_pos (by omega)];exact⟨hle,hroom⟩) (by simp [jj] at hn ⊢;omega)
     exact⟨q,e1,k1⟩
    ·rename_i hc
     have hc:(pkS s st==((33:UInt8).toNat:Int))=true:=by simpa using hc
     obtain⟨h5,h6⟩:=zQ (cs:=[]) hc
     have h7:=z0E (l:=[33]) hle
     obtain⟨q,e1,k1⟩:=ih 2 0 (sgn s [33] st) (.inl (by omega)) (by rw [if_pos (by omega)];exact⟨h7,by show st.E.length+_+1<100000;omega⟩) (by simp [jj] at hn ⊢;omega)
     rw [if_pos (by omega)] at k1
     have g1:=k1.le;have g2:=k1.ge;have g3:=k1.grow
     have g3:q.2.E.length+2*(s.size - q.2.at_)≤st.E.length+2*(s.size -(sgn s [33] st).at_)+1:=g3
     rw [e1]
     simp only [Option.bind_some]
     refine⟨_,z0t (st:=q.2) _ (by omega),g1,by simp only;omega,by simp;omega⟩
   |6,_,hn=>
    rw [M_6]
    split
    ·obtain⟨q,e1,k1⟩:=ih 7 0 st (.inl (by omega)) (by rw [if_pos (by omega)];exact⟨hle,hroom⟩) (by simp [jj] at hn ⊢;omega)
     exact⟨q,e1,k1⟩
    ·rename_i hc
     have hc:(pkS s st==((45:UInt8).toNat:Int))=true:=by simpa using hc
     obtain⟨h5,h6⟩:=zQ (cs:=[]) hc
     have h7:=z0E (l:=[45]) hle
     obtain⟨q,e1,k1⟩:=ih 6 0 (sgn s [45] st) (.inl (by omega)) (by rw [if_pos (by omega)];exact⟨h7,by show st.E.length+_+1<100000;omega⟩) (by simp [jj] at hn ⊢;omega)
     rw [if_pos (by omega)] at k1
     have g1:=k1.le;have g2:=k1.ge;have g3:=k1.grow
     have g3:q.2.E.length+2*(s.size - q.2.at_)≤st.E.length+2*(s.size -(sgn s [45] st).at_)+1:=g3
     rw [e1]
     simp only [Option.bind_some]
     refine⟨_,z0t (st:=q.2) _ (by omega),g1,by simp only;omega,by simp;omega⟩
   |3,_,hn=>
    rw [M_3]
    obtain⟨q,e1,k1⟩:=ih 4 0 st (.inl (by omega)) (by rw [if_pos (by omega)];exact⟨hle,hroom⟩) (by simp [jj] at hn ⊢;omega)
    rw [if_pos (by omega)] at k1
    have g1:=k1.le;have g2:=k1.ge;have g3:=k1.grow
    rw [e1]
    simp only [Option.bind_some]
    have h7:=z1H s q.2.at_ q.2.bad g1
    by_cases hc:((z7 s q.2.at_ q.2.bad).2.2.size==0)=true
    ·have h8:=jG s q.2.at_ q.2.bad
     rw [if_pos hc]
     exact⟨_,rfl,h7,z6M g2 h8,by
      show q.2.E.length+2*(s.size -(z7 s q.2.at_ q.2.bad).1)≤_
      omega⟩
    ·obtain⟨h8,h9⟩:=z1b hc
     rw [if_neg hc]
     obtain⟨q2,e2,k2⟩:=ih 4 0 (q.2.put3 (z7 s q.2.at_ q.2.bad)) (.inl (by omega)) (by rw [if_pos (by omega)];exact⟨h7,by show q.2.E.length+2*(s.size -(z7 s q.2.at_ q.2.bad).1)+1<100000;omega⟩) (by
      show 4+20*(s.size -(z7 s q.2.at_ q.2.bad).1)≤n
      simp [jj] at hn;omega)
     rw [if_pos (by omega)] at k2
     have f1:=k2.le;have f2:=k2.ge;have f3:=k2.grow
     have f2:(z7 s q.2.at_ q.2.bad).1≤q2.2.at_:=f2
     have f3:q2.2.E.length+2*(s.size - q2.2.at_)≤q.2.E.length+2*(s.size -(z7 s q.2.at_ q.2.bad).1)+1:=f3
     rw [e2]
     simp only [Option.bind_some]
     refine⟨_,z0t _ (by omega),f1,by simp only;omega,by simp;omega⟩
   |7,_,hn=>
    rw [M_7]
    simp only
    have leaf: ∀(u:St) (x:Ex),u.E=st.E→st.at_≤u.at_→u.at_≤s.size→ ∃r,zX u x=some r∧QM s st r.2 1:=by
     intro u x hE h1 h2
     have hEl:u.E.length=st.E.length:=by rw [hE]
     refine⟨_,z0t _ (by omega),h2,h1,by simp;omega⟩
    split
    ·exact leaf _ _ rfl (z1B _ _ _) (z33 _ _ _ hle)
    ·split
     ·exact leaf _ _ rfl (z1x _ _ _) (z3f _ _ _ hle)
     ·split
      ·exact leaf _ _ rfl (z6M (z4D s [64] st) (jK _ _ _)) (z1U _ _ _ (z5W hle))
      ·split
       ·rename_i hc
        obtain⟨h5,h6⟩:=zQ (c:=40) (cs:=[]) hc
        have h7:=z0E (l:=[40]) hle
        obtain⟨q,e1,k1⟩:=ih 0 0 (sgn s [40] st) (.inl (by omega)) (by rw [if_pos (by omega)];exact⟨h7,by show st.E.length+_+1<100000;omega⟩) (by simp [jj] at hn ⊢;omega)
        rw [if_pos (by omega)] at k1
        have g1:=k1.le;have g2:=k1.ge;have g3:=k1.grow
        have g3:q.2.E.length+2*(s.size - q.2.at_)≤st.E.length+2*(s.size -(sgn s [40] st).at_)+1:=g3
        have g4:=jY s [41] q.2
        refine⟨_,by rw [e1];rfl,z0E g1,by simp only;omega,?_⟩
        show q.2.E.length+2*(s.size -(sgn s [41] q.2).at_)≤_
        omega
       ·split
        ·exact leaf _ _ rfl (jK _ _ _) (z1U _ _ _ hle)
        ·exact leaf _ _ rfl (jK _ _ _) (z1U _ _ _ hle)
  ·have hn7: ¬tag≤7:=by rcases ht with rfl|rfl|rfl|rfl<;>omega
   rw [if_neg hn7] at hroom ⊢
   have hn1:20*(s.size - st.at_)≤n:=by
    have:jj tag=1:=by rcases ht with rfl|rfl|rfl|rfl<;>rfl
    omega
   rcases ht with rfl|rfl|rfl|rfl
   ·rw [z2K]
    split
    ·rename_i hc
     obtain⟨h5,h6⟩:=zQ (c:=124) (cs:=[124]) hc
     exact three 1 10 (sgn s [124,124] st) (fun r=>⟨6,st.at_,⟨#[124,124]⟩,l,r.1⟩) (by omega) (.inl rfl) hroom rfl h5 h6 (z0E hle) hn1 (by decide)
    ·exact stop 0
   ·rw [z2p]
    split
    ·rename_i hc
     obtain⟨h5,h6⟩:=zQ (c:=38) (cs:=[38]) hc
     exact three 2 11 (sgn s [38,38] st) (fun r=>⟨6,st.at_,⟨#[38,38]⟩,l,r.1⟩) (by omega) (.inr (.inl rfl)) hroom rfl h5 h6 (z0E hle) hn1 (by decide)
    ·exact stop 0
   ·rw [z2z]
    simp only
    split
    ·exact stop 0
    ·rename_i hc
     obtain⟨h5,h6⟩:=z3u hc
     exact three 5 14 (sgn s (zd s st.at_ st.bad).data.toList st) (fun r=>⟨6,st.at_,zd s st.at_ st.bad,l,r.1⟩) (by omega) (.inr (.inr (.inl rfl))) hroom rfl h5 h6 (z0E hle) hn1 (by decide)
   ·rw [z2B]
    simp only
    split
    ·exact stop 0
    ·rename_i hc
     obtain⟨h5,h6⟩:=z1M hc
     exact three 6 15 (sgn s (z8 s st.at_ st.bad).data.toList st) (fun r=>⟨6,st.at_,z8 s st.at_ st.bad,l,r.1⟩) (by omega) (.inr (.inr (.inr rfl))) hroom rfl h5 h6 (z0E hle) hn1 (by decide)
attribute [local go_sem] wrap64_byte
def stp (c:Int):Bool:=c== -1||c==10||c==41
structure Win (s t:z6P)(o k:Nat):Prop where
 eq: ∀a,a<k→pk t (o+a) false=pk s a false
 sp:stp (pk s k false)=true
 tp:stp (pk t (o+k) false)=true
 ks:k≤s.size
def Dull (p:Int→Bool):Prop:=p (-1)=false∧p 10=false∧p 41=false
theorem Dull.st_ {p:Int→Bool}(h:Dull p){c:Int}(hc:stp c=true):p c=false:=by
 unfold stp at hc
 simp only [Bool.or_eq_true,beq_iff_eq] at hc
 rcases hc with(rfl|rfl)|rfl
 ·exact h.1
 ·exact h.2.1
 ·exact h.2.2
section
variable {s t:z6P} {o k:Nat}
theorem Win.test (h:Win s t o k){p:Int→Bool}(hp:Dull p){a:Nat}(ha:a≤k):p (pk t (o+a) false)=p (pk s a false):=by
 by_cases e:a=k
 ·subst e;rw [hp.st_ h.sp,hp.st_ h.tp]
 ·rw [h.eq a (by omega)]
theorem Win.rn (h:Win s t o k){p:Int→Bool}(hp:Dull p): ∀(m a:Nat),a≤k→run p s false m a≤k∧run p t false m (o+a)=o+run p s false m a:=by
 intro m
 induction m with
 |zero=>intro a ha;exact⟨ha,rfl⟩
 |succ m ih=>
  intro a ha
  have ht:=h.test hp ha
  unfold run
  rw [ht]
  cases hc:p (pk s a false) with
  |false=>exact⟨ha,rfl⟩
  |true=>
   have hk:a≠k:=fun e=>by subst e;rw [hp.st_ h.sp] at hc;cases hc
   exact ih (a+1) (by omega)
theorem Win.rn' (h:Win s t o k){p:Int→Bool}: ∀(m a:Nat),run p s false m a<k→run p t false m (o+a)=o+run p s false m a:=by
 intro m
 induction m with
 |zero=>intro a _;rfl
 |succ m ih=>
  intro a ha
  have hge:=z0D p s false (m+1) a
  have e:=h.eq a (by omega)
  unfold run at ha ⊢
  rw [e]
  cases hc:p (pk s a false) with
  |false=>rfl
  |true=>
   rw [hc] at ha
   exact ih (a+1) ha
theorem z2r:Dull zr:=⟨rfl,rfl,rfl⟩
theorem z1s:Dull zc:=⟨rfl,rfl,rfl⟩
theorem z3x {c:Int}(h:stp c=false):Dull (·==c):=by
 unfold stp at h
 simp only [Bool.or_eq_false_iff,beq_eq_false_iff_ne] at h
 refine⟨?_,?_,?_⟩<;>simp<;>omega
theorem Win.sk (h:Win s t o k): ∀(m a:Nat),a+m=k→skip s a false≤k∧skip t (o+a) false=o+skip s a false:=by
 intro m
 induction m with
 |zero=>
  intro a ha
  have e:a=k:=by omega
  subst e
  have h1:pk s a false≠32:=fun e=>by have:=h.sp;rw [e] at this;cases this
  have h2:pk t (o+a) false≠32:=fun e=>by have:=h.tp;rw [e] at this;cases this
  rw [zx h1,zx h2]
  exact⟨z6E _,rfl⟩
 |succ m ih=>
  intro a ha
  have e:=h.eq a (by omega)
  by_cases hb:pk s a false=32
  ·rw [←z0f hb,←z0f (s:=t) (a:=o+a) (by rw [e];exact hb)]
   exact ih (a+1) (by omega)
  ·rw [zx hb,zx (by rw [e];exact hb)]
   exact⟨by omega,rfl⟩
theorem Win.skp (h:Win s t o k){a:Nat}(ha:a≤k):skip s a false≤k∧skip t (o+a) false=o+skip s a false:=h.sk (k - a) a (by omega)
theorem Win.word (h:Win s t o k): ∀(l:List UInt8) (a:Nat),(zm s false l a).2=false→(zm s false l a).1≤k→zm t false l (o+a)=(o+(zm s false l a).1,false):=by
 intro l
 induction l with
 |nil=>intro a _ _;rfl
 |cons c cs ih=>
  intro a h1 h2
  unfold zm at h1 h2 ⊢
  by_cases hc:pk s a false=(c.toNat:Int)
  ·rw [if_pos hc] at h1 h2 ⊢
   have hge:=jV s false cs (a+1)
   rw [if_pos (by rw [h.eq a (by omega)];exact hc)]
   exact ih (a+1) h1 h2
  ·rw [if_neg hc] at h1;cases h1
theorem z2n {s:z6P}{l:List UInt8}{a:Nat}(h:(j7 s false l a).2=false):(zm s false l a).2=false∧(zm s false l a).1≤(j7 s false l a).1:=⟨h,by unfold j7;exact jJ _ _ _⟩
theorem Win.sign (h:Win s t o k){l:List UInt8}{a:Nat}(h1:(j7 s false l a).2=false)(h2:(j7 s false l a).1≤k):j7 t false l (o+a)=(o+(j7 s false l a).1,false):=by
 obtain⟨g1,g2⟩:=z2n h1
 have hw:=h.word l a g1 (by omega)
 have hk:=(h.skp (a:=(zm s false l a).1) (by omega)).2
 unfold j7
 rw [hw,g1]
 simp only
 rw [hk]
theorem zT {s:z6P}{a:Nat}(h:a<s.size):pk s a false=(s[a].toNat:Int):=by
 unfold pk;rw [if_neg (by decide),dif_pos h]
theorem Win.byte (h:Win s t o k){a:Nat}(ha:a<k): ∃(h1:a<s.size) (h2:o+a<t.size),t[o+a]=s[a]:=by
 have hs:a<s.size:=z6K ha h.ks
 have e:=h.eq a ha
 rw [zT hs] at e
 have ht:o+a<t.size:=(jQ (s:=t) (a:=o+a) (d:=false) (by rw [e];omega)).2
 rw [zT ht] at e
 exact⟨hs,ht,UInt8.toNat_inj.1 (by omega)⟩
theorem Win.ext (h:Win s t o k){a b:Nat}(hb:b≤k):t.extract (o+a) (o+b)=s.extract a b:=by
 by_cases hab:a<b
 ·have hs:b≤s.size:=z6M hb h.ks
  have ht:o+b≤t.size:=by
   obtain⟨_,h2,_⟩:=h.byte (a:=b - 1) (by omega)
   omega
  apply ByteArray.ext
  apply Array.ext
  ·show(t.extract (o+a) (o+b)).size=(s.extract a b).size
   rw [ByteArray.size_extract,ByteArray.size_extract]
   omega
  ·intro i h1 h2
   have h2':i<(s.extract a b).size:=h2
   rw [ByteArray.size_extract] at h2'
   obtain⟨q1,q2,q3⟩:=h.byte (a:=a+i) (by omega)
   have e1:(t.extract (o+a) (o+b)).data[i]=t[o+a+i]'(by omega):=by
    have:=ByteArray.getElem_extract (b:=t) (start:=o+a) (stop:=o+b) (i:=i) h1
    exact this
   have e2:(s.extract a b).data[i]=s[a+i]'q1:=by
    have:=ByteArray.getElem_extract (b:=s) (start:=a) (stop:=b) (i:=i) h2
    exact this
   rw [e1,e2,←q3]
   congr 1
   omega
 ·have e: ∀(u:z6P) (x y:Nat),y≤x→u.extract x y=⟨#[]⟩:=fun u x y hxy=>by
   apply ByteArray.ext
   apply Array.ext
   ·show(u.extract x y).size=0
    rw [ByteArray.size_extract];omega
   ·intro i h1 h2;exact absurd h2 (Nat.not_lt_zero i)
  rw [e _ _ _ (by omega),e _ _ _ (by omega)]
end
section
variable {s t:z6P} {o k:Nat}
theorem Win.tok (h:Win s t o k){p:Int→Bool}(hp:Dull p){m a:Nat}(ha:a≤k)(hg:(z0b p m s a false).2.1=false):(z0b p m s a false).1≤k∧z0b p m t (o+a) false=(o+(z0b p m s a false).1,false,(z0b p m s a false).2.2):=by
 obtain⟨r1,r2⟩:=h.rn hp m a ha
 unfold z0b at hg ⊢
 simp only at hg ⊢
 rw [r2,h.test hp r1,show(o+run p s false m a==o+a)=(run p s false m a==a) by rw [Bool.eq_iff_iff];simp]
 split at hg
 ·cases hg
 ·rename_i hc
  rw [if_neg hc]
  obtain⟨k1,k2⟩:=h.skp r1
  exact⟨k1,by rw [k2,h.ext r1,if_neg hc]⟩
theorem Win.name (h:Win s t o k){a:Nat}(ha:a≤k)(hg:(zK s a false).2.1=false):(zK s a false).1≤k∧zK t (o+a) false=(o+(zK s a false).1,false,(zK s a false).2.2):=h.tok z2r ha hg
theorem Win.eqs (h:Win s t o k){a:Nat}(ha:a≤k){c:Int}(hc:stp c=false):(pk t (o+a) false==c)=(pk s a false==c):=h.test (z3x hc) ha
theorem Win.number (h:Win s t o k){a:Nat}(ha:a≤k)(hg:(zA s a false).2.1=false):(zA s a false).1≤k∧zA t (o+a) false=(o+(zA s a false).1,false,(zA s a false).2.2):=by
 unfold zA at hg ⊢
 rw [h.eqs ha (c:=48) (by decide)]
 exact h.tok z1s ha hg
theorem z4a {s:z6P}{a:Nat}{c:UInt8}(h:(zm s false [c] a).2=false):(zm s false [c] a).1=a+1:=by
 unfold zm at h ⊢
 split at h
 ·rename_i hc;rw [if_pos hc];rfl
 ·cases h
theorem Win.quoted (h:Win s t o k){a:Nat}(hg:(zw s a false).2.1=false)(hk:(zw s a false).1≤k):zw t (o+a) false=(o+(zw s a false).1,false,(zw s a false).2.2):=by
 unfold zw at hg hk ⊢
 simp only at hg hk ⊢
 cases hv:(zm s false [34] a).2 with
 |true=>rw [hv,z15] at hg;cases hg
 |false=>
  rw [hv] at hg hk
  obtain⟨g1,g2⟩:=z2n hg
  have g3:=z4a g1
  have g4:=z0D zi s false 12 (zm s false [34] a).1
  have hw:=h.word [34] a hv (by omega)
  rw [hw]
  simp only
  have hr:=h.rn' (p:=zi) 12 (zm s false [34] a).1 (by omega)
  rw [hr,h.sign hg hk,h.ext (by omega)]
theorem Win.arrow (h:Win s t o k){a:Nat}(ha:a≤k):jc t (o+a) false=jc s a false:=by
 unfold jc
 rw [h.eqs ha (c:=45) (by decide)]
 cases hc:(pk s a false==45) with
 |false=>rfl
 |true=>
  have hk:a≠k:=fun e=>by
   subst e
   have:=(z3x (c:=45) (by decide)).st_ h.sp
   rw [hc] at this
   cases this
  rw [show o+a+1=o+(a+1) by omega,h.eqs (a:=a+1) (by omega) (c:=62) (by decide)]
theorem Win.sum (h:Win s t o k){a:Nat}(ha:a≤k):zd t (o+a) false=zd s a false:=by
 unfold zd
 rw [h.arrow ha,h.eqs ha (c:=43) (by decide),h.eqs ha (c:=45) (by decide),h.eqs ha (c:=46) (by decide)]
theorem Win.product (h:Win s t o k){a:Nat}(ha:a≤k):z8 t (o+a) false=z8 s a false:=by
 unfold z8
 rw [h.eqs ha (c:=42) (by decide),h.eqs ha (c:=47) (by decide),h.eqs ha (c:=37) (by decide)]
theorem Win.ordering (h:Win s t o k){short long:z6P}{a:Nat}(hg:(zl s short long a false).2.1=false)(hk:(zl s short long a false).1≤k):zl t short long (o+a) false=(o+(zl s short long a false).1,false,(zl s short long a false).2.2):=by
 unfold zl at hg hk ⊢
 simp only at hg hk ⊢
 cases hv:(zm s false short.data.toList a).2 with
 |true=>
  exfalso
  rw [hv] at hg
  rw [if_pos (by simp [pk])] at hg
  cases hg
 |false=>
  rw [hv] at hg hk
  have hle:(zm s false short.data.toList a).1≤k:=by
   split at hk
   ·exact z6M (jJ _ _ _) hk
   ·exact z6M (jC _ _ _ _) hk
  rw [h.word _ a hv hle]
  simp only
  rw [show(pk t (o+(zm s false short.data.toList a).1) false !=61)=(pk s (zm s false short.data.toList a).1 false !=61) by unfold bne;rw [h.eqs hle (c:=61) (by decide)]]
  split at hg
  ·rename_i hc
   rw [if_pos hc] at hk ⊢
   rw [if_pos hc,(h.skp hle).2]
  ·rename_i hc
   rw [if_neg hc] at hk ⊢
   rw [if_neg hc,h.sign hg hk]
theorem Win.comparing (h:Win s t o k){a:Nat}(ha:a≤k)(hg:(z7 s a false).2.1=false)(hk:(z7 s a false).1≤k):z7 t (o+a) false=(o+(z7 s a false).1,false,(z7 s a false).2.2):=by
 unfold z7 at hg hk ⊢
 rw [h.eqs ha (c:=61) (by decide),h.eqs ha (c:=33) (by decide),h.eqs ha (c:=60) (by decide),h.eqs ha (c:=62) (by decide)]
 split at hg
 ·rename_i hc;rw [if_pos hc] at hk ⊢;rw [if_pos hc,h.sign hg hk]
 ·rename_i hc
  rw [if_neg hc] at hk ⊢
  rw [if_neg hc]
  split at hg
  ·rename_i hc;rw [if_pos hc] at hk ⊢;rw [if_pos hc,h.sign hg hk]
  ·rename_i hc
   rw [if_neg hc] at hk ⊢
   rw [if_neg hc]
   split at hg
   ·rename_i hc;rw [if_pos hc] at hk ⊢;rw [if_pos hc,h.ordering hg hk]
   ·rename_i hc
    rw [if_neg hc] at hk ⊢
    rw [if_neg hc]
    split at hg
    ·rename_i hc;rw [if_pos hc] at hk ⊢;rw [if_pos hc,h.ordering hg hk]
    ·rename_i hc
     rw [if_neg hc,if_neg hc]
end
def shi (n:Nat)(i:Int):Int:=if i<0 then i else i+n
def shE (o n:Nat)(x:Ex):Ex:=⟨x.form,x.place+o,x.text,shi n x.left,shi n x.right⟩
def shL (o n:Nat)(x:Lc):Lc:=⟨x.form,x.text,shi n x.left,shi n x.right,if x.form=2 then x.place+o else x.place,x.count,x.items.map (shi n)⟩
def z6x (n m:Nat)(x:Cl):Cl:=⟨shi n x.test,x.form,x.result,shi m x.inner⟩
def shA (l c:Nat)(x:As):As:=⟨x.by_,shi l x.to_,shi c x.conds⟩
def shS (o:Nat)(P st:St):St:=⟨o+st.at_,st.bad,P.A++st.A.map (shA P.L.length P.C.length),P.L++st.L.map (shL o P.L.length),P.E++st.E.map (shE o P.E.length),P.C++st.C.map fun c=>c.map (z6x P.E.length P.C.length)⟩
theorem z50 (n i:Nat):shi n (i:Int)=((n+i:Nat):Int):=by unfold shi;rw [if_neg (by omega)];omega
theorem jp {o:Nat}{P st:St}{x y:Ex}{r r':Int×St}(h:zX st x=some r)(h':zX (shS o P st) y=some r')(hy:y=shE o P.E.length x):r'=(shi P.E.length r.1,shS o P r.2):=by
 obtain⟨_,rfl⟩:=zh h
 obtain⟨_,rfl⟩:=zh h'
 subst hy
 refine Prod.ext ?_ ?_
 ·show(((P.E++st.E.map (shE o P.E.length)).length:Nat):Int)=shi P.E.length (st.E.length:Int)
  rw [z50,List.length_append,List.length_map]
 ·show({shS o P st with E:=(P.E++st.E.map (shE o P.E.length))++[shE o P.E.length x]}:St)=shS o P {st with E:=st.E++[x]}
  unfold shS
  simp only [List.map_append,List.map_cons,List.map_nil,List.append_assoc]
section
variable {s t:z6P} {o k:Nat} {P:St}
theorem Win.pks (h:Win s t o k){st:St}(hb:st.bad=false)(ha:st.at_≤k){c:Int}(hc:stp c=false):(pkS t (shS o P st)==c)=(pkS s st==c):=by
 unfold pkS
 show(pk t (o+st.at_) st.bad==c)=_
 rw [hb]
 exact h.eqs ha hc
theorem Win.pkd (h:Win s t o k){st:St}(hb:st.bad=false)(ha:st.at_≤k):zc (pkS t (shS o P st))=zc (pkS s st):=by
 unfold pkS
 show zc (pk t (o+st.at_) st.bad)=_
 rw [hb]
 exact h.test z1s ha
theorem Win.sgn (h:Win s t o k){l:List UInt8}{st:St}(hb:st.bad=false)(h1:(sgn s l st).bad=false)(h2:(sgn s l st).at_≤k):sgn t l (shS o P st)=shS o P (sgn s l st):=by
 unfold Go.Proofs.YtkoohcilbpdgeaaDoor.sgn St.put at h1 h2 ⊢
 rw [hb] at h1 h2 ⊢
 simp only at h1 h2
 unfold shS
 simp only
 rw [hb,h.sign h1 h2,h1]
theorem Win.wrd (h:Win s t o k){l:List UInt8}{st:St}(hb:st.bad=false)(h1:(wrd s l st).bad=false)(h2:(wrd s l st).at_≤k):wrd t l (shS o P st)=shS o P (wrd s l st):=by
 unfold Go.Proofs.YtkoohcilbpdgeaaDoor.wrd St.put at h1 h2 ⊢
 rw [hb] at h1 h2 ⊢
 simp only at h1 h2
 unfold shS
 simp only
 rw [hb,h.word _ _ h1 h2,h1]
theorem Win.put3 {st:St}{x y:Nat×Bool×z6P}(hy:y=(o+x.1,x.2.1,x.2.2)):(shS o P st).put3 y=shS o P (st.put3 x):=by
 subst hy;rfl
theorem z2o {s:z6P}{n tag:Nat}{l:Int}{st:St}{r:Int×St}(h:M s n tag l st=some r)(hr:r.2.bad=false):st.bad=false:=by
 cases hb:st.bad with
 |false=>rfl
 |true=>have:=(z6m s n tag l st r h hb).1;rw [hr] at this;cases this
end
theorem z4F (n:Nat):shi n (-1)= -1:=by unfold shi;rw [if_pos (by decide)]
section
variable {s t:z6P} {o k:Nat} {P:St}
theorem jP {s:z6P}{a:Nat}{d:Bool}(h:(z7 s a d).2.1=false):d=false:=by
 cases d with
 |false=>rfl
 |true=>simp [z7,pk] at h
theorem z2v {s:z6P}{a:Nat}{d:Bool}(h:(zK s a d).2.1=false):d=false:=by
 cases d with
 |false=>rfl
 |true=>rw [z10] at h;cases h
theorem z5i {o e:Nat}(a:Nat)(f:Int)(c:z6P)(i j:Int):(⟨f,((o+a:Nat):Int),c,shi e i,shi e j⟩:Ex)=shE o e ⟨f,(a:Int),c,i,j⟩:=by
 unfold shE
 simp only
 rw [show((o+a:Nat):Int)=(a:Int)+o by omega]
theorem z62 {o e:Nat}(a:Nat)(f:Int)(c:z6P)(i:Int):(⟨f,((o+a:Nat):Int),c,shi e i,-1⟩:Ex)=shE o e ⟨f,(a:Int),c,i,-1⟩:=by
 rw [←z5i,z4F]
theorem z3J {o e:Nat}(a:Nat)(f:Int)(c:z6P):(⟨f,((o+a:Nat):Int),c,-1,-1⟩:Ex)=shE o e ⟨f,(a:Int),c,-1,-1⟩:=by
 rw [←z5i,z4F]
theorem z4J {s:z6P}{c:UInt8}{cs:List UInt8}{st:St}(h:(sgn s (c::cs) st).bad=false):st.bad=false:=by
 cases hb:st.bad with
 |false=>rfl
 |true=>rw [(z4W hb).1] at h;cases h
theorem z6f (W:Win s t o k): ∀n tag l st r,M s n tag l st=some r→r.2.bad=false→r.2.at_≤k→ ∀m l' r',(10≤tag→l'=shi P.E.length l)→M t m tag l' (shS o P st)=some r'→r'=(shi P.E.length r.1,shS o P r.2):=by
 intro n
 induction n with
 |zero=>intro tag l st r h;simp [M] at h
 |succ n ih=>
  intro tag l st r h hg hk m l' r' hl h'
  cases m with
  |zero=>simp [M] at h'
  |succ m=>
  have two: ∀{t1 t2:Nat} {st0:St},¬10≤t1→((M s n t1 0 st0).bind fun r=>M s n t2 r.1 r.2)=some r→((M t m t1 0 (shS o P st0)).bind fun r=>M t m t2 r.1 r.2)=some r'→r'=(shi P.E.length r.1,shS o P r.2):=fun ht h h'=>by
   obtain⟨q,h1,h2⟩:=z6A.1 h
   obtain⟨q',h1',h2'⟩:=z6A.1 h'
   obtain rfl:=ih _ _ _ _ h1 (z2o h2 hg) (z6M (z3c _ _ _ _ _ _ h2) hk) _ _ _ (fun h=>absurd h ht) h1'
   exact ih _ _ _ _ h2 hg hk _ _ _ (fun _=>rfl) h2'
  have three: ∀{t1 t2:Nat} {ls:List UInt8} {st0:St} {x x':Int×St→Ex},¬10≤t1→st0.bad=false→(∀q q',q'=(shi P.E.length q.1,shS o P q.2)→x' q'=shE o P.E.length (x q))→((M s n t1 0 (sgn s ls st0)).bind fun r=>(zX r.2 (x r)).bind fun q=>M s n t2 q.1 q.2)=some r→((M t m t1 0 (sgn t ls (shS o P st0))).bind fun r=>(zX r.2 (x' r)).bind fun q=>M t m t2 q.1 q.2)=some r'→r'=(shi P.E.length r.1,shS o P r.2):=fun ht hb hx h h'=>by
   obtain⟨q,h1,h2⟩:=z6A.1 h
   obtain⟨q2,h3,h4⟩:=z6A.1 h2
   obtain⟨q',h1',h2'⟩:=z6A.1 h'
   obtain⟨q2',h3',h4'⟩:=z6A.1 h2'
   have g2:=z2o h4 hg
   have a2:=z3c _ _ _ _ _ _ h4
   obtain⟨e1,e2⟩:=zM h3
   have g1:q.2.bad=false:=by rw [←e1];exact g2
   have a1:q.2.at_≤k:=by omega
   have g0:=z2o h1 g1
   have a0:=z3c _ _ _ _ _ _ h1
   rw [W.sgn hb g0 (by omega)] at h1'
   obtain rfl:=ih _ _ _ _ h1 g1 a1 _ _ _ (fun h=>absurd h ht) h1'
   obtain rfl:=jp h3 h3' (hx _ _ rfl)
   exact ih _ _ _ _ h4 hg hk _ _ _ (fun _=>rfl) h4'
  have one: ∀{t1:Nat} {ls:List UInt8} {st0:St} {x x':Int×St→Ex},¬10≤t1→st0.bad=false→(∀q q',q'=(shi P.E.length q.1,shS o P q.2)→x' q'=shE o P.E.length (x q))→((M s n t1 0 (sgn s ls st0)).bind fun r=>zX r.2 (x r))=some r→((M t m t1 0 (sgn t ls (shS o P st0))).bind fun r=>zX r.2 (x' r))=some r'→r'=(shi P.E.length r.1,shS o P r.2):=fun ht hb hx h h'=>by
   obtain⟨q,h1,h3⟩:=z6A.1 h
   obtain⟨q',h1',h3'⟩:=z6A.1 h'
   obtain⟨e1,e2⟩:=zM h3
   have g1:q.2.bad=false:=by rw [←e1];exact hg
   have a1:q.2.at_≤k:=by omega
   have g0:=z2o h1 g1
   have a0:=z3c _ _ _ _ _ _ h1
   rw [W.sgn hb g0 (by omega)] at h1'
   obtain rfl:=ih _ _ _ _ h1 g1 a1 _ _ _ (fun h=>absurd h ht) h1'
   exact jp h3 h3' (hx _ _ rfl)
  match tag,h,h' with
  |0,h,h'=>rw [M_0] at h h';exact two (by omega) h h'
  |1,h,h'=>rw [M_1] at h h';exact two (by omega) h h'
  |4,h,h'=>rw [M_4] at h h';exact two (by omega) h h'
  |5,h,h'=>rw [M_5] at h h';exact two (by omega) h h'
  |10,h,h'=>
   rw [z2K] at h h'
   have hb:st.bad=false:=z2o (s:=s) (n:=n+1) (tag:=10) (l:=l) (r:=r) (by rw [z2K];exact h) hg
   have ha:st.at_≤k:=z6M (z3c s (n+1) 10 l st r (by rw [z2K];exact h)) hk
   rw [W.pks hb ha (c:=124) (by decide)] at h'
   obtain rfl:=hl (by omega)
   split at h
   ·rename_i hc
    rw [if_pos hc] at h'
    exact three (t1:=1) (by omega) hb (fun q q' e=>by subst e;exact z5i st.at_ _ _ _ _) h h'
   ·rename_i hc
    rw [if_neg hc] at h'
    cases h;cases h';rfl
  |11,h,h'=>
   rw [z2p] at h h'
   have hb:st.bad=false:=z2o (s:=s) (n:=n+1) (tag:=11) (l:=l) (r:=r) (by rw [z2p];exact h) hg
   have ha:st.at_≤k:=z6M (z3c s (n+1) 11 l st r (by rw [z2p];exact h)) hk
   rw [W.pks hb ha (c:=38) (by decide)] at h'
   obtain rfl:=hl (by omega)
   split at h
   ·rename_i hc
    rw [if_pos hc] at h'
    exact three (t1:=2) (by omega) hb (fun q q' e=>by subst e;exact z5i st.at_ _ _ _ _) h h'
   ·rename_i hc
    rw [if_neg hc] at h'
    cases h;cases h';rfl
  |14,h,h'=>
   rw [z2z] at h h'
   simp only at h h'
   have hb:st.bad=false:=z2o (s:=s) (n:=n+1) (tag:=14) (l:=l) (r:=r) (by rw [z2z];exact h) hg
   have ha:st.at_≤k:=z6M (z3c s (n+1) 14 l st r (by rw [z2z];exact h)) hk
   have es:zd t (shS o P st).at_ (shS o P st).bad=zd s st.at_ st.bad:=by
    show zd t (o+st.at_) st.bad=_
    rw [hb]
    exact W.sum ha
   rw [es] at h'
   obtain rfl:=hl (by omega)
   split at h
   ·rename_i hc
    rw [if_pos hc] at h'
    cases h;cases h';rfl
   ·rename_i hc
    rw [if_neg hc] at h'
    exact three (t1:=5) (by omega) hb (fun q q' e=>by subst e;exact z5i st.at_ _ _ _ _) h h'
  |15,h,h'=>
   rw [z2B] at h h'
   simp only at h h'
   have hb:st.bad=false:=z2o (s:=s) (n:=n+1) (tag:=15) (l:=l) (r:=r) (by rw [z2B];exact h) hg
   have ha:st.at_≤k:=z6M (z3c s (n+1) 15 l st r (by rw [z2B];exact h)) hk
   have es:z8 t (shS o P st).at_ (shS o P st).bad=z8 s st.at_ st.bad:=by
    show z8 t (o+st.at_) st.bad=_
    rw [hb]
    exact W.product ha
   rw [es] at h'
   obtain rfl:=hl (by omega)
   split at h
   ·rename_i hc
    rw [if_pos hc] at h'
    cases h;cases h';rfl
   ·rename_i hc
    rw [if_neg hc] at h'
    exact three (t1:=6) (by omega) hb (fun q q' e=>by subst e;exact z5i st.at_ _ _ _ _) h h'
  |2,h,h'=>
   rw [M_2] at h h'
   have hb:st.bad=false:=z2o (s:=s) (n:=n+1) (tag:=2) (l:=l) (r:=r) (by rw [M_2];exact h) hg
   have ha:st.at_≤k:=z6M (z3c s (n+1) 2 l st r (by rw [M_2];exact h)) hk
   rw [show(pkS t (shS o P st) !=33)=(pkS s st !=33) by unfold bne;rw [W.pks hb ha (c:=33) (by decide)]] at h'
   split at h
   ·rename_i hc
    rw [if_pos hc] at h'
    exact ih _ _ _ _ h hg hk _ _ _ (by omega) h'
   ·rename_i hc
    rw [if_neg hc] at h'
    exact one (t1:=2) (by omega) hb (fun q q' e=>by subst e;exact z62 st.at_ _ _ _) h h'
  |6,h,h'=>
   rw [M_6] at h h'
   have hb:st.bad=false:=z2o (s:=s) (n:=n+1) (tag:=6) (l:=l) (r:=r) (by rw [M_6];exact h) hg
   have ha:st.at_≤k:=z6M (z3c s (n+1) 6 l st r (by rw [M_6];exact h)) hk
   rw [show(pkS t (shS o P st) !=45)=(pkS s st !=45) by unfold bne;rw [W.pks hb ha (c:=45) (by decide)]] at h'
   split at h
   ·rename_i hc
    rw [if_pos hc] at h'
    exact ih _ _ _ _ h hg hk _ _ _ (by omega) h'
   ·rename_i hc
    rw [if_neg hc] at h'
    exact one (t1:=6) (by omega) hb (fun q q' e=>by subst e;exact z62 st.at_ _ _ _) h h'
  |3,h,h'=>
   rw [M_3] at h h'
   obtain⟨q,h1,h2⟩:=z6A.1 h
   obtain⟨q',h1',h2'⟩:=z6A.1 h'
   simp only at h2 h2'
   have hc:(z7 s q.2.at_ q.2.bad).2.1=false∧(z7 s q.2.at_ q.2.bad).1≤k:=by
    split at h2
    ·cases h2;exact⟨hg,hk⟩
    ·obtain⟨q2,h3,h4⟩:=z6A.1 h2
     obtain⟨e1,e2⟩:=zM h4
     have g2:q2.2.bad=false:=by rw [←e1];exact hg
     have a2:=z3c _ _ _ _ _ _ h3
     exact⟨z2o h3 g2,z6M a2 (by omega)⟩
   obtain⟨hc1,hc2⟩:=hc
   have hq:=jP hc1
   have ha:q.2.at_≤k:=z6M (jG s q.2.at_ q.2.bad) hc2
   obtain rfl:=ih _ _ _ _ h1 hq ha _ _ _ (fun h=>absurd h (by omega)) h1'
   have ec:z7 t (shS o P q.2).at_ (shS o P q.2).bad=(o+(z7 s q.2.at_ q.2.bad).1,(z7 s q.2.at_ q.2.bad).2.1,(z7 s q.2.at_ q.2.bad).2.2):=by
    show z7 t (o+q.2.at_) q.2.bad=_
    rw [hq] at hc1 hc2 ⊢
    rw [W.comparing ha hc1 hc2,hc1]
   rw [ec] at h2'
   simp only at h2'
   split at h2
   ·rename_i hz
    rw [if_pos hz] at h2'
    cases h2;cases h2';rfl
   ·rename_i hz
    rw [if_neg hz] at h2'
    obtain⟨q2,h3,h4⟩:=z6A.1 h2
    obtain⟨q2',h3',h4'⟩:=z6A.1 h2'
    obtain⟨e1,e2⟩:=zM h4
    rw [Win.put3 (x:=z7 s q.2.at_ q.2.bad) rfl] at h3'
    obtain rfl:=ih _ _ _ _ h3 (by rw [←e1];exact hg) (by omega) _ _ _ (fun h=>absurd h (by omega)) h3'
    exact jp h4 h4' (z5i q.2.at_ _ _ _ _)
  |7,h,h'=>
   rw [M_7] at h h'
   simp only at h h'
   have hb:st.bad=false:=z2o (s:=s) (n:=n+1) (tag:=7) (l:=l) (r:=r) (by rw [M_7];exact h) hg
   have ha:st.at_≤k:=z6M (z3c s (n+1) 7 l st r (by rw [M_7];exact h)) hk
   rw [W.pkd hb ha,W.pks hb ha (c:=34) (by decide),W.pks hb ha (c:=64) (by decide),W.pks hb ha (c:=40) (by decide)] at h'
   have bad':(shS o P st).bad=false:=hb
   split at h
   ·rename_i hz
    rw [if_pos hz] at h'
    obtain⟨e1,e2⟩:=zM h
    rw [hb] at h
    rw [bad'] at h'
    have c1:(zA s st.at_ st.bad).2.1=false:=e1.symm.trans hg
    rw [hb] at c1
    obtain⟨_,w2⟩:=W.number ha c1
    rw [show(shS o P st).at_=o+st.at_ from rfl,w2,Win.put3 (x:=zA s st.at_ false) (by rw [c1])] at h'
    exact jp h h' (z3J st.at_ _ _)
   ·rename_i hz
    rw [if_neg hz] at h'
    split at h
    ·rename_i hz
     rw [if_pos hz] at h'
     obtain⟨e1,e2⟩:=zM h
     rw [hb] at h
     rw [bad'] at h'
     have c1:(zw s st.at_ st.bad).2.1=false:=e1.symm.trans hg
     have c2:(zw s st.at_ st.bad).1≤k:=z6M (Nat.le_of_eq e2.symm) hk
     rw [hb] at c1 c2
     have w2:=W.quoted c1 c2
     rw [show(shS o P st).at_=o+st.at_ from rfl,w2,Win.put3 (x:=zw s st.at_ false) (by rw [c1])] at h'
     exact jp h h' (z3J st.at_ _ _)
    ·rename_i hz
     rw [if_neg hz] at h'
     split at h
     ·rename_i hz
      rw [if_pos hz] at h'
      obtain⟨e1,e2⟩:=zM h
      have u1:(zK s (wrd s [64] st).at_ (wrd s [64] st).bad).2.1=false:=e1.symm.trans hg
      have u2:=z2v u1
      have u3:(wrd s [64] st).at_≤k:=z6M (jK _ _ _) (z6M (Nat.le_of_eq e2.symm) hk)
      rw [W.wrd hb u2 u3] at h'
      have w2:zK t (shS o P (wrd s [64] st)).at_ (shS o P (wrd s [64] st)).bad=(o+(zK s (wrd s [64] st).at_ (wrd s [64] st).bad).1,(zK s (wrd s [64] st).at_ (wrd s [64] st).bad).2.1,(zK s (wrd s [64] st).at_ (wrd s [64] st).bad).2.2):=by
       show zK t (o+(wrd s [64] st).at_) (wrd s [64] st).bad=_
       rw [u2] at u1 ⊢
       rw [(W.name u3 u1).2,u1]
      rw [w2,Win.put3 (x:=zK s (wrd s [64] st).at_ (wrd s [64] st).bad) rfl] at h'
      exact jp h h' (z3J st.at_ _ _)
     ·rename_i hz
      rw [if_neg hz] at h'
      split at h
      ·rename_i hz
       rw [if_pos hz] at h'
       obtain⟨q,h1,h2⟩:=z6A.1 h
       obtain⟨q',h1',h2'⟩:=z6A.1 h'
       cases h2
       cases h2'
       have g1:=z4J hg
       have a1:q.2.at_≤k:=z6M (jY s [41] q.2) hk
       have g0:=z2o h1 g1
       have a0:=z3c _ _ _ _ _ _ h1
       rw [W.sgn hb g0 (by omega)] at h1'
       obtain rfl:=ih _ _ _ _ h1 g1 a1 _ _ _ (fun h=>absurd h (by omega)) h1'
       simp only
       rw [W.sgn g1 hg hk]
      ·rename_i hz
       rw [if_neg hz] at h'
       have u1:(zK s st.at_ st.bad).2.1=false:=by
        split at h
        ·exact(zM h).1.symm.trans hg
        ·exact(zM h).1.symm.trans hg
       have w2:zK t (shS o P st).at_ (shS o P st).bad=(o+(zK s st.at_ st.bad).1,(zK s st.at_ st.bad).2.1,(zK s st.at_ st.bad).2.2):=by
        show zK t (o+st.at_) st.bad=_
        rw [hb] at u1 ⊢
        rw [(W.name ha u1).2,u1]
       rw [w2,Win.put3 (x:=zK s st.at_ st.bad) rfl] at h'
       simp only at h'
       split at h
       ·rename_i hz
        rw [if_pos hz] at h'
        exact jp h h' (z3J st.at_ _ _)
       ·rename_i hz
        rw [if_neg hz] at h'
        exact jp h h' (z3J st.at_ _ _)
  |8,h,h'=>simp [M] at h
  |9,h,h'=>simp [M] at h
  |12,h,h'=>simp [M] at h
  |13,h,h'=>simp [M] at h
  |u+16,h,h'=>simp [M] at h
end
theorem z31 (s:z6P)(i j:Nat):(s.extract i j).toList=(s.data.toList.drop i).take (j - i):=by
 rw [z6D,ByteArray.data_extract,Array.toList_extract,List.extract_eq_take_drop]
theorem z4X (s:z6P)(p:Nat)(h:p<s.size):s.data.toList.drop p=s[p]::s.data.toList.drop (p+1):=jO s p h
theorem z6z {s:z6P}{p:Nat}(h:p+1≤s.size):(s.extract p (p+1)).toList=[s[p]]:=by
 rw [z31,z4X s p (by omega),show p+1 - p=1 by omega]
 rfl
theorem z5G (x c:UInt8):(x==c)=((x.toNat:Int)==(c.toNat:Int)):=by
 rw [Bool.eq_iff_iff]
 simp only [beq_iff_eq]
 constructor
 ·intro h;rw [h]
 ·intro h;exact UInt8.toNat_inj.1 (by omega)
theorem z6v {s:z6P}{p:Nat}(c:UInt8)(h:p+1≤s.size):((s.extract p (p+1)).toList==[c])=(pk s p false==(c.toNat:Int)):=by
 rw [z6z h,show pk s p false=(s[p].toNat:Int) by simp [pk,show p<s.size by omega],←z5G]
 simp
structure Rf (b:Nat)(w w':World):Prop where
 os:w'.os=w.os
 tape:w'.tape=w.tape
 output:w'.output=w.output
 size:w.heap.size≤w'.heap.size
 block: ∀k,k<w.heap.size→k≠b→w'.heap[k]?=w.heap[k]?
theorem Rf.refl (b:Nat)(w:World):Rf b w w:=⟨rfl,rfl,rfl,z6E _,fun _ _ _=>rfl⟩
theorem Rf.trans {b:Nat}{u v w:World}(h:Rf b u v)(k:Rf b v w):Rf b u w:=
 ⟨k.os.trans h.os,k.tape.trans h.tape,k.output.trans h.output,z6M h.size k.size,fun i hi hn=>(k.block i (z6K hi h.size) hn).trans (h.block i hi hn)⟩
theorem Rf.drewN {b:Nat}{u w:World}(h:Rf b u w)(n:Nat):Rf b u (w.drewN n):=⟨h.os,h.tape,h.output,h.size,h.block⟩
theorem Rf.alloc {b:Nat}{u w:World}(h:Rf b u w)(o:Obj):Rf b u (w.alloc o):=h.trans ⟨rfl,rfl,rfl,by simp,fun k hk _=>z6G _ _ _ hk⟩
theorem Sc.rf {b:Nat}{w w':World}(h:Sc b w w'):Rf b w w':=⟨h.os,h.tape,h.output,Nat.le_of_eq h.size.symm,fun k _ hn=>h.block k hn⟩
theorem Rf.setCell {b:Nat}{u w:World}(h:Rf b u w){a:Addr}(ha:u.heap.size≤a.block)(v:Value):Rf b u (w.setCell a v):=
 ⟨h.os,h.tape,h.output,by simpa [World.setCell] using h.size,fun k hk hn=>(z6N _ _ _ _ (by omega)).trans (h.block k hk hn)⟩
theorem zj (b a:Nat)(s:z6P)(d:Bool)(w:World)(h:Rd w b s a d):
  Calls Tryd.prog 20 #[.pointer (some ⟨b,0,none⟩)] w fun e w'=>e= .returned (.int .i64 (pk s a d))∧ ∃n,w'=w.drewN n:=by
 obtain⟨h0,h1,h2,_,_,ha,hs⟩:=h
 cases d with
 |true=>
  have hp:pk s a true= -1:=rfl
  rw [hp]
  clear hp
  go_enter Tryd.func20,Tryd.ntmps20
  go_wp2_with fail
  go_quiet (fail)
  go_wp2_with fail
  go_ret
  exact⟨rfl,_,rfl⟩
 |false=>
  by_cases hlt:a<s.size
  ·have hp:pk s a false=s[a].toNat:=by simp [pk,hlt]
   rw [hp]
   clear hp ha
   go_enter Tryd.func20,Tryd.ntmps20
   go_wp2_with fail
   go_quiet (fail)
   go_wp2_with fail
   go_quiet (fail)
   go_wp2_with fail
   go_ret
   exact⟨by simp [wrap64_byte],_,World.drewN_drewN _ _ _⟩
  ·have hp:pk s a false= -1:=by simp [pk,hlt]
   rw [hp]
   clear hp
   go_enter Tryd.func20,Tryd.ntmps20
   go_wp2_with fail
   go_quiet (fail)
   go_wp2_with fail
   go_ret
   exact⟨rfl,_,rfl⟩
theorem jg (b a:Nat)(s:z6P)(d:Bool)(w:World)(h:Rd w b s a d):
  Calls Tryd.prog 23 #[.pointer (some ⟨b,0,none⟩)] w fun e w'=>e= .returned (.tuple #[])∧Rd w' b s a true∧Sc b w w':=by
 have hr:=h.setBad true
 obtain⟨h0,h1,h2,f1,f2,ha,hs⟩:=h
 go_enter Tryd.func23,Tryd.ntmps23
 go_wp2_with fail
 go_end0
 exact⟨rfl,hr,(Sc.refl _ _).setCell 2 (Or.inr rfl) _⟩
theorem jx (b a:Nat)(s:z6P)(d:Bool)(w:World)(h:Rd w b s a d):
  Calls Tryd.prog 14 #[.pointer (some ⟨b,0,none⟩)] w fun e w'=>e= .returned (.tuple #[])∧Rd w' b s (skip s a d) d∧Sc b w w':=by
 go_enter Tryd.func14,Tryd.ntmps14
 go_wp2_with fail
 go_loopw [] (fun wr=> ∃k,Rd wr b s k d∧Sc b w wr∧Hid (skip s k d=skip s a d)) (fun wr=>s.size - atOf wr b)
 case atStart=>exact⟨a,h,Sc.refl _ _,rfl⟩
 case round=>
  obtain⟨k,hk,hsc,hsk⟩:=hrel
  have hat:=z6 hk.atOf
  have hk':=hk
  by_cases hb:pk s k d=32
  ·have hlt:=(jQ (s:=s) (a:=k) (d:=d) (by omega)).2
   have hset:=fun n=>(hk.drewN n).setAt' (k+1) (k+1) (by omega) hlt
   have hst:=z6 (z0f hb)
   have hb':(pk s k d==32)=true:=by simp [hb]
   clear hb
   obtain⟨h0,h1,h2,f1,f2,ha,hs⟩:=hk
   go_wp2_with (go_at_call 20;refine(zj _ _ _ _ _ hk').mono ?_;rintro e w1 ⟨rfl,n,rfl⟩)
   have hset:=hset n
   go_roundw
   case rel=>exact⟨k+1,hset,(hsc.drewN n).setCell 1 (Or.inl rfl) _,hst.out.trans hsk.out⟩
   case measure=>rw [hset.atOf,hat.out];omega
  ·have hst:=z6 (zx hb)
   have hb':(pk s k d==32)=false:=by simp [hb]
   clear hb
   obtain⟨h0,h1,h2,f1,f2,ha,hs⟩:=hk
   go_wp2_with (go_at_call 20;refine(zj _ _ _ _ _ hk').mono ?_;rintro e w1 ⟨rfl,n,rfl⟩)
   go_end0
   exact⟨rfl,by rw [←hsk.out,hst.out];exact hk'.drewN n,hsc.drewN n⟩
theorem jE (b a:Nat)(s t:z6P)(d:Bool)(w:World)(h:Rd w b s a d)(ht:t.size≤600):
  Calls Tryd.prog 21 #[.pointer (some ⟨b,0,none⟩),.string t] w fun e w'=>e= .returned (.tuple #[])∧Rd w' b s (zm s d t.data.toList a).1 (zm s d t.data.toList a).2∧Sc b w w':=by
 go_enter Tryd.func21,Tryd.ntmps21
 go_wp2_with fail
 go_loopw [4] (fun i wr=> ∃k ak:Nat,i= .int .i64 k∧k≤t.size∧Rd wr b s ak d∧Sc b w wr∧Hid (zm s d (t.data.toList.drop k) ak=zm s d t.data.toList a)) (fun i wr=>t.size -(intOf i).toNat)
 case atStart=>exact⟨0,a,rfl,z6L _,h,Sc.refl _ _,rfl⟩
 case round=>
  obtain⟨k,ak,rfl,hkt,hk,hsc,hsk⟩:=hrel
  have hk':=hk
  by_cases hlt:k<t.size
  ·by_cases hb:pk s ak d=(t[k].toNat:Int)
   ·have hl2:=(jQ (s:=s) (a:=ak) (d:=d) (by omega)).2
    have hset:=fun n=>(hk.drewN n).setAt' (ak+1) (ak+1) (by omega) hl2
    have hst:Hid (zm s d (t.data.toList.drop (k+1)) (ak+1)=zm s d t.data.toList a):=z6 (by rw [←hsk.out,jO t k hlt,j8 hb])
    have hb':(pk s ak d !=(t[k].toNat:Int))=false:=by simp [hb]
    clear hb
    obtain⟨h0,h1,h2,f1,f2,ha,hs⟩:=hk
    go_wp2_with fail
    go_quiet ((go_at_call 20;exact Calls.quiet_of (zj _ _ _ _ _ (hk'.drewN _))))
    go_wp2_with fail
    have hset:=hset nq
    go_roundw
    case rel=>exact⟨k+1,ak+1,by go_num,by omega,hset,(hsc.drewN nq).setCell 1 (Or.inl rfl) _,hst⟩
    case measure=>simp [intOf];omega
   ·have hst:Hid (zm s d t.data.toList a=(ak,true)):=z6 (by rw [←hsk.out,jO t k hlt,z0q hb])
    have hb':(pk s ak d !=(t[k].toNat:Int))=true:=by simp [hb]
    clear hb
    go_wp2_with fail
    go_quiet ((go_at_call 20;exact Calls.quiet_of (zj _ _ _ _ _ (hk'.drewN _))))
    go_wp2_with (go_at_call 23;refine(jg _ _ _ _ _ (hk'.drewN _)).mono ?_;rintro e w1 ⟨rfl,hr1,hs1⟩)
    refine bodyPost_ret (results_none rfl _ _ _) rfl ?_
    exact⟨rfl,by rw [hst.out];exact hr1,(hsc.drewN _).trans hs1⟩
  ·have hst:Hid (zm s d t.data.toList a=(ak,d)):=z6 (by rw [←hsk.out,z6H (by simpa using hlt)];rfl)
   go_wp2_with fail
   go_end0
   exact⟨rfl,by rw [hst.out];exact hk',hsc⟩
theorem zR (b a:Nat)(s t:z6P)(d:Bool)(w:World)(h:Rd w b s a d)(ht:t.size≤600):
  Calls Tryd.prog 27 #[.pointer (some ⟨b,0,none⟩),.string t] w fun e w'=>e= .returned (.tuple #[])∧Rd w' b s (j7 s d t.data.toList a).1 (j7 s d t.data.toList a).2∧Sc b w w':=by
 go_enter Tryd.func27,Tryd.ntmps27
 go_wp2_with (first|(go_at_call 21;refine(jE _ _ _ _ _ _ h ht).mono ?_;rintro e w1 ⟨rfl,hr1,hs1⟩)|(go_at_call 14;refine(jx _ _ _ _ _ hr1).mono ?_;rintro e w2 ⟨rfl,hr2,hs2⟩))
 go_end0
 exact⟨rfl,hr2,hs1.trans hs2⟩
theorem zq (b a:Nat)(s:z6P)(d:Bool)(w:World)(h:Rd w b s a d):
  Calls Tryd.prog 54 #[.pointer (some ⟨b,0,none⟩)] w fun e w'=>e= .returned (.bool (zc (pk s a d)))∧ ∃n,w'=w.drewN n:=by
 have hr:=z0L s a d
 generalize hp:pk s a d=c at*
 have hP:=zj b a s d w h
 rw [hp] at hP
 have HP:=z6 hP
 clear hP hp
 by_cases h1:48≤c
 all_goals by_cases h2:c≤57
 all_goals try omega
 all_goals
  go_enter Tryd.func54,Tryd.ntmps54
  go_wp2_with (go_at_call 20;refine HP.out.mono ?_;rintro e w1 ⟨rfl,n,rfl⟩)
  go_ret
  exact⟨by simp [zc];omega,_,rfl⟩
theorem jd (b a:Nat)(s:z6P)(d:Bool)(w:World)(h:Rd w b s a d):
  Calls Tryd.prog 42 #[.pointer (some ⟨b,0,none⟩)] w fun e w'=>e= .returned (.bool (zr (pk s a d)))∧ ∃n,w'=w.drewN n:=by
 have hr:=z0L s a d
 generalize hp:pk s a d=c at*
 have hP:=zj b a s d w h
 rw [hp] at hP
 have HP:=z6 hP
 clear hP hp
 by_cases h1:97≤c
 all_goals by_cases h2:c≤122
 all_goals by_cases h3:65≤c
 all_goals by_cases h4:c≤90
 all_goals try omega
 all_goals
  go_enter Tryd.func42,Tryd.ntmps42
  go_wp2_with (go_at_call 20;refine HP.out.mono ?_;rintro e w1 ⟨rfl,n,rfl⟩)
  go_ret
  exact⟨by simp [zr];first|omega|(rw [Bool.eq_iff_iff];simp;omega),_,rfl⟩
theorem ju (b a:Nat)(s:z6P)(d:Bool)(w:World)(h:Rd w b s a d):
  Calls Tryd.prog 75 #[.pointer (some ⟨b,0,none⟩)] w fun e w'=>e= .returned (.bool (zi (pk s a d)))∧ ∃n,w'=w.drewN n:=by
 have hr:=z0L s a d
 generalize hp:pk s a d=c at*
 have hP:=zj b a s d w h
 rw [hp] at hP
 have HP:=z6 hP
 clear hP hp
 cases h1:(c != -1)
 all_goals cases h2:(c !=34)
 all_goals cases h3:(c !=10)
 all_goals
  go_enter Tryd.func75,Tryd.ntmps75
  go_wp2_with (go_at_call 20;refine HP.out.mono ?_;rintro e w1 ⟨rfl,n,rfl⟩)
  go_ret
  exact⟨by simp [zi,h1,h2,h3],_,rfl⟩
theorem z0n (b a:Nat)(s:z6P)(d:Bool)(w:World)(h:Rd w b s a d):
  Calls Tryd.prog 31 #[.pointer (some ⟨b,0,none⟩)] w fun e w'=>e= .returned (.string (jb zr 8 s a d).2.2)∧Rd w' b s (jb zr 8 s a d).1 (jb zr 8 s a d).2.1∧Sc b w w':=by
 have hle:=h.le
 have hsz:=h.sz
 obtain⟨h0,h1,h2,f1,f2,_,_⟩:=id h
 go_enter Tryd.func31,Tryd.ntmps31
 go_wp2_with fail
 go_loopw [] (fun wr=> ∃k,Rd wr b s k d∧Sc b w wr∧a≤k∧k≤a+8∧Hid (run zr s d (8 -(k - a)) k=run zr s d 8 a)) (fun wr=>s.size - atOf wr b)
 case atStart=>exact⟨a,h,Sc.refl _ _,z6E _,by omega,by simp [Hid]⟩
 case round=>
  obtain⟨k,hk,hsc,hak,hk8,hsk⟩:=hrel
  have hat:=z6 hk.atOf
  have hk':=hk
  clear h0 h1 h2 f1 f2
  obtain⟨h0,h1,h2,f1,f2,ha,hs⟩:=hk
  have hend:k - a<8→zr (pk s k d)=true∨Hid (run zr s d 8 a=k):=by
   intro h8
   cases hb:zr (pk s k d)
   ·exact .inr (z6 (by rw [←hsk.out];exact jr hb))
   ·exact .inl rfl
  by_cases hgo:k - a<8∧zr (pk s k d)=true
  ·obtain⟨h8,hb⟩:=hgo
   have h8':(k:Int)- a<8:=by omega
   have hne:pk s k d≠ -1:=fun e=>by rw [e] at hb;exact absurd hb (by decide)
   have hlt:=(jQ hne).2
   have hset:=fun n=>(hk'.drewN n).setAt' (k+1) (k+1) (by omega) hlt
   have hst:Hid (run zr s d (8 -(k+1 - a)) (k+1)=run zr s d 8 a):=z6 (by
    rw [←hsk.out,show 8 -(k - a)=(8 -(k+1 - a))+1 by omega,z1t hb])
   clear hne hend
   go_wp2_with (go_at_call 42;refine(jd _ _ _ _ _ hk').mono ?_;rintro e w1 ⟨rfl,n,rfl⟩)
   have hset:=hset n
   go_roundw
   case rel=>exact⟨k+1,hset,(hsc.drewN n).setCell 1 (Or.inl rfl) _,by omega,by omega,hst⟩
   case measure=>rw [hset.atOf,hat.out];omega
  ·have hrun:Hid (run zr s d 8 a=k):=by
    by_cases h8:k - a<8
    ·exact(hend h8).resolve_left fun e=>hgo ⟨h8,e⟩
    ·exact z6 (by rw [←hsk.out,show 8 -(k - a)=0 by omega];rfl)
   clear hend hsk hat hk8
   by_cases h8:k - a<8
   ·have h8':(k:Int)- a<8:=by omega
    have hb:zr (pk s k d)=false:=by cases hc:zr (pk s k d) with|false=>rfl|true=>exact absurd ⟨h8,hc⟩ hgo
    clear hgo
    by_cases hka:k=a
    ·have hfin:=z6 (jw hrun.out (.inl hka))
     have hka':((k:Int)==a)=true:=by simp [hka]
     clear hka
     go_wp2_with (first|(go_at_call 42;refine(jd _ _ _ _ _ hk').mono ?_;rintro e w1 ⟨rfl,n,rfl⟩)|(go_at_call 23;refine(jg _ _ _ _ _ (hk'.drewN n)).mono ?_;rintro e w1 ⟨rfl,hr1,hs1⟩))
     go_ret
     exact⟨by rw [hfin.out];rfl,by rw [hfin.out];exact hr1,(hsc.drewN n).trans hs1⟩
    ·have hfin:=z6 (jH hrun.out hka hb)
     have hka':((k:Int)==a)=false:=by simp;omega
     clear hka
     go_wp2_with (go_at_call 42;refine(jd b k s d _ (by first|exact hk'|exact hk'.drewN _)).mono ?_;rintro e w1 ⟨rfl,n,rfl⟩)
     go_quiet (fail)
     go_wp2_with fail
     go_ret
     exact⟨by rw [hfin.out];simp,by rw [hfin.out];exact(hk'.drewN _).drewN _,(hsc.drewN _).drewN _⟩
   ·have h8': ¬(k:Int)- a<8:=by omega
    clear hgo
    have hka':((k:Int)==a)=false:=by simp;omega
    cases hb:zr (pk s k d)
    ·have hfin:=z6 (jH hrun.out (by omega) hb)
     go_wp2_with (go_at_call 42;refine(jd b k s d _ (by first|exact hk'|exact hk'.drewN _)).mono ?_;rintro e w1 ⟨rfl,n,rfl⟩)
     go_quiet (fail)
     go_wp2_with fail
     go_ret
     exact⟨by rw [hfin.out];simp,by rw [hfin.out];exact(hk'.drewN _).drewN _,(hsc.drewN _).drewN _⟩
    ·have hfin:=z6 (jw hrun.out (.inr hb))
     go_wp2_with (first|(go_at_call 42;refine(jd b k s d _ (by first|exact hk'|exact hk'.drewN _)).mono ?_;rintro e w1 ⟨rfl,n,rfl⟩)|(go_at_call 23;refine(jg b k s d _ (by exact hk'.drewN _)).mono ?_;rintro e w1 ⟨rfl,hr1,hs1⟩))
     go_ret
     exact⟨by rw [hfin.out];rfl,by rw [hfin.out];exact hr1,(hsc.drewN _).trans hs1⟩
theorem z2c (b a:Nat)(s:z6P)(d:Bool)(w:World)(h:Rd w b s a d):
  Calls Tryd.prog 31 #[.pointer (some ⟨b,0,none⟩)] w fun e w'=>e= .returned (.string (zH s a d).2.2)∧Rd w' b s (zH s a d).1 (zH s a d).2.1∧Sc b w w':=z0n b a s d w h
theorem z2U (b a:Nat)(s:z6P)(d:Bool)(w:World)(h:Rd w b s a d):
  Calls Tryd.prog 74 #[.pointer (some ⟨b,0,none⟩)] w fun e w'=>e= .returned (.string (zK s a d).2.2)∧Rd w' b s (zK s a d).1 (zK s a d).2.1∧Sc b w w':=by
 unfold zK
 rw [z26]
 have HB:=z6 (z0n b a s d w h)
 generalize jb zr 8 s a d=v at*
 obtain⟨av,dv,tv⟩:=v
 go_enter Tryd.func74,Tryd.ntmps74
 go_wp2_with fail
 refine HB.out.mono ?_
 rintro e w1 ⟨rfl,hr1,hs1⟩
 go_wp2_with (go_at_call 14;refine(jx b av s dv _ hr1).mono ?_;rintro e w2 ⟨rfl,hr2,hs2⟩)
 go_ret
 exact⟨rfl,hr2,hs1.trans hs2⟩
theorem z1m (b a:Nat)(s:z6P)(d:Bool)(w:World)(h:Rd w b s a d)(hz:(pk s a d==48)=true):
  Calls Tryd.prog 43 #[.pointer (some ⟨b,0,none⟩)] w fun e w'=>e= .returned (.string (jb zc 1 s a d).2.2)∧Rd w' b s (jb zc 1 s a d).1 (jb zc 1 s a d).2.1∧Sc b w w':=by
 have hle:=h.le
 have hsz:=h.sz
 obtain⟨h0,h1,h2,f1,f2,_,_⟩:=id h
 go_enter Tryd.func43,Tryd.ntmps43
 go_wp2_with (go_at_call 20;refine(zj _ _ _ _ _ h).mono ?_;rintro e w1 ⟨rfl,n0,rfl⟩)
 clear hz
 go_loopw [] (fun wr=> ∃k,Rd wr b s k d∧Sc b w wr∧a≤k∧k≤a+1∧Hid (run zc s d (1 -(k - a)) k=run zc s d 1 a)) (fun wr=>s.size - atOf wr b)
 case atStart=>exact⟨a,h.drewN _,(Sc.refl _ _).drewN _,z6E _,by omega,by simp [Hid]⟩
 case round=>
  obtain⟨k,hk,hsc,hak,hk8,hsk⟩:=hrel
  have hat:=z6 hk.atOf
  have hk':=hk
  clear h0 h1 h2 f1 f2
  obtain⟨h0,h1,h2,f1,f2,ha,hs⟩:=hk
  have hend:k - a<1→zc (pk s k d)=true∨Hid (run zc s d 1 a=k):=by
   intro h8
   cases hb:zc (pk s k d)
   ·exact .inr (z6 (by rw [←hsk.out];exact jr hb))
   ·exact .inl rfl
  by_cases hgo:k - a<1∧zc (pk s k d)=true
  ·obtain⟨h8,hb⟩:=hgo
   have h8':(k:Int)- a<1:=by omega
   have hne:pk s k d≠ -1:=fun e=>by rw [e] at hb;exact absurd hb (by decide)
   have hlt:=(jQ hne).2
   have hset:=fun n=>(hk'.drewN n).setAt' (k+1) (k+1) (by omega) hlt
   have hst:Hid (run zc s d (1 -(k+1 - a)) (k+1)=run zc s d 1 a):=z6 (by
    rw [←hsk.out,show 1 -(k - a)=(1 -(k+1 - a))+1 by omega,z1t hb])
   clear hne hend
   go_wp2_with (go_at_call 54;refine(zq _ _ _ _ _ hk').mono ?_;rintro e w1 ⟨rfl,n,rfl⟩)
   have hset:=hset n
   go_roundw
   case rel=>exact⟨k+1,hset,(hsc.drewN n).setCell 1 (Or.inl rfl) _,by omega,by omega,hst⟩
   case measure=>rw [hset.atOf,hat.out];omega
  ·have hrun:Hid (run zc s d 1 a=k):=by
    by_cases h8:k - a<1
    ·exact(hend h8).resolve_left fun e=>hgo ⟨h8,e⟩
    ·exact z6 (by rw [←hsk.out,show 1 -(k - a)=0 by omega];rfl)
   clear hend hsk hat hk8
   by_cases h8:k - a<1
   ·have h8':(k:Int)- a<1:=by omega
    have hb:zc (pk s k d)=false:=by cases hc:zc (pk s k d) with|false=>rfl|true=>exact absurd ⟨h8,hc⟩ hgo
    clear hgo
    by_cases hka:k=a
    ·have hfin:=z6 (jw hrun.out (.inl hka))
     have hka':((k:Int)==a)=true:=by simp [hka]
     clear hka
     go_wp2_with (first|(go_at_call 54;refine(zq _ _ _ _ _ hk').mono ?_;rintro e w1 ⟨rfl,n,rfl⟩)|(go_at_call 23;refine(jg _ _ _ _ _ (hk'.drewN n)).mono ?_;rintro e w1 ⟨rfl,hr1,hs1⟩))
     go_ret
     exact⟨by rw [hfin.out];rfl,by rw [hfin.out];exact hr1,(hsc.drewN n).trans hs1⟩
    ·have hfin:=z6 (jH hrun.out hka hb)
     have hka':((k:Int)==a)=false:=by simp;omega
     clear hka
     go_wp2_with (go_at_call 54;refine(zq b k s d _ (by first|exact hk'|exact hk'.drewN _)).mono ?_;rintro e w1 ⟨rfl,n,rfl⟩)
     go_quiet (fail)
     go_wp2_with fail
     go_ret
     exact⟨by rw [hfin.out];simp,by rw [hfin.out];exact(hk'.drewN _).drewN _,(hsc.drewN _).drewN _⟩
   ·have h8': ¬(k:Int)- a<1:=by omega
    clear hgo
    have hka':((k:Int)==a)=false:=by simp;omega
    cases hb:zc (pk s k d)
    ·have hfin:=z6 (jH hrun.out (by omega) hb)
     go_wp2_with (go_at_call 54;refine(zq b k s d _ (by first|exact hk'|exact hk'.drewN _)).mono ?_;rintro e w1 ⟨rfl,n,rfl⟩)
     go_quiet (fail)
     go_wp2_with fail
     go_ret
     exact⟨by rw [hfin.out];simp,by rw [hfin.out];exact(hk'.drewN _).drewN _,(hsc.drewN _).drewN _⟩
    ·have hfin:=z6 (jw hrun.out (.inr hb))
     go_wp2_with (first|(go_at_call 54;refine(zq b k s d _ (by first|exact hk'|exact hk'.drewN _)).mono ?_;rintro e w1 ⟨rfl,n,rfl⟩)|(go_at_call 23;refine(jg b k s d _ (by exact hk'.drewN _)).mono ?_;rintro e w1 ⟨rfl,hr1,hs1⟩))
     go_ret
     exact⟨by rw [hfin.out];rfl,by rw [hfin.out];exact hr1,(hsc.drewN _).trans hs1⟩
theorem z11 (b a:Nat)(s:z6P)(d:Bool)(w:World)(h:Rd w b s a d)(hz:(pk s a d==48)=false):
  Calls Tryd.prog 43 #[.pointer (some ⟨b,0,none⟩)] w fun e w'=>e= .returned (.string (jb zc 9 s a d).2.2)∧Rd w' b s (jb zc 9 s a d).1 (jb zc 9 s a d).2.1∧Sc b w w':=by
 have hle:=h.le
 have hsz:=h.sz
 obtain⟨h0,h1,h2,f1,f2,_,_⟩:=id h
 go_enter Tryd.func43,Tryd.ntmps43
 go_wp2_with (go_at_call 20;refine(zj _ _ _ _ _ h).mono ?_;rintro e w1 ⟨rfl,n0,rfl⟩)
 clear hz
 go_loopw [] (fun wr=> ∃k,Rd wr b s k d∧Sc b w wr∧a≤k∧k≤a+9∧Hid (run zc s d (9 -(k - a)) k=run zc s d 9 a)) (fun wr=>s.size - atOf wr b)
 case atStart=>exact⟨a,h.drewN _,(Sc.refl _ _).drewN _,z6E _,by omega,by simp [Hid]⟩
 case round=>
  obtain⟨k,hk,hsc,hak,hk8,hsk⟩:=hrel
  have hat:=z6 hk.atOf
  have hk':=hk
  clear h0 h1 h2 f1 f2
  obtain⟨h0,h1,h2,f1,f2,ha,hs⟩:=hk
  have hend:k - a<9→zc (pk s k d)=true∨Hid (run zc s d 9 a=k):=by
   intro h8
   cases hb:zc (pk s k d)
   ·exact .inr (z6 (by rw [←hsk.out];exact jr hb))
   ·exact .inl rfl
  by_cases hgo:k - a<9∧zc (pk s k d)=true
  ·obtain⟨h8,hb⟩:=hgo
   have h8':(k:Int)- a<9:=by omega
   have hne:pk s k d≠ -1:=fun e=>by rw [e] at hb;exact absurd hb (by decide)
   have hlt:=(jQ hne).2
   have hset:=fun n=>(hk'.drewN n).setAt' (k+1) (k+1) (by omega) hlt
   have hst:Hid (run zc s d (9 -(k+1 - a)) (k+1)=run zc s d 9 a):=z6 (by
    rw [←hsk.out,show 9 -(k - a)=(9 -(k+1 - a))+1 by omega,z1t hb])
   clear hne hend
   go_wp2_with (go_at_call 54;refine(zq _ _ _ _ _ hk').mono ?_;rintro e w1 ⟨rfl,n,rfl⟩)
   have hset:=hset n
   go_roundw
   case rel=>exact⟨k+1,hset,(hsc.drewN n).setCell 1 (Or.inl rfl) _,by omega,by omega,hst⟩
   case measure=>rw [hset.atOf,hat.out];omega
  ·have hrun:Hid (run zc s d 9 a=k):=by
    by_cases h8:k - a<9
    ·exact(hend h8).resolve_left fun e=>hgo ⟨h8,e⟩
    ·exact z6 (by rw [←hsk.out,show 9 -(k - a)=0 by omega];rfl)
   clear hend hsk hat hk8
   by_cases h8:k - a<9
   ·have h8':(k:Int)- a<9:=by omega
    have hb:zc (pk s k d)=false:=by cases hc:zc (pk s k d) with|false=>rfl|true=>exact absurd ⟨h8,hc⟩ hgo
    clear hgo
    by_cases hka:k=a
    ·have hfin:=z6 (jw hrun.out (.inl hka))
     have hka':((k:Int)==a)=true:=by simp [hka]
     clear hka
     go_wp2_with (first|(go_at_call 54;refine(zq _ _ _ _ _ hk').mono ?_;rintro e w1 ⟨rfl,n,rfl⟩)|(go_at_call 23;refine(jg _ _ _ _ _ (hk'.drewN n)).mono ?_;rintro e w1 ⟨rfl,hr1,hs1⟩))
     go_ret
     exact⟨by rw [hfin.out];rfl,by rw [hfin.out];exact hr1,(hsc.drewN n).trans hs1⟩
    ·have hfin:=z6 (jH hrun.out hka hb)
     have hka':((k:Int)==a)=false:=by simp;omega
     clear hka
     go_wp2_with (go_at_call 54;refine(zq b k s d _ (by first|exact hk'|exact hk'.drewN _)).mono ?_;rintro e w1 ⟨rfl,n,rfl⟩)
     go_quiet (fail)
     go_wp2_with fail
     go_ret
     exact⟨by rw [hfin.out];simp,by rw [hfin.out];exact(hk'.drewN _).drewN _,(hsc.drewN _).drewN _⟩
   ·have h8': ¬(k:Int)- a<9:=by omega
    clear hgo
    have hka':((k:Int)==a)=false:=by simp;omega
    cases hb:zc (pk s k d)
    ·have hfin:=z6 (jH hrun.out (by omega) hb)
     go_wp2_with (go_at_call 54;refine(zq b k s d _ (by first|exact hk'|exact hk'.drewN _)).mono ?_;rintro e w1 ⟨rfl,n,rfl⟩)
     go_quiet (fail)
     go_wp2_with fail
     go_ret
     exact⟨by rw [hfin.out];simp,by rw [hfin.out];exact(hk'.drewN _).drewN _,(hsc.drewN _).drewN _⟩
    ·have hfin:=z6 (jw hrun.out (.inr hb))
     go_wp2_with (first|(go_at_call 54;refine(zq b k s d _ (by first|exact hk'|exact hk'.drewN _)).mono ?_;rintro e w1 ⟨rfl,n,rfl⟩)|(go_at_call 23;refine(jg b k s d _ (by exact hk'.drewN _)).mono ?_;rintro e w1 ⟨rfl,hr1,hs1⟩))
     go_ret
     exact⟨by rw [hfin.out];rfl,by rw [hfin.out];exact hr1,(hsc.drewN _).trans hs1⟩
theorem z00 (b a:Nat)(s:z6P)(d:Bool)(w:World)(h:Rd w b s a d):
  Calls Tryd.prog 43 #[.pointer (some ⟨b,0,none⟩)] w fun e w'=>e= .returned (.string (zp s a d).2.2)∧Rd w' b s (zp s a d).1 (zp s a d).2.1∧Sc b w w':=by
 unfold zp
 cases hz:(pk s a d==48)
 ·exact z11 b a s d w h hz
 ·exact z1m b a s d w h hz
theorem z3k (b a:Nat)(s:z6P)(d:Bool)(w:World)(h:Rd w b s a d):
  Calls Tryd.prog 71 #[.pointer (some ⟨b,0,none⟩)] w fun e w'=>e= .returned (.string (zA s a d).2.2)∧Rd w' b s (zA s a d).1 (zA s a d).2.1∧Sc b w w':=by
 unfold zA
 rw [z26]
 have HB:=z6 (z00 b a s d w h)
 unfold zp at HB
 generalize jb zc (if pk s a d==48 then 1 else 9) s a d=v at*
 obtain⟨av,dv,tv⟩:=v
 go_enter Tryd.func71,Tryd.ntmps71
 go_wp2_with fail
 refine HB.out.mono ?_
 rintro e w1 ⟨rfl,hr1,hs1⟩
 go_wp2_with (go_at_call 14;refine(jx b av s dv _ hr1).mono ?_;rintro e w2 ⟨rfl,hr2,hs2⟩)
 go_ret
 exact⟨rfl,hr2,hs1.trans hs2⟩
theorem z3d (b a:Nat)(s:z6P)(d:Bool)(w:World)(h:Rd w b s a d):
  Calls Tryd.prog 73 #[.pointer (some ⟨b,0,none⟩)] w fun e w'=>e= .returned (.string (zw s a d).2.2)∧Rd w' b s (zw s a d).1 (zw s a d).2.1∧Sc b w w':=by
 have hle:=h.le
 have hsz:=h.sz
 unfold zw
 have hW:=jE b a s ⟨#[34]⟩ d w h (by decide)
 generalize hv:zm s d [34] a=v at*
 obtain⟨av,dv⟩:=v
 have HW:=z6 hW
 clear hW hv
 simp only
 go_enter Tryd.func73,Tryd.ntmps73
 go_wp2_with fail
 refine HW.out.mono ?_
 rintro e w1 ⟨rfl,hr1,hs1⟩
 have hr1:Rd w1 b s av dv:=hr1
 have hav:=hr1.le
 obtain⟨h0,h1,h2,f1,f2,_,_⟩:=id hr1
 go_wp2_with fail
 go_loopw [] (fun wr=> ∃k,Rd wr b s k dv∧Sc b w wr∧av≤k∧k≤av+12∧Hid (run zi s dv (12 -(k - av)) k=run zi s dv 12 av)) (fun wr=>s.size - atOf wr b)
 case atStart=>exact⟨av,hr1,hs1,z6E _,by omega,by simp [Hid]⟩
 case round=>
  obtain⟨k,hk,hsc,hak,hk8,hsk⟩:=hrel
  have hat:=z6 hk.atOf
  have hk':=hk
  clear h0 h1 h2 f1 f2
  obtain⟨h0,h1,h2,f1,f2,ha,hs⟩:=hk
  by_cases hgo:k - av<12∧zi (pk s k dv)=true
  ·obtain⟨h8,hb⟩:=hgo
   have h8':(k:Int)- av<12:=by omega
   have hne:pk s k dv≠ -1:=fun e=>by rw [e] at hb;exact absurd hb (by decide)
   have hlt:=(jQ hne).2
   have hset:=fun n=>(hk'.drewN n).setAt' (k+1) (k+1) (by omega) hlt
   have hst:Hid (run zi s dv (12 -(k+1 - av)) (k+1)=run zi s dv 12 av):=z6 (by
    rw [←hsk.out,show 12 -(k - av)=(12 -(k+1 - av))+1 by omega,z1t hb])
   clear hne
   go_wp2_with (go_at_call 75;refine(ju _ _ _ _ _ hk').mono ?_;rintro e w2 ⟨rfl,n,rfl⟩)
   have hset:=hset n
   go_roundw
   case rel=>exact⟨k+1,hset,(hsc.drewN n).setCell 1 (Or.inl rfl) _,by omega,by omega,hst⟩
   case measure=>rw [hset.atOf,hat.out];omega
  ·have hrun:Hid (run zi s dv 12 av=k):=by
    by_cases h8:k - av<12
    ·refine z6 ?_
     rw [←hsk.out]
     exact jr (by cases hc:zi (pk s k dv) with|false=>rfl|true=>exact absurd ⟨h8,hc⟩ hgo)
    ·exact z6 (by rw [←hsk.out,show 12 -(k - av)=0 by omega];rfl)
   have hor:k - av<12∧zi (pk s k dv)=false∨ ¬k - av<12:=by
    by_cases h8:k - av<12
    ·exact .inl ⟨h8,by cases hc:zi (pk s k dv) with|false=>rfl|true=>exact absurd ⟨h8,hc⟩ hgo⟩
    ·exact .inr h8
   clear hgo hsk hat hk8
   rcases hor with⟨h8,hb⟩|h8
   ·have h8':(k:Int)- av<12:=by omega
    go_wp2_with (go_at_call 75;refine(ju _ _ _ _ _ hk').mono ?_;rintro e w2 ⟨rfl,n,rfl⟩)
    go_quiet (fail)
    go_wp2_with (go_at_call 27;refine(zR b k s _ dv _ (by exact hk'.drewN _) (by decide)).mono ?_;rintro e w2 ⟨rfl,hr2,hs2⟩)
    go_ret
    exact⟨by rw [hrun.out];simp,by rw [hrun.out];exact hr2,(hsc.drewN _).trans hs2⟩
   ·have h8': ¬(k:Int)- av<12:=by omega
    go_wp2_with (go_at_call 75;refine(ju _ _ _ _ _ hk').mono ?_;rintro e w2 ⟨rfl,n,rfl⟩)
    go_quiet (fail)
    go_wp2_with (go_at_call 27;refine(zR b k s _ dv _ (by exact hk'.drewN _) (by decide)).mono ?_;rintro e w2 ⟨rfl,hr2,hs2⟩)
    go_ret
    exact⟨by rw [hrun.out];simp,by rw [hrun.out];exact hr2,(hsc.drewN _).trans hs2⟩
theorem z2I (b a:Nat)(s:z6P)(d:Bool)(w:World)(h:Rd w b s a d):
  Calls Tryd.prog 69 #[.pointer (some ⟨b,0,none⟩)] w fun e w'=>e= .returned (.bool (jc s a d))∧ ∃n,w'=w.drewN n:=by
 obtain⟨h0,h1,h2,f1,f2,ha,hs⟩:=id h
 cases hc:(pk s a d==45)
 ·have hv:Hid (jc s a d=false):=z6 (by simp [jc,hc])
  have hc':(pk s a d !=45)=true:=by simp at hc;simp [hc]
  go_enter Tryd.func69,Tryd.ntmps69
  go_wp2_with fail
  go_quiet ((go_at_call 20;exact Calls.quiet_of (zj _ _ _ _ _ (h.drewN _))))
  go_wp2_with fail
  go_ret
  exact⟨by rw [hv.out];simp,_,rfl⟩
 ·have hc':(pk s a d !=45)=false:=by simp at hc;simp [hc]
  by_cases hlt:a+1<s.size
  ·obtain⟨c,hcc⟩: ∃c,c=a+1:=⟨_,rfl⟩
   have hlt':(a:Int)+1<s.size:=by omega
   have hcs:c<s.size:=by omega
   have hv:Hid (jc s a d=((s[c].toNat:Int)==62)):=z6 (by subst hcc;unfold jc;rw [hc,show pk s (a+1) false=s[a+1].toNat by simp [pk,hlt]];rfl)
   have hwr:IntKind.i64.wrap ((a:Int)+1)=(c:Int):=by rw [IntWalk.i64_left,IntWalk.wrap64_in _ (by omega)];omega
   clear hcc
   go_enter Tryd.func69,Tryd.ntmps69
   go_wp2_with fail
   go_quiet ((go_at_call 20;exact Calls.quiet_of (zj _ _ _ _ _ (h.drewN _))))
   go_wp2_with fail
   go_quiet (fail)
   go_wp2_with fail
   go_ret
   refine⟨?_,_,World.drewN_drewN _ _ _⟩
   rw [hv.out]
   simp
  ·have hv:Hid (jc s a d=false):=z6 (by simp [jc,pk,hlt])
   have hlt': ¬(a:Int)+1<s.size:=by omega
   go_enter Tryd.func69,Tryd.ntmps69
   go_wp2_with fail
   go_quiet ((go_at_call 20;exact Calls.quiet_of (zj _ _ _ _ _ (h.drewN _))))
   go_wp2_with fail
   go_ret
   exact⟨by rw [hv.out];simp,_,rfl⟩
theorem z0Q (b a:Nat)(s:z6P)(d:Bool)(w:World)(h:Rd w b s a d):
  Calls Tryd.prog 68 #[.pointer (some ⟨b,0,none⟩)] w fun e w'=>e= .returned (.string (z8 s a d))∧ ∃n,w'=w.drewN n:=by
 have hv:=z6 (show z8 s a d=z8 s a d from rfl)
 unfold z8 at hv ⊢
 cases h1:(pk s a d==42)
 all_goals cases h2:(pk s a d==47)
 all_goals cases h3:(pk s a d==37)
 all_goals try(simp at h1 h2 h3;omega)
 all_goals
  go_enter Tryd.func68,Tryd.ntmps68
  go_wp2_with (go_at_call 20;refine(zj _ _ _ _ _ h).mono ?_;rintro e w1 ⟨rfl,n,rfl⟩)
  go_ret
  exact⟨by simp,_,rfl⟩
theorem z2x (b a:Nat)(s:z6P)(d:Bool)(w:World)(h:Rd w b s a d):
  Calls Tryd.prog 65 #[.pointer (some ⟨b,0,none⟩)] w fun e w'=>e= .returned (.string (zd s a d))∧ ∃n,w'=w.drewN n:=by
 unfold zd
 cases h0:jc s a d
 all_goals cases h1:(pk s a d==43)
 all_goals cases h2:(pk s a d==45)
 all_goals cases h3:(pk s a d==46)
 all_goals try(simp at h1 h2 h3;omega)
 all_goals
  go_enter Tryd.func65,Tryd.ntmps65
  go_wp2_with (first|(go_at_call 20;refine(zj b a s d _ (by exact h.drewN _)).mono ?_;rintro e w1 ⟨rfl,n,rfl⟩)|(go_at_call 69;refine(z2I _ _ _ _ _ h).mono ?_;rintro e w1 ⟨rfl,n,rfl⟩))
  go_ret
  exact⟨by simp,_,rfl⟩
theorem jN (b a:Nat)(s short long:z6P)(d:Bool)(w:World)(h:Rd w b s a d)(hs:short.size≤600):
  Calls Tryd.prog 66 #[.pointer (some ⟨b,0,none⟩),.string short,.string long] w fun e w'=>e= .returned (.string (zl s short long a d).2.2)∧Rd w' b s (zl s short long a d).1 (zl s short long a d).2.1∧Sc b w w':=by
 have HW:=z6 (jE b a s short d w h hs)
 unfold zl
 generalize zm s d short.data.toList a=v at*
 obtain⟨av,dv⟩:=v
 cases hc:(pk s av dv !=61)
 ·go_enter Tryd.func66,Tryd.ntmps66
  go_wp2_with (first|(go_at_call 21;refine HW.out.mono ?_;rintro e w1 ⟨rfl,hr1,hs1⟩)|(go_at_call 20;refine(zj b av s dv _ hr1).mono ?_;rintro e w2 ⟨rfl,n,rfl⟩)|(go_at_call 27;refine(zR b av s _ dv _ (by exact hr1.drewN _) (by decide)).mono ?_;rintro e w3 ⟨rfl,hr3,hs3⟩))
  go_ret
  simp only [hc]
  exact⟨rfl,hr3,(hs1.drewN _).trans hs3⟩
 ·go_enter Tryd.func66,Tryd.ntmps66
  go_wp2_with (first|(go_at_call 21;refine HW.out.mono ?_;rintro e w1 ⟨rfl,hr1,hs1⟩)|(go_at_call 20;refine(zj b av s dv _ hr1).mono ?_;rintro e w2 ⟨rfl,n,rfl⟩)|(go_at_call 14;refine(jx b av s dv _ (by exact hr1.drewN _)).mono ?_;rintro e w3 ⟨rfl,hr3,hs3⟩))
  go_ret
  simp only [hc]
  exact⟨rfl,hr3,(hs1.drewN _).trans hs3⟩
theorem z0A (b a:Nat)(s:z6P)(d:Bool)(w:World)(hR:Rd w b s a d):
  Calls Tryd.prog 61 #[.pointer (some ⟨b,0,none⟩)] w fun e w'=>e= .returned (.string (z7 s a d).2.2)∧Rd w' b s (z7 s a d).1 (z7 s a d).2.1∧Sc b w w':=by
 unfold z7
 cases h1:(pk s a d==61)
 all_goals cases h2:(pk s a d==33)
 all_goals cases h3:(pk s a d==60)
 all_goals cases h4:(pk s a d==62)
 all_goals try(simp at h1 h2 h3 h4;omega)
 ·go_enter Tryd.func61,Tryd.ntmps61
  go_wp2_with (go_at_call 20;refine(zj b a s d _ hR).mono ?_;rintro e w2 ⟨rfl,n,rfl⟩)
  go_ret
  exact⟨by simp,by simpa using hR.drewN n,(Sc.refl _ _).drewN _⟩
 ·go_enter Tryd.func61,Tryd.ntmps61
  go_wp2_with (first|(go_at_call 20;refine(zj b a s d _ hR).mono ?_;rintro e w2 ⟨rfl,n,rfl⟩)|(go_at_call 66;refine(jN b a s _ _ d _ (by exact hR.drewN _) (by decide)).mono ?_;rintro e w3 ⟨rfl,hr3,hs3⟩))
  go_ret
  exact⟨by simp,by simpa using hr3,((Sc.refl _ _).drewN _).trans hs3⟩
 ·go_enter Tryd.func61,Tryd.ntmps61
  go_wp2_with (first|(go_at_call 20;refine(zj b a s d _ hR).mono ?_;rintro e w2 ⟨rfl,n,rfl⟩)|(go_at_call 66;refine(jN b a s _ _ d _ (by exact hR.drewN _) (by decide)).mono ?_;rintro e w3 ⟨rfl,hr3,hs3⟩))
  go_ret
  exact⟨by simp,by simpa using hr3,((Sc.refl _ _).drewN _).trans hs3⟩
 ·go_enter Tryd.func61,Tryd.ntmps61
  go_wp2_with (first|(go_at_call 20;refine(zj b a s d _ hR).mono ?_;rintro e w2 ⟨rfl,n,rfl⟩)|(go_at_call 27;refine(zR b a s _ d _ (by exact hR.drewN _) (by decide)).mono ?_;rintro e w3 ⟨rfl,hr3,hs3⟩))
  go_ret
  exact⟨by simp,by simpa using hr3,((Sc.refl _ _).drewN _).trans hs3⟩
 ·go_enter Tryd.func61,Tryd.ntmps61
  go_wp2_with (first|(go_at_call 20;refine(zj b a s d _ hR).mono ?_;rintro e w2 ⟨rfl,n,rfl⟩)|(go_at_call 27;refine(zR b a s _ d _ (by exact hR.drewN _) (by decide)).mono ?_;rintro e w3 ⟨rfl,hr3,hs3⟩))
  go_ret
  exact⟨by simp,by simpa using hr3,((Sc.refl _ _).drewN _).trans hs3⟩
theorem info55:(Tryd.prog.info? 55).map (fun i=>(i.zero,i.size,i.bytes))=some (some (.agg #[.int .i64 0,.int .i64 0,.string ⟨#[]⟩,.int .i64 0,.int .i64 0]),5,48):=by kernel_rfl
theorem info3:(Tryd.prog.info? 3).map (fun i=>(i.zero,i.size,i.bytes))=some (some (.int .i64 0),1,8):=by kernel_rfl
theorem z4h (w:World)(o:Obj)(cs:Array Value)(t:TypeId): ∀j u,cs.toList[j]?=some u→((w.alloc o).alloc (.cells cs t)).drew.cell? ((⟨w.heap.size+1,0,none⟩:Addr).add j)=some u:=by
 have h:=heap_alloc_new (w.alloc o) (.cells cs t)
 simp only [World.alloc,Array.size_push] at h
 exact World.news_of_block (w:=((w.alloc o).alloc (.cells cs t)).drew) h
theorem z1l {w w2:World}{row:Option Nat}(h:w.drew.grownBy w2 row):w.grownBy w2 row:=⟨h.os,h.tape,h.output,h.size,h.block⟩
theorem z08 (X:Nat→Prop)(b:Nat)(s:z6P)(st:St)(x:Ex)(w:World)(h:Inv X w b s st)(hX: ∀k,X k→k<w.heap.size)(hlen:st.E.length<100000):
  Calls Tryd.prog 41 #[.pointer (some ⟨b,0,none⟩),.agg #[.int .i64 x.form,.int .i64 x.place,.string x.text,.int .i64 x.left,.int .i64 x.right]] w fun e w'=>e= .returned (.int .i64 st.E.length)∧Inv X w' b s {st with E:=st.E++[x]}∧Fr X w w':=by
 obtain⟨V,iv,cv,g⟩:=h
 obtain⟨i0,hi,hz0,hz1,hz2⟩:=info_parts info55
 have hlt:=g.rows.lt
 have hc:=g.rows.cell 5 (by omega) (by omega)
 have hf:=g.rows.froz 5 (by omega) (by omega)
 have how:=g.rows.own 5 (by omega) (by omega)
 have hro:=fun k e=>(how.lt k e)
 have HG:=z6 g
 have HRO:=z6 hro
 clear g hro
 have hnew:w.heap.size≠b:=by omega
 have hfa: ∀o:Obj,(w.alloc o).frozen? ⟨b,5,none⟩=false:=fun o=>(World.frozen?_of_block (w:=w) (z6G _ _ _ hlt)).trans hf
 have hfb: ∀o p:Obj,((w.alloc o).alloc p).frozen? ⟨b,5,none⟩=false:=fun o p=>(World.frozen?_of_block (w:=w.alloc o) (z6G _ _ _ (by simp;omega))).trans (hfa o)
 go_enter Tryd.func41,Tryd.ntmps41
 go_wp2_with fail
 go_region_law ((refine step_append_lies _ (by rfl) (.tmp 10) (.tmp 12) 34 (by rfl) (b+1) 55 i0 _ 5 48 Tryd.underlying34 hi hz0 hz1 hz2 rfl (by omega) (V 5) st.E.length _ (by rfl) (by exact(how.alloc _).alloc _) ⟨w.heap.size+1,0,none⟩ 1 1 (Ex.cells x) (by rfl) rfl (by exact z4h w _ _ _) (by intro u hu;simp [Ex.cells] at hu;rcases hu with rfl|rfl|rfl|rfl|rfl<;>rfl) (by omega) (by unfold maxLen;omega) (by omega) (by simp;omega) (w.heap.size+2) (by simp) ?_;intro gb cap w2 hown hgrow hat hlt2;have hg:=z0l (z0l (World.grownBy_alloc w _ _) (World.grownBy_alloc _ _ _)) (z1l hgrow);obtain⟨k1,k2,hfr⟩:=HG.out.grown (o:=5) (by omega) (by omega) hg hX))
 all_goals
  have hI:=HG.out.pushE x hown hg (fun k e=>by
   have:gb=k:=by simpa [Value.ownBlock] using e
   subst this
   exact hat.imp id fun e=>by omega) hX
  have hfr:=hfr (.slice (some ⟨gb,0,none⟩) (st.E.length+1) cap)
  clear hgrow hat hown hg how hfa hfb
  go_wp2_with fail
  go_ret
  exact⟨by simp,hI,hfr⟩
theorem j6 (X:Nat→Prop)(b:Nat)(s:z6P)(st:St)(f p:Int)(t:z6P)(w:World)(h:Inv X w b s st)(hX: ∀k,X k→k<w.heap.size)(hlen:st.E.length<100000):
  Calls Tryd.prog 72 #[.pointer (some ⟨b,0,none⟩),.int .i64 f,.int .i64 p,.string t] w fun e w'=>e= .returned (.int .i64 st.E.length)∧Inv X w' b s {st with E:=st.E++[⟨f,p,t,-1,-1⟩]}∧Fr X w w':=by
 go_enter Tryd.func72,Tryd.ntmps72
 go_wp2_with (go_at_call 41;refine(z08 X b s st ⟨f,p,t,-1,-1⟩ _ h hX hlen).mono ?_;rintro e w1 ⟨rfl,hI,hF⟩)
 go_ret
 exact⟨rfl,hI,hF⟩
theorem z0c (X:Nat→Prop)(b:Nat)(s:z6P)(st:St)(p:Int)(t:z6P)(i:Int)(w:World)(h:Inv X w b s st)(hX: ∀k,X k→k<w.heap.size)(hlen:st.E.length<100000):
  Calls Tryd.prog 53 #[.pointer (some ⟨b,0,none⟩),.int .i64 p,.string t,.int .i64 i] w fun e w'=>e= .returned (.int .i64 st.E.length)∧Inv X w' b s {st with E:=st.E++[⟨5,p,t,i,-1⟩]}∧Fr X w w':=by
 go_enter Tryd.func53,Tryd.ntmps53
 go_wp2_with (go_at_call 41;refine(z08 X b s st ⟨5,p,t,i,-1⟩ _ h hX hlen).mono ?_;rintro e w1 ⟨rfl,hI,hF⟩)
 go_ret
 exact⟨rfl,hI,hF⟩
theorem jn (X:Nat→Prop)(b:Nat)(s:z6P)(st:St)(p:Int)(t:z6P)(i j:Int)(w:World)(h:Inv X w b s st)(hX: ∀k,X k→k<w.heap.size)(hlen:st.E.length<100000):
  Calls Tryd.prog 28 #[.pointer (some ⟨b,0,none⟩),.int .i64 p,.string t,.int .i64 i,.int .i64 j] w fun e w'=>e= .returned (.int .i64 st.E.length)∧Inv X w' b s {st with E:=st.E++[⟨6,p,t,i,j⟩]}∧Fr X w w':=by
 go_enter Tryd.func28,Tryd.ntmps28
 go_wp2_with (go_at_call 41;refine(z08 X b s st ⟨6,p,t,i,j⟩ _ h hX hlen).mono ?_;rintro e w1 ⟨rfl,hI,hF⟩)
 go_ret
 exact⟨rfl,hI,hF⟩
def OKE (s:z6P)(f tag n:Nat):Prop:= ∀(X:Nat→Prop) (b:Nat) (st:St) (w:World) (r:Int) (st':St),M s n tag 0 st=some (r,st')→Inv X w b s st→(∀k,X k→k<w.heap.size)→
 Calls Tryd.prog f #[.pointer (some ⟨b,0,none⟩)] w fun e w'=>e= .returned (.int .i64 r)∧Inv X w' b s st'∧Fr X w w'
theorem z4I {c:z6P}{l:List UInt8}(h:(c.data.toList==l)=false):(c.toList==l)=false∧ ¬c.toList=l:=by
 rw [z6D]
 exact⟨h,by simpa using h⟩
theorem z3Y {c:z6P}{l:List UInt8}(h:(c.data.toList==l)=true):c.toList=l:=by
 rw [z6D]
 simpa using h
theorem z29 (s:z6P)(n:Nat)(ih:OKE s 15 0 n):OKE s 70 7 (n+1):=by
 intro X b st w r st' hM hI hX
 have hrd:=hI.rd
 obtain⟨c0,c1,c2,f1,f2,_,_⟩:=id hrd
 rw [M_7] at hM
 cases hd:zc (pkS s st)
 ·rw [hd,if_neg (by decide)] at hM
  have hd:zc (pk s st.at_ st.bad)=false:=hd
  cases hq:(pkS s st==34)
  ·rw [hq,if_neg (by decide)] at hM
   have hq:(pk s st.at_ st.bad==34)=false:=hq
   cases ha:(pkS s st==64)
   ·rw [ha,if_neg (by decide)] at hM
    have ha:(pk s st.at_ st.bad==64)=false:=ha
    cases hp:(pkS s st==40)
    ·rw [hp,if_neg (by decide)] at hM
     have hp:(pk s st.at_ st.bad==40)=false:=hp
     have HN:=fun m=>z2U b st.at_ s st.bad (w.drewN m) (hrd.drewN m)
     simp only at hM
     generalize zK s st.at_ st.bad=c at*
     obtain⟨ca,cd,ct⟩:=c
     have HN:Hid (∀m,Calls Tryd.prog 74 #[.pointer (some ⟨b,0,none⟩)] (w.drewN m) fun e w'=>e= .returned (.string ct)∧Rd w' b s ca cd∧Sc b (w.drewN m) w'):=z6 HN
     simp only at hM
     cases ht:(ct.data.toList==[116,114,117,101])
     ·cases hf:(ct.data.toList==[102,97,108,115,101])
      ·rw [ht,hf,if_neg (by decide)] at hM
       obtain⟨n1,n1'⟩:=z4I ht
       obtain⟨n2',n2''⟩:=z4I hf
       clear ht hf
       obtain⟨hl,h6⟩:=zh hM
       cases h6
       clear hM
       go_enter Tryd.func70,Tryd.ntmps70
       go_wp2_with (first|(go_at_call 54;refine(zq _ _ _ _ _ hrd).mono ?_;rintro e w2 ⟨rfl,n2,rfl⟩)|(go_at_call 20;refine(zj b st.at_ s st.bad _ (by exact hrd.drewN _)).mono ?_;rintro e w2 ⟨rfl,n3,rfl⟩)|(go_at_call 74;refine(HN.out _).mono ?_;rintro e w3 ⟨rfl,hr3,hs3⟩))
       have hI3:=(hI.drewN _).sc hr3 hs3
       have hF3:=((Fr.refl X w).drewN _).trans (hs3.fr hI3.nob)
       refine(j6 X b s _ _ _ _ _ hI3 (hF3.lt hX) hl).mono ?_
       rintro e w5 ⟨rfl,hI5,hF5⟩
       go_wp2_with fail
       go_ret
       exact⟨rfl,hI5,hF3.trans hF5⟩
      ·rw [ht,hf,if_pos (by decide)] at hM
       have n1:=z3Y hf
       clear ht hf
       obtain⟨hl,h6⟩:=zh hM
       cases h6
       clear hM
       go_enter Tryd.func70,Tryd.ntmps70
       go_wp2_with (first|(go_at_call 54;refine(zq _ _ _ _ _ hrd).mono ?_;rintro e w2 ⟨rfl,n2,rfl⟩)|(go_at_call 20;refine(zj b st.at_ s st.bad _ (by exact hrd.drewN _)).mono ?_;rintro e w2 ⟨rfl,n3,rfl⟩)|(go_at_call 74;refine(HN.out _).mono ?_;rintro e w3 ⟨rfl,hr3,hs3⟩))
       have hI3:=(hI.drewN _).sc hr3 hs3
       have hF3:=((Fr.refl X w).drewN _).trans (hs3.fr hI3.nob)
       refine(j6 X b s _ _ _ _ _ hI3 (hF3.lt hX) hl).mono ?_
       rintro e w5 ⟨rfl,hI5,hF5⟩
       go_wp2_with fail
       go_ret
       exact⟨rfl,hI5,hF3.trans hF5⟩
     ·rw [ht] at hM
      rw [if_pos (by simp)] at hM
      have n1:=z3Y ht
      clear ht
      obtain⟨hl,h6⟩:=zh hM
      cases h6
      clear hM
      go_enter Tryd.func70,Tryd.ntmps70
      go_wp2_with (first|(go_at_call 54;refine(zq _ _ _ _ _ hrd).mono ?_;rintro e w2 ⟨rfl,n2,rfl⟩)|(go_at_call 20;refine(zj b st.at_ s st.bad _ (by exact hrd.drewN _)).mono ?_;rintro e w2 ⟨rfl,n3,rfl⟩)|(go_at_call 74;refine(HN.out _).mono ?_;rintro e w3 ⟨rfl,hr3,hs3⟩))
      have hI3:=(hI.drewN _).sc hr3 hs3
      have hF3:=((Fr.refl X w).drewN _).trans (hs3.fr hI3.nob)
      refine(j6 X b s _ _ _ _ _ hI3 (hF3.lt hX) hl).mono ?_
      rintro e w5 ⟨rfl,hI5,hF5⟩
      go_wp2_with fail
      go_ret
      exact⟨rfl,hI5,hF3.trans hF5⟩
    ·rw [hp,if_pos rfl] at hM
     have hp:(pk s st.at_ st.bad==40)=true:=hp
     obtain⟨⟨r2,st2⟩,h2,h3⟩:=z6A.1 hM
     simp only [Option.some.injEq,Prod.mk.injEq] at h3
     obtain⟨rfl,rfl⟩:=h3
     have HH:=z6 h2
     clear hM h2
     go_enter Tryd.func70,Tryd.ntmps70
     go_wp2_with (first|(go_at_call 54;refine(zq _ _ _ _ _ hrd).mono ?_;rintro e w2 ⟨rfl,n2,rfl⟩)|(go_at_call 20;refine(zj b st.at_ s st.bad _ (by exact hrd.drewN _)).mono ?_;rintro e w2 ⟨rfl,n3,rfl⟩)|(go_at_call 27;refine(zR b _ s _ _ _ (by exact hrd.drewN _) (by decide)).mono ?_;rintro e w3 ⟨rfl,hr3,hs3⟩))
     have hI3:=(hI.drewN _).sc hr3 hs3
     have hF3:=((Fr.refl X w).drewN _).trans (hs3.fr hI3.nob)
     refine(ih X b _ _ r2 st2 HH.out hI3 (hF3.lt hX)).mono ?_
     rintro e w4 ⟨rfl,hI4,hF4⟩
     have hrd4:=hI4.rd
     go_wp2_with (go_at_call 27;refine(zR b _ s _ _ _ hrd4 (by decide)).mono ?_;rintro e w5 ⟨rfl,hr5,hs5⟩)
     go_ret
     exact⟨rfl,hI4.sc hr5 hs5,(hF3.trans hF4).trans (hs5.fr hI4.nob)⟩
   ·rw [ha,if_pos rfl] at hM
    have ha:(pk s st.at_ st.bad==64)=true:=ha
    have hM':zX ((wrd s [64] st).put3 (zK s (wrd s [64] st).at_ (wrd s [64] st).bad)) ⟨4,st.at_,(zK s (wrd s [64] st).at_ (wrd s [64] st).bad).2.2,-1,-1⟩=some (r,st'):=hM
    obtain⟨hl,h6⟩:=zh hM'
    cases h6
    clear hM hM'
    go_enter Tryd.func70,Tryd.ntmps70
    go_wp2_with (first|(go_at_call 54;refine(zq _ _ _ _ _ hrd).mono ?_;rintro e w2 ⟨rfl,n2,rfl⟩)|(go_at_call 20;refine(zj b st.at_ s st.bad _ (by exact hrd.drewN _)).mono ?_;rintro e w2 ⟨rfl,n3,rfl⟩)|(go_at_call 21;refine(jE b _ s _ _ _ (by exact hrd.drewN _) (by decide)).mono ?_;rintro e w3 ⟨rfl,hr3,hs3⟩)|(go_at_call 74;refine(z2U b _ s _ _ hr3).mono ?_;rintro e w4 ⟨rfl,hr4,hs4⟩))
    have hI3:=(hI.drewN _).sc hr3 hs3
    have hI4:=hI3.sc hr4 hs4
    have hF3:=(((Fr.refl X w).drewN _).trans (hs3.fr hI3.nob)).trans (hs4.fr hI3.nob)
    refine(j6 X b s _ _ _ _ _ hI4 (hF3.lt hX) hl).mono ?_
    rintro e w5 ⟨rfl,hI5,hF5⟩
    go_wp2_with fail
    go_ret
    exact⟨rfl,hI5,hF3.trans hF5⟩
  ·rw [hq,if_pos rfl] at hM
   have hq:(pk s st.at_ st.bad==34)=true:=hq
   have hM':zX (st.put3 (zw s st.at_ st.bad)) ⟨1,st.at_,(zw s st.at_ st.bad).2.2,-1,-1⟩=some (r,st'):=hM
   obtain⟨hl,h6⟩:=zh hM'
   cases h6
   clear hM hM'
   go_enter Tryd.func70,Tryd.ntmps70
   go_wp2_with (first|(go_at_call 54;refine(zq _ _ _ _ _ hrd).mono ?_;rintro e w2 ⟨rfl,n2,rfl⟩)|(go_at_call 20;refine(zj b st.at_ s st.bad _ (by exact hrd.drewN _)).mono ?_;rintro e w2 ⟨rfl,n3,rfl⟩)|(go_at_call 73;refine(z3d b _ s _ _ (by exact hrd.drewN _)).mono ?_;rintro e w3 ⟨rfl,hr3,hs3⟩))
   have hI3:=(hI.drewN _).sc hr3 hs3
   have hF3:=((Fr.refl X w).drewN _).trans (hs3.fr hI3.nob)
   refine(j6 X b s _ _ _ _ _ hI3 (hF3.lt hX) hl).mono ?_
   rintro e w5 ⟨rfl,hI5,hF5⟩
   go_wp2_with fail
   go_ret
   exact⟨rfl,hI5,hF3.trans hF5⟩
 ·rw [hd,if_pos rfl] at hM
  have hd:zc (pk s st.at_ st.bad)=true:=hd
  have hM':zX (st.put3 (zA s st.at_ st.bad)) ⟨0,st.at_,(zA s st.at_ st.bad).2.2,-1,-1⟩=some (r,st'):=hM
  obtain⟨hl,h6⟩:=zh hM'
  cases h6
  clear hM hM'
  go_enter Tryd.func70,Tryd.ntmps70
  go_wp2_with (first|(go_at_call 54;refine(zq _ _ _ _ _ hrd).mono ?_;rintro e w2 ⟨rfl,n2,rfl⟩)|(go_at_call 71;refine(z3k b _ s _ _ (by exact hrd.drewN _)).mono ?_;rintro e w3 ⟨rfl,hr3,hs3⟩))
  have hI3:=(hI.drewN n2).sc hr3 hs3
  have hF3:=((Fr.refl X w).drewN n2).trans (hs3.fr hI3.nob)
  refine(j6 X b s _ _ _ _ _ hI3 (hF3.lt hX) hl).mono ?_
  rintro e w5 ⟨rfl,hI5,hF5⟩
  go_wp2_with fail
  go_ret
  exact⟨rfl,hI5,hF3.trans hF5⟩
theorem z3Q (s:z6P)(n:Nat)(ih: ∀m,m≤n→OKE s 26 1 m):OKE s 15 0 (n+1):=by
 intro X b st w r st' hM hI hX
 have hM':(M s n 1 0 st).bind (fun r=>M s n 10 r.1 r.2)=some (r,st'):=hM
 obtain⟨⟨l1,st1⟩,h1,h2⟩:=z6A.1 hM'
 have IH:=z6 ih
 have H1:=z6 h1
 have H2:=z6 h2
 clear hM hM' h1 h2 ih
 go_enter Tryd.func15,Tryd.ntmps15
 go_wp2_with fail
 refine(IH.out n (z6E _) X b st w l1 st1 H1.out hI hX).mono ?_
 rintro e w1 ⟨rfl,hI1,hF1⟩
 go_wp2_with fail
 go_loopg [3] n (fun k l wr=>k≤n∧ ∃(lv:Int) (sv:St),l= .int .i64 lv∧Hid (M s k 10 lv sv=some (r,st'))∧Inv X wr b s sv∧Fr X w wr)
 case atStart=>exact⟨z6E _,l1,st1,rfl,H2,hI1,hF1⟩
 case round=>
  obtain⟨hkn,lv,sv,rfl,hm,hi,hf⟩:=hrel
  cases gk with
  |zero=>exact absurd hm.out (by simp [M])
  |succ k=>
   have hm':(if pkS s sv==124 then(M s k 1 0 (sgn s [124,124] sv)).bind fun r=>(zX r.2 ⟨6,sv.at_,⟨#[124,124]⟩,lv,r.1⟩).bind fun q=>M s k 10 q.1 q.2 else some (lv,sv))=some (r,st'):=hm.out
   clear hm
   have hrd:=hi.rd
   obtain⟨c0,c1,c2,f1,f2,_,_⟩:=id hrd
   cases hc:(pkS s sv==124)
   ·rw [hc] at hm'
    simp at hm'
    obtain⟨rfl,rfl⟩:=hm'
    have hc:(pk s sv.at_ sv.bad==124)=false:=hc
    go_wp2_with (go_at_call 20;refine(zj _ _ _ _ _ hrd).mono ?_;rintro e w2 ⟨rfl,n2,rfl⟩)
    go_ret
    exact⟨rfl,hi.drewN _,hf.drewN _⟩
   ·rw [hc] at hm'
    have hc:(pk s sv.at_ sv.bad==124)=true:=hc
    obtain⟨⟨r2,st2⟩,h2,h3⟩:=z6A.1 hm'
    obtain⟨⟨r3,st3⟩,h4,h5⟩:=z6A.1 h3
    obtain⟨hl,h6⟩:=zh h4
    cases h6
    have HH:=z6 (z6F h2 h5)
    clear hm' h2 h3 h4 h5
    go_wp2_with (first|(go_at_call 20;refine(zj _ _ _ _ _ hrd).mono ?_;rintro e w2 ⟨rfl,n2,rfl⟩)|(go_at_call 27;refine(zR b _ s _ _ _ (by exact hrd.drewN _) (by decide)).mono ?_;rintro e w3 ⟨rfl,hr3,hs3⟩))
    have hI3:=(hi.drewN n2).sc hr3 hs3
    have hF3:=(hf.drewN n2).trans (hs3.fr hI3.nob)
    refine(IH.out k (by omega) X b _ _ r2 st2 HH.out.1 hI3 (hF3.lt hX)).mono ?_
    rintro e w4 ⟨rfl,hI4,hF4⟩
    go_wp2_with fail
    refine(jn X b s st2 _ _ _ _ _ hI4 (hF4.lt (hF3.lt hX)) hl).mono ?_
    rintro e w5 ⟨rfl,hI5,hF5⟩
    go_wp2_with fail
    go_roundg k
    case measure=>omega
    case rel=>exact⟨by omega,_,_,rfl,HH.out.2,hI5,(hF3.trans hF4).trans hF5⟩
theorem z23 (s:z6P)(n:Nat)(ih: ∀m,m≤n→OKE s 40 2 m):OKE s 26 1 (n+1):=by
 intro X b st w r st' hM hI hX
 have hM':(M s n 2 0 st).bind (fun r=>M s n 11 r.1 r.2)=some (r,st'):=hM
 obtain⟨⟨l1,st1⟩,h1,h2⟩:=z6A.1 hM'
 have IH:=z6 ih
 have H1:=z6 h1
 have H2:=z6 h2
 clear hM hM' h1 h2 ih
 go_enter Tryd.func26,Tryd.ntmps26
 go_wp2_with fail
 refine(IH.out n (z6E _) X b st w l1 st1 H1.out hI hX).mono ?_
 rintro e w1 ⟨rfl,hI1,hF1⟩
 go_wp2_with fail
 go_loopg [3] n (fun k l wr=>k≤n∧ ∃(lv:Int) (sv:St),l= .int .i64 lv∧Hid (M s k 11 lv sv=some (r,st'))∧Inv X wr b s sv∧Fr X w wr)
 case atStart=>exact⟨z6E _,l1,st1,rfl,H2,hI1,hF1⟩
 case round=>
  obtain⟨hkn,lv,sv,rfl,hm,hi,hf⟩:=hrel
  cases gk with
  |zero=>exact absurd hm.out (by simp [M])
  |succ k=>
   have hm':(if pkS s sv==38 then(M s k 2 0 (sgn s [38,38] sv)).bind fun r=>(zX r.2 ⟨6,sv.at_,⟨#[38,38]⟩,lv,r.1⟩).bind fun q=>M s k 11 q.1 q.2 else some (lv,sv))=some (r,st'):=hm.out
   clear hm
   have hrd:=hi.rd
   obtain⟨c0,c1,c2,f1,f2,_,_⟩:=id hrd
   cases hc:(pkS s sv==38)
   ·rw [hc] at hm'
    simp at hm'
    obtain⟨rfl,rfl⟩:=hm'
    have hc:(pk s sv.at_ sv.bad==38)=false:=hc
    go_wp2_with (go_at_call 20;refine(zj _ _ _ _ _ hrd).mono ?_;rintro e w2 ⟨rfl,n2,rfl⟩)
    go_ret
    exact⟨rfl,hi.drewN _,hf.drewN _⟩
   ·rw [hc] at hm'
    have hc:(pk s sv.at_ sv.bad==38)=true:=hc
    obtain⟨⟨r2,st2⟩,h2,h3⟩:=z6A.1 hm'
    obtain⟨⟨r3,st3⟩,h4,h5⟩:=z6A.1 h3
    obtain⟨hl,h6⟩:=zh h4
    cases h6
    have HH:=z6 (z6F h2 h5)
    clear hm' h2 h3 h4 h5
    go_wp2_with (first|(go_at_call 20;refine(zj _ _ _ _ _ hrd).mono ?_;rintro e w2 ⟨rfl,n2,rfl⟩)|(go_at_call 27;refine(zR b _ s _ _ _ (by exact hrd.drewN _) (by decide)).mono ?_;rintro e w3 ⟨rfl,hr3,hs3⟩))
    have hI3:=(hi.drewN n2).sc hr3 hs3
    have hF3:=(hf.drewN n2).trans (hs3.fr hI3.nob)
    refine(IH.out k (by omega) X b _ _ r2 st2 HH.out.1 hI3 (hF3.lt hX)).mono ?_
    rintro e w4 ⟨rfl,hI4,hF4⟩
    go_wp2_with fail
    refine(jn X b s st2 _ _ _ _ _ hI4 (hF4.lt (hF3.lt hX)) hl).mono ?_
    rintro e w5 ⟨rfl,hI5,hF5⟩
    go_wp2_with fail
    go_roundg k
    case measure=>omega
    case rel=>exact⟨by omega,_,_,rfl,HH.out.2,hI5,(hF3.trans hF4).trans hF5⟩
theorem z4f (s:z6P)(n:Nat)(ih: ∀m,m≤n→OKE s 64 5 m):OKE s 60 4 (n+1):=by
 intro X b st w r st' hM hI hX
 have hM':(M s n 5 0 st).bind (fun r=>M s n 14 r.1 r.2)=some (r,st'):=hM
 obtain⟨⟨l1,st1⟩,h1,h2⟩:=z6A.1 hM'
 have IH:=z6 ih
 have H1:=z6 h1
 have H2:=z6 h2
 clear hM hM' h1 h2 ih
 go_enter Tryd.func60,Tryd.ntmps60
 go_wp2_with fail
 refine(IH.out n (z6E _) X b st w l1 st1 H1.out hI hX).mono ?_
 rintro e w1 ⟨rfl,hI1,hF1⟩
 go_wp2_with fail
 go_loopg [3] n (fun k l wr=>k≤n∧ ∃(lv:Int) (sv:St),l= .int .i64 lv∧Hid (M s k 14 lv sv=some (r,st'))∧Inv X wr b s sv∧Fr X w wr)
 case atStart=>exact⟨z6E _,l1,st1,rfl,H2,hI1,hF1⟩
 case round=>
  obtain⟨hkn,lv,sv,rfl,hm,hi,hf⟩:=hrel
  cases gk with
  |zero=>exact absurd hm.out (by simp [M])
  |succ k=>
   have hm':(if(zd s sv.at_ sv.bad).size==0 then some (lv,sv) else(M s k 5 0 (sgn s (zd s sv.at_ sv.bad).data.toList sv)).bind fun r=>(zX r.2 ⟨6,sv.at_,zd s sv.at_ sv.bad,lv,r.1⟩).bind fun q=>M s k 14 q.1 q.2)=some (r,st'):=hm.out
   clear hm
   have hrd:=hi.rd
   have hsz:(zd s sv.at_ sv.bad).size≤600:=z0e s sv.at_ sv.bad
   have HS:=z6 (z2x b sv.at_ s sv.bad wr hrd)
   obtain⟨c0,c1,c2,f1,f2,_,_⟩:=id hrd
   generalize zd s sv.at_ sv.bad=c at*
   cases hc:(c.size==0)
   ·rw [hc] at hm'
    have hc2:=z0B hc
    obtain⟨⟨r2,st2⟩,h2,h3⟩:=z6A.1 hm'
    obtain⟨⟨r3,st3⟩,h4,h5⟩:=z6A.1 h3
    obtain⟨hl,h6⟩:=zh h4
    cases h6
    have HH:=z6 (z6F h2 h5)
    clear hm' h2 h3 h4 h5
    go_wp2_with (first|(go_at_call 65;refine HS.out.mono ?_;rintro e w2 ⟨rfl,n2,rfl⟩)|(go_at_call 27;refine(zR b _ s _ _ _ (by exact hrd.drewN _) hsz).mono ?_;rintro e w3 ⟨rfl,hr3,hs3⟩))
    have hI3:=(hi.drewN n2).sc hr3 hs3
    have hF3:=(hf.drewN n2).trans (hs3.fr hI3.nob)
    refine(IH.out k (by omega) X b _ _ r2 st2 HH.out.1 hI3 (hF3.lt hX)).mono ?_
    rintro e w4 ⟨rfl,hI4,hF4⟩
    go_wp2_with fail
    refine(jn X b s st2 _ _ _ _ _ hI4 (hF4.lt (hF3.lt hX)) hl).mono ?_
    rintro e w5 ⟨rfl,hI5,hF5⟩
    go_wp2_with fail
    go_roundg k
    case measure=>omega
    case rel=>exact⟨by omega,_,_,rfl,HH.out.2,hI5,(hF3.trans hF4).trans hF5⟩
   ·rw [hc] at hm'
    have hc2:=z07 hc
    simp at hm'
    obtain⟨rfl,rfl⟩:=hm'
    go_wp2_with (go_at_call 65;refine HS.out.mono ?_;rintro e w2 ⟨rfl,n2,rfl⟩)
    go_ret
    exact⟨rfl,hi.drewN _,hf.drewN _⟩
theorem z2m (s:z6P)(n:Nat)(ih: ∀m,m≤n→OKE s 67 6 m):OKE s 64 5 (n+1):=by
 intro X b st w r st' hM hI hX
 have hM':(M s n 6 0 st).bind (fun r=>M s n 15 r.1 r.2)=some (r,st'):=hM
 obtain⟨⟨l1,st1⟩,h1,h2⟩:=z6A.1 hM'
 have IH:=z6 ih
 have H1:=z6 h1
 have H2:=z6 h2
 clear hM hM' h1 h2 ih
 go_enter Tryd.func64,Tryd.ntmps64
 go_wp2_with fail
 refine(IH.out n (z6E _) X b st w l1 st1 H1.out hI hX).mono ?_
 rintro e w1 ⟨rfl,hI1,hF1⟩
 go_wp2_with fail
 go_loopg [3] n (fun k l wr=>k≤n∧ ∃(lv:Int) (sv:St),l= .int .i64 lv∧Hid (M s k 15 lv sv=some (r,st'))∧Inv X wr b s sv∧Fr X w wr)
 case atStart=>exact⟨z6E _,l1,st1,rfl,H2,hI1,hF1⟩
 case round=>
  obtain⟨hkn,lv,sv,rfl,hm,hi,hf⟩:=hrel
  cases gk with
  |zero=>exact absurd hm.out (by simp [M])
  |succ k=>
   have hm':(if(z8 s sv.at_ sv.bad).size==0 then some (lv,sv) else(M s k 6 0 (sgn s (z8 s sv.at_ sv.bad).data.toList sv)).bind fun r=>(zX r.2 ⟨6,sv.at_,z8 s sv.at_ sv.bad,lv,r.1⟩).bind fun q=>M s k 15 q.1 q.2)=some (r,st'):=hm.out
   clear hm
   have hrd:=hi.rd
   have hsz:(z8 s sv.at_ sv.bad).size≤600:=jz s sv.at_ sv.bad
   have HS:=z6 (z0Q b sv.at_ s sv.bad wr hrd)
   obtain⟨c0,c1,c2,f1,f2,_,_⟩:=id hrd
   generalize z8 s sv.at_ sv.bad=c at*
   cases hc:(c.size==0)
   ·rw [hc] at hm'
    have hc2:=z0B hc
    obtain⟨⟨r2,st2⟩,h2,h3⟩:=z6A.1 hm'
    obtain⟨⟨r3,st3⟩,h4,h5⟩:=z6A.1 h3
    obtain⟨hl,h6⟩:=zh h4
    cases h6
    have HH:=z6 (z6F h2 h5)
    clear hm' h2 h3 h4 h5
    go_wp2_with (first|(go_at_call 68;refine HS.out.mono ?_;rintro e w2 ⟨rfl,n2,rfl⟩)|(go_at_call 27;refine(zR b _ s _ _ _ (by exact hrd.drewN _) hsz).mono ?_;rintro e w3 ⟨rfl,hr3,hs3⟩))
    have hI3:=(hi.drewN n2).sc hr3 hs3
    have hF3:=(hf.drewN n2).trans (hs3.fr hI3.nob)
    refine(IH.out k (by omega) X b _ _ r2 st2 HH.out.1 hI3 (hF3.lt hX)).mono ?_
    rintro e w4 ⟨rfl,hI4,hF4⟩
    go_wp2_with fail
    refine(jn X b s st2 _ _ _ _ _ hI4 (hF4.lt (hF3.lt hX)) hl).mono ?_
    rintro e w5 ⟨rfl,hI5,hF5⟩
    go_wp2_with fail
    go_roundg k
    case measure=>omega
    case rel=>exact⟨by omega,_,_,rfl,HH.out.2,hI5,(hF3.trans hF4).trans hF5⟩
   ·rw [hc] at hm'
    have hc2:=z07 hc
    simp at hm'
    obtain⟨rfl,rfl⟩:=hm'
    go_wp2_with (go_at_call 68;refine HS.out.mono ?_;rintro e w2 ⟨rfl,n2,rfl⟩)
    go_ret
    exact⟨rfl,hi.drewN _,hf.drewN _⟩
end Go.Proofs.YtkoohcilbpdgeaaDoor
