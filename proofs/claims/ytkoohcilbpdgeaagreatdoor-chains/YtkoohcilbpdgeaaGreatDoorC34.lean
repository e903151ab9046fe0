import Derived.Test.YtkoohcilbpdgeaaGreatDoorC33
set_option linter.all false
set_option linter.unusedVariables false
set_option linter.unusedSimpArgs false
set_option linter.unnecessarySimpa false
set_option linter.constructorNameAsVariable false
set_option linter.deprecated false
set_option maxRecDepth 100000
set_option maxHeartbeats 6400000
namespace Go.Proofs.YtkoohcilbpdgeaaGreatDoor
open Go Go.RowKit
attribute [local go_sem] wrap64_byte
def allF (b:Nat→Bool):Nat→Nat→Bool
 |0,_=>true
 |n+1,i=>b i&&allF b n (i+1)
theorem allF_iff (b:Nat→Bool): ∀n i,allF b n i=true↔ ∀j,i≤j→j<i+n→b j=true:=by
 intro n
 induction n with
 |zero=>intro i;exact⟨fun _ j h1 h2=>by omega,fun _=>rfl⟩
 |succ n ih=>
  intro i
  unfold allF
  rw [Bool.and_eq_true,ih]
  constructor
  ·rintro⟨h1,h2⟩ j h3 h4
   by_cases e:j=i
   ·subst e;exact h1
   ·exact h2 j (by omega) (by omega)
  ·intro h
   exact⟨h i (by omega) (by omega),fun j h1 h2=>h j (by omega) (by omega)⟩
def okB (vals:List ByteArray)(C:List (List Cl))(a e:Nat):Bool:=allF (fun i=>(C.getD i []).all fun c=> !badC vals c) (e - a) a
theorem okB_iff (vals:List ByteArray)(C:List (List Cl))(a e:Nat):okB vals C a e=true↔ ∀i,a≤i→i<e→((C.getD i []).all fun c=> !badC vals c)=true:=by
 unfold okB
 rw [allF_iff]
 exact⟨fun h i h1 h2=>h i h1 (by omega),fun h i h1 h2=>h i h1 (by omega)⟩
theorem okB_nil (vals:List ByteArray)(C:List (List Cl))(a:Nat):okB vals C a a=true:=by
 rw [okB_iff];intro i h1 h2;omega
theorem valued_name {X:Nat→Prop}{w:World}{v:Value}{t:ByteArray}{p:Int}{vs:List Value}(h:NodeX X w v sName t p vs)(vb:Nat)(vals:List ByteArray)(vv:Value)(hv:w.ownsRow vb 9 1 vv vals.length (vals.map Value.string))(hvl:vals.length≤100000):
  Calls Tryz.prog 104 #[v,vv] w fun e w'=>e= .returned (.bool (decide (0≤plM t vals 0)))∧Below w.heap.size w w':=by
 obtain⟨g,kv0,rfl,hh,hg,hkv⟩:=node_at h
 obtain⟨c0,c1,c2,c3,cf⟩:=box4' hh
 have HP:=hide (placeR_any vb vals vv t w hv hvl)
 have hop:(sName.toList==[110,97,109,101])=true:=by rw [ByteArray.toList_eq];rfl
 clear h hh hkv cf c2 c3
 go_enter Tryz.func104,Tryz.ntmps104
 go_wp2_with fail
 refine HP.out.mono ?_
 rintro e w1 ⟨rfl,rfl⟩
 go_wp2_with fail
 go_ret
 exact⟨by simp,Below.refl _ _⟩
theorem valued_other {X:Nat→Prop}{w:World}{v:Value}{op t:ByteArray}{p:Int}{vs:List Value}(h:NodeX X w v op t p vs)(vv:Value)(h1:(op.toList==[110,97,109,101])=false)(h2:(op.toList==[97,108,108])=false)(h3:(op.toList==[105,102])=false):
  Calls Tryz.prog 104 #[v,vv] w fun e w'=>e= .returned (.bool true)∧Below w.heap.size w w':=by
 obtain⟨g,kv0,rfl,hh,hg,hkv⟩:=node_at h
 obtain⟨c0,c1,c2,c3,cf⟩:=box4' hh
 clear h hh hkv cf c2 c3
 go_enter Tryz.func104,Tryz.ntmps104
 go_wp2_with fail
 go_ret
 exact⟨rfl,Below.refl _ _⟩
theorem valued_node {X:Nat→Prop}{w:World}{v:Value}{op:ByteArray}{t:ByteArray}{p:Int}{vs:List Value}(h:NodeX X w v op t p vs)(hop:op=sAll∨op=sIf)(hlen:vs.length≤100000)(vv:Value)(b:Nat→Bool)
  (hk: ∀(i:Nat) (u:Value) (W:World),vs[i]?=some u→Below w.heap.size w W→Calls Tryz.prog 104 #[u,vv] W fun e w'=>e= .returned (.bool (b i))∧Below W.heap.size W w'):
  Calls Tryz.prog 104 #[v,vv] w fun e w'=>e= .returned (.bool (allF b vs.length 0))∧Below w.heap.size w w':=by
 obtain⟨g,kv0,rfl,hh,hg,hkv⟩:=node_at h
 obtain⟨ak,kk,rfl⟩:=ownsRow_slice hkv
 obtain⟨c0,c1,c2,c3,cf⟩:=box4' hh
 have HC:=hide hk
 have HK:=hide hkv
 have ho1:(op.toList==[110,97,109,101])=false:=by rcases hop with rfl|rfl<;>rw [ByteArray.toList_eq]<;>rfl
 have ho2:((op.toList==[97,108,108])=true)∨((op.toList==[97,108,108])=false∧(op.toList==[105,102])=true):=by
  rcases hop with rfl|rfl
  ·left;rw [ByteArray.toList_eq];rfl
  ·right;rw [ByteArray.toList_eq];exact⟨rfl,rfl⟩
 clear h hh hk hkv cf c1 c2 hop
 go_enter Tryz.func104,Tryz.ntmps104
 rcases ho2 with ho2|⟨ho2,ho3⟩
 all_goals
  go_wp2_with fail
  go_loopg [5] (vs.length+1) (fun k iv wr=> ∃(i:Nat),k+i=vs.length+1∧i≤vs.length∧iv= .int .i64 i∧Hid (Below w.heap.size w wr)∧Hid (allF b (vs.length - i) i=allF b vs.length 0))
  case atStart=>exact⟨0,rfl,Nat.zero_le _,rfl,hide (Below.refl _ _),hide rfl⟩
  case round=>
   obtain⟨i,hk,hil,rfl,HB,hfin⟩:=hrel
   have hHK:=hide hk
   clear hk
   have d3:wr.cell? ⟨g,3,none⟩=some (.slice ak vs.length kk):=(HB.out.cell (p:=⟨g,3,none⟩) hg).trans c3
   by_cases hlt:i<vs.length
   ·obtain⟨u,hu⟩: ∃u,vs[i]?=some u:=⟨vs[i],List.getElem?_eq_getElem hlt⟩
    have hkr:=HK.out
    obtain⟨gr,cap,hvv,hbb,hgg⟩:=hkr.form (by omega)
    injection hvv with e1 e2 e3
    subst e1 e3
    have r0:wr.cell? ⟨gr,i,none⟩=some u:=(HB.out.cell (p:=⟨gr,i,none⟩) hgg).trans (row_cell hkr _ _ hu)
    have HU:=hide (HC.out i u wr hu HB.out)
    have hst:Hid (allF b (vs.length - i) i=(b i&&allF b (vs.length -(i+1)) (i+1))):=hide (by
     obtain⟨m,hm⟩: ∃m,vs.length - i=m+1:=⟨vs.length - i - 1,by omega⟩
     rw [hm,show vs.length -(i+1)=m by omega]
     rfl)
    have hlt':(i:Int)<vs.length:=by omega
    clear hkr hu
    cases hbi:b i
    case true=>
     rw [hbi] at HU
     have HS:Hid (allF b (vs.length -(i+1)) (i+1)=allF b vs.length 0):=hide (by rw [←hfin.out,hst.out,hbi];rfl)
     clear hbi hst hfin
     go_wp2_with fail
     refine HU.out.mono ?_
     rintro e w1 ⟨rfl,hB1⟩
     have HB1:=hide (HB.out.trans (hB1.mono HB.out.size))
     clear hB1
     go_wp2_with fail
     have hk:=hHK.out
     go_roundg (vs.length - i)
     case measure=>omega
     case rel=>exact⟨i+1,by omega,by omega,by go_num,HB1,HS⟩
    case false=>
     rw [hbi] at HU
     have HS:Hid (allF b vs.length 0=false):=hide (by rw [←hfin.out,hst.out,hbi];rfl)
     clear hbi hst hfin
     go_wp2_with fail
     refine HU.out.mono ?_
     rintro e w1 ⟨rfl,hB1⟩
     have HB1:=hide (HB.out.trans (hB1.mono HB.out.size))
     clear hB1
     go_wp2_with fail
     go_ret
     exact⟨by rw [HS.out];rfl,HB1.out⟩
   ·have hlt': ¬(i:Int)<vs.length:=by omega
    have hres:Hid (allF b vs.length 0=true):=hide (by rw [←hfin.out,show vs.length - i=0 by omega];rfl)
    go_wp2_with fail
    go_ret
    exact⟨by rw [hres.out];rfl,HB.out⟩
theorem SegK.parts {P:Cl→Nat→Nat→Prop}: ∀(cs:List Cl) (a e:Nat),SegK P cs a e→ ∃A:Nat→Nat,A 0=a∧A cs.length=e∧ ∀i c,cs[i]?=some c→P c (A i) (A (i+1)):=by
 intro cs
 induction cs with
 |nil=>intro a e h;have h:a=e:=h;exact⟨fun _=>a,rfl,h,fun i c hc=>by simp at hc⟩
 |cons x cs ih=>
  intro a e ⟨m,h1,h2⟩
  obtain⟨A,q1,q2,q3⟩:=ih _ _ h2
  refine⟨fun i=>match i with|0=>a|i+1=>A i,rfl,q2,fun i c hc=> ?_⟩
  cases i with
  |zero=>
   have e:x=c:=by simpa using hc
   subst e
   show P x a (A 0)
   rw [q1];exact h1
  |succ i=>exact q3 i c (by simpa using hc)
theorem valued_E {X:Nat→Prop}{w:World}{E:List Ex}(hg:GoodE E){f:Nat}{v:Value}{a i:Nat}(vv:Value)(h:RefEX X w E f v a i):Calls Tryz.prog 104 #[v,vv] w fun e w'=>e= .returned (.bool true)∧Below w.heap.size w w':=by
 cases f with
 |zero=>exact absurd h id
 |succ f=>
  obtain⟨x,hx,h⟩:=h
  rcases h with⟨_,_,p,hn⟩|⟨_,_,p,hn⟩|⟨_,_,ht,p,hn⟩|⟨_,_,p,hn⟩|⟨_,_,p,hn⟩|⟨hf,v1,j,h2,h3,h4,h5⟩|⟨hf,v1,v2,j,k,h2,h3,h4,h5,h6,h7⟩
  ·exact valued_other hn vv (by rw [ByteArray.toList_eq];rfl) (by rw [ByteArray.toList_eq];rfl) (by rw [ByteArray.toList_eq];rfl)
  ·exact valued_other hn vv (by rw [ByteArray.toList_eq];rfl) (by rw [ByteArray.toList_eq];rfl) (by rw [ByteArray.toList_eq];rfl)
  ·rcases ht with ht|ht
   ·exact valued_other hn vv (by rw [ByteArray.toList_eq,ht];rfl) (by rw [ByteArray.toList_eq,ht];rfl) (by rw [ByteArray.toList_eq,ht];rfl)
   ·exact valued_other hn vv (by rw [ByteArray.toList_eq,ht];rfl) (by rw [ByteArray.toList_eq,ht];rfl) (by rw [ByteArray.toList_eq,ht];rfl)
  ·exact valued_other hn vv (by rw [ByteArray.toList_eq];rfl) (by rw [ByteArray.toList_eq];rfl) (by rw [ByteArray.toList_eq];rfl)
  ·exact valued_other hn vv (by rw [ByteArray.toList_eq];rfl) (by rw [ByteArray.toList_eq];rfl) (by rw [ByteArray.toList_eq];rfl)
  ·rcases h4 with⟨_,hn⟩|⟨_,hn⟩
   ·exact valued_other hn vv (by rw [ByteArray.toList_eq];rfl) (by rw [ByteArray.toList_eq];rfl) (by rw [ByteArray.toList_eq];rfl)
   ·exact valued_other hn vv (by rw [ByteArray.toList_eq];rfl) (by rw [ByteArray.toList_eq];rfl) (by rw [ByteArray.toList_eq];rfl)
  ·have hs:=(hg x (List.mem_of_getElem? hx)).2 hf
   exact valued_other h5 vv (sign_not hs _ rfl) (sign_not hs _ rfl) (sign_not hs _ rfl)
theorem parts_le {A:Nat→Nat}{n:Nat}(h: ∀i,i<n→A i≤A (i+1)): ∀i j,i≤j→j≤n→A i≤A j:=by
 intro i j hij
 induction hij with
 |refl=>intro _;exact Nat.le_refl _
 |step _ ih=>intro hn;exact Nat.le_trans (ih (by omega)) (h _ (by omega))
theorem parts_find {A:Nat→Nat}: ∀(n p:Nat),A 0≤p→p<A n→ ∃i,i<n∧A i≤p∧p<A (i+1):=by
 intro n
 induction n with
 |zero=>intro p h1 h2;omega
 |succ n ih=>
  intro p h1 h2
  by_cases h:p<A n
  ·obtain⟨i,q1,q2,q3⟩:=ih p h1 h
   exact⟨i,by omega,q2,q3⟩
  ·exact⟨n,by omega,by omega,h2⟩
def clB (vals:List ByteArray)(C:List (List Cl))(cls:List Cl)(A:Nat→Nat)(i:Nat):Bool:=(match cls[i]? with|some c=> !badC vals c|none=>true)&&okB vals C (A i) (A (i+1))
theorem clB_all {vals:List ByteArray}{C:List (List Cl)}{cls:List Cl}{A:Nat→Nat}{a ci:Nat}(h0:A 0=a)(h1:A cls.length=ci)(hle: ∀i,i<cls.length→A i≤A (i+1))(hc:C[ci]?=some cls):allF (clB vals C cls A) cls.length 0=okB vals C a (ci+1):=by
 rw [Bool.eq_iff_iff,allF_iff,okB_iff]
 constructor
 ·intro h i hi1 hi2
  by_cases e:i=ci
  ·subst e
   simp only [List.getD,hc,Option.getD_some,List.all_eq_true]
   intro c hm
   obtain⟨k,hk,rfl⟩:=List.getElem_of_mem hm
   have q:=h k (by omega) (by omega)
   unfold clB at q
   rw [List.getElem?_eq_getElem hk] at q
   simp only [Bool.and_eq_true] at q
   exact q.1
  ·obtain⟨k,q1,q2,q3⟩:=parts_find (A:=A) cls.length i (by omega) (by omega)
   have q:=h k (by omega) (by omega)
   unfold clB at q
   rw [Bool.and_eq_true,okB_iff] at q
   exact q.2 i q2 q3
 ·intro h j _ hj
  have hj:j<cls.length:=by omega
  unfold clB
  rw [Bool.and_eq_true,okB_iff]
  refine⟨?_,fun i q1 q2=>h i ?_ ?_⟩
  ·have q:=h ci (by have:=parts_le hle 0 cls.length (by omega) (by omega);omega) (by omega)
   simp only [List.getD,hc,Option.getD_some,List.all_eq_true] at q
   rw [List.getElem?_eq_getElem hj]
   exact q _ (List.getElem_mem hj)
  ·have:=parts_le hle 0 j (by omega) (by omega);omega
  ·have:=parts_le hle (j+1) cls.length (by omega) (by omega);omega
theorem allF_one (b:Nat→Bool):allF b 1 0=b 0:=by unfold allF allF;simp
theorem allF_two (b:Nat→Bool):allF b 2 0=(b 0&&b 1):=by unfold allF allF allF;simp
theorem valued_CX {X:Nat→Prop}{E:List Ex}{C:List (List Cl)}(hg:GoodE E)(vals:List ByteArray)(vb:Nat)(vv:Value)(hvl:vals.length≤100000)(hCl: ∀c∈C,c.length≤100000):
  ∀(f:Nat) (v:Value) (ci a e:Nat) (f2 a2:Nat) (w:World),RefCX X w E C f v ci a e→CovC C f2 a2 ci→w.ownsRow vb 9 1 vv vals.length (vals.map Value.string)→
   Calls Tryz.prog 104 #[v,vv] w fun e w'=>e= .returned (.bool (okB vals C a2 (ci+1)))∧Below w.heap.size w w':=by
 intro f
 induction f with
 |zero=>intro v ci a e f2 a2 w h;exact absurd h id
 |succ f ih=>
  intro v ci a e f2 a2 w ⟨cls,vs,p,h1,h2,h3⟩ hcov hvr
  obtain⟨f3,rfl⟩: ∃f3,f2=f3+1:=by
   cases f2 with
   |zero=>exact absurd hcov id
   |succ k=>exact⟨k,rfl⟩
  obtain⟨cls',k1,k2⟩:=hcov
  have hcc:cls'=cls:=by rw [h1] at k1;exact(Option.some.inj k1).symm
  subst hcc
  obtain⟨A,A0,A1,AP⟩:=SegK.parts _ _ _ k2
  have hlen:=segC_len _ _ _ _ h3
  have hle: ∀i,i<cls'.length→A i≤A (i+1):=fun i hi=>ClK.a_le (cls'[i]) _ _ (AP i _ (List.getElem?_eq_getElem hi))
  rw [←clB_all (vals:=vals) A0 A1 hle h1,←hlen]
  refine valued_node h2 (.inl rfl) (by have:=hCl cls' (List.mem_of_getElem? h1);omega) vv _ fun i u W hu hB=> ?_
  obtain⟨c,a',e',hc,v1,j,x,q1,q2,q3,q4,q5,q6⟩:=segC_get _ _ _ _ i u h3 hu
  have hP:=AP i c hc
  have hvW:=ownsRow_same hvr fun k e=>hB.block k (hvr.lt k e).2
  have hcl:clB vals C cls' A i=(!badC vals c&&okB vals C (A i) (A (i+1))):=by unfold clB;rw [hc]
  rw [hcl]
  rcases q6 with⟨r1,r2,_⟩|⟨r1,v2,pp,r2,r3,_⟩|⟨r1,v2,ci',r0,r2,r3⟩
  ·have e1:A i=A (i+1):=by rcases hP with⟨q,_⟩|⟨_,q⟩;exact absurd (r1.symm.trans q) (by decide);exact q
   rw [←e1,okB_nil,show badC vals c=false by unfold badC;rw [r1];rfl]
   have:=valued_node (r2.keepX (below_same hB)) (.inr rfl) (by simp) vv (fun _=>true) fun n u2 W2 hu2 hB2=>by
    have e:v1=u2:=by cases n with|zero=>simpa using hu2|succ n=>simp at hu2
    subst e
    exact valued_E hg vv (q1.keepX (below_same (hB.trans (hB2.mono hB.size))))
   rw [show [v1].length=1 from rfl,allF_one] at this
   exact this
  ·have e1:A i=A (i+1):=by rcases hP with⟨q,_⟩|⟨_,q⟩;exact absurd (r1.symm.trans q) (by decide);exact q
   rw [←e1,okB_nil]
   have hbd:(!badC vals c&&true)=decide (0≤plM c.result vals 0):=by
    unfold badC
    rw [r1]
    rcases plM_range c.result vals 0 with q|q
    ·rw [q];rfl
    ·have h1:0≤plM c.result vals 0:=by omega
     have h2:(plM c.result vals 0== -1)=false:=by simp;omega
     rw [h2,decide_eq_true h1];rfl
   rw [hbd]
   have:=valued_node (r2.keepX (below_same hB)) (.inr rfl) (by simp) vv (fun n=>if n=0 then true else decide (0≤plM c.result vals 0)) fun n u2 W2 hu2 hB2=>by
    have hB3:=hB.trans (hB2.mono hB.size)
    match n,hu2 with
    |0,hu2=>
     have e:v1=u2:=by simpa using hu2
     subst e
     exact valued_E hg vv (q1.keepX (below_same hB3))
    |1,hu2=>
     have e:v2=u2:=by simpa using hu2
     subst e
     exact valued_name (r3.keepX (below_same hB3)) vb vals vv (ownsRow_same hvr fun k e=>hB3.block k (hvr.lt k e).2) hvl
    |n+2,hu2=>simp at hu2
   rw [show [v1,v2].length=2 from rfl,allF_two] at this
   simpa using this
  ·rcases hP with⟨_,k,e1,e2,e3⟩|⟨q,_⟩
   ·have hk:k=ci':=by rw [r0] at e1;omega
    subst hk
    rw [e3,show badC vals c=false by unfold badC;rw [r1];rfl]
    have:=valued_node (r2.keepX (below_same hB)) (.inr rfl) (by simp) vv (fun n=>if n=0 then true else okB vals C (A i) (k+1)) fun n u2 W2 hu2 hB2=>by
     have hB3:=hB.trans (hB2.mono hB.size)
     match n,hu2 with
     |0,hu2=>
      have e:v1=u2:=by simpa using hu2
      subst e
      exact valued_E hg vv (q1.keepX (below_same hB3))
     |1,hu2=>
      have e:v2=u2:=by simpa using hu2
      subst e
      exact ih v2 k _ _ f3 (A i) W2 (r3.keepX (below_same hB3)) e2 (ownsRow_same hvr fun k e=>hB3.block k (hvr.lt k e).2)
     |n+2,hu2=>simp at hu2
    rw [show [v1,v2].length=2 from rfl,allF_two] at this
    simpa using this
   ·exact absurd r1 q
end Go.Proofs.YtkoohcilbpdgeaaGreatDoor
