import Derived.Test.YtkoohcilbpdgeaaGreatDoorC32
set_option linter.all false
set_option linter.unusedVariables false
set_option linter.unusedSimpArgs false
set_option linter.unnecessarySimpa false
set_option linter.constructorNameAsVariable false
set_option linter.deprecated false
set_option maxRecDepth 100000
set_option maxHeartbeats 6400000
namespace Go.Proofs.YtkoohcilbpdgeaaGreatDoor
open Go Go.RowKit
attribute [local go_sem] wrap64_byte
theorem kc_one (k:Int):(kc k==98)=(k==1):=by
 unfold kc
 by_cases h0:k=0
 ·subst h0;rfl
 ·rw [if_neg h0]
  by_cases h1:k=1
  ·subst h1;rfl
  ·rw [if_neg h1]
   have:(k==1)=false:=by simpa using h1
   rw [this]
   split<;>rfl
def bestM:List (Wt×Int)→Int→Int
 |[],h=>h
 |c::cs,h=>bestM cs (if(c.1.kind==1&&c.1.truth)&&decide (h<c.2) then c.2 else h)
def ClC (X:Nat→Prop)(w:World)(vals:List ByteArray)(lv vv v:Value)(c:Wt×Int):Prop:= ∃v1,(∀W',Below w.heap.size w W'→Calls Tryz.prog 55 #[v1,lv] W' fun e w'=>DPost c.1 W' e w')∧
 ((∃q,NodeX X w v sIf ⟨#[]⟩ q [v1]∧c.2=(vals.length:Int)- 1)∨
  (∃v2 q,NodeX X w v sIf ⟨#[]⟩ q [v1,v2]∧((∃r q2,NodeX X w v2 sName r q2 []∧c.2=plM r vals 0)∨
   (∃q2 ks,NodeX X w v2 sAll ⟨#[]⟩ q2 ks∧ ∀W',Below w.heap.size w W'→Calls Tryz.prog 58 #[v2,lv,vv] W' fun e w'=>e= .returned (.int .i64 c.2)∧Below W'.heap.size W' w'))))
theorem cond_node {X:Nat→Prop}{w:World}{v:Value}{p:Int}{vs:List Value}(h:NodeX X w v sAll ⟨#[]⟩ p vs)(hlen:vs.length≤100000)(vb:Nat)(vals:List ByteArray)(lv:Value)(av:Option Addr)(kv:Nat)(hv:w.ownsRow vb 9 1 (.slice av vals.length kv) vals.length (vals.map Value.string))(hvl:vals.length≤100000)
  (ds:List (Wt×Int)) (hds:ds.length=vs.length) (hcl: ∀(i:Nat) (u:Value) (d:Wt×Int),vs[i]?=some u→ds[i]?=some d→ClC X w vals lv (.slice av vals.length kv) u d):
  Calls Tryz.prog 58 #[v,lv,.slice av vals.length kv] w fun e w'=>e= .returned (.int .i64 (bestM ds 0))∧Below w.heap.size w w':=by
 obtain⟨g,kv0,rfl,hh,hg,hkv⟩:=node_at h
 obtain⟨ak,kk,rfl⟩:=ownsRow_slice hkv
 obtain⟨c0,c1,c2,c3,cf⟩:=box4' hh
 have HC:=hide hcl
 have HK:=hide hkv
 have HV:=hide hv
 clear h hh hcl hkv hv cf c0 c1 c2
 go_enter Tryz.func58,Tryz.ntmps58
 go_wp2_with fail
 go_loopg [7,8] (vs.length+1) (fun k bv iv wr=> ∃(i:Nat) (b:Int),k+i=vs.length+1∧i≤vs.length∧iv= .int .i64 i∧bv= .int .i64 b∧Hid (Below w.heap.size w wr)∧Hid (bestM (ds.drop i) b=bestM ds 0))
 case atStart=>exact⟨0,0,rfl,Nat.zero_le _,rfl,rfl,hide (Below.refl _ _),hide rfl⟩
 case round=>
  obtain⟨i,b,hk,hil,rfl,rfl,HB,hfin⟩:=hrel
  have hHK:=hide hk
  clear hk
  have d3:wr.cell? ⟨g,3,none⟩=some (.slice ak vs.length kk):=(HB.out.cell (p:=⟨g,3,none⟩) hg).trans c3
  by_cases hlt:i<vs.length
  ·obtain⟨u,hu⟩: ∃u,vs[i]?=some u:=⟨vs[i],List.getElem?_eq_getElem hlt⟩
   obtain⟨dd,hd⟩: ∃dd,ds[i]?=some dd:=⟨ds[i]'(by omega),List.getElem?_eq_getElem (by omega)⟩
   have hkr:=HK.out
   obtain⟨gr,cap,hvv,hbb,hgg⟩:=hkr.form (by omega)
   injection hvv with e1 e2 e3
   subst e1 e3
   have r0:wr.cell? ⟨gr,i,none⟩=some u:=(HB.out.cell (p:=⟨gr,i,none⟩) hgg).trans (row_cell hkr _ _ hu)
   have hst:Hid (bestM (ds.drop i) b=bestM (ds.drop (i+1)) (if(dd.1.kind==1&&dd.1.truth)&&decide (b<dd.2) then dd.2 else b)):=hide (by
    obtain⟨hl,hx'⟩:=List.getElem?_eq_some_iff.1 hd
    rw [List.drop_eq_getElem_cons hl,hx']
    rfl)
   have hlt':(i:Int)<vs.length:=by omega
   obtain⟨v1,hw1,hcase⟩:=HC.out i u dd hu hd
   have HW1:=hide (hw1 wr HB.out)
   obtain⟨⟨tk,tb,tn,tt⟩,lev⟩:=dd
   simp only at*
   clear hu hd hkr hw1
   have hnode: ∃(gc:Nat) (kc2:Nat×Nat) (vr:Nat) (q:Int),u= .pointer (some ⟨gc,0,none⟩)∧w.heap[gc]?=some (.cells #[.string sIf,.string ⟨#[]⟩,.int .i64 q,.slice (some ⟨vr,0,none⟩) kc2.1 kc2.2] 138)∧vr<w.heap.size∧w.cell? ⟨vr,0,none⟩=some v1∧
     ((kc2.1=1∧lev=(vals.length:Int)- 1)∨(kc2.1=2∧ ∃(g2:Nat) (op2 tx2:ByteArray) (q2:Int) (kv2:Value),w.cell? ⟨vr,1,none⟩=some (.pointer (some ⟨g2,0,none⟩))∧w.heap[g2]?=some (.cells #[.string op2,.string tx2,.int .i64 q2,kv2] 138)∧
      ((op2=sName∧lev=plM tx2 vals 0)∨(op2=sAll∧ ∀W',Below w.heap.size w W'→Calls Tryz.prog 58 #[.pointer (some ⟨g2,0,none⟩),lv,.slice av vals.length kv] W' fun e w'=>e= .returned (.int .i64 lev)∧Below W'.heap.size W' w')))):=by
    rcases hcase with⟨q,hn,hl⟩|⟨v2,q,hn,hr⟩
    ·obtain⟨gc,kv1,e,hh,_,hr⟩:=node_at hn
     obtain⟨gr2,cap2,hv2,hb2,hg2⟩:=hr.form (by simp)
     refine⟨gc,(1,cap2),gr2,q,e,by rw [hh,hv2];rfl,hg2,row_cell (hv2▸hr) 0 _ rfl,.inl ⟨rfl,hl⟩⟩
    ·obtain⟨gc,kv1,e,hh,_,hr2⟩:=node_at hn
     obtain⟨gr2,cap2,hv2,hb2,hg2⟩:=hr2.form (by simp)
     refine⟨gc,(2,cap2),gr2,q,e,by rw [hh,hv2];rfl,hg2,row_cell (hv2▸hr2) 0 _ rfl,.inr ⟨rfl,?_⟩⟩
     have hc1:=row_cell (hv2▸hr2) 1 v2 rfl
     rcases hr with⟨r,q2,hn2,hl⟩|⟨q2,ks,hn2,hl⟩
     ·obtain⟨g2,kv2,e2,hh2,_,_⟩:=node_at hn2
      exact⟨g2,sName,r,q2,kv2,by rw [hc1,e2],hh2,.inl ⟨rfl,hl⟩⟩
     ·obtain⟨g2,kv2,e2,hh2,_,_⟩:=node_at hn2
      exact⟨g2,sAll,⟨#[]⟩,q2,kv2,by rw [hc1,e2],hh2,.inr ⟨rfl,fun W' hB=>e2▸hl W' hB⟩⟩
   obtain⟨gc,⟨nk,ck⟩,vr,q,rfl,hgc,hvr,hv0,hform⟩:=hnode
   simp only at*
   have hgcl:=lt_of_get hgc
   have m3:wr.cell? ⟨gc,3,none⟩=some (.slice (some ⟨vr,0,none⟩) nk ck):=(HB.out.cell (p:=⟨gc,3,none⟩) hgcl).trans (box4' hgc).2.2.2.1
   have m0:wr.cell? ⟨vr,0,none⟩=some v1:=(HB.out.cell (p:=⟨vr,0,none⟩) hvr).trans hv0
   have hnk:nk=1∨nk=2:=by rcases hform with⟨e,_⟩|⟨e,_⟩<;>omega
   have HFM:=hide hform
   clear hcase hform
   go_wp2_with fail
   refine HW1.out.mono ?_
   rintro e w1 ⟨rfl,hB1⟩
   have hB2:=HB.out.trans (hB1.mono HB.out.size)
   have hB3:=hB2.alloc hB2.size (.cells #[.int .u8 (kc tk),.bool tb,.int .i64 tn,.string tt] 102)
   have HB3:=hide hB3
   have hz1:w.heap.size≤w1.heap.size:=hB2.size
   have p3:(w1.alloc (.cells #[.int .u8 (kc tk),.bool tb,.int .i64 tn,.string tt] 102)).cell? ⟨gc,3,none⟩=some (.slice (some ⟨vr,0,none⟩) nk ck):=(hB3.cell (p:=⟨gc,3,none⟩) hgcl).trans (box4' hgc).2.2.2.1
   have hko:=kc_one tk
   clear hB1 hB2 hB3 m0 m3 r0 d3 HW1
   cases htk:(tk==1)
   case false=>
    rw [htk] at hko
    have hkn:(kc tk !=98)=true:=by simp [bne,hko]
    have HS:Hid (bestM (ds.drop (i+1)) b=bestM ds 0):=hide (by rw [←hfin.out,hst.out,htk];rfl)
    generalize kc tk=K at*
    clear hko htk
    go_wp2_with fail
    have hk:=hHK.out
    go_roundg (vs.length - i)
    case measure=>omega
    case rel=>exact⟨i+1,b,by omega,by omega,by go_num,rfl,hide HB3.out,HS⟩
   rw [htk] at hko
   have hkn:(kc tk !=98)=false:=by simp [bne,hko]
   cases tb
   case false=>
    have HS:Hid (bestM (ds.drop (i+1)) b=bestM ds 0):=hide (by rw [←hfin.out,hst.out,htk];rfl)
    generalize kc tk=K at*
    clear hko htk
    go_wp2_with fail
    have hk:=hHK.out
    go_roundg (vs.length - i)
    case measure=>omega
    case rel=>exact⟨i+1,b,by omega,by omega,by go_num,rfl,hide HB3.out,HS⟩
   have hst':Hid (bestM (ds.drop i) b=bestM (ds.drop (i+1)) (if decide (b<lev) then lev else b)):=hide (by rw [hst.out,htk];rfl)
   generalize kc tk=K at*
   clear hko htk hst
   rcases HFM.out with⟨h1,hlev⟩|⟨h2,g2,op2,tx2,q2,kv2,hc1,hn2,hk2⟩
   ·subst h1
    subst hlev
    by_cases hbl:b<(vals.length:Int)- 1
    ·have HS:Hid (bestM (ds.drop (i+1)) ((vals.length:Int)- 1)=bestM ds 0):=hide (by rw [←hfin.out,hst'.out];simp [hbl])
     go_wp2_with fail
     have hk:=hHK.out
     go_roundg (vs.length - i)
     case measure=>omega
     case rel=>exact⟨i+1,(vals.length:Int)- 1,by omega,by omega,by go_num,rfl,hide HB3.out,HS⟩
    ·have HS:Hid (bestM (ds.drop (i+1)) b=bestM ds 0):=hide (by rw [←hfin.out,hst'.out];simp [hbl])
     go_wp2_with fail
     have hk:=hHK.out
     go_roundg (vs.length - i)
     case measure=>omega
     case rel=>exact⟨i+1,b,by omega,by omega,by go_num,rfl,hide HB3.out,HS⟩
   ·subst h2
    have hg2l:=lt_of_get hn2
    have s1: ∀W',Below w.heap.size w W'→W'.cell? ⟨vr,1,none⟩=some (.pointer (some ⟨g2,0,none⟩)):=fun W' hB=>(hB.cell (p:=⟨vr,1,none⟩) hvr).trans hc1
    have t0:(w1.alloc (.cells #[.int .u8 K,.bool true,.int .i64 tn,.string tt] 102)).cell? ⟨vr,1,none⟩=some (.pointer (some ⟨g2,0,none⟩)):=s1 _ HB3.out
    have t1:(w1.alloc (.cells #[.int .u8 K,.bool true,.int .i64 tn,.string tt] 102)).cell? ⟨g2,0,none⟩=some (.string op2):=(HB3.out.cell (p:=⟨g2,0,none⟩) hg2l).trans (box4' hn2).1
    have t2:(w1.alloc (.cells #[.int .u8 K,.bool true,.int .i64 tn,.string tt] 102)).cell? ⟨g2,1,none⟩=some (.string tx2):=(HB3.out.cell (p:=⟨g2,1,none⟩) hg2l).trans (box4' hn2).2.1
    clear s1
    rcases hk2 with⟨rfl,hlev⟩|⟨rfl,hcd⟩
    ·have hPL:=hide (placeR_any vb vals (.slice av vals.length kv) tx2 (w1.alloc (.cells #[.int .u8 K,.bool true,.int .i64 tn,.string tt] 102)) (ownsRow_same HV.out fun q e=>HB3.out.block q (HV.out.lt q e).2) hvl)
     rw [←hlev] at hPL
     clear hlev
     have hop:(sName.toList==[97,108,108])=false:=by rw [ByteArray.toList_eq];rfl
     by_cases hbl:b<lev
     ·have HS:Hid (bestM (ds.drop (i+1)) (lev)=bestM ds 0):=hide (by rw [←hfin.out,hst'.out];simp [hbl])
      go_wp2_with fail
      refine hPL.out.mono ?_
      rintro e w2 ⟨rfl,rfl⟩
      go_wp2_with fail
      have hk:=hHK.out
      go_roundg (vs.length - i)
      case measure=>omega
      case rel=>exact⟨i+1,lev,by omega,by omega,by go_num,rfl,hide HB3.out,HS⟩
     ·have HS:Hid (bestM (ds.drop (i+1)) b=bestM ds 0):=hide (by rw [←hfin.out,hst'.out];simp [hbl])
      go_wp2_with fail
      refine hPL.out.mono ?_
      rintro e w2 ⟨rfl,rfl⟩
      go_wp2_with fail
      have hk:=hHK.out
      go_roundg (vs.length - i)
      case measure=>omega
      case rel=>exact⟨i+1,b,by omega,by omega,by go_num,rfl,hide HB3.out,HS⟩
    ·have hCD:=hide (hcd _ HB3.out)
     have hop:(sAll.toList==[97,108,108])=true:=by rw [ByteArray.toList_eq];rfl
     clear hcd
     by_cases hbl:b<lev
     ·have HS:Hid (bestM (ds.drop (i+1)) (lev)=bestM ds 0):=hide (by rw [←hfin.out,hst'.out];simp [hbl])
      go_wp2_with fail
      refine hCD.out.mono ?_
      rintro e w2 ⟨rfl,hB4⟩
      have HB4:=hide (HB3.out.trans (hB4.mono HB3.out.size))
      clear hB4
      go_wp2_with fail
      have hk:=hHK.out
      go_roundg (vs.length - i)
      case measure=>omega
      case rel=>exact⟨i+1,lev,by omega,by omega,by go_num,rfl,HB4,HS⟩
     ·have HS:Hid (bestM (ds.drop (i+1)) b=bestM ds 0):=hide (by rw [←hfin.out,hst'.out];simp [hbl])
      go_wp2_with fail
      refine hCD.out.mono ?_
      rintro e w2 ⟨rfl,hB4⟩
      have HB4:=hide (HB3.out.trans (hB4.mono HB3.out.size))
      clear hB4
      go_wp2_with fail
      have hk:=hHK.out
      go_roundg (vs.length - i)
      case measure=>omega
      case rel=>exact⟨i+1,b,by omega,by omega,by go_num,rfl,HB4,HS⟩
  ·have hlt': ¬(i:Int)<vs.length:=by omega
   have hres:Hid (bestM ds 0=b):=hide (by rw [←hfin.out,List.drop_of_length_le (by omega)];rfl)
   go_wp2_with fail
   go_ret
   exact⟨by rw [hres.out];rfl,HB.out⟩
def SegK (P:Cl→Nat→Nat→Prop):List Cl→Nat→Nat→Prop
 |[],a,e=>a=e
 |c::cs,a,e=> ∃m:Nat,P c a m∧SegK P cs m e
theorem SegK.imp {P Q:Cl→Nat→Nat→Prop}(h: ∀c a e,P c a e→Q c a e): ∀(cs:List Cl) (a e:Nat),SegK P cs a e→SegK Q cs a e:=by
 intro cs
 induction cs with
 |nil=>intro a e;exact id
 |cons c cs ih=>intro a e ⟨m,h1,h2⟩;exact⟨m,h _ _ _ h1,ih _ _ h2⟩
theorem SegK.snoc {P:Cl→Nat→Nat→Prop}: ∀(cs:List Cl) (a e:Nat) (c:Cl) (j:Nat),SegK P cs a e→P c e j→SegK P (cs++[c]) a j:=by
 intro cs
 induction cs with
 |nil=>intro a e c j h hp;have h:a=e:=h;subst h;exact⟨j,hp,rfl⟩
 |cons c' cs ih=>intro a e c j ⟨m,h1,h2⟩ hp;exact⟨m,h1,ih _ _ _ _ h2 hp⟩
def CovC (C:List (List Cl)):Nat→Nat→Nat→Prop
 |0,_,_=>False
 |f+1,a,ci=> ∃cls,C[ci]?=some cls∧SegK (fun c a e=>(c.form=2∧ ∃k:Nat,c.inner=(k:Int)∧CovC C f a k∧e=k+1)∨(c.form≠2∧a=e)) cls a ci
def ClK (C:List (List Cl))(f:Nat)(c:Cl)(a e:Nat):Prop:=(c.form=2∧ ∃k:Nat,c.inner=(k:Int)∧CovC C f a k∧e=k+1)∨(c.form≠2∧a=e)
theorem CovC.up {C:List (List Cl)}: ∀{f a ci:Nat},CovC C f a ci→CovC C (f+1) a ci:=by
 intro f
 induction f with
 |zero=>intro a ci h;exact absurd h id
 |succ f ih=>
  intro a ci ⟨cls,h1,h2⟩
  refine⟨cls,h1,SegK.imp (fun c a e h=> ?_) _ _ _ h2⟩
  rcases h with⟨q1,k,q2,q3,q4⟩|q
  ·exact .inl ⟨q1,k,q2,ih q3,q4⟩
  ·exact .inr q
theorem CovC.le {C:List (List Cl)}{f g a ci:Nat}(h:CovC C f a ci)(hg:f≤g):CovC C g a ci:=by
 induction hg with
 |refl=>exact h
 |step _ ih=>exact ih.up
theorem CovC.ext {C D:List (List Cl)}: ∀{f a ci:Nat},CovC C f a ci→CovC (C++D) f a ci:=by
 intro f
 induction f with
 |zero=>intro a ci h;exact absurd h id
 |succ f ih=>
  intro a ci ⟨cls,h1,h2⟩
  refine⟨cls,?_,SegK.imp (fun c a e h=> ?_) _ _ _ h2⟩
  ·rw [List.getElem?_append_left (by exact(List.getElem?_eq_some_iff.1 h1).1)];exact h1
  ·rcases h with⟨q1,k,q2,q3,q4⟩|q
   ·exact .inl ⟨q1,k,q2,ih q3,q4⟩
   ·exact .inr q
theorem ClK.le {C:List (List Cl)}{f g:Nat}{c:Cl}{a e:Nat}(h:ClK C f c a e)(hg:f≤g):ClK C g c a e:=by
 rcases h with⟨q1,k,q2,q3,q4⟩|q
 ·exact .inl ⟨q1,k,q2,q3.le hg,q4⟩
 ·exact .inr q
theorem ClK.ext {C D:List (List Cl)}{f:Nat}{c:Cl}{a e:Nat}(h:ClK C f c a e):ClK (C++D) f c a e:=by
 rcases h with⟨q1,k,q2,q3,q4⟩|q
 ·exact .inl ⟨q1,k,q2,q3.ext,q4⟩
 ·exact .inr q
theorem MC_cov (s:ByteArray): ∀n tag cls st r,MC s n tag cls st=some r→(tag=0→ ∃D,r.2.2.C=st.C++D∧ ∃k:Nat,r.1=(k:Int)∧r.2.2.C.length=k+1∧CovC r.2.2.C n st.C.length k)∧
  (tag=1→ ∃D,r.2.2.C=st.C++D∧ClK r.2.2.C n r.2.1 st.C.length r.2.2.C.length)∧
  (tag=2→ ∀a N,n≤N→SegK (ClK st.C N) cls a st.C.length→ ∃D,r.2.2.C=st.C++D∧ ∃k:Nat,r.1=(k:Int)∧r.2.2.C.length=k+1∧CovC r.2.2.C (N+1) a k):=by
 intro n
 induction n with
 |zero=>intro tag cls st r h;simp [MC] at h
 |succ n ih=>
  intro tag cls st r h
  match tag,h with
  |0,h=>
   refine⟨fun _=> ?_,fun e=>(by simp at e),fun e=>(by simp at e)⟩
   rw [MC_0] at h
   obtain⟨q,h1,h2⟩:=Option.bind_eq_some_iff.1 h
   obtain⟨D,e1,k1⟩:=(ih _ _ _ _ h1).2.1 rfl
   obtain⟨D2,e2,k,e3,e4,k2⟩:=(ih _ _ _ _ h2).2.2 rfl st.C.length n (Nat.le_refl _) ⟨_,k1,rfl⟩
   exact⟨D++D2,by rw [e2,e1,List.append_assoc],k,e3,e4,k2⟩
  |2,h=>
   refine⟨fun e=>(by simp at e),fun e=>(by simp at e),fun _ a N hN hseg=> ?_⟩
   rw [MC_2] at h
   split at h
   ·split at h
    ·obtain⟨q,h1,h2⟩:=Option.bind_eq_some_iff.1 h
     obtain⟨D,e1,k1⟩:=(ih _ _ _ _ h1).2.1 rfl
     have e1:q.2.2.C=st.C++D:=e1
     have k1:ClK q.2.2.C n q.2.1 st.C.length q.2.2.C.length:=k1
     obtain⟨D2,e2,k,e3,e4,k2⟩:=(ih _ _ _ _ h2).2.2 rfl a N (by omega) (SegK.snoc _ _ _ _ _ (SegK.imp (fun c a e h=>by rw [e1];exact h.ext) _ _ _ hseg) (k1.le (by omega)))
     exact⟨D++D2,by rw [e2,e1,List.append_assoc],k,e3,e4,k2⟩
    ·obtain⟨q,h1,h2⟩:=Option.bind_eq_some_iff.1 h
     cases h2
     obtain⟨_,rfl⟩:=addC_some h1
     refine⟨[cls],rfl,st.C.length,rfl,by simp,cls,by simp,SegK.imp (fun c a e h=> ?_) _ _ _ hseg⟩
     exact h.ext
   ·cases h
  |1,h=>
   refine⟨fun e=>(by simp at e),fun _=> ?_,fun e=>(by simp at e)⟩
   rw [MC_1] at h
   obtain⟨q,h1,h2⟩:=Option.bind_eq_some_iff.1 h
   obtain⟨q2,h3,h4⟩:=Option.bind_eq_some_iff.1 h2
   have k1:q.2.C=st.C:=(M_ext s _ _ _ _ _ h1).2.2.2
   obtain⟨_,rfl⟩:=addE_some h3
   split at h4
   ·cases h4;exact⟨[],by simpa using k1,.inr ⟨by simp,by rw [←k1]⟩⟩
   ·simp only at h4
    split at h4
    ·obtain⟨v,h7,h8⟩:=Option.bind_eq_some_iff.1 h4
     cases h8
     obtain⟨D,e1,k,e2,e3,kk⟩:=(ih _ _ _ _ h7).1 rfl
     have e1:v.2.2.C=q.2.C++D:=e1
     have kk:CovC v.2.2.C n q.2.C.length k:=kk
     refine⟨D,by rw [←k1];exact e1,.inl ⟨rfl,k,e2,by rw [←k1];exact kk.up,e3⟩⟩
    ·cases h4
     exact⟨[],by rw [List.append_nil];exact k1,.inr ⟨by simp,by rw [←k1];rfl⟩⟩
  |t+3,h=>simp [MC] at h
def SegB (P:As→Nat→Nat→Prop):List As→Nat→Nat→Prop
 |[],a,e=>a=e
 |c::cs,a,e=> ∃m:Nat,P c a m∧SegB P cs m e
theorem SegB.imp {P Q:As→Nat→Nat→Prop}(h: ∀c a e,P c a e→Q c a e): ∀(cs:List As) (a e:Nat),SegB P cs a e→SegB Q cs a e:=by
 intro cs
 induction cs with
 |nil=>intro a e;exact id
 |cons c cs ih=>intro a e ⟨m,h1,h2⟩;exact⟨m,h _ _ _ h1,ih _ _ h2⟩
theorem SegB.snoc {P:As→Nat→Nat→Prop}: ∀(cs:List As) (a e:Nat) (c:As) (j:Nat),SegB P cs a e→P c e j→SegB P (cs++[c]) a j:=by
 intro cs
 induction cs with
 |nil=>intro a e c j h hp;have h:a=e:=h;subst h;exact⟨j,hp,rfl⟩
 |cons c' cs ih=>intro a e c j ⟨m,h1,h2⟩ hp;exact⟨m,h1,ih _ _ _ _ h2 hp⟩
def AsK (C:List (List Cl))(f:Nat)(x:As)(a e:Nat):Prop:= ∃k:Nat,x.conds=(k:Int)∧CovC C f a k∧e=k+1
def CovA (st:St):Prop:= ∃f,SegB (AsK st.C f) st.A 0 st.C.length
theorem MA_cov {s:ByteArray}{n:Nat}{st st':St}(h:MA s n st=some st')(hg:CovA st):CovA st':=by
 unfold MA at h
 simp only at h
 obtain⟨⟨r1,st1⟩,h1,hM2⟩:=Option.bind_eq_some_iff.1 h
 obtain⟨⟨r2,cl2,st2⟩,h2,hM3⟩:=Option.bind_eq_some_iff.1 hM2
 obtain⟨f,hg⟩:=hg
 obtain⟨_,k1,_,k2⟩:=ML_ext s _ _ _ _ _ _ _ _ h1
 have k1:st1.A=st.A:=k1
 have k2:st1.C=st.C:=k2
 obtain⟨_,_,k3,_⟩:=MC_ext s _ _ _ _ _ h2
 have k3:st2.A=st1.A:=k3
 obtain⟨D,e1,k,e2,e3,kk⟩:=(MC_cov s _ _ _ _ _ h2).1 rfl
 have e1:st2.C=st1.C++D:=e1
 have e2:r2=(k:Int):=e2
 have e3:st2.C.length=k+1:=e3
 have kk:CovC st2.C n st1.C.length k:=kk
 obtain⟨_,rfl⟩:=addA_some hM3
 refine⟨f+n,?_⟩
 show SegB (AsK st2.C (f+n)) (st2.A++[⟨_,r1,r2⟩]) 0 st2.C.length
 refine SegB.snoc _ _ st.C.length _ _ ?_ ⟨k,e2,by rw [←k2];exact kk.le (by omega),e3⟩
 rw [k3,k1]
 refine SegB.imp (fun x a e ⟨k,q1,q2,q3⟩=>⟨k,q1,?_,q3⟩) _ _ _ hg
 rw [e1,k2]
 exact(q2.le (by omega)).ext
theorem MR_cov (s:ByteArray): ∀n st st',MR s n st=some st'→CovA st→CovA st':=by
 intro n
 induction n with
 |zero=>intro st st' h;simp [MR] at h
 |succ n ih=>
  intro st st' h hg
  unfold MR at h
  split at h
  ·obtain⟨u,h1,h2⟩:=Option.bind_eq_some_iff.1 h
   exact ih _ _ h2 (MA_cov h1 hg)
  ·cases h;exact hg
theorem SegK.le {C:List (List Cl)}{f:Nat}: ∀(cs:List Cl) (a e:Nat),SegK (ClK C f) cs a e→(∀a k,CovC C f a k→a≤k)→a≤e:=by
 intro cs
 induction cs with
 |nil=>intro a e h _;exact Nat.le_of_eq h
 |cons c cs ih=>
  intro a e ⟨m,h1,h2⟩ hc
  have:=ih _ _ h2 hc
  rcases h1 with⟨_,k,_,q3,q4⟩|⟨_,q⟩
  ·have:=hc _ _ q3;omega
  ·omega
theorem CovC.a_le {C:List (List Cl)}: ∀{f a k:Nat},CovC C f a k→a≤k:=by
 intro f
 induction f with
 |zero=>intro a k h;exact absurd h id
 |succ f ih=>intro a k ⟨cls,_,h2⟩;exact SegK.le cls a k h2 fun a k h=>ih h
theorem SegK.mem {P:Cl→Nat→Nat→Prop}(hle: ∀c a e,P c a e→a≤e): ∀(cs:List Cl) (a e:Nat),SegK P cs a e→ ∀c∈cs,∃a' e',P c a' e'∧a≤a'∧e'≤e:=by
 intro cs
 induction cs with
 |nil=>intro a e _ c hc;cases hc
 |cons x cs ih=>
  intro a e ⟨m,h1,h2⟩ c hc
  have hml: ∀(cs:List Cl) (a e:Nat),SegK P cs a e→a≤e:=by
   intro cs
   induction cs with
   |nil=>intro a e h;exact Nat.le_of_eq h
   |cons x cs ih=>intro a e ⟨m,h1,h2⟩;exact Nat.le_trans (hle _ _ _ h1) (ih _ _ h2)
  have l1:=hml _ _ _ h2
  have l2:=hle _ _ _ h1
  rcases List.mem_cons.1 hc with rfl|hc
  ·exact⟨a,m,h1,Nat.le_refl _,l1⟩
  ·obtain⟨a',e',q1,q2,q3⟩:=ih _ _ h2 c hc
   exact⟨a',e',q1,by omega,q3⟩
theorem ClK.a_le {C:List (List Cl)}{f:Nat}(c:Cl)(a e:Nat)(h:ClK C f c a e):a≤e:=by
 rcases h with⟨_,k,_,q3,q4⟩|⟨_,q⟩
 ·have:=q3.a_le;omega
 ·omega
theorem CovC.inner {C:List (List Cl)}{f a ci:Nat}(h:CovC C (f+1) a ci){cls:List Cl}(hc:C[ci]?=some cls){c:Cl}(hm:c∈cls)(h2:c.form=2): ∃(k a':Nat),c.inner=(k:Int)∧k<ci∧CovC C f a' k:=by
 obtain⟨cls',e,hs⟩:=h
 rw [hc] at e
 cases e
 obtain⟨a',e',q,_,ql⟩:=SegK.mem (fun c a e h=>ClK.a_le c a e h) cls a ci hs c hm
 rcases q with⟨_,k,q2,q3,q4⟩|⟨q,_⟩
 ·exact⟨k,a',q2,by omega,q3⟩
 ·exact absurd h2 q
theorem lvsM_prefix (vals:List ByteArray)(W:List Wt): ∀(xs:List (List Cl)) (ls:List Int),∃us,lvsM vals W xs ls=ls++us:=by
 intro xs
 induction xs with
 |nil=>intro ls;exact⟨[],by simp [lvsM]⟩
 |cons x xs ih=>
  intro ls
  obtain⟨us,h⟩:=ih (ls++[highM vals W ls x 0])
  exact⟨_,by unfold lvsM;rw [h,List.append_assoc]⟩
theorem lvsM_take (vals:List ByteArray)(W:List Wt)(C:List (List Cl))(i:Nat)(hi:i≤C.length):(lvsM vals W C []).take i=lvsM vals W (C.take i) []:=by
 obtain⟨us,h⟩:=lvsM_prefix vals W (C.drop i) (lvsM vals W (C.take i) [])
 rw [←lvsM_append,List.take_append_drop] at h
 rw [h]
 have hl:(lvsM vals W (C.take i) []).length=i:=by rw [lvsM_length];simp;omega
 rw [List.take_append_of_le_length (by omega),List.take_of_length_le (by omega)]
theorem lvAt_take (vals:List ByteArray)(W:List Wt)(C:List (List Cl)){i j:Nat}(hi:i≤C.length)(hj:j<i):typeAtM (lvsM vals W (C.take i) []) (j:Int)=typeAtM (lvsM vals W C []) (j:Int):=by
 rw [←lvsM_take vals W C i hi]
 unfold typeAtM
 rw [if_neg (by omega),if_neg (by omega)]
 simp only [List.getD]
 rw [show((j:Int)).toNat=j by omega,List.getElem?_take_of_lt hj]
theorem lvAt_row (vals:List ByteArray)(W:List Wt){C:List (List Cl)}{i:Nat}{cls:List Cl}(h:C[i]?=some cls):typeAtM (lvsM vals W C []) (i:Int)=highM vals W (lvsM vals W (C.take i) []) cls 0:=by
 have hi:=(List.getElem?_eq_some_iff.1 h).1
 have h1:=lvsM_take vals W C (i+1) (by omega)
 rw [lvsM_step vals W h] at h1
 have hl:(lvsM vals W (C.take i) []).length=i:=by rw [lvsM_length];simp;omega
 have h2:(lvsM vals W C [])[i]?=some (highM vals W (lvsM vals W (C.take i) []) cls 0):=by
  have h3:((lvsM vals W C []).take (i+1))[i]?=(lvsM vals W C [])[i]?:=List.getElem?_take_of_lt (by omega)
  rw [←h3,h1,List.getElem?_append_right (by omega),hl]
  simp
 unfold typeAtM
 rw [if_neg (by omega)]
 simp only [List.getD]
 rw [show((i:Int)).toNat=i by omega,h2]
 rfl
theorem best_high (vals:List ByteArray)(W:List Wt)(LV:List Int): ∀(cls:List Cl) (h:Int),bestM (cls.map fun c=>(wAt W c.test,rlM vals LV c)) h=highM vals W LV cls h:=by
 intro cls
 induction cls with
 |nil=>intro h;rfl
 |cons c cs ih=>intro h;exact ih _
theorem wAt_test (l:List (ByteArray×ByteArray)){E:List Ex}{i:Nat}{x:Ex}(h:E[i+1]?=some x)(hf:x.form=7)(hl:x.left=(i:Int)):wAt (worthsM l E []) ((i+1:Nat):Int)=wAt (worthsM l E []) (i:Int):=by
 have hi:=(List.getElem?_eq_some_iff.1 h).1
 rw [wAt_row l h,hl,wAt_take l E (by omega) (by omega)]
 unfold wOf
 rw [hf]
 rfl
theorem cond_CX {X:Nat→Prop}{E:List Ex}{C:List (List Cl)}(hg:GoodE E)(l:List (ByteArray×ByteArray))(lv:Value)(lb:Nat)(hll:l.length≤100000)(hls: ∀p∈l,p.2.size≤600)(hE: ∀x∈E,x.text.size≤600)
  (hW: ∀x∈worthsM l E [],x.text.size≤100000000∧ -999999999≤x.num∧x.num≤999999999) (vals:List ByteArray) (vb:Nat) (av:Option Addr) (kv:Nat) (hvl:vals.length≤100000) (hCl: ∀c∈C,c.length≤100000):
  ∀(f:Nat) (v:Value) (ci a e:Nat) (f2 a2:Nat) (w:World),RefCX X w E C f v ci a e→CovC C f2 a2 ci→w.ownsRow lb 144 2 lv l.length ((l.map prCells).flatten)→w.ownsRow vb 9 1 (.slice av vals.length kv) vals.length (vals.map Value.string)→
   Calls Tryz.prog 58 #[v,lv,.slice av vals.length kv] w fun e w'=>e= .returned (.int .i64 (typeAtM (lvsM vals (worthsM l E []) C []) ci))∧Below w.heap.size w w':=by
 intro f
 induction f with
 |zero=>intro v ci a e f2 a2 w h;exact absurd h id
 |succ f ih=>
  intro v ci a e f2 a2 w ⟨cls,vs,p,h1,h2,h3⟩ hcov hlr hvr
  obtain⟨f3,rfl⟩: ∃f3,f2=f3+1:=by
   cases f2 with
   |zero=>exact absurd hcov id
   |succ k=>exact⟨k,rfl⟩
  have hcil:=(List.getElem?_eq_some_iff.1 h1).1
  rw [lvAt_row vals _ h1,←best_high]
  have hlen:=segC_len _ _ _ _ h3
  refine cond_node h2 (by have:=hCl cls (List.mem_of_getElem? h1);omega) vb vals lv av kv hvr hvl _ (by simp;omega) fun i u d hu hd=> ?_
  obtain⟨c,hc,rfl⟩: ∃c,cls[i]?=some c∧(wAt (worthsM l E []) c.test,rlM vals (lvsM vals (worthsM l E []) (C.take ci) []) c)=d:=by
   rw [List.getElem?_map] at hd
   cases hc:cls[i]? with
   |none=>rw [hc] at hd;cases hd
   |some c=>rw [hc] at hd;exact⟨c,rfl,Option.some.inj hd⟩
  obtain⟨c',a',e',hc',v1,j,x,q1,q2,q3,q4,q5,q6⟩:=segC_get _ _ _ _ i u h3 hu
  have hcc:c=c':=by rw [hc] at hc';exact Option.some.inj hc'
  subst hcc
  refine⟨v1,fun W' hB=> ?_,?_⟩
  ·rw [q5,wAt_test l q2 q3 q4]
   exact worth_E hg l lv lb hll hls hE hW f v1 a' j W' (q1.keepX (below_same hB)) (ownsRow_same hlr fun k e=>hB.block k (hlr.lt k e).2)
  ·rcases q6 with⟨r1,r2,_⟩|⟨r1,v2,pp,r2,r3,_⟩|⟨r1,v2,ci',r0,r2,r3⟩
   ·exact .inl ⟨_,r2,by unfold rlM;rw [r1];rfl⟩
   ·exact .inr ⟨v2,_,r2,.inl ⟨_,_,r3,by unfold rlM;rw [r1];rfl⟩⟩
   ·obtain⟨k,a3,e1,e2,e3⟩:=hcov.inner h1 (List.mem_of_getElem? hc) r1
    have hk:k=ci':=by rw [r0] at e1;omega
    subst hk
    have hlev:rlM vals (lvsM vals (worthsM l E []) (C.take ci) []) c=typeAtM (lvsM vals (worthsM l E []) C []) (k:Int):=by
     unfold rlM
     rw [r1,r0]
     exact lvAt_take vals _ C (by omega) e2
    obtain⟨ks,pp,hn⟩: ∃ks pp,NodeX X w v2 sAll ⟨#[]⟩ pp ks:=by
     cases f with
     |zero=>exact absurd r3 id
     |succ f=>obtain⟨_,ks,pp,_,hn,_⟩:=r3;exact⟨ks,pp,hn⟩
    refine .inr ⟨v2,_,r2,.inr ⟨pp,ks,hn,fun W' hB=> ?_⟩⟩
    show Calls Tryz.prog 58 #[v2,lv,.slice av vals.length kv] W' fun e w'=>e= .returned (.int .i64 (rlM vals (lvsM vals (worthsM l E []) (C.take ci) []) c))∧Below W'.heap.size W' w'
    rw [hlev]
    exact ih v2 k _ _ f3 a3 W' (r3.keepX (below_same hB)) e3 (ownsRow_same hlr fun k e=>hB.block k (hlr.lt k e).2) (ownsRow_same hvr fun k e=>hB.block k (hvr.lt k e).2)
end Go.Proofs.YtkoohcilbpdgeaaGreatDoor
