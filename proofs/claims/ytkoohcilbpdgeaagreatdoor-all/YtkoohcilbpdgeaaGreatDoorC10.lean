import Derived.Test.YtkoohcilbpdgeaaGreatDoorC09
set_option linter.all false
set_option linter.unusedVariables false
set_option linter.unusedSimpArgs false
set_option linter.unnecessarySimpa false
set_option linter.constructorNameAsVariable false
set_option linter.deprecated false
set_option maxRecDepth 100000
set_option maxHeartbeats 6400000
namespace Go.Proofs.YtkoohcilbpdgeaaGreatDoor
open Go Go.RowKit
attribute [local go_sem] wrap64_byte
theorem z7v (nm:zeV): ∀(l:List zeV) (i:Nat),(plM nm l i= -1∧ ∀x∈l,(x.toList==nm.toList)=false)∨ ∃(m:Nat) (x:zeV),plM nm l i=((i+m:Nat):Int)∧l[m]?=some x∧(x.toList==nm.toList)=true∧ ∀(k:Nat) (y:zeV),k<m→l[k]?=some y→(y.toList==nm.toList)=false:=by
 intro l
 induction l with
 |nil=>intro i;exact .inl ⟨rfl,fun x h=>by cases h⟩
 |cons y ys ih=>
  intro i
  cases h:(y.toList==nm.toList) with
  |true=>exact .inr ⟨0,y,by simp [plM,h],rfl,h,fun k y hk=>by omega⟩
  |false=>
   rcases ih (i+1) with⟨h1,h2⟩|⟨m,x,h1,h2,h3,h4⟩
   ·refine .inl ⟨by simp [plM,h,h1],fun x hx=> ?_⟩
    rcases List.mem_cons.1 hx with rfl|hx
    ·exact h
    ·exact h2 x hx
   ·refine .inr ⟨m+1,x,by simp only [plM,h,if_false,Bool.false_eq_true];rw [h1];omega,by simpa using h2,h3,fun k z hk hz=> ?_⟩
    cases k with
    |zero=>simp at hz;subst hz;exact h
    |succ k=>exact h4 k z (by omega) (by simpa using hz)
def z8K (l:List zeV)(i:Nat):Nat→Bool
 |0=>true
 |k+1=>z8K l i k&&((l.getD i ⟨#[]⟩).toList !=(l.getD k ⟨#[]⟩).toList)
def z2K (l:List zeV):Nat→Bool
 |0=>true
 |i+1=>z2K l i&&z8K l i i
theorem z7K (l:List zeV)(i:Nat): ∀n,z8K l i n=true↔ ∀k,k<n→((l.getD i ⟨#[]⟩).toList==(l.getD k ⟨#[]⟩).toList)=false:=by
 intro n
 induction n with
 |zero=>simp [z8K]
 |succ n ih=>
  unfold z8K
  rw [Bool.and_eq_true,ih]
  constructor
  ·intro ⟨h1,h2⟩ k hk
   by_cases hkn:k=n
   ·subst hkn;simpa [bne] using h2
   ·exact h1 k (by omega)
  ·intro h
   exact⟨fun k hk=>h k (by omega),by simpa [bne] using h n (by omega)⟩
theorem z9o (l:List zeV): ∀n,z2K l n=true↔ ∀i,i<n→z8K l i i=true:=by
 intro n
 induction n with
 |zero=>simp [z2K]
 |succ n ih=>
  unfold z2K
  rw [Bool.and_eq_true,ih]
  constructor
  ·intro ⟨h1,h2⟩ k hk
   by_cases hkn:k=n
   ·subst hkn;exact h2
   ·exact h1 k (by omega)
  ·intro h
   exact⟨fun k hk=>h k (by omega),h n (by omega)⟩
theorem zb1 (l:List zeV): ∀n i,z6m l n i=false↔ ∀j,i≤j→j<i+n→plM (l.getD j ⟨#[]⟩) l 0=(j:Int):=by
 intro n
 induction n with
 |zero=>intro i;simp [z6m];intro j h1 h2;omega
 |succ n ih=>
  intro i
  unfold z6m
  rw [Bool.or_eq_false_iff,ih]
  constructor
  ·intro ⟨h1,h2⟩ j hj1 hj2
   by_cases hji:j=i
   ·subst hji;simpa [bne] using h1
   ·exact h2 j (by omega) (by omega)
  ·intro h
   exact⟨by simpa [bne] using h i (by omega) (by omega),fun j h1 h2=>h j (by omega) (by omega)⟩
theorem zc9 (l:List zeV):z6m l l.length 0= !z2K l l.length:=by
 have key:z6m l l.length 0=false↔z2K l l.length=true:=by
  rw [zb1,z9o]
  constructor
  ·intro h i hi
   rw [z7K]
   intro k hk
   have hp:=h i (zeR _) (by omega)
   rcases z7v (l.getD i ⟨#[]⟩) l 0 with⟨h1,_⟩|⟨m,x,h1,h2,h3,h4⟩
   ·rw [h1] at hp;omega
   ·rw [h1] at hp
    have hm:m=i:=by omega
    subst hm
    obtain⟨y,hy⟩: ∃y,l[k]?=some y:=⟨l[k],zeH (by omega)⟩
    have q:=h4 k y hk hy
    rw [show l.getD k ⟨#[]⟩=y by simp [List.getD,hy]]
    rw [Bool.eq_false_iff] at q ⊢
    intro e
    exact q (by rw [beq_iff_eq] at e ⊢;exact e.symm)
  ·intro h j _ hj
   have hr:=(z7K l j j).1 (h j (by omega))
   rcases z7v (l.getD j ⟨#[]⟩) l 0 with⟨_,h2⟩|⟨m,x,h1,h2,h3,h4⟩
   ·have hx:l.getD j ⟨#[]⟩∈l:=by
     rw [show l.getD j ⟨#[]⟩=l[j]'(by omega) by simp [List.getD,show j<l.length by omega]]
     exact List.getElem_mem _
    have:=h2 _ hx
    simp at this
   ·rw [h1]
    have hmj: ¬m<j:=fun hlt=>by
     have q:=hr m hlt
     rw [show l.getD m ⟨#[]⟩=x by simp [List.getD,h2]] at q
     rw [Bool.eq_false_iff] at q
     exact q (by rw [beq_iff_eq] at h3 ⊢;exact h3.symm)
    have hjm: ¬j<m:=fun hlt=>by
     obtain⟨y,hy⟩: ∃y,l[j]?=some y:=⟨l[j],zeH (by omega)⟩
     have q:=h4 j y hlt hy
     rw [show l.getD j ⟨#[]⟩=y by simp [List.getD,hy]] at q
     simp at q
    omega
 cases h1:z6m l l.length 0<;>cases h2:z2K l l.length<;>simp_all
def zcV (s:zeV)(w:World)(e:Ending)(w':World):Prop:= ∃a n k,e= .returned (.tuple #[.slice a n k,.bool (!(vlM s).2)])∧Below w.heap.size w w'∧((vlM s).2=false→w'.ownsRow w.heap.size 9 1 (.slice a n k) (vlM s).1.length ((vlM s).1.map Value.string))
theorem z4v (s:zeV)(w:World)(hs:s.size≤600):Calls Tryz.prog 101 #[.string s] w fun e w'=>zcV s w e w':=by
 have HN:=z8 (z90 s w hs)
 go_enter Tryz.func101,Tryz.ntmps101
 go_wp2_with fail
 refine HN.out.mono ?_
 rintro e w1 ⟨a,n,k,l,ok,rfl,hB1,hO1,hll,hok⟩
 have hn:n=l.length:=by
  obtain⟨qa,qk,q⟩:=za hO1
  injection q with _ q _
 subst hn
 have hfin: ∀b,b=(ok&&z2K l l.length)→b=(!(vlM s).2)∧((vlM s).2=false→(vlM s).1=l):=fun b hb=>by
  rcases hok with⟨h1,h2⟩|⟨h1,h2⟩
  ·have hv:vlM s=([],true):=by unfold vlM;rw [h2];rfl
   rw [hv,hb,h1]
   exact⟨rfl,fun e=>by cases e⟩
  ·have hv:vlM s=if decide (l.length<2)||decide (5<l.length)||z6m l l.length 0 then([],true) else(l,false):=by unfold vlM;rw [h1];rfl
   rw [hv,zc9,hb,h2]
   by_cases q1:l.length<2
   ·have: ¬2≤l.length:=by omega
    simp [q1,this]
   ·by_cases q2:5<l.length
    ·have: ¬l.length≤5:=by omega
     simp [q2,this]
    ·have e1:2≤l.length:=by omega
     have e2:l.length≤5:=by omega
     simp only [q1,q2,e1,e2,decide_true,decide_false,Bool.false_or,Bool.true_and]
     cases z2K l l.length<;>simp
 have HF:=z8 hfin
 have HO:=z8 hO1
 have HB:=z8 hB1
 clear hok hfin hO1 hB1 HN
 go_wp2_with fail
 go_loopg [5,6] (l.length+1) (fun g okv iv wr=> ∃(i N:Nat) (okb:Bool),g+i=l.length+1∧i≤l.length∧iv= .int .i64 i∧okv= .bool okb∧wr=w1.drewN N∧Hid (okb=(ok&&z2K l i)))
 case atStart=>exact⟨0,0,ok,rfl,zeR _,rfl,rfl,rfl,z8 (by simp [z2K])⟩
 case round=>
  obtain⟨i,N,okb,hk,hil,rfl,rfl,rfl,hokb⟩:=hrel
  have hHK:=z8 hk
  clear hk
  by_cases hlt:i<l.length
  ·have hlt':(i:Int)<l.length:=by omega
   obtain⟨gr,cap,hvv,hbb,hgg⟩:=HO.out.form (by omega)
   injection hvv with e1 e2 e3
   subst e1 e3
   obtain⟨x,hx⟩: ∃x,l[i]?=some x:=⟨l[i],zeH hlt⟩
   have q0:w1.cell? ⟨gr,i,none⟩=some (.string x):=zf HO.out _ _ (by simp [hx])
   have hxi:Hid (l.getD i ⟨#[]⟩=x):=z8 (by simp [List.getD,hx])
   obtain⟨gk0,hgk0⟩: ∃gk0,gk0=gk:=⟨_,rfl⟩
   have HGK0:=z8 hgk0
   clear hgk0 hx
   go_wp2_with fail
   go_loopg [5,7] (i+1) (fun g okv kv wr2=> ∃(j N2:Nat) (okc:Bool),g+j=i+1∧j≤i∧kv= .int .i64 j∧okv= .bool okc∧wr2=w1.drewN N2∧Hid (okc=(okb&&z8K l i j)))
   case atStart=>exact⟨0,N,okb,rfl,zeR _,rfl,rfl,rfl,z8 (by simp [z8K])⟩
   case round=>
    obtain⟨j,N2,okc,hkj,hji,rfl,rfl,rfl,hokc⟩:=hrel
    have hKJ:=z8 hkj
    clear hkj
    by_cases hjl:j<i
    ·have hjl':(j:Int)<i:=by omega
     obtain⟨y,hy⟩: ∃y,l[j]?=some y:=⟨l[j],zeH (by omega)⟩
     have q1:w1.cell? ⟨gr,j,none⟩=some (.string y):=zf HO.out _ _ (by simp [hy])
     have hyj:Hid (l.getD j ⟨#[]⟩=y):=z8 (by simp [List.getD,hy])
     have hjn:j<l.length:=by omega
     have hjn':(j:Int)<l.length:=by omega
     clear hy
     have hnx:Hid (z8K l i (j+1)=(z8K l i j&&(x.toList !=y.toList))):=z8 (by
      show(z8K l i j&&((l.getD i ⟨#[]⟩).toList !=(l.getD j ⟨#[]⟩).toList))=_
      rw [hxi.out,hyj.out])
     cases okc
     ·go_wp2_with fail
      go_quiet (fail)
      go_wp2_with fail
      have hk:=hKJ.out
      go_roundg (i - j)
      case measure=>omega
      case rel=>exact⟨j+1,_,false,by omega,by omega,by go_num,by simp,rfl,z8 (by rw [hnx.out,←Bool.and_assoc,←hokc.out];rfl)⟩
     ·cases hxy:(x.toList !=y.toList)
      ·go_wp2_with fail
       go_quiet (fail)
       go_wp2_with fail
       have hk:=hKJ.out
       go_roundg (i - j)
       case measure=>omega
       case rel=>exact⟨j+1,_,false,by omega,by omega,by go_num,by first|rfl|exact congrArg Value.bool hxy,rfl,z8 (by rw [hnx.out,←Bool.and_assoc,←hokc.out,hxy];rfl)⟩
      ·go_wp2_with fail
       go_quiet (fail)
       go_wp2_with fail
       have hk:=hKJ.out
       go_roundg (i - j)
       case measure=>omega
       case rel=>exact⟨j+1,_,true,by omega,by omega,by go_num,by first|rfl|exact congrArg Value.bool hxy,rfl,z8 (by rw [hnx.out,←Bool.and_assoc,←hokc.out,hxy];rfl)⟩
    ·have hjl': ¬(j:Int)<i:=by omega
     have hji':j=i:=by omega
     have hst:Hid (okc=(ok&&z2K l (i+1))):=z8 (by
      rw [hokc.out,hji',hokb.out]
      show _=(ok&&(z2K l i&&z8K l i i))
      rw [Bool.and_assoc])
     clear hji'
     go_wp2_with fail
     have hk:=hHK.out
     have hg0:=HGK0.out
     go_roundg (gk0 - 1)
     case measure=>omega
     case rel=>exact⟨i+1,N2,okc,by omega,by omega,by go_num,rfl,rfl,hst⟩
  ·have hlt': ¬(i:Int)<l.length:=by omega
   have hil':i=l.length:=by omega
   have hfi:=z8 (HF.out okb (by rw [hokb.out,hil']))
   clear hil'
   go_wp2_with fail
   go_ret2
   exact⟨a,l.length,k,by rw [←hfi.out.1];rfl,⟨HB.out.os,HB.out.tape,HB.out.output,HB.out.size,HB.out.block⟩,fun e=>by rw [hfi.out.2 e];exact zb HO.out fun k e=>rfl⟩
theorem zcO (k:Int):(kc k==98)=(k==1):=by
 unfold kc
 by_cases h0:k=0
 ·subst h0;rfl
 ·rw [if_neg h0]
  by_cases h1:k=1
  ·subst h1;rfl
  ·rw [if_neg h1]
   have:(k==1)=false:=by simpa using h1
   rw [this]
   split<;>rfl
def z0l:List (Wt×Int)→Int→Int
 |[],h=>h
 |c::cs,h=>z0l cs (if(c.1.kind==1&&c.1.truth)&&decide (h<c.2) then c.2 else h)
def ClC (X:Nat→Prop)(w:World)(vals:List zeV)(lv vv v:Value)(c:Wt×Int):Prop:= ∃v1,(∀W',Below w.heap.size w W'→Calls Tryz.prog 55 #[v1,lv] W' fun e w'=>jp c.1 W' e w')∧
 ((∃q,NodeX X w v sIf ⟨#[]⟩ q [v1]∧c.2=(vals.length:Int)- 1)∨
  (∃v2 q,NodeX X w v sIf ⟨#[]⟩ q [v1,v2]∧((∃r q2,NodeX X w v2 z1g r q2 []∧c.2=plM r vals 0)∨
   (∃q2 ks,NodeX X w v2 z5q ⟨#[]⟩ q2 ks∧ ∀W',Below w.heap.size w W'→Calls Tryz.prog 58 #[v2,lv,vv] W' fun e w'=>e= .returned (.int .i64 c.2)∧Below W'.heap.size W' w'))))
theorem z94 {X:Nat→Prop}{w:World}{v:Value}{p:Int}{vs:List Value}(h:NodeX X w v z5q ⟨#[]⟩ p vs)(hlen:vs.length≤100000)(vb:Nat)(vals:List zeV)(lv:Value)(av:Option Addr)(kv:Nat)(hv:w.ownsRow vb 9 1 (.slice av vals.length kv) vals.length (vals.map Value.string))(hvl:vals.length≤100000)
  (ds:List (Wt×Int)) (hds:ds.length=vs.length) (hcl: ∀(i:Nat) (u:Value) (d:Wt×Int),vs[i]?=some u→ds[i]?=some d→ClC X w vals lv (.slice av vals.length kv) u d):
  Calls Tryz.prog 58 #[v,lv,.slice av vals.length kv] w fun e w'=>e= .returned (.int .i64 (z0l ds 0))∧Below w.heap.size w w':=by
 obtain⟨g,kv0,rfl,hh,hg,hkv⟩:=zL h
 obtain⟨ak,kk,rfl⟩:=za hkv
 obtain⟨c0,c1,c2,c3,cf⟩:=zR hh
 have HC:=z8 hcl
 have HK:=z8 hkv
 have HV:=z8 hv
 clear h hh hcl hkv hv cf c0 c1 c2
 go_enter Tryz.func58,Tryz.ntmps58
 go_wp2_with fail
 go_loopg [7,8] (vs.length+1) (fun k bv iv wr=> ∃(i:Nat) (b:Int),k+i=vs.length+1∧i≤vs.length∧iv= .int .i64 i∧bv= .int .i64 b∧Hid (Below w.heap.size w wr)∧Hid (z0l (ds.drop i) b=z0l ds 0))
 case atStart=>exact⟨0,0,rfl,zeR _,rfl,rfl,z8 (zeU _ _),z8 rfl⟩
 case round=>
  obtain⟨i,b,hk,hil,rfl,rfl,HB,hfin⟩:=hrel
  have hHK:=z8 hk
  clear hk
  have d3:wr.cell? ⟨g,3,none⟩=some (.slice ak vs.length kk):=(HB.out.cell (p:=⟨g,3,none⟩) hg).trans c3
  by_cases hlt:i<vs.length
  ·obtain⟨u,hu⟩: ∃u,vs[i]?=some u:=⟨vs[i],zeH hlt⟩
   obtain⟨dd,hd⟩: ∃dd,ds[i]?=some dd:=⟨ds[i]'(by omega),zeH (by omega)⟩
   have hkr:=HK.out
   obtain⟨gr,cap,hvv,hbb,hgg⟩:=hkr.form (by omega)
   injection hvv with e1 e2 e3
   subst e1 e3
   have r0:wr.cell? ⟨gr,i,none⟩=some u:=(HB.out.cell (p:=⟨gr,i,none⟩) hgg).trans (zf hkr _ _ hu)
   have hst:Hid (z0l (ds.drop i) b=z0l (ds.drop (i+1)) (if(dd.1.kind==1&&dd.1.truth)&&decide (b<dd.2) then dd.2 else b)):=z8 (by
    obtain⟨hl,hx'⟩:=zeI.1 hd
    rw [zeO hl,hx']
    rfl)
   have hlt':(i:Int)<vs.length:=by omega
   obtain⟨v1,hw1,hcase⟩:=HC.out i u dd hu hd
   have HW1:=z8 (hw1 wr HB.out)
   obtain⟨⟨tk,tb,tn,tt⟩,lev⟩:=dd
   simp only at*
   clear hu hd hkr hw1
   have hnode: ∃(gc:Nat) (kc2:Nat×Nat) (vr:Nat) (q:Int),u= .pointer (some ⟨gc,0,none⟩)∧w.heap[gc]?=some (.cells #[.string sIf,.string ⟨#[]⟩,.int .i64 q,.slice (some ⟨vr,0,none⟩) kc2.1 kc2.2] 138)∧vr<w.heap.size∧w.cell? ⟨vr,0,none⟩=some v1∧
     ((kc2.1=1∧lev=(vals.length:Int)- 1)∨(kc2.1=2∧ ∃(g2:Nat) (op2 tx2:zeV) (q2:Int) (kv2:Value),w.cell? ⟨vr,1,none⟩=some (.pointer (some ⟨g2,0,none⟩))∧w.heap[g2]?=some (.cells #[.string op2,.string tx2,.int .i64 q2,kv2] 138)∧
      ((op2=z1g∧lev=plM tx2 vals 0)∨(op2=z5q∧ ∀W',Below w.heap.size w W'→Calls Tryz.prog 58 #[.pointer (some ⟨g2,0,none⟩),lv,.slice av vals.length kv] W' fun e w'=>e= .returned (.int .i64 lev)∧Below W'.heap.size W' w')))):=by
    rcases hcase with⟨q,hn,hl⟩|⟨v2,q,hn,hr⟩
    ·obtain⟨gc,kv1,e,hh,_,hr⟩:=zL hn
     obtain⟨gr2,cap2,hv2,hb2,hg2⟩:=hr.form (by simp)
     refine⟨gc,(1,cap2),gr2,q,e,by rw [hh,hv2];rfl,hg2,zf (hv2▸hr) 0 _ rfl,.inl ⟨rfl,hl⟩⟩
    ·obtain⟨gc,kv1,e,hh,_,hr2⟩:=zL hn
     obtain⟨gr2,cap2,hv2,hb2,hg2⟩:=hr2.form (by simp)
     refine⟨gc,(2,cap2),gr2,q,e,by rw [hh,hv2];rfl,hg2,zf (hv2▸hr2) 0 _ rfl,.inr ⟨rfl,?_⟩⟩
     have hc1:=zf (hv2▸hr2) 1 v2 rfl
     rcases hr with⟨r,q2,hn2,hl⟩|⟨q2,ks,hn2,hl⟩
     ·obtain⟨g2,kv2,e2,hh2,_,_⟩:=zL hn2
      exact⟨g2,z1g,r,q2,kv2,by rw [hc1,e2],hh2,.inl ⟨rfl,hl⟩⟩
     ·obtain⟨g2,kv2,e2,hh2,_,_⟩:=zL hn2
      exact⟨g2,z5q,⟨#[]⟩,q2,kv2,by rw [hc1,e2],hh2,.inr ⟨rfl,fun W' hB=>e2▸hl W' hB⟩⟩
   obtain⟨gc,⟨nk,ck⟩,vr,q,rfl,hgc,hvr,hv0,hform⟩:=hnode
   simp only at*
   have hgcl:=zj hgc
   have m3:wr.cell? ⟨gc,3,none⟩=some (.slice (some ⟨vr,0,none⟩) nk ck):=(HB.out.cell (p:=⟨gc,3,none⟩) hgcl).trans (zR hgc).2.2.2.1
   have m0:wr.cell? ⟨vr,0,none⟩=some v1:=(HB.out.cell (p:=⟨vr,0,none⟩) hvr).trans hv0
   have hnk:nk=1∨nk=2:=by rcases hform with⟨e,_⟩|⟨e,_⟩<;>omega
   have HFM:=z8 hform
   clear hcase hform
   go_wp2_with fail
   refine HW1.out.mono ?_
   rintro e w1 ⟨rfl,hB1⟩
   have hB2:=HB.out.trans (hB1.mono HB.out.size)
   have hB3:=hB2.alloc hB2.size (.cells #[.int .u8 (kc tk),.bool tb,.int .i64 tn,.string tt] 102)
   have HB3:=z8 hB3
   have hz1:w.heap.size≤w1.heap.size:=hB2.size
   have p3:(w1.alloc (.cells #[.int .u8 (kc tk),.bool tb,.int .i64 tn,.string tt] 102)).cell? ⟨gc,3,none⟩=some (.slice (some ⟨vr,0,none⟩) nk ck):=(hB3.cell (p:=⟨gc,3,none⟩) hgcl).trans (zR hgc).2.2.2.1
   have hko:=zcO tk
   clear hB1 hB2 hB3 m0 m3 r0 d3 HW1
   cases htk:(tk==1)
   case false=>
    rw [htk] at hko
    have hkn:(kc tk !=98)=true:=by simp [bne,hko]
    have HS:Hid (z0l (ds.drop (i+1)) b=z0l ds 0):=z8 (by rw [←hfin.out,hst.out,htk];rfl)
    generalize kc tk=K at*
    clear hko htk
    go_wp2_with fail
    have hk:=hHK.out
    go_roundg (vs.length - i)
    case measure=>omega
    case rel=>exact⟨i+1,b,by omega,by omega,by go_num,rfl,z8 HB3.out,HS⟩
   rw [htk] at hko
   have hkn:(kc tk !=98)=false:=by simp [bne,hko]
   cases tb
   case false=>
    have HS:Hid (z0l (ds.drop (i+1)) b=z0l ds 0):=z8 (by rw [←hfin.out,hst.out,htk];rfl)
    generalize kc tk=K at*
    clear hko htk
    go_wp2_with fail
    have hk:=hHK.out
    go_roundg (vs.length - i)
    case measure=>omega
    case rel=>exact⟨i+1,b,by omega,by omega,by go_num,rfl,z8 HB3.out,HS⟩
   have hst':Hid (z0l (ds.drop i) b=z0l (ds.drop (i+1)) (if decide (b<lev) then lev else b)):=z8 (by rw [hst.out,htk];rfl)
   generalize kc tk=K at*
   clear hko htk hst
   rcases HFM.out with⟨h1,hlev⟩|⟨h2,g2,op2,tx2,q2,kv2,hc1,hn2,hk2⟩
   ·subst h1
    subst hlev
    by_cases hbl:b<(vals.length:Int)- 1
    ·have HS:Hid (z0l (ds.drop (i+1)) ((vals.length:Int)- 1)=z0l ds 0):=z8 (by rw [←hfin.out,hst'.out];simp [hbl])
     go_wp2_with fail
     have hk:=hHK.out
     go_roundg (vs.length - i)
     case measure=>omega
     case rel=>exact⟨i+1,(vals.length:Int)- 1,by omega,by omega,by go_num,rfl,z8 HB3.out,HS⟩
    ·have HS:Hid (z0l (ds.drop (i+1)) b=z0l ds 0):=z8 (by rw [←hfin.out,hst'.out];simp [hbl])
     go_wp2_with fail
     have hk:=hHK.out
     go_roundg (vs.length - i)
     case measure=>omega
     case rel=>exact⟨i+1,b,by omega,by omega,by go_num,rfl,z8 HB3.out,HS⟩
   ·subst h2
    have hg2l:=zj hn2
    have s1: ∀W',Below w.heap.size w W'→W'.cell? ⟨vr,1,none⟩=some (.pointer (some ⟨g2,0,none⟩)):=fun W' hB=>(hB.cell (p:=⟨vr,1,none⟩) hvr).trans hc1
    have t0:(w1.alloc (.cells #[.int .u8 K,.bool true,.int .i64 tn,.string tt] 102)).cell? ⟨vr,1,none⟩=some (.pointer (some ⟨g2,0,none⟩)):=s1 _ HB3.out
    have t1:(w1.alloc (.cells #[.int .u8 K,.bool true,.int .i64 tn,.string tt] 102)).cell? ⟨g2,0,none⟩=some (.string op2):=(HB3.out.cell (p:=⟨g2,0,none⟩) hg2l).trans (zR hn2).1
    have t2:(w1.alloc (.cells #[.int .u8 K,.bool true,.int .i64 tn,.string tt] 102)).cell? ⟨g2,1,none⟩=some (.string tx2):=(HB3.out.cell (p:=⟨g2,1,none⟩) hg2l).trans (zR hn2).2.1
    clear s1
    rcases hk2 with⟨rfl,hlev⟩|⟨rfl,hcd⟩
    ·have hPL:=z8 (z2E vb vals (.slice av vals.length kv) tx2 (w1.alloc (.cells #[.int .u8 K,.bool true,.int .i64 tn,.string tt] 102)) (zb HV.out fun q e=>HB3.out.block q (HV.out.lt q e).2) hvl)
     rw [←hlev] at hPL
     clear hlev
     have hop:(z1g.toList==[97,108,108])=false:=by rw [zeJ];rfl
     by_cases hbl:b<lev
     ·have HS:Hid (z0l (ds.drop (i+1)) (lev)=z0l ds 0):=z8 (by rw [←hfin.out,hst'.out];simp [hbl])
      go_wp2_with fail
      refine hPL.out.mono ?_
      rintro e w2 ⟨rfl,rfl⟩
      go_wp2_with fail
      have hk:=hHK.out
      go_roundg (vs.length - i)
      case measure=>omega
      case rel=>exact⟨i+1,lev,by omega,by omega,by go_num,rfl,z8 HB3.out,HS⟩
     ·have HS:Hid (z0l (ds.drop (i+1)) b=z0l ds 0):=z8 (by rw [←hfin.out,hst'.out];simp [hbl])
      go_wp2_with fail
      refine hPL.out.mono ?_
      rintro e w2 ⟨rfl,rfl⟩
      go_wp2_with fail
      have hk:=hHK.out
      go_roundg (vs.length - i)
      case measure=>omega
      case rel=>exact⟨i+1,b,by omega,by omega,by go_num,rfl,z8 HB3.out,HS⟩
    ·have hCD:=z8 (hcd _ HB3.out)
     have hop:(z5q.toList==[97,108,108])=true:=by rw [zeJ];rfl
     clear hcd
     by_cases hbl:b<lev
     ·have HS:Hid (z0l (ds.drop (i+1)) (lev)=z0l ds 0):=z8 (by rw [←hfin.out,hst'.out];simp [hbl])
      go_wp2_with fail
      refine hCD.out.mono ?_
      rintro e w2 ⟨rfl,hB4⟩
      have HB4:=z8 (HB3.out.trans (hB4.mono HB3.out.size))
      clear hB4
      go_wp2_with fail
      have hk:=hHK.out
      go_roundg (vs.length - i)
      case measure=>omega
      case rel=>exact⟨i+1,lev,by omega,by omega,by go_num,rfl,HB4,HS⟩
     ·have HS:Hid (z0l (ds.drop (i+1)) b=z0l ds 0):=z8 (by rw [←hfin.out,hst'.out];simp [hbl])
      go_wp2_with fail
      refine hCD.out.mono ?_
      rintro e w2 ⟨rfl,hB4⟩
      have HB4:=z8 (HB3.out.trans (hB4.mono HB3.out.size))
      clear hB4
      go_wp2_with fail
      have hk:=hHK.out
      go_roundg (vs.length - i)
      case measure=>omega
      case rel=>exact⟨i+1,b,by omega,by omega,by go_num,rfl,HB4,HS⟩
  ·have hlt': ¬(i:Int)<vs.length:=by omega
   have hres:Hid (z0l ds 0=b):=z8 (by rw [←hfin.out,zeN (by omega)];rfl)
   go_wp2_with fail
   go_ret
   exact⟨by rw [hres.out];rfl,HB.out⟩
def SegK (P:Cl→Nat→Nat→Prop):List Cl→Nat→Nat→Prop
 |[],a,e=>a=e
 |c::cs,a,e=> ∃m:Nat,P c a m∧SegK P cs m e
theorem SegK.imp {P Q:Cl→Nat→Nat→Prop}(h: ∀c a e,P c a e→Q c a e): ∀(cs:List Cl) (a e:Nat),SegK P cs a e→SegK Q cs a e:=by
 intro cs
 induction cs with
 |nil=>intro a e;exact id
 |cons c cs ih=>intro a e ⟨m,h1,h2⟩;exact⟨m,h _ _ _ h1,ih _ _ h2⟩
theorem SegK.snoc {P:Cl→Nat→Nat→Prop}: ∀(cs:List Cl) (a e:Nat) (c:Cl) (j:Nat),SegK P cs a e→P c e j→SegK P (cs++[c]) a j:=by
 intro cs
 induction cs with
 |nil=>intro a e c j h hp;have h:a=e:=h;subst h;exact⟨j,hp,rfl⟩
 |cons c' cs ih=>intro a e c j ⟨m,h1,h2⟩ hp;exact⟨m,h1,ih _ _ _ _ h2 hp⟩
def CovC (C:List (List Cl)):Nat→Nat→Nat→Prop
 |0,_,_=>False
 |f+1,a,ci=> ∃cls,C[ci]?=some cls∧SegK (fun c a e=>(c.form=2∧ ∃k:Nat,c.inner=(k:Int)∧CovC C f a k∧e=k+1)∨(c.form≠2∧a=e)) cls a ci
def ClK (C:List (List Cl))(f:Nat)(c:Cl)(a e:Nat):Prop:=(c.form=2∧ ∃k:Nat,c.inner=(k:Int)∧CovC C f a k∧e=k+1)∨(c.form≠2∧a=e)
theorem CovC.up {C:List (List Cl)}: ∀{f a ci:Nat},CovC C f a ci→CovC C (f+1) a ci:=by
 intro f
 induction f with
 |zero=>intro a ci h;exact absurd h id
 |succ f ih=>
  intro a ci ⟨cls,h1,h2⟩
  refine⟨cls,h1,SegK.imp (fun c a e h=> ?_) _ _ _ h2⟩
  rcases h with⟨q1,k,q2,q3,q4⟩|q
  ·exact .inl ⟨q1,k,q2,ih q3,q4⟩
  ·exact .inr q
theorem CovC.le {C:List (List Cl)}{f g a ci:Nat}(h:CovC C f a ci)(hg:f≤g):CovC C g a ci:=by
 induction hg with
 |refl=>exact h
 |step _ ih=>exact ih.up
theorem CovC.ext {C D:List (List Cl)}: ∀{f a ci:Nat},CovC C f a ci→CovC (C++D) f a ci:=by
 intro f
 induction f with
 |zero=>intro a ci h;exact absurd h id
 |succ f ih=>
  intro a ci ⟨cls,h1,h2⟩
  refine⟨cls,?_,SegK.imp (fun c a e h=> ?_) _ _ _ h2⟩
  ·rw [List.getElem?_append_left (by exact(zeI.1 h1).1)];exact h1
  ·rcases h with⟨q1,k,q2,q3,q4⟩|q
   ·exact .inl ⟨q1,k,q2,ih q3,q4⟩
   ·exact .inr q
theorem ClK.le {C:List (List Cl)}{f g:Nat}{c:Cl}{a e:Nat}(h:ClK C f c a e)(hg:f≤g):ClK C g c a e:=by
 rcases h with⟨q1,k,q2,q3,q4⟩|q
 ·exact .inl ⟨q1,k,q2,q3.le hg,q4⟩
 ·exact .inr q
theorem ClK.ext {C D:List (List Cl)}{f:Nat}{c:Cl}{a e:Nat}(h:ClK C f c a e):ClK (C++D) f c a e:=by
 rcases h with⟨q1,k,q2,q3,q4⟩|q
 ·exact .inl ⟨q1,k,q2,q3.ext,q4⟩
 ·exact .inr q
theorem zdo (s:zeV): ∀n tag cls st r,MC s n tag cls st=some r→(tag=0→ ∃D,r.2.2.C=st.C++D∧ ∃k:Nat,r.1=(k:Int)∧r.2.2.C.length=k+1∧CovC r.2.2.C n st.C.length k)∧
  (tag=1→ ∃D,r.2.2.C=st.C++D∧ClK r.2.2.C n r.2.1 st.C.length r.2.2.C.length)∧
  (tag=2→ ∀a N,n≤N→SegK (ClK st.C N) cls a st.C.length→ ∃D,r.2.2.C=st.C++D∧ ∃k:Nat,r.1=(k:Int)∧r.2.2.C.length=k+1∧CovC r.2.2.C (N+1) a k):=by
 intro n
 induction n with
 |zero=>intro tag cls st r h;simp [MC] at h
 |succ n ih=>
  intro tag cls st r h
  match tag,h with
  |0,h=>
   refine⟨fun _=> ?_,fun e=>(by simp at e),fun e=>(by simp at e)⟩
   rw [zaa] at h
   obtain⟨q,h1,h2⟩:=zeG.1 h
   obtain⟨D,e1,k1⟩:=(ih _ _ _ _ h1).2.1 rfl
   obtain⟨D2,e2,k,e3,e4,k2⟩:=(ih _ _ _ _ h2).2.2 rfl st.C.length n (zeK _) ⟨_,k1,rfl⟩
   exact⟨D++D2,by rw [e2,e1,List.append_assoc],k,e3,e4,k2⟩
  |2,h=>
   refine⟨fun e=>(by simp at e),fun e=>(by simp at e),fun _ a N hN hseg=> ?_⟩
   rw [zae] at h
   split at h
   ·split at h
    ·obtain⟨q,h1,h2⟩:=zeG.1 h
     obtain⟨D,e1,k1⟩:=(ih _ _ _ _ h1).2.1 rfl
     have e1:q.2.2.C=st.C++D:=e1
     have k1:ClK q.2.2.C n q.2.1 st.C.length q.2.2.C.length:=k1
     obtain⟨D2,e2,k,e3,e4,k2⟩:=(ih _ _ _ _ h2).2.2 rfl a N (by omega) (SegK.snoc _ _ _ _ _ (SegK.imp (fun c a e h=>by rw [e1];exact h.ext) _ _ _ hseg) (k1.le (by omega)))
     exact⟨D++D2,by rw [e2,e1,List.append_assoc],k,e3,e4,k2⟩
    ·obtain⟨q,h1,h2⟩:=zeG.1 h
     cases h2
     obtain⟨_,rfl⟩:=z0j h1
     refine⟨[cls],rfl,st.C.length,rfl,by simp,cls,by simp,SegK.imp (fun c a e h=> ?_) _ _ _ hseg⟩
     exact h.ext
   ·cases h
  |1,h=>
   refine⟨fun e=>(by simp at e),fun _=> ?_,fun e=>(by simp at e)⟩
   rw [zcL] at h
   obtain⟨q,h1,h2⟩:=zeG.1 h
   obtain⟨q2,h3,h4⟩:=zeG.1 h2
   have k1:q.2.C=st.C:=(z2B s _ _ _ _ _ h1).2.2.2
   obtain⟨_,rfl⟩:=zt h3
   split at h4
   ·cases h4;exact⟨[],by simpa using k1,.inr ⟨by simp,by rw [←k1]⟩⟩
   ·simp only at h4
    split at h4
    ·obtain⟨v,h7,h8⟩:=zeG.1 h4
     cases h8
     obtain⟨D,e1,k,e2,e3,kk⟩:=(ih _ _ _ _ h7).1 rfl
     have e1:v.2.2.C=q.2.C++D:=e1
     have kk:CovC v.2.2.C n q.2.C.length k:=kk
     refine⟨D,by rw [←k1];exact e1,.inl ⟨rfl,k,e2,by rw [←k1];exact kk.up,e3⟩⟩
    ·cases h4
     exact⟨[],by rw [List.append_nil];exact k1,.inr ⟨by simp,by rw [←k1];rfl⟩⟩
  |t+3,h=>simp [MC] at h
def SegB (P:As→Nat→Nat→Prop):List As→Nat→Nat→Prop
 |[],a,e=>a=e
 |c::cs,a,e=> ∃m:Nat,P c a m∧SegB P cs m e
theorem SegB.imp {P Q:As→Nat→Nat→Prop}(h: ∀c a e,P c a e→Q c a e): ∀(cs:List As) (a e:Nat),SegB P cs a e→SegB Q cs a e:=by
 intro cs
 induction cs with
 |nil=>intro a e;exact id
 |cons c cs ih=>intro a e ⟨m,h1,h2⟩;exact⟨m,h _ _ _ h1,ih _ _ h2⟩
theorem SegB.snoc {P:As→Nat→Nat→Prop}: ∀(cs:List As) (a e:Nat) (c:As) (j:Nat),SegB P cs a e→P c e j→SegB P (cs++[c]) a j:=by
 intro cs
 induction cs with
 |nil=>intro a e c j h hp;have h:a=e:=h;subst h;exact⟨j,hp,rfl⟩
 |cons c' cs ih=>intro a e c j ⟨m,h1,h2⟩ hp;exact⟨m,h1,ih _ _ _ _ h2 hp⟩
def AsK (C:List (List Cl))(f:Nat)(x:As)(a e:Nat):Prop:= ∃k:Nat,x.conds=(k:Int)∧CovC C f a k∧e=k+1
def z7E (st:St):Prop:= ∃f,SegB (AsK st.C f) st.A 0 st.C.length
theorem zdC {s:zeV}{n:Nat}{st st':St}(h:MA s n st=some st')(hg:z7E st):z7E st':=by
 unfold MA at h
 simp only at h
 obtain⟨⟨r1,st1⟩,h1,hM2⟩:=zeG.1 h
 obtain⟨⟨r2,cl2,st2⟩,h2,hM3⟩:=zeG.1 hM2
 obtain⟨f,hg⟩:=hg
 obtain⟨_,k1,_,k2⟩:=z0O s _ _ _ _ _ _ _ _ h1
 have k1:st1.A=st.A:=k1
 have k2:st1.C=st.C:=k2
 obtain⟨_,_,k3,_⟩:=z2X s _ _ _ _ _ h2
 have k3:st2.A=st1.A:=k3
 obtain⟨D,e1,k,e2,e3,kk⟩:=(zdo s _ _ _ _ _ h2).1 rfl
 have e1:st2.C=st1.C++D:=e1
 have e2:r2=(k:Int):=e2
 have e3:st2.C.length=k+1:=e3
 have kk:CovC st2.C n st1.C.length k:=kk
 obtain⟨_,rfl⟩:=z0i hM3
 refine⟨f+n,?_⟩
 show SegB (AsK st2.C (f+n)) (st2.A++[⟨_,r1,r2⟩]) 0 st2.C.length
 refine SegB.snoc _ _ st.C.length _ _ ?_ ⟨k,e2,by rw [←k2];exact kk.le (by omega),e3⟩
 rw [k3,k1]
 refine SegB.imp (fun x a e ⟨k,q1,q2,q3⟩=>⟨k,q1,?_,q3⟩) _ _ _ hg
 rw [e1,k2]
 exact(q2.le (by omega)).ext
theorem zbH (s:zeV): ∀n st st',MR s n st=some st'→z7E st→z7E st':=by
 intro n
 induction n with
 |zero=>intro st st' h;simp [MR] at h
 |succ n ih=>
  intro st st' h hg
  unfold MR at h
  split at h
  ·obtain⟨u,h1,h2⟩:=zeG.1 h
   exact ih _ _ h2 (zdC h1 hg)
  ·cases h;exact hg
theorem SegK.le {C:List (List Cl)}{f:Nat}: ∀(cs:List Cl) (a e:Nat),SegK (ClK C f) cs a e→(∀a k,CovC C f a k→a≤k)→a≤e:=by
 intro cs
 induction cs with
 |nil=>intro a e h _;exact Nat.le_of_eq h
 |cons c cs ih=>
  intro a e ⟨m,h1,h2⟩ hc
  have:=ih _ _ h2 hc
  rcases h1 with⟨_,k,_,q3,q4⟩|⟨_,q⟩
  ·have:=hc _ _ q3;omega
  ·omega
theorem CovC.a_le {C:List (List Cl)}: ∀{f a k:Nat},CovC C f a k→a≤k:=by
 intro f
 induction f with
 |zero=>intro a k h;exact absurd h id
 |succ f ih=>intro a k ⟨cls,_,h2⟩;exact SegK.le cls a k h2 fun a k h=>ih h
theorem SegK.mem {P:Cl→Nat→Nat→Prop}(hle: ∀c a e,P c a e→a≤e): ∀(cs:List Cl) (a e:Nat),SegK P cs a e→ ∀c∈cs,∃a' e',P c a' e'∧a≤a'∧e'≤e:=by
 intro cs
 induction cs with
 |nil=>intro a e _ c hc;cases hc
 |cons x cs ih=>
  intro a e ⟨m,h1,h2⟩ c hc
  have hml: ∀(cs:List Cl) (a e:Nat),SegK P cs a e→a≤e:=by
   intro cs
   induction cs with
   |nil=>intro a e h;exact Nat.le_of_eq h
   |cons x cs ih=>intro a e ⟨m,h1,h2⟩;exact zeS (hle _ _ _ h1) (ih _ _ h2)
  have l1:=hml _ _ _ h2
  have l2:=hle _ _ _ h1
  rcases List.mem_cons.1 hc with rfl|hc
  ·exact⟨a,m,h1,zeK _,l1⟩
  ·obtain⟨a',e',q1,q2,q3⟩:=ih _ _ h2 c hc
   exact⟨a',e',q1,by omega,q3⟩
theorem ClK.a_le {C:List (List Cl)}{f:Nat}(c:Cl)(a e:Nat)(h:ClK C f c a e):a≤e:=by
 rcases h with⟨_,k,_,q3,q4⟩|⟨_,q⟩
 ·have:=q3.a_le;omega
 ·omega
theorem CovC.inner {C:List (List Cl)}{f a ci:Nat}(h:CovC C (f+1) a ci){cls:List Cl}(hc:C[ci]?=some cls){c:Cl}(hm:c∈cls)(h2:c.form=2): ∃(k a':Nat),c.inner=(k:Int)∧k<ci∧CovC C f a' k:=by
 obtain⟨cls',e,hs⟩:=h
 rw [hc] at e
 cases e
 obtain⟨a',e',q,_,ql⟩:=SegK.mem (fun c a e h=>ClK.a_le c a e h) cls a ci hs c hm
 rcases q with⟨_,k,q2,q3,q4⟩|⟨q,_⟩
 ·exact⟨k,a',q2,by omega,q3⟩
 ·exact absurd h2 q
theorem z6Q (vals:List zeV)(W:List Wt): ∀(xs:List (List Cl)) (ls:List Int),∃us,jE vals W xs ls=ls++us:=by
 intro xs
 induction xs with
 |nil=>intro ls;exact⟨[],by simp [jE]⟩
 |cons x xs ih=>
  intro ls
  obtain⟨us,h⟩:=ih (ls++[z0I vals W ls x 0])
  exact⟨_,by unfold jE;rw [h,List.append_assoc]⟩
theorem z5O (vals:List zeV)(W:List Wt)(C:List (List Cl))(i:Nat)(hi:i≤C.length):(jE vals W C []).take i=jE vals W (C.take i) []:=by
 obtain⟨us,h⟩:=z6Q vals W (C.drop i) (jE vals W (C.take i) [])
 rw [←z42,List.take_append_drop] at h
 rw [h]
 have hl:(jE vals W (C.take i) []).length=i:=by rw [z0a];simp;omega
 rw [List.take_append_of_le_length (by omega),List.take_of_length_le (by omega)]
theorem z9t (vals:List zeV)(W:List Wt)(C:List (List Cl)){i j:Nat}(hi:i≤C.length)(hj:j<i):zc (jE vals W (C.take i) []) (j:Int)=zc (jE vals W C []) (j:Int):=by
 rw [←z5O vals W C i hi]
 unfold zc
 rw [if_neg (by omega),if_neg (by omega)]
 simp only [List.getD]
 rw [show((j:Int)).toNat=j by omega,List.getElem?_take_of_lt hj]
theorem zaP (vals:List zeV)(W:List Wt){C:List (List Cl)}{i:Nat}{cls:List Cl}(h:C[i]?=some cls):zc (jE vals W C []) (i:Int)=z0I vals W (jE vals W (C.take i) []) cls 0:=by
 have hi:=(zeI.1 h).1
 have h1:=z5O vals W C (i+1) (by omega)
 rw [z5G vals W h] at h1
 have hl:(jE vals W (C.take i) []).length=i:=by rw [z0a];simp;omega
 have h2:(jE vals W C [])[i]?=some (z0I vals W (jE vals W (C.take i) []) cls 0):=by
  have h3:((jE vals W C []).take (i+1))[i]?=(jE vals W C [])[i]?:=List.getElem?_take_of_lt (by omega)
  rw [←h3,h1,List.getElem?_append_right (by omega),hl]
  simp
 unfold zc
 rw [if_neg (by omega)]
 simp only [List.getD]
 rw [show((i:Int)).toNat=i by omega,h2]
 rfl
theorem z9r (vals:List zeV)(W:List Wt)(LV:List Int): ∀(cls:List Cl) (h:Int),z0l (cls.map fun c=>(wAt W c.test,rlM vals LV c)) h=z0I vals W LV cls h:=by
 intro cls
 induction cls with
 |nil=>intro h;rfl
 |cons c cs ih=>intro h;exact ih _
theorem z7L (l:List (zeV×zeV)){E:List Ex}{i:Nat}{x:Ex}(h:E[i+1]?=some x)(hf:x.form=7)(hl:x.left=(i:Int)):wAt (ze l E []) ((i+1:Nat):Int)=wAt (ze l E []) (i:Int):=by
 have hi:=(zeI.1 h).1
 rw [z6D l h,hl,z1h l E (by omega) (by omega)]
 unfold wOf
 rw [hf]
 rfl
theorem z7f {X:Nat→Prop}{E:List Ex}{C:List (List Cl)}(hg:jh E)(l:List (zeV×zeV))(lv:Value)(lb:Nat)(hll:l.length≤100000)(hls: ∀p∈l,p.2.size≤600)(hE: ∀x∈E,x.text.size≤600)
  (hW: ∀x∈ze l E [],x.text.size≤100000000∧ -999999999≤x.num∧x.num≤999999999) (vals:List zeV) (vb:Nat) (av:Option Addr) (kv:Nat) (hvl:vals.length≤100000) (hCl: ∀c∈C,c.length≤100000):
  ∀(f:Nat) (v:Value) (ci a e:Nat) (f2 a2:Nat) (w:World),RefCX X w E C f v ci a e→CovC C f2 a2 ci→w.ownsRow lb 144 2 lv l.length ((l.map zu).flatten)→w.ownsRow vb 9 1 (.slice av vals.length kv) vals.length (vals.map Value.string)→
   Calls Tryz.prog 58 #[v,lv,.slice av vals.length kv] w fun e w'=>e= .returned (.int .i64 (zc (jE vals (ze l E []) C []) ci))∧Below w.heap.size w w':=by
 intro f
 induction f with
 |zero=>intro v ci a e f2 a2 w h;exact absurd h id
 |succ f ih=>
  intro v ci a e f2 a2 w ⟨cls,vs,p,h1,h2,h3⟩ hcov hlr hvr
  obtain⟨f3,rfl⟩: ∃f3,f2=f3+1:=by
   cases f2 with
   |zero=>exact absurd hcov id
   |succ k=>exact⟨k,rfl⟩
  have hcil:=(zeI.1 h1).1
  rw [zaP vals _ h1,←z9r]
  have hlen:=z4N _ _ _ _ h3
  refine z94 h2 (by have:=hCl cls (zeP h1);omega) vb vals lv av kv hvr hvl _ (by simp;omega) fun i u d hu hd=> ?_
  obtain⟨c,hc,rfl⟩: ∃c,cls[i]?=some c∧(wAt (ze l E []) c.test,rlM vals (jE vals (ze l E []) (C.take ci) []) c)=d:=by
   rw [List.getElem?_map] at hd
   cases hc:cls[i]? with
   |none=>rw [hc] at hd;cases hd
   |some c=>rw [hc] at hd;exact⟨c,rfl,Option.some.inj hd⟩
  obtain⟨c',a',e',hc',v1,j,x,q1,q2,q3,q4,q5,q6⟩:=z4W _ _ _ _ i u h3 hu
  have hcc:c=c':=by rw [hc] at hc';exact Option.some.inj hc'
  subst hcc
  refine⟨v1,fun W' hB=> ?_,?_⟩
  ·rw [q5,z7L l q2 q3 q4]
   exact z9i hg l lv lb hll hls hE hW f v1 a' j W' (q1.keepX (zi hB)) (zb hlr fun k e=>hB.block k (hlr.lt k e).2)
  ·rcases q6 with⟨r1,r2,_⟩|⟨r1,v2,pp,r2,r3,_⟩|⟨r1,v2,ci',r0,r2,r3⟩
   ·exact .inl ⟨_,r2,by unfold rlM;rw [r1];rfl⟩
   ·exact .inr ⟨v2,_,r2,.inl ⟨_,_,r3,by unfold rlM;rw [r1];rfl⟩⟩
   ·obtain⟨k,a3,e1,e2,e3⟩:=hcov.inner h1 (zeP hc) r1
    have hk:k=ci':=by rw [r0] at e1;omega
    subst hk
    have hlev:rlM vals (jE vals (ze l E []) (C.take ci) []) c=zc (jE vals (ze l E []) C []) (k:Int):=by
     unfold rlM
     rw [r1,r0]
     exact z9t vals _ C (by omega) e2
    obtain⟨ks,pp,hn⟩: ∃ks pp,NodeX X w v2 z5q ⟨#[]⟩ pp ks:=by
     cases f with
     |zero=>exact absurd r3 id
     |succ f=>obtain⟨_,ks,pp,_,hn,_⟩:=r3;exact⟨ks,pp,hn⟩
    refine .inr ⟨v2,_,r2,.inr ⟨pp,ks,hn,fun W' hB=> ?_⟩⟩
    show Calls Tryz.prog 58 #[v2,lv,.slice av vals.length kv] W' fun e w'=>e= .returned (.int .i64 (rlM vals (jE vals (ze l E []) (C.take ci) []) c))∧Below W'.heap.size W' w'
    rw [hlev]
    exact ih v2 k _ _ f3 a3 W' (r3.keepX (zi hB)) e3 (zb hlr fun k e=>hB.block k (hlr.lt k e).2) (zb hvr fun k e=>hB.block k (hvr.lt k e).2)
def z2C (b:Nat→Bool):Nat→Nat→Bool
 |0,_=>true
 |n+1,i=>b i&&z2C b n (i+1)
theorem z4K (b:Nat→Bool): ∀n i,z2C b n i=true↔ ∀j,i≤j→j<i+n→b j=true:=by
 intro n
 induction n with
 |zero=>intro i;exact⟨fun _ j h1 h2=>by omega,fun _=>rfl⟩
 |succ n ih=>
  intro i
  unfold z2C
  rw [Bool.and_eq_true,ih]
  constructor
  ·rintro⟨h1,h2⟩ j h3 h4
   by_cases e:j=i
   ·subst e;exact h1
   ·exact h2 j (by omega) (by omega)
  ·intro h
   exact⟨h i (by omega) (by omega),fun j h1 h2=>h j (by omega) (by omega)⟩
def okB (vals:List zeV)(C:List (List Cl))(a e:Nat):Bool:=z2C (fun i=>(C.getD i []).all fun c=> !z3m vals c) (e - a) a
theorem z1q (vals:List zeV)(C:List (List Cl))(a e:Nat):okB vals C a e=true↔ ∀i,a≤i→i<e→((C.getD i []).all fun c=> !z3m vals c)=true:=by
 unfold okB
 rw [z4K]
 exact⟨fun h i h1 h2=>h i h1 (by omega),fun h i h1 h2=>h i h1 (by omega)⟩
theorem za8 (vals:List zeV)(C:List (List Cl))(a:Nat):okB vals C a a=true:=by
 rw [z1q];intro i h1 h2;omega
theorem z6q {X:Nat→Prop}{w:World}{v:Value}{t:zeV}{p:Int}{vs:List Value}(h:NodeX X w v z1g t p vs)(vb:Nat)(vals:List zeV)(vv:Value)(hv:w.ownsRow vb 9 1 vv vals.length (vals.map Value.string))(hvl:vals.length≤100000):
  Calls Tryz.prog 104 #[v,vv] w fun e w'=>e= .returned (.bool (decide (0≤plM t vals 0)))∧Below w.heap.size w w':=by
 obtain⟨g,kv0,rfl,hh,hg,hkv⟩:=zL h
 obtain⟨c0,c1,c2,c3,cf⟩:=zR hh
 have HP:=z8 (z2E vb vals vv t w hv hvl)
 have hop:(z1g.toList==[110,97,109,101])=true:=by rw [zeJ];rfl
 clear h hh hkv cf c2 c3
 go_enter Tryz.func104,Tryz.ntmps104
 go_wp2_with fail
 refine HP.out.mono ?_
 rintro e w1 ⟨rfl,rfl⟩
 go_wp2_with fail
 go_ret
 exact⟨by simp,zeU _ _⟩
theorem jt {X:Nat→Prop}{w:World}{v:Value}{op t:zeV}{p:Int}{vs:List Value}(h:NodeX X w v op t p vs)(vv:Value)(h1:(op.toList==[110,97,109,101])=false)(h2:(op.toList==[97,108,108])=false)(h3:(op.toList==[105,102])=false):
  Calls Tryz.prog 104 #[v,vv] w fun e w'=>e= .returned (.bool true)∧Below w.heap.size w w':=by
 obtain⟨g,kv0,rfl,hh,hg,hkv⟩:=zL h
 obtain⟨c0,c1,c2,c3,cf⟩:=zR hh
 clear h hh hkv cf c2 c3
 go_enter Tryz.func104,Tryz.ntmps104
 go_wp2_with fail
 go_ret
 exact⟨rfl,zeU _ _⟩
theorem z1a {X:Nat→Prop}{w:World}{v:Value}{op:zeV}{t:zeV}{p:Int}{vs:List Value}(h:NodeX X w v op t p vs)(hop:op=z5q∨op=sIf)(hlen:vs.length≤100000)(vv:Value)(b:Nat→Bool)
  (hk: ∀(i:Nat) (u:Value) (W:World),vs[i]?=some u→Below w.heap.size w W→Calls Tryz.prog 104 #[u,vv] W fun e w'=>e= .returned (.bool (b i))∧Below W.heap.size W w'):
  Calls Tryz.prog 104 #[v,vv] w fun e w'=>e= .returned (.bool (z2C b vs.length 0))∧Below w.heap.size w w':=by
 obtain⟨g,kv0,rfl,hh,hg,hkv⟩:=zL h
 obtain⟨ak,kk,rfl⟩:=za hkv
 obtain⟨c0,c1,c2,c3,cf⟩:=zR hh
 have HC:=z8 hk
 have HK:=z8 hkv
 have ho1:(op.toList==[110,97,109,101])=false:=by rcases hop with rfl|rfl<;>rw [zeJ]<;>rfl
 have ho2:((op.toList==[97,108,108])=true)∨((op.toList==[97,108,108])=false∧(op.toList==[105,102])=true):=by
  rcases hop with rfl|rfl
  ·left;rw [zeJ];rfl
  ·right;rw [zeJ];exact⟨rfl,rfl⟩
 clear h hh hk hkv cf c1 c2 hop
 go_enter Tryz.func104,Tryz.ntmps104
 rcases ho2 with ho2|⟨ho2,ho3⟩
 all_goals
  go_wp2_with fail
  go_loopg [5] (vs.length+1) (fun k iv wr=> ∃(i:Nat),k+i=vs.length+1∧i≤vs.length∧iv= .int .i64 i∧Hid (Below w.heap.size w wr)∧Hid (z2C b (vs.length - i) i=z2C b vs.length 0))
  case atStart=>exact⟨0,rfl,zeR _,rfl,z8 (zeU _ _),z8 rfl⟩
  case round=>
   obtain⟨i,hk,hil,rfl,HB,hfin⟩:=hrel
   have hHK:=z8 hk
   clear hk
   have d3:wr.cell? ⟨g,3,none⟩=some (.slice ak vs.length kk):=(HB.out.cell (p:=⟨g,3,none⟩) hg).trans c3
   by_cases hlt:i<vs.length
   ·obtain⟨u,hu⟩: ∃u,vs[i]?=some u:=⟨vs[i],zeH hlt⟩
    have hkr:=HK.out
    obtain⟨gr,cap,hvv,hbb,hgg⟩:=hkr.form (by omega)
    injection hvv with e1 e2 e3
    subst e1 e3
    have r0:wr.cell? ⟨gr,i,none⟩=some u:=(HB.out.cell (p:=⟨gr,i,none⟩) hgg).trans (zf hkr _ _ hu)
    have HU:=z8 (HC.out i u wr hu HB.out)
    have hst:Hid (z2C b (vs.length - i) i=(b i&&z2C b (vs.length -(i+1)) (i+1))):=z8 (by
     obtain⟨m,hm⟩: ∃m,vs.length - i=m+1:=⟨vs.length - i - 1,by omega⟩
     rw [hm,show vs.length -(i+1)=m by omega]
     rfl)
    have hlt':(i:Int)<vs.length:=by omega
    clear hkr hu
    cases hbi:b i
    case true=>
     rw [hbi] at HU
     have HS:Hid (z2C b (vs.length -(i+1)) (i+1)=z2C b vs.length 0):=z8 (by rw [←hfin.out,hst.out,hbi];rfl)
     clear hbi hst hfin
     go_wp2_with fail
     refine HU.out.mono ?_
     rintro e w1 ⟨rfl,hB1⟩
     have HB1:=z8 (HB.out.trans (hB1.mono HB.out.size))
     clear hB1
     go_wp2_with fail
     have hk:=hHK.out
     go_roundg (vs.length - i)
     case measure=>omega
     case rel=>exact⟨i+1,by omega,by omega,by go_num,HB1,HS⟩
    case false=>
     rw [hbi] at HU
     have HS:Hid (z2C b vs.length 0=false):=z8 (by rw [←hfin.out,hst.out,hbi];rfl)
     clear hbi hst hfin
     go_wp2_with fail
     refine HU.out.mono ?_
     rintro e w1 ⟨rfl,hB1⟩
     have HB1:=z8 (HB.out.trans (hB1.mono HB.out.size))
     clear hB1
     go_wp2_with fail
     go_ret
     exact⟨by rw [HS.out];rfl,HB1.out⟩
   ·have hlt': ¬(i:Int)<vs.length:=by omega
    have hres:Hid (z2C b vs.length 0=true):=z8 (by rw [←hfin.out,show vs.length - i=0 by omega];rfl)
    go_wp2_with fail
    go_ret
    exact⟨by rw [hres.out];rfl,HB.out⟩
theorem SegK.parts {P:Cl→Nat→Nat→Prop}: ∀(cs:List Cl) (a e:Nat),SegK P cs a e→ ∃A:Nat→Nat,A 0=a∧A cs.length=e∧ ∀i c,cs[i]?=some c→P c (A i) (A (i+1)):=by
 intro cs
 induction cs with
 |nil=>intro a e h;have h:a=e:=h;exact⟨fun _=>a,rfl,h,fun i c hc=>by simp at hc⟩
 |cons x cs ih=>
  intro a e ⟨m,h1,h2⟩
  obtain⟨A,q1,q2,q3⟩:=ih _ _ h2
  refine⟨fun i=>match i with|0=>a|i+1=>A i,rfl,q2,fun i c hc=> ?_⟩
  cases i with
  |zero=>
   have e:x=c:=by simpa using hc
   subst e
   show P x a (A 0)
   rw [q1];exact h1
  |succ i=>exact q3 i c (by simpa using hc)
theorem z59 {X:Nat→Prop}{w:World}{E:List Ex}(hg:jh E){f:Nat}{v:Value}{a i:Nat}(vv:Value)(h:RefEX X w E f v a i):Calls Tryz.prog 104 #[v,vv] w fun e w'=>e= .returned (.bool true)∧Below w.heap.size w w':=by
 cases f with
 |zero=>exact absurd h id
 |succ f=>
  obtain⟨x,hx,h⟩:=h
  rcases h with⟨_,_,p,hn⟩|⟨_,_,p,hn⟩|⟨_,_,ht,p,hn⟩|⟨_,_,p,hn⟩|⟨_,_,p,hn⟩|⟨hf,v1,j,h2,h3,h4,h5⟩|⟨hf,v1,v2,j,k,h2,h3,h4,h5,h6,h7⟩
  ·exact jt hn vv (by rw [zeJ];rfl) (by rw [zeJ];rfl) (by rw [zeJ];rfl)
  ·exact jt hn vv (by rw [zeJ];rfl) (by rw [zeJ];rfl) (by rw [zeJ];rfl)
  ·rcases ht with ht|ht
   ·exact jt hn vv (by rw [zeJ,ht];rfl) (by rw [zeJ,ht];rfl) (by rw [zeJ,ht];rfl)
   ·exact jt hn vv (by rw [zeJ,ht];rfl) (by rw [zeJ,ht];rfl) (by rw [zeJ,ht];rfl)
  ·exact jt hn vv (by rw [zeJ];rfl) (by rw [zeJ];rfl) (by rw [zeJ];rfl)
  ·exact jt hn vv (by rw [zeJ];rfl) (by rw [zeJ];rfl) (by rw [zeJ];rfl)
  ·rcases h4 with⟨_,hn⟩|⟨_,hn⟩
   ·exact jt hn vv (by rw [zeJ];rfl) (by rw [zeJ];rfl) (by rw [zeJ];rfl)
   ·exact jt hn vv (by rw [zeJ];rfl) (by rw [zeJ];rfl) (by rw [zeJ];rfl)
  ·have hs:=(hg x (zeP hx)).2 hf
   exact jt h5 vv (jr hs _ rfl) (jr hs _ rfl) (jr hs _ rfl)
theorem z3i {A:Nat→Nat}{n:Nat}(h: ∀i,i<n→A i≤A (i+1)): ∀i j,i≤j→j≤n→A i≤A j:=by
 intro i j hij
 induction hij with
 |refl=>intro _;exact zeK _
 |step _ ih=>intro hn;exact zeS (ih (by omega)) (h _ (by omega))
theorem z4o {A:Nat→Nat}: ∀(n p:Nat),A 0≤p→p<A n→ ∃i,i<n∧A i≤p∧p<A (i+1):=by
 intro n
 induction n with
 |zero=>intro p h1 h2;omega
 |succ n ih=>
  intro p h1 h2
  by_cases h:p<A n
  ·obtain⟨i,q1,q2,q3⟩:=ih p h1 h
   exact⟨i,by omega,q2,q3⟩
  ·exact⟨n,by omega,by omega,h2⟩
def clB (vals:List zeV)(C:List (List Cl))(cls:List Cl)(A:Nat→Nat)(i:Nat):Bool:=(match cls[i]? with|some c=> !z3m vals c|none=>true)&&okB vals C (A i) (A (i+1))
theorem zct {vals:List zeV}{C:List (List Cl)}{cls:List Cl}{A:Nat→Nat}{a ci:Nat}(h0:A 0=a)(h1:A cls.length=ci)(hle: ∀i,i<cls.length→A i≤A (i+1))(hc:C[ci]?=some cls):z2C (clB vals C cls A) cls.length 0=okB vals C a (ci+1):=by
 rw [Bool.eq_iff_iff,z4K,z1q]
 constructor
 ·intro h i hi1 hi2
  by_cases e:i=ci
  ·subst e
   simp only [List.getD,hc,Option.getD_some,List.all_eq_true]
   intro c hm
   obtain⟨k,hk,rfl⟩:=List.getElem_of_mem hm
   have q:=h k (by omega) (by omega)
   unfold clB at q
   rw [zeH hk] at q
   simp only [Bool.and_eq_true] at q
   exact q.1
  ·obtain⟨k,q1,q2,q3⟩:=z4o (A:=A) cls.length i (by omega) (by omega)
   have q:=h k (by omega) (by omega)
   unfold clB at q
   rw [Bool.and_eq_true,z1q] at q
   exact q.2 i q2 q3
 ·intro h j _ hj
  have hj:j<cls.length:=by omega
  unfold clB
  rw [Bool.and_eq_true,z1q]
  refine⟨?_,fun i q1 q2=>h i ?_ ?_⟩
  ·have q:=h ci (by have:=z3i hle 0 cls.length (by omega) (by omega);omega) (by omega)
   simp only [List.getD,hc,Option.getD_some,List.all_eq_true] at q
   rw [zeH hj]
   exact q _ (List.getElem_mem hj)
  ·have:=z3i hle 0 j (by omega) (by omega);omega
  ·have:=z3i hle (j+1) cls.length (by omega) (by omega);omega
theorem zbo (b:Nat→Bool):z2C b 1 0=b 0:=by unfold z2C z2C;simp
theorem z7j (b:Nat→Bool):z2C b 2 0=(b 0&&b 1):=by unfold z2C z2C z2C;simp
theorem z65 {X:Nat→Prop}{E:List Ex}{C:List (List Cl)}(hg:jh E)(vals:List zeV)(vb:Nat)(vv:Value)(hvl:vals.length≤100000)(hCl: ∀c∈C,c.length≤100000):
  ∀(f:Nat) (v:Value) (ci a e:Nat) (f2 a2:Nat) (w:World),RefCX X w E C f v ci a e→CovC C f2 a2 ci→w.ownsRow vb 9 1 vv vals.length (vals.map Value.string)→
   Calls Tryz.prog 104 #[v,vv] w fun e w'=>e= .returned (.bool (okB vals C a2 (ci+1)))∧Below w.heap.size w w':=by
 intro f
 induction f with
 |zero=>intro v ci a e f2 a2 w h;exact absurd h id
 |succ f ih=>
  intro v ci a e f2 a2 w ⟨cls,vs,p,h1,h2,h3⟩ hcov hvr
  obtain⟨f3,rfl⟩: ∃f3,f2=f3+1:=by
   cases f2 with
   |zero=>exact absurd hcov id
   |succ k=>exact⟨k,rfl⟩
  obtain⟨cls',k1,k2⟩:=hcov
  have hcc:cls'=cls:=by rw [h1] at k1;exact(Option.some.inj k1).symm
  subst hcc
  obtain⟨A,A0,A1,AP⟩:=SegK.parts _ _ _ k2
  have hlen:=z4N _ _ _ _ h3
  have hle: ∀i,i<cls'.length→A i≤A (i+1):=fun i hi=>ClK.a_le (cls'[i]) _ _ (AP i _ (zeH hi))
  rw [←zct (vals:=vals) A0 A1 hle h1,←hlen]
  refine z1a h2 (.inl rfl) (by have:=hCl cls' (zeP h1);omega) vv _ fun i u W hu hB=> ?_
  obtain⟨c,a',e',hc,v1,j,x,q1,q2,q3,q4,q5,q6⟩:=z4W _ _ _ _ i u h3 hu
  have hP:=AP i c hc
  have hvW:=zb hvr fun k e=>hB.block k (hvr.lt k e).2
  have hcl:clB vals C cls' A i=(!z3m vals c&&okB vals C (A i) (A (i+1))):=by unfold clB;rw [hc]
  rw [hcl]
  rcases q6 with⟨r1,r2,_⟩|⟨r1,v2,pp,r2,r3,_⟩|⟨r1,v2,ci',r0,r2,r3⟩
  ·have e1:A i=A (i+1):=by rcases hP with⟨q,_⟩|⟨_,q⟩;exact absurd (r1.symm.trans q) (by decide);exact q
   rw [←e1,za8,show z3m vals c=false by unfold z3m;rw [r1];rfl]
   have:=z1a (r2.keepX (zi hB)) (.inr rfl) (by simp) vv (fun _=>true) fun n u2 W2 hu2 hB2=>by
    have e:v1=u2:=by cases n with|zero=>simpa using hu2|succ n=>simp at hu2
    subst e
    exact z59 hg vv (q1.keepX (zi (hB.trans (hB2.mono hB.size))))
   rw [show [v1].length=1 from rfl,zbo] at this
   exact this
  ·have e1:A i=A (i+1):=by rcases hP with⟨q,_⟩|⟨_,q⟩;exact absurd (r1.symm.trans q) (by decide);exact q
   rw [←e1,za8]
   have hbd:(!z3m vals c&&true)=decide (0≤plM c.result vals 0):=by
    unfold z3m
    rw [r1]
    rcases z2n c.result vals 0 with q|q
    ·rw [q];rfl
    ·have h1:0≤plM c.result vals 0:=by omega
     have h2:(plM c.result vals 0== -1)=false:=by simp;omega
     rw [h2,decide_eq_true h1];rfl
   rw [hbd]
   have:=z1a (r2.keepX (zi hB)) (.inr rfl) (by simp) vv (fun n=>if n=0 then true else decide (0≤plM c.result vals 0)) fun n u2 W2 hu2 hB2=>by
    have hB3:=hB.trans (hB2.mono hB.size)
    match n,hu2 with
    |0,hu2=>
     have e:v1=u2:=by simpa using hu2
     subst e
     exact z59 hg vv (q1.keepX (zi hB3))
    |1,hu2=>
     have e:v2=u2:=by simpa using hu2
     subst e
     exact z6q (r3.keepX (zi hB3)) vb vals vv (zb hvr fun k e=>hB3.block k (hvr.lt k e).2) hvl
    |n+2,hu2=>simp at hu2
   rw [show [v1,v2].length=2 from rfl,z7j] at this
   simpa using this
  ·rcases hP with⟨_,k,e1,e2,e3⟩|⟨q,_⟩
   ·have hk:k=ci':=by rw [r0] at e1;omega
    subst hk
    rw [e3,show z3m vals c=false by unfold z3m;rw [r1];rfl]
    have:=z1a (r2.keepX (zi hB)) (.inr rfl) (by simp) vv (fun n=>if n=0 then true else okB vals C (A i) (k+1)) fun n u2 W2 hu2 hB2=>by
     have hB3:=hB.trans (hB2.mono hB.size)
     match n,hu2 with
     |0,hu2=>
      have e:v1=u2:=by simpa using hu2
      subst e
      exact z59 hg vv (q1.keepX (zi hB3))
     |1,hu2=>
      have e:v2=u2:=by simpa using hu2
      subst e
      exact ih v2 k _ _ f3 (A i) W2 (r3.keepX (zi hB3)) e2 (zb hvr fun k e=>hB3.block k (hvr.lt k e).2)
     |n+2,hu2=>simp at hu2
    rw [show [v1,v2].length=2 from rfl,z7j] at this
    simpa using this
   ·exact absurd r1 q
theorem zz {fn:Func}{a b c d f:Tmp}(h:fn.results= #[.tmp a,.tmp b,.tmp c,.tmp d,.tmp f])(tmps:Array Value)(P:Program)(w:World):
  (results fn tmps).run P w= .ok (.tuple #[tmps.getD a undef,tmps.getD b undef,tmps.getD c undef,tmps.getD d undef,tmps.getD f undef]) w:=by
 simp [results,h]
theorem SegB.parts {P:As→Nat→Nat→Prop}: ∀(cs:List As) (a e:Nat),SegB P cs a e→ ∃A:Nat→Nat,A 0=a∧A cs.length=e∧ ∀i c,cs[i]?=some c→P c (A i) (A (i+1)):=by
 intro cs
 induction cs with
 |nil=>intro a e h;have h:a=e:=h;exact⟨fun _=>a,rfl,h,fun i c hc=>by simp at hc⟩
 |cons x cs ih=>
  intro a e ⟨m,h1,h2⟩
  obtain⟨A,q1,q2,q3⟩:=ih _ _ h2
  refine⟨fun i=>match i with|0=>a|i+1=>A i,rfl,q2,fun i c hc=> ?_⟩
  cases i with
  |zero=>
   have e:x=c:=by simpa using hc
   subst e
   show P x a (A 0)
   rw [q1];exact h1
  |succ i=>exact q3 i c (by simpa using hc)
theorem z9h {vals:List zeV}{C:List (List Cl)}{n:Nat}{A:Nat→Nat}(h0:A 0=0)(h1:A n=C.length)(hle: ∀i,i<n→A i≤A (i+1)):z2C (fun i=>okB vals C (A i) (A (i+1))) n 0= !hoM vals C:=by
 have key:(!hoM vals C)=okB vals C 0 C.length:=by
  rw [Bool.eq_iff_iff,z1q]
  unfold hoM
  simp only [Bool.not_eq_true',List.any_eq_false,Bool.not_eq_true]
  constructor
  ·intro h i _ hi
   simp only [List.getD,zeH hi,Option.getD_some,List.all_eq_true]
   intro c hc
   have:=h _ (List.getElem_mem hi)
   have q:=this c hc
   rw [q];rfl
  ·intro h cls hm c hc
   obtain⟨i,hi,rfl⟩:=List.getElem_of_mem hm
   have q:=h i (zeR _) hi
   simp only [List.getD,zeH hi,Option.getD_some,List.all_eq_true] at q
   simpa using q c hc
 rw [key,Bool.eq_iff_iff,z4K,z1q]
 constructor
 ·intro h i _ hi
  obtain⟨k,q1,q2,q3⟩:=z4o (A:=A) n i (by omega) (by omega)
  have q:=h k (by omega) (by omega)
  rw [z1q] at q
  exact q i q2 q3
 ·intro h j _ hj
  rw [z1q]
  intro i q1 q2
  exact h i (zeR _) (by have:=z3i hle (j+1) n (by omega) (by omega);omega)
def z0Q (s a v q:zeV)(st:St)(w:World)(e:Ending)(w':World):Prop:= ∃x1 x2 x3 x4,e= .returned (.tuple #[x1,x2,x3,x4,.int .i64 (grM s a v q st)])∧Below w.heap.size w w'∧z7z x1∧z7z x2∧z7z x3∧z7z x4∧
 (grM s a v q st=0→ ∃f ps,w'.ownsRow w.heap.size 91 3 x1 st.A.length (zab ps st.A)∧SegA (fun p x a b e g=>AsX (fun k=>k<w.heap.size) w' st.L st.E st.C f p x a b e g) ps st.A 0 0 st.L.length st.E.length∧w'.ownsRow w.heap.size 144 2 x2 (raM a).1.length (((raM a).1.map zu).flatten)∧w'.ownsRow w.heap.size 9 1 x3 (vlM v).1.length ((vlM v).1.map Value.string)∧w'.ownsRow w.heap.size 9 1 x4 (rqM q).1.length ((rqM q).1.map Value.string))
theorem z8v (s a v:zeV)(st:St)(w:World)(hs:s.size≤maxLen)(ha:a.size≤maxLen)(hv:v.size≤maxLen)(h:600<s.size∨100<a.size∨60<v.size):Calls Tryz.prog 57 #[.string s,.string a,.string v,.string ⟨#[]⟩,.bool false] w fun e w'=>z0Q s a v ⟨#[]⟩ st w e w':=by
 unfold maxLen at hs ha hv
 have e0:(⟨#[]⟩:zeV).size=0:=rfl
 have hres:Hid (grM s a v ⟨#[]⟩ st=1):=z8 (by unfold grM;rw [if_pos];simp [e0];omega)
 have fin: ∀(W':World),Below w.heap.size w W'→z0Q s a v ⟨#[]⟩ st w (.returned (.tuple #[.slice none 0 0,.slice none 0 0,.slice none 0 0,.slice none 0 0,.int .i64 1])) W':=fun W' hb=>⟨_,_,_,_,by rw [hres.out],hb,zh,zh,zh,zh,fun e=>by rw [hres.out] at e;cases e⟩
 have FIN:=z8 fin
 clear fin hres
 by_cases h1:600<s.size
 ·have h1':(600:Int)<s.size:=by omega
  go_enter Tryz.func57,Tryz.ntmps57
  go_wp2_with fail
  (try simp only [Exit.inBlock,Exit.then])
  refine bodyPost_ret (zz rfl _ _ _) rfl ?_
  exact FIN.out _ (zeU _ _)
 have h1': ¬(600:Int)<s.size:=by omega
 by_cases h2:100<a.size
 ·have h2':(100:Int)<a.size:=by omega
  go_enter Tryz.func57,Tryz.ntmps57
  go_wp2_with fail
  (try simp only [Exit.inBlock,Exit.then])
  refine bodyPost_ret (zz rfl _ _ _) rfl ?_
  exact FIN.out _ (zeU _ _)
 have h2': ¬(100:Int)<a.size:=by omega
 have h3':(60:Int)<v.size:=by omega
 go_enter Tryz.func57,Tryz.ntmps57
 go_wp2_with fail
 (try simp only [Exit.inBlock,Exit.then])
 refine bodyPost_ret (zz rfl _ _ _) rfl ?_
 exact FIN.out _ (zeU _ _)
theorem z6p (s a v:zeV)(st:St)(w:World)(hs:s.size≤600)(ha:a.size≤100)(hv:v.size≤60)(h:Calls Tryz.prog 49 #[.string s] w fun e w'=>z2T s st w e w')(hg:jh st.E)(hcov:z7E st)(hA:st.A.length≤100000)(hCl: ∀c∈st.C,c.length≤100000)(hvl:(vlM v).1.length≤100000):
  Calls Tryz.prog 57 #[.string s,.string a,.string v,.string ⟨#[]⟩,.bool false] w fun e w'=>z0Q s a v ⟨#[]⟩ st w e w':=by
 have hs': ¬(600:Int)<s.size:=by omega
 have ha': ¬(100:Int)<a.size:=by omega
 have hv': ¬(60:Int)<v.size:=by omega
 have e0:(⟨#[]⟩:zeV).size=0:=rfl
 have hgr:Hid (grM s a v ⟨#[]⟩ st=if(ckM s st).1 !=0 then(ckM s st).1 else if(raM a).2||(vlM v).2 then 6 else if hoM (vlM v).1 st.C then 7 else 0):=z8 (by unfold grM;rw [if_neg,zcE,Bool.or_false];simp [e0];omega)
 have H:=z8 h
 have HG:=z8 (zeL hg hCl)
 have HA:=z8 (fun W=>z0Y a W (by omega))
 have HV:=z8 (fun W=>z4v v W (by omega))
 obtain⟨fk,hcov⟩:=hcov
 obtain⟨A,A0,A1,AP⟩:=SegB.parts _ _ _ hcov
 have hAle: ∀i,i<st.A.length→A i≤A (i+1):=fun i hi=>by
  obtain⟨k,_,q2,q3⟩:=AP i _ (zeH hi)
  have:=q2.a_le
  omega
 have HP:=z8 (zeL AP (z9h (vals:=(vlM v).1) A0 A1 hAle))
 clear h hg hCl hcov A0 A1 AP hAle
 go_enter Tryz.func57,Tryz.ntmps57
 go_wp2_with fail
 refine H.out.mono ?_
 rintro e w1 ⟨lv,rfl,hB,⟨a1,n1,k1,hlv⟩,htr⟩
 subst hlv
 have HB1:=z8 hB
 have HTR:=z8 htr
 clear hB htr H
 generalize ckM s st=ck at*
 obtain⟨ck1,ck2⟩:=ck
 simp only at*
 cases hz:(ck1 !=0)
 case true=>
  have hres:Hid (grM s a v ⟨#[]⟩ st=ck1):=z8 (by rw [hgr.out,hz];rfl)
  go_wp2_with fail
  (try simp only [Exit.inBlock,Exit.then])
  refine bodyPost_ret (zz rfl _ _ _) rfl ?_
  exact⟨_,_,_,_,by rw [hres.out];simp,HB1.out,zh,zh,zh,zh,fun e=>by rw [hres.out] at e;subst e;simp at hz⟩
 have hck0:ck1=0:=by simpa using hz
 subst hck0
 obtain⟨f2,ps,how,hseg⟩:=HTR.out rfl
 have hn1:n1=st.A.length:=by
  obtain⟨a2,k2,e2⟩:=zO how
  injection e2
 subst hn1
 have HW:=z8 how
 have HS:=z8 hseg
 have hpl:=z8 (SegA.len _ _ _ _ _ _ hseg)
 have HA1:=z8 (HA.out w1)
 clear how hseg HTR hz HA
 go_wp2_with fail
 refine HA1.out.mono ?_
 rintro e w2 ⟨a2,n2,k2,rfl,hB2,hO2⟩
 have HB2:=z8 hB2
 have HO2:=z8 hO2
 have HB12:=z8 (HB1.out.trans (hB2.mono HB1.out.size))
 have HV1:=z8 (HV.out w2)
 clear hB2 hO2 HV HA1
 go_wp2_with fail
 refine HV1.out.mono ?_
 rintro e w3 ⟨a3,n3,k3,rfl,hB3,hO3⟩
 have HB3:=z8 hB3
 have HO3:=z8 hO3
 have HB13:=z8 (HB12.out.trans (hB3.mono HB12.out.size))
 have HB23:=z8 (HB2.out.trans (hB3.mono HB2.out.size))
 clear hB3 hO3 HV1
 cases hra:(raM a).2
 case true=>
  have hres:Hid (grM s a v ⟨#[]⟩ st=6):=z8 (by rw [hgr.out,hra];rfl)
  go_wp2_with fail
  (try simp only [Exit.inBlock,Exit.then])
  refine bodyPost_ret (zz rfl _ _ _) rfl ?_
  exact⟨_,_,_,_,by rw [hres.out];rfl,HB13.out,zh,zh,zh,zh,fun e=>by rw [hres.out] at e;cases e⟩
 cases hva:(vlM v).2
 case true=>
  have hres:Hid (grM s a v ⟨#[]⟩ st=6):=z8 (by rw [hgr.out,hra,hva];rfl)
  go_wp2_with fail
  (try simp only [Exit.inBlock,Exit.then])
  refine bodyPost_ret (zz rfl _ _ _) rfl ?_
  exact⟨_,_,_,_,by rw [hres.out];rfl,HB13.out,zh,zh,zh,zh,fun e=>by rw [hres.out] at e;cases e⟩
 have hgr2:Hid (grM s a v ⟨#[]⟩ st=if hoM (vlM v).1 st.C then 7 else 0):=z8 (by rw [hgr.out,hra,hva];rfl)
 have HO2':=z8 (HO2.out hra)
 have HO3':=z8 (HO3.out hva)
 have hn3:n3=(vlM v).1.length:=by
  obtain⟨qa,qk,q⟩:=za HO3'.out
  injection q with _ q _
 subst hn3
 clear hgr HO2 HO3 hra hva
 go_wp2_with fail
 go_loopg [25] (st.A.length+1) (fun n iv wr=> ∃i:Nat,n+i=st.A.length+1∧i≤st.A.length∧iv= .int .i64 i∧Hid (Below w3.heap.size w3 wr)∧Hid (z2C (fun i=>okB (vlM v).1 st.C (A i) (A (i+1))) (st.A.length - i) i= !hoM (vlM v).1 st.C))
 case atStart=>exact⟨0,rfl,zeR _,rfl,z8 (zeU _ _),z8 HP.out.2⟩
 case round=>
  obtain⟨i,hk,hiE,rfl,HBR,hfin⟩:=hrel
  have hHK:=z8 hk
  clear hk
  by_cases hlt:i<st.A.length
  ·obtain⟨g,cap,hvx,hb,hgl⟩:=HW.out.form (by omega)
   injection hvx with e1 e2 e3
   subst e1 e3
   obtain⟨pp,hpp⟩: ∃pp,ps[i]?=some pp:=⟨ps[i]'(by have:=hpl.out;omega),zeH _⟩
   obtain⟨x,a',b',e',g',hx,li,ci,r1,r2,r3,r4,r5⟩:=SegA.get _ _ _ _ _ _ i pp HS.out hpp
   have c2:w1.cell? ⟨g,i*3+2,none⟩=some (.pointer pp.2):=zf HW.out _ _ ((z0b hpp hx (by omega)).trans rfl)
   have hB1r:=HB23.out.trans (HBR.out.mono HB23.out.size)
   have q2:=(hB1r.cell (p:=⟨g,i*3+2,none⟩) hgl).trans c2
   obtain⟨kx,z1,z2,z3⟩:=HP.out.1 i x hx
   have hkc:kx=ci:=by rw [r2] at z1;omega
   subst hkc
   have hC:=z65 HG.out.1 (vlM v).1 _ (.slice a3 (vlM v).1.length k3) hvl HG.out.2 f2 _ kx b' g' fk (A i) wr (r5.keepX (zi hB1r)) z2 (zb HO3'.out fun q e=>HBR.out.block q (HO3'.out.lt q e).2)
   rw [←z3] at hC
   have HC:=z8 hC
   have hst:Hid ((!hoM (vlM v).1 st.C)=(okB (vlM v).1 st.C (A i) (A (i+1))&&z2C (fun i=>okB (vlM v).1 st.C (A i) (A (i+1))) (st.A.length -(i+1)) (i+1))):=z8 (by
    rw [←hfin.out]
    obtain⟨m,hm⟩: ∃m,st.A.length - i=m+1:=⟨st.A.length - i - 1,by omega⟩
    rw [hm,show st.A.length -(i+1)=m by omega]
    rfl)
   have hlt':(i:Int)<st.A.length:=by omega
   have HWB:=z8 (HB13.out.trans (HBR.out.mono HB13.out.size))
   clear hC hB1r c2 hpp hx r4 r5 hfin z1 z2 z3 r1 r2 r3
   cases hbi:okB (vlM v).1 st.C (A i) (A (i+1))
   case true=>
    rw [hbi] at HC
    have HS2:Hid (z2C (fun i=>okB (vlM v).1 st.C (A i) (A (i+1))) (st.A.length -(i+1)) (i+1)= !hoM (vlM v).1 st.C):=z8 (by rw [hst.out,hbi];rfl)
    clear hbi hst
    go_wp2_with fail
    refine HC.out.mono ?_
    rintro e w4 ⟨rfl,hB4⟩
    have HB4:=z8 (HBR.out.trans (hB4.mono HBR.out.size))
    clear hB4
    go_wp2_with fail
    have hk:=hHK.out
    go_roundg (st.A.length - i)
    case measure=>omega
    case rel=>exact⟨i+1,by omega,by omega,by go_num,HB4,HS2⟩
   case false=>
    rw [hbi] at HC
    have hres:Hid (grM s a v ⟨#[]⟩ st=7):=z8 (by
     have:hoM (vlM v).1 st.C=true:=by have q:=hst.out;rw [hbi] at q;simpa using q
     rw [hgr2.out,this];rfl)
    clear hbi hst
    go_wp2_with fail
    refine HC.out.mono ?_
    rintro e w4 ⟨rfl,hB4⟩
    have HB4:=z8 (HWB.out.trans (hB4.mono HWB.out.size))
    clear hB4
    go_wp2_with fail
    (try simp only [Exit.inBlock,Exit.then])
    refine bodyPost_ret (zz rfl _ _ _) rfl ?_
    exact⟨_,_,_,_,by rw [hres.out];rfl,HB4.out,zh,zh,zh,zh,fun e=>by rw [hres.out] at e;cases e⟩
  ·have hlt': ¬(i:Int)<st.A.length:=by omega
   have hres:Hid (grM s a v ⟨#[]⟩ st=0):=z8 (by
    have:hoM (vlM v).1 st.C=false:=by
     have q:=hfin.out
     rw [show st.A.length - i=0 by omega] at q
     have q:true= !hoM (vlM v).1 st.C:=q
     cases hh:hoM (vlM v).1 st.C
     ·rfl
     ·rw [hh] at q;cases q
    rw [hgr2.out,this];rfl)
   have hB1r:=z8 (HB23.out.trans (HBR.out.mono HB23.out.size))
   have hB2r:=z8 (HB3.out.trans (HBR.out.mono HB3.out.size))
   have HWB:=z8 (HB13.out.trans (HBR.out.mono HB13.out.size))
   go_wp2_with fail
   (try simp only [Exit.inBlock,Exit.then])
   refine bodyPost_ret (zz rfl _ _ _) rfl ?_
   refine⟨_,_,_,_,by rw [hres.out];rfl,HWB.out,⟨_,_,_,rfl⟩,⟨_,_,_,rfl⟩,⟨_,_,_,rfl⟩,zh,fun _=>⟨f2,ps,?_,?_,?_,?_,⟨rfl,.inl ⟨rfl,rfl⟩⟩⟩⟩
   ·exact zb HW.out fun q e=>hB1r.out.block q (HW.out.lt q e).2
   ·exact SegA.imp (fun p x a b e g ⟨i,ci,q1,q2,q3,q4,q5⟩=>⟨i,ci,q1,q2,q3,q4.keepX (zi hB1r.out),q5.keepX (zi hB1r.out)⟩) _ _ _ _ _ _ HS.out
   ·exact zq (zb HO2'.out fun q e=>hB2r.out.block q (HO2'.out.lt q e).2) HB1.out.size
   ·exact zq (zb HO3'.out fun q e=>HBR.out.block q (HO3'.out.lt q e).2) HB12.out.size
theorem z3c {ls:List Int}{n:Int}(hn:0<n)(h: ∀x∈ls,0≤x∧x<n)(i:Int):0≤zc ls i∧zc ls i<n:=by
 unfold zc
 split
 ·omega
 ·simp only [List.getD]
  cases hq:ls[i.toNat]? with
  |none=>simp;omega
  |some y=>exact h y (zeP hq)
theorem z6y (vals:List zeV)(W:List Wt)(ls:List Int)(hn:0<vals.length)(hls: ∀x∈ls,0≤x∧x<(vals.length:Int)): ∀(cs:List Cl) (h:Int),0≤h→h<vals.length→0≤z0I vals W ls cs h∧z0I vals W ls cs h<vals.length:=by
 intro cs
 induction cs with
 |nil=>intro h h1 h2;exact⟨h1,h2⟩
 |cons c cs ih=>
  intro h h1 h2
  unfold z0I
  have hr:rlM vals ls c<vals.length:=by
   unfold rlM
   split
   ·rcases z2n c.result vals 0 with q|q<;>omega
   ·split
    ·exact(z3c (by omega) hls _).2
    ·omega
  split
  ·rename_i q
   have:h<rlM vals ls c:=by
    simp only [Bool.and_eq_true,decide_eq_true_eq] at q
    exact q.2
   exact ih _ (by omega) hr
  ·exact ih _ h1 h2
theorem z1D (vals:List zeV)(W:List Wt)(hn:0<vals.length): ∀(C:List (List Cl)) (ls:List Int),(∀x∈ls,0≤x∧x<(vals.length:Int))→ ∀x∈jE vals W C ls,0≤x∧x<(vals.length:Int):=by
 intro C
 induction C with
 |nil=>intro ls h;exact h
 |cons c C ih=>
  intro ls h
  refine ih _ fun x hx=> ?_
  rcases List.mem_append.1 hx with q|q
  ·exact h x q
  ·have e:x=z0I vals W ls c 0:=by simpa using q
   rw [e];exact z6y vals W ls hn h c 0 (by omega) (by omega)
theorem z03 {s a v q:zeV}{st:St}(h:grM s a v q st=0):(vlM v).2=false∧(raM a).2=false∧(ckM s st).1=0∧s.size≤600∧a.size≤100∧(rqM q).2=false:=by
 unfold grM at h
 split at h
 ·cases h
 ·rename_i h0
  split at h
  ·rename_i h1;rw [h] at h1;simp at h1
  ·rename_i h1
   split at h
   ·cases h
   ·rename_i h2
    simp only [Bool.or_eq_true,not_or,decide_eq_true_eq] at h0 h2
    exact⟨by simpa using h2.1.2,by simpa using h2.1.1,by simpa using h1,by omega,by omega,by simpa using h2.2⟩
theorem z3q {v:zeV}(h:(vlM v).2=false):2≤(vlM v).1.length:=by
 unfold vlM at h ⊢
 split at h
 ·cases h
 ·rename_i q
  rw [if_neg q]
  simp only [Bool.or_eq_true,not_or,decide_eq_true_eq] at q
  show 2≤(rnM v).1.length
  omega
theorem zaN (s a v:zeV)(k:Int)(st:St)(w:World)(h:Calls Tryz.prog 57 #[.string s,.string a,.string v,.string ⟨#[]⟩,.bool false] w fun e w'=>z0Q s a v ⟨#[]⟩ st w e w')(hg:jh st.E)(hcov:z7E st)(hA:st.A.length≤100000)(hCl: ∀c∈st.C,c.length≤100000)(hvl:(vlM v).1.length≤100000)(hll:(raM a).1.length≤100000)(hls: ∀p∈(raM a).1,p.2.size≤600)(hEs: ∀x∈st.E,x.text.size≤600)
  (hW:grM s a v ⟨#[]⟩ st=0→ ∀x∈ze (raM a).1 st.E [],x.text.size≤100000000∧ -999999999≤x.num∧x.num≤999999999):
  Calls Tryz.prog 31 #[.string s,.int .i64 k,.string a,.string v] w fun e w'=>jF (coM s a v k st).1 (coM s a v k st).2 w e w':=by
 have HC:=z8 h
 have HG:=z8 (zeL hg (zeL hcov (zeL hCl (zeL hls (zeL hEs hW)))))
 have hzz:=z8 (@z03 s a v ⟨#[]⟩ st)
 clear h hg hcov hCl hls hEs hW
 go_enter Tryz.func31,Tryz.ntmps31
 go_wp2_with fail
 refine HC.out.mono ?_
 rintro e w1 ⟨x1,x2,x3,x4,rfl,hB1,⟨a1,n1,k1,rfl⟩,⟨a2,n2,k2,rfl⟩,⟨a3,n3,k3,rfl⟩,⟨a4,n4,k4,rfl⟩,hQ⟩
 have hco:Hid (coM s a v k st=if grM s a v ⟨#[]⟩ st !=0 then(⟨#[]⟩,grM s a v ⟨#[]⟩ st) else if decide (k<0)||decide ((st.A.length:Int)≤k) then(⟨#[]⟩,8) else(vaM (vlM v).1 (zc (jE (vlM v).1 (ze (raM a).1 st.E []) st.C []) ((st.A.getD k.toNat ⟨⟨#[]⟩,0,0⟩).conds)),0)):=z8 rfl
 have HB1:=z8 hB1
 have HQ:=z8 hQ
 clear hB1 hQ HC
 generalize grM s a v ⟨#[]⟩ st=E at*
 cases hEz:(E !=0)
 case true=>
  have hres:Hid (coM s a v k st=(⟨#[]⟩,E)):=z8 (by rw [hco.out,hEz];rfl)
  go_wp2_with fail
  go_ret2
  exact⟨by rw [hres.out];rfl,HB1.out⟩
 have hE0:E=0:=by simpa using hEz
 subst hE0
 obtain⟨f,ps,how,hseg,hO2,hO3,_⟩:=HQ.out rfl
 have hv2:=z3q (hzz.out rfl).1
 have hco2:Hid (coM s a v k st=if decide (k<0)||decide ((st.A.length:Int)≤k) then(⟨#[]⟩,8) else(vaM (vlM v).1 (zc (jE (vlM v).1 (ze (raM a).1 st.E []) st.C []) ((st.A.getD k.toNat ⟨⟨#[]⟩,0,0⟩).conds)),0)):=z8 (by rw [hco.out];rfl)
 have hn1:n1=st.A.length:=by
  obtain⟨a2,k2,e2⟩:=zO how
  injection e2
 have hn3:n3=(vlM v).1.length:=by
  obtain⟨qa,qk,q⟩:=za hO3
  injection q with _ q _
 subst hn1 hn3
 have HW:=z8 how
 have HS:=z8 hseg
 have hpl:=z8 (SegA.len _ _ _ _ _ _ hseg)
 have HO2:=z8 hO2
 have HO3:=z8 hO3
 clear how hseg hO2 hO3 HQ hEz hco hzz
 by_cases hk0:k<0
 ·have hres:Hid (coM s a v k st=(⟨#[]⟩,8)):=z8 (by rw [hco2.out];simp [hk0])
  go_wp2_with fail
  go_ret2
  exact⟨by rw [hres.out];rfl,HB1.out⟩
 by_cases hkA:(st.A.length:Int)≤k
 ·have hres:Hid (coM s a v k st=(⟨#[]⟩,8)):=z8 (by rw [hco2.out];simp [hkA])
  go_wp2_with fail
  go_ret2
  exact⟨by rw [hres.out];rfl,HB1.out⟩
 obtain⟨j,rfl⟩:=Int.eq_ofNat_of_zero_le (show 0≤k by omega)
 have hjA:j<st.A.length:=by omega
 obtain⟨pp,hpp⟩: ∃pp,ps[j]?=some pp:=⟨ps[j]'(by have:=hpl.out;omega),zeH _⟩
 obtain⟨x,a',b',e',g',hx,li,ci,r1,r2,r3,r4,r5⟩:=SegA.get _ _ _ _ _ _ j pp HS.out hpp
 obtain⟨g,cap,hvx,hb,hgl⟩:=HW.out.form (by omega)
 injection hvx with e1 e2 e3
 subst e1 e3
 have c2:w1.cell? ⟨g,j*3+2,none⟩=some (.pointer pp.2):=zf HW.out _ _ ((z0b hpp hx (by omega)).trans rfl)
 obtain⟨hgd,⟨fk,hcov⟩,hCl,hls,hEs,hWW⟩:=HG.out
 obtain⟨A,A0,A1,AP⟩:=SegB.parts _ _ _ hcov
 obtain⟨kx,z1,z2,z3⟩:=AP j x hx
 have hkc:kx=ci:=by rw [r2] at z1;omega
 subst hkc
 have hC:=z8 (z7f hgd (raM a).1 (.slice a2 n2 k2) _ hll hls hEs (hWW rfl) (vlM v).1 _ a3 k3 hvl hCl f _ kx b' g' fk (A j) w1 r5 z2 HO2.out HO3.out)
 have hres:Hid (coM s a v j st=(vaM (vlM v).1 (zc (jE (vlM v).1 (ze (raM a).1 st.E []) st.C []) kx),0)):=z8 (by
  rw [hco2.out]
  have h1: ¬st.A.length≤j:=by omega
  simp [h1,List.getD,hx,r2])
 have hrg:=z3c (ls:=jE (vlM v).1 (ze (raM a).1 st.E []) st.C []) (n:=(vlM v).1.length) (by omega) (z1D _ _ (by omega) _ _ (fun x h=>by cases h)) kx
 generalize zc (jE (vlM v).1 (ze (raM a).1 st.E []) st.C []) kx=lev at*
 obtain⟨m,rfl⟩:=Int.eq_ofNat_of_zero_le hrg.1
 have hm:m<(vlM v).1.length:=by omega
 obtain⟨y,hy⟩: ∃y,(vlM v).1[m]?=some y:=⟨(vlM v).1[m],zeH hm⟩
 have hres2:Hid (coM s a v j st=(y,0)):=z8 (by
  rw [hres.out]
  unfold vaM
  rw [if_neg (by omega)]
  simp [List.getD,hy])
 obtain⟨g3,cap3,hv3,hb3,hg3⟩:=HO3.out.form (by omega)
 injection hv3 with e1 e2 e3
 subst e1 e3
 have c3:w1.cell? ⟨g3,m,none⟩=some (.string y):=zf HO3.out _ _ (by rw [List.getElem?_map,hy];rfl)
 have hjA':(j:Int)<st.A.length:=by omega
 have hm':(m:Int)<(vlM v).1.length:=by omega
 clear hres hco2 HG hcov AP z1 z2 z3 A0 A1 hWW hCl hls hEs hgd r1 r2 r3 r4 r5 hx hpp hy HS HW HO2 HO3 hk0 hkA
 go_wp2_with fail
 refine hC.out.mono ?_
 rintro e w2 ⟨rfl,hB2⟩
 have d3:=(hB2.cell (p:=⟨g3,m,none⟩) hg3).trans c3
 have HB2:=z8 (HB1.out.trans (hB2.mono HB1.out.size))
 clear hB2 c3 c2
 go_wp2_with fail
 go_ret2
 exact⟨by rw [hres2.out];rfl,HB2.out⟩
def z6X (l:List (zeV×zeV))(E:List Ex)(p:Nat):Prop:=(wAt (ze l E []) (p:Int)).text.size≤600*(p+1)
theorem zdF {X:Nat→Prop}{w:World}{E:List Ex}(l:List (zeV×zeV))(hls: ∀p∈l,p.2.size≤600)(hE: ∀x∈E,x.text.size≤600){f:Nat}{v:Value}{a i:Nat}(h:RefEX X w E f v a i): ∀p,a≤p→p≤i→z6X l E p:=fun p h1 h2=>by
 obtain⟨f',a',hr⟩:=h.rng.sub p h1 h2
 have:=hr.size l hls hE
 unfold z6X
 omega
theorem ze3 {X:Nat→Prop}{w:World}{E:List Ex}(l:List (zeV×zeV))(hls: ∀p∈l,p.2.size≤600)(hE: ∀x∈E,x.text.size≤600){f:Nat}{sub:Value→Nat→Nat→Nat→Prop}(hs: ∀v ci a e,sub v ci a e→ ∀p,a≤p→p<e→z6X l E p):
  ∀(vs:List Value) (cs:List Cl) (a e:Nat),SegC (fun v c a e=>ClX X w E f sub v c a e) vs cs a e→ ∀p,a≤p→p<e→z6X l E p:=by
 intro vs
 induction vs with
 |nil=>
  intro cs a e h p h1 h2
  cases cs with
  |nil=>have h:a=e:=h;omega
  |cons c cs=>exact absurd h id
 |cons u vs ih=>
  intro cs a e h p h1 h2
  cases cs with
  |nil=>exact absurd h id
  |cons c cs=>
   obtain⟨m,⟨v1,i,x,q1,q2,q3,q4,q5,q6⟩,h3⟩:=h
   by_cases hm:m≤p
   ·exact ih cs m e h3 p hm h2
   ·by_cases hi:p≤i
    ·exact zdF l hls hE q1 p h1 hi
    ·by_cases hi1:p=i+1
     ·subst hi1
      have:=zdF l hls hE q1 i q1.le (zeK _)
      unfold z6X at this ⊢
      rw [z7L l q2 q3 q4]
      omega
     ·rcases q6 with⟨_,_,r⟩|⟨_,_,_,_,_,r⟩|⟨_,v2,ci,_,_,r⟩
      ·omega
      ·omega
      ·exact hs _ _ _ _ r p (by omega) (by omega)
theorem zdP {X:Nat→Prop}{w:World}{E:List Ex}{C:List (List Cl)}(l:List (zeV×zeV))(hls: ∀p∈l,p.2.size≤600)(hE: ∀x∈E,x.text.size≤600): ∀(f:Nat) (v:Value) (ci a e:Nat),RefCX X w E C f v ci a e→ ∀p,a≤p→p<e→z6X l E p:=by
 intro f
 induction f with
 |zero=>intro v ci a e h;exact absurd h id
 |succ f ih=>
  intro v ci a e ⟨cls,vs,p,h1,h2,h3⟩
  exact ze3 l hls hE ih vs cls a e h3
theorem zdU {X:Nat→Prop}{w:World}{L:List Lc}{E:List Ex}{C:List (List Cl)}(l:List (zeV×zeV))(hls: ∀p∈l,p.2.size≤600)(hE: ∀x∈E,x.text.size≤600){f:Nat}: ∀(ps:List PP) (xs:List As) (a b e g:Nat),SegA (fun p x a b e g=>AsX X w L E C f p x a b e g) ps xs a b e g→ ∀p,b≤p→p<g→z6X l E p:=by
 intro ps
 induction ps with
 |nil=>
  intro xs a b e g h p h1 h2
  cases xs with
  |nil=>obtain⟨_,h⟩:=h;omega
  |cons c cs=>exact absurd h id
 |cons u ps ih=>
  intro xs a b e g h p h1 h2
  cases xs with
  |nil=>exact absurd h id
  |cons x xs=>
   obtain⟨m,n,⟨i,ci,_,_,_,_,q⟩,h3⟩:=h
   by_cases hm:n≤p
   ·exact ih xs m n e g h3 p hm h2
   ·exact zdP l hls hE f _ ci b n q p h1 (by omega)
theorem z5S {s a v q:zeV}{n:Nat}{st:St}(hM:MR s n st0=some st)(hE:st.E.length≤100000)(h0:grM s a v q st=0): ∀x∈ze (raM a).1 st.E [],x.text.size≤100000000∧ -999999999≤x.num∧x.num≤999999999:=by
 obtain⟨_,_,hck,hs,ha,_⟩:=z03 h0
 obtain⟨e,w',fr,⟨lv,_,_,_,h⟩,_⟩:=z02 s n st (World.holding Tryz.prog default ⟨#[],#[],[]⟩) hM hs []
 obtain⟨f,ps,_,h⟩:=h hck
 have hz:Sz st:=zan s hs n st0 st hM ⟨fun x h=>(by cases h),fun x h=>(by cases h),fun x h=>(by cases h),fun x h=>(by cases h)⟩
 have hra:=z1r a (by omega)
 exact z2W (raM a).1 hra.1 hz.1 hE fun p hp=>zdU (raM a).1 hra.1 hz.1 ps st.A 0 0 _ _ h p (zeR _) hp
def z3f (st:St):Prop:= ∀c∈st.C,c.length≤100000
theorem zdn (s:zeV): ∀n tag cls st r,MC s n tag cls st=some r→z3f st→z3f r.2.2:=by
 intro n
 induction n with
 |zero=>intro tag cls st r h;simp [MC] at h
 |succ n ih=>
  intro tag cls st r h hg
  match tag,h with
  |0,h=>
   rw [zaa] at h
   obtain⟨q,h1,h2⟩:=zeG.1 h
   exact ih _ _ _ _ h2 (ih _ _ _ _ h1 hg)
  |2,h=>
   rw [zae] at h
   split at h
   ·rename_i hlen
    split at h
    ·obtain⟨q,h1,h2⟩:=zeG.1 h
     exact ih _ _ _ _ h2 (ih _ _ _ _ h1 (show z3f (sgn s [59] st) from hg))
    ·obtain⟨q,h1,h2⟩:=zeG.1 h
     cases h2
     obtain⟨_,rfl⟩:=z0j h1
     intro c hc
     rcases List.mem_append.1 hc with q|q
     ·exact hg c q
     ·have e:c=cls:=by simpa using q
      rw [e];omega
   ·cases h
  |1,h=>
   rw [zcL] at h
   obtain⟨q,h1,h2⟩:=zeG.1 h
   obtain⟨q2,h3,h4⟩:=zeG.1 h2
   have k1:q.2.C=st.C:=(z2B s _ _ _ _ _ h1).2.2.2
   obtain⟨_,rfl⟩:=zt h3
   have hg1:z3f q.2:=by unfold z3f;rw [k1];exact hg
   split at h4
   ·cases h4;exact hg1
   ·simp only at h4
    split at h4
    ·obtain⟨v,h7,h8⟩:=zeG.1 h4
     cases h8
     have kk:=ih _ _ _ _ h7 hg1
     exact kk
    ·cases h4
     exact hg1
  |t+3,h=>simp [MC] at h
theorem zdH {s:zeV}{n:Nat}{st st':St}(h:MA s n st=some st')(hg:z3f st):z3f st':=by
 unfold MA at h
 simp only at h
 obtain⟨⟨r1,st1⟩,h1,hM2⟩:=zeG.1 h
 obtain⟨⟨r2,cl2,st2⟩,h2,hM3⟩:=zeG.1 hM2
 obtain⟨_,k1,_,k2⟩:=z0O s _ _ _ _ _ _ _ _ h1
 have k2:st1.C=st.C:=k2
 have hg1:z3f st1:=by unfold z3f;rw [k2];exact hg
 have q:z3f st2:=zdn s _ _ _ _ _ h2 hg1
 obtain⟨_,rfl⟩:=z0i hM3
 exact q
theorem zbA (s:zeV): ∀n st st',MR s n st=some st'→z3f st→z3f st':=by
 intro n
 induction n with
 |zero=>intro st st' h;simp [MR] at h
 |succ n ih=>
  intro st st' h hg
  unfold MR at h
  split at h
  ·obtain⟨u,h1,h2⟩:=zeG.1 h
   exact ih _ _ h2 (zdH h1 hg)
  ·cases h;exact hg
theorem z3Z (v:zeV):(vlM v).1.length≤100000:=by
 unfold vlM
 split
 ·exact zeR _
 ·rename_i q
  simp only [Bool.or_eq_true,not_or,decide_eq_true_eq] at q
  show(rnM v).1.length≤100000
  omega
theorem zej:z7E st0:=⟨0,rfl⟩
theorem zcg (s a v:zeV)(k:Int)(st:St)(w:World)(h:Calls Tryz.prog 34 #[.string s,.string a,.string v,.string ⟨#[]⟩] w fun e w'=>z1O s a v ⟨#[]⟩ st w e w')(E:Int)(hE:grM s a v ⟨#[]⟩ st=E)(hn:(E !=0)=true):
  Calls Tryz.prog 26 #[.string s,.int .i64 k,.string a,.string v] w fun e w'=>jF ⟨#[]⟩ E w e w':=by
 have HC:=z8 h
 have HE:=z8 hE
 clear h hE
 go_enter Tryz.func26,Tryz.ntmps26
 go_wp2_with fail
 refine HC.out.mono ?_
 rintro e w1 ⟨x1,x2,x3,x4,x5,x6,x7,rfl,hB1,⟨a1,n1,k1,rfl⟩,⟨a2,n2,k2,rfl⟩,⟨a3,n3,k3,rfl⟩,⟨a4,n4,k4,rfl⟩,⟨a5,n5,k5,rfl⟩,⟨a6,n6,k6,rfl⟩,⟨a7,n7,k7,rfl⟩,hG⟩
 rw [HE.out] at*
 have HB2:=z8 (hB1.alloc hB1.size (.cells #[.int .i64 E,.slice a1 n1 k1,.slice a2 n2 k2,.slice a3 n3 k3,.slice a4 n4 k4,.slice a5 n5 k5,.slice a6 n6 k6,.slice a7 n7 k7] 58))
 clear hG hB1 HC HE
 go_wp2_with fail
 go_quiet (fail)
 go_wp2_with fail
 go_ret2
 exact⟨rfl,⟨HB2.out.os,HB2.out.tape,HB2.out.output,HB2.out.size,HB2.out.block⟩⟩
theorem zb5 (s a v:zeV)(k:Int)(st:St)(w:World)(h:Calls Tryz.prog 57 #[.string s,.string a,.string v,.string ⟨#[]⟩,.bool false] w fun e w'=>z0Q s a v ⟨#[]⟩ st w e w')(E:Int)(hE:grM s a v ⟨#[]⟩ st=E)(hn:(E !=0)=true):
  Calls Tryz.prog 31 #[.string s,.int .i64 k,.string a,.string v] w fun e w'=>jF ⟨#[]⟩ E w e w':=by
 have HC:=z8 h
 have HE:=z8 hE
 clear h hE
 go_enter Tryz.func31,Tryz.ntmps31
 go_wp2_with fail
 refine HC.out.mono ?_
 rintro e w1 ⟨x1,x2,x3,x4,rfl,hB1,⟨a1,n1,k1,rfl⟩,⟨a2,n2,k2,rfl⟩,⟨a3,n3,k3,rfl⟩,⟨a4,n4,k4,rfl⟩,hQ⟩
 rw [HE.out] at*
 have HB1:=z8 hB1
 clear hB1 hQ HC HE
 go_wp2_with fail
 go_ret2
 exact⟨rfl,HB1.out⟩
theorem z8Q (s a v:zeV)(k:Int)(hs:s.size≤maxLen)(ha:a.size≤maxLen)(hv:v.size≤maxLen): ∃(t:zeV) (r:Int),(∀w,Calls Tryz.prog 26 #[.string s,.int .i64 k,.string a,.string v] w fun e w'=>jF t r w e w')∧(∀w,Calls Tryz.prog 31 #[.string s,.int .i64 k,.string a,.string v] w fun e w'=>jF t r w e w'):=by
 by_cases h:s.size≤600∧a.size≤100∧v.size≤60
 ·obtain⟨n,st,hM,hA,hL,hE,hC⟩:=z7V s h.1
  have hz:Sz st:=zan s h.1 n st0 st hM ⟨fun x h=>(by cases h),fun x h=>(by cases h),fun x h=>(by cases h),fun x h=>(by cases h)⟩
  have hcl:=zbA s n st0 st hM (fun c h=>by cases h)
  have hcv:=zbH s n st0 st hM zej
  have hgd:=(z2I s n st0 st hM z8x).e
  have hra:=z1r a (by omega)
  have hvl:=z3Z v
  have hW:=fun h0=>z5S (a:=a) (v:=v) (q:=⟨#[]⟩) hM (by omega) h0
  have h1: ∀w,Calls Tryz.prog 45 #[.string s] w fun e w'=>z2V s w st e w':=fun w=>z0c s n st w hM h.1 (by omega) (by omega) (by omega)
  exact⟨_,_,fun w=>zc6 s a v k st w (z2Q s a v ⟨#[]⟩ st w h.1 h.2.1 h.2.2 (zeR _) h1 (by omega) hcl hvl) (by omega) (by omega) (by omega) hcl hvl hra.2 hra.1 hz.1 (fun h0 x hx=>(hW h0 x hx).1),
   fun w=>zaN s a v k st w (z6p s a v st w h.1 h.2.1 h.2.2 (z02 s n st w hM h.1) hgd hcv (by omega) hcl hvl) hgd hcv (by omega) hcl hvl hra.2 hra.1 hz.1 hW⟩
 ·have h':600<s.size∨100<a.size∨60<v.size:=by omega
  have e0:(⟨#[]⟩:zeV).size=0:=rfl
  have h1:grM s a v ⟨#[]⟩ st0=1:=by unfold grM;rw [if_pos];simp [e0];omega
  exact⟨⟨#[]⟩,1,fun w=>zcg s a v k st0 w (z25 s a v ⟨#[]⟩ st0 w hs ha hv (zeR _) (by omega)) 1 h1 rfl,fun w=>zb5 s a v k st0 w (z8v s a v st0 w hs ha hv h') 1 h1 rfl⟩
theorem z8e (n:Int)(S A V Q:zeV)(hS:S.size≤maxLen)(hA:A.size≤maxLen)(hV:V.size≤maxLen)(w:World):
  Calls Tryz.prog 18 #[.agg #[.int .i64 4,.int .i64 n,.string S,.string A,.string V,.string Q]] w fun e w'=>e= .returned (.bool true)∧Below w.heap.size w w':=by
 obtain⟨t,k,h7,h8⟩:=z8Q S A V n hS hA hV
 have H:=z8 (zeL h7 h8)
 clear h7 h8 hS hA hV
 have hB0:Below w.heap.size w (w.alloc (.cells #[.int .i64 4,.int .i64 n,.string S,.string A,.string V,.string Q] 27)):=(zeU _ _).alloc (zeK _) _
 have hg0:=heap_alloc_new w (.cells #[.int .i64 4,.int .i64 n,.string S,.string A,.string V,.string Q] 27)
 have hz0:w.heap.size<(w.alloc (.cells #[.int .i64 4,.int .i64 n,.string S,.string A,.string V,.string Q] 27)).heap.size:=by simp
 have H0:=z8 (zeL hB0 (zeL hg0 hz0))
 clear hB0 hg0 hz0
 go_enter Tryz.func18,Tryz.ntmps18
 go_wp2_with fail
 obtain⟨hB0,hg0,hz0⟩:=H0.out
 clear H0
 generalize (w.alloc (.cells #[.int .i64 4,.int .i64 n,.string S,.string A,.string V,.string Q] 27))=W0 at*
 refine(H.out.1 W0).mono ?_
 rintro e w1 ⟨rfl,hB1⟩
 have hg1:=(hB1.block _ hz0).trans hg0
 have hB01:=hB0.trans (hB1.mono (Nat.le_of_lt hz0))
 obtain⟨y0,y1,y2,y3,y4,y5⟩:=z88 hg1
 have HB1:=z8 hB01
 have hz1:w.heap.size≤w1.heap.size:=hB01.size
 clear hB1 hB01 hg1 hg0 hB0 hz0
 go_wp2_with fail
 refine(H.out.2 w1).mono ?_
 rintro e w2 ⟨rfl,hB2⟩
 have HB2:=z8 (HB1.out.trans (hB2.mono hz1))
 clear hB2
 go_wp2_with (go_at_call 23;refine(z2N _ _).mono ?_;rintro e w3 ⟨rfl,rfl⟩)
 go_ret
 exact⟨by simp,HB2.out⟩
def z3j (a b:Int):Int:=if a<b then a else b
def z7n (a b:Int):Int:=if b<a then a else b
def stL (nm:zeV)(g:List Int):List As→Nat→Int→Int
 |[],_,h=>h
 |x::xs,i,h=>stL nm g xs (i+1) (if(x.by_.toList==nm.toList)&&decide (h<zc g i) then zc g i else h)
def stM (A:List As)(qs:List zeV)(top:Nat)(g:List Int)(nm:zeV):Int:=if plM nm qs 0 != -1 then(top:Int) else stL nm g A 0 0
def z3J (ls:List Int)(lev:Int):List Int→Int→Int
 |[],c=>c
 |i::is,c=>z3J ls lev is (if lev≤zc ls i then c+1 else c)
def cdM (ls items:List Int)(k:Int):Nat→Int
 |0=>0
 |n+1=>if k≤z3J ls ((n+1:Nat):Int) items 0 then((n+1:Nat):Int) else cdM ls items k n
def llM (sg:zeV→Int)(top:Nat)(ls:List Int)(x:Lc):Int:=
 if x.form==2 then cdM ls x.items x.count top else if x.form==1 then(if x.text.toList==[38,38] then z3j (zc ls x.left) (zc ls x.right) else z7n (zc ls x.left) (zc ls x.right)) else sg x.text
def jB (sg:zeV→Int)(top:Nat):List Lc→List Int→List Int
 |[],ls=>ls
 |x::xs,ls=>jB sg top xs (ls++[llM sg top ls x])
theorem z3R (sg:zeV→Int)(top:Nat): ∀(xs ys:List Lc) (ls:List Int),jB sg top (xs++ys) ls=jB sg top ys (jB sg top xs ls):=by
 intro xs
 induction xs with
 |nil=>intro ys ls;rfl
 |cons x xs ih=>intro ys ls;exact ih ys _
theorem z15 (sg:zeV→Int)(top:Nat): ∀(xs:List Lc) (ls:List Int),(jB sg top xs ls).length=ls.length+xs.length:=by
 intro xs
 induction xs with
 |nil=>intro ls;rfl
 |cons x xs ih=>intro ls;unfold jB;rw [ih];simp;omega
theorem z5K (sg:zeV→Int)(top:Nat){L:List Lc}{i:Nat}{x:Lc}(h:L[i]?=some x):
  jB sg top (L.take (i+1)) []=jB sg top (L.take i) []++[llM sg top (jB sg top (L.take i) []) x]:=by
 rw [List.take_add_one,h,z3R]
 rfl
def ltM (A:List As)(W ls:List Int):List Int:=A.map fun x=>z3j (zc W x.conds) (zc ls x.to_)
def gvM (A:List As)(L:List Lc)(qs:List zeV)(top:Nat)(W:List Int):Nat→List Int
 |0=>[]
 |r+1=>ltM A W (jB (stM A qs top (gvM A L qs top W r)) top L [])
theorem z2h (i:Int):zc [] i=0:=by unfold zc;split<;>simp
theorem z2S (l:List Int)(i:Nat):zc l (i:Int)=l.getD i 0:=by unfold zc;rw [if_neg (by omega)];simp
theorem z6i (A:List As)(f:As→Int)(i:Nat):zc (A.map f) (i:Int)=match A[i]? with|some x=>f x|none=>0:=by
 rw [z2S]
 simp only [List.getD,List.getElem?_map]
 cases A[i]?<;>rfl
theorem z0A {L a b:Int}:L≤z3j a b↔L≤a∧L≤b:=by unfold z3j;split<;>omega
theorem z55 {L a b:Int}:L≤z7n a b↔L≤a∨L≤b:=by unfold z7n;split<;>omega
theorem z7H (ls:List Int)(lev:Int): ∀(is:List Int) (c:Int),z3J ls lev is c=c+z3J ls lev is 0:=by
 intro is
 induction is with
 |nil=>intro c;simp [z3J]
 |cons i is ih=>
  intro c
  unfold z3J
  rw [ih,ih (if lev≤zc ls i then 0+1 else 0)]
  split<;>omega
theorem z6b {ls ls':List Int}{k k':Int}(h: ∀i,k≤zc ls i→k'≤zc ls' i): ∀is:List Int,z3J ls k is 0≤z3J ls' k' is 0:=by
 intro is
 induction is with
 |nil=>exact Int.le_refl _
 |cons i is ih=>
  unfold z3J
  rw [z7H,z7H ls']
  have:=h i
  split<;>split<;>omega
theorem z7I (ls items:List Int)(k:Int){l:Nat}(hl:1≤l): ∀top:Nat,(l:Int)≤cdM ls items k top↔l≤top∧k≤z3J ls l items 0:=by
 intro top
 induction top with
 |zero=>unfold cdM;constructor<;>intro h<;>omega
 |succ n ih=>
  unfold cdM
  split
  ·rename_i q
   constructor
   ·intro h
    refine⟨by omega,Int.le_trans q (z6b (fun i hi=>by omega) items)⟩
   ·intro h;omega
  ·rename_i q
   rw [ih]
   constructor
   ·intro ⟨h1,h2⟩;exact⟨by omega,h2⟩
   ·intro ⟨h1,h2⟩
    refine⟨?_,h2⟩
    by_cases e:l=n+1
    ·subst e;exact absurd h2 q
    ·omega
theorem z5Y (ls items:List Int)(k:Int): ∀top:Nat,0≤cdM ls items k top∧cdM ls items k top≤top:=by
 intro top
 induction top with
 |zero=>exact⟨Int.le_refl _,Int.le_refl _⟩
 |succ n ih=>
  unfold cdM
  split<;>omega
def Thr (k:Nat)(g g':List Int):Prop:= ∀i,(k:Int)≤zc g i→(k:Int)≤zc g' i
theorem z1x {l l':List Int}{i:Nat}:zc (l++l') (i:Int)=if i<l.length then zc l i else zc l' ((i - l.length:Nat):Int):=by
 rw [z2S,z2S,z2S]
 simp only [List.getD]
 split
 ·rename_i h;rw [List.getElem?_append_left h]
 ·rename_i h;rw [List.getElem?_append_right (by omega)]
theorem z4n {l:List Int}{i:Int}(h:i<0):zc l i=0:=by unfold zc;rw [if_pos h]
theorem zaV {k:Nat}(hk:1≤k){l l':List Int}{a b:Int}(hl:l.length=l'.length)(h:Thr k l l')(hab:(k:Int)≤a→(k:Int)≤b):Thr k (l++[a]) (l'++[b]):=by
 intro i hi
 by_cases h0:i<0
 ·rw [z4n h0] at hi;omega
 ·obtain⟨j,rfl⟩:=Int.eq_ofNat_of_zero_le (show 0≤i by omega)
  rw [z1x] at hi ⊢
  rw [←hl]
  split at hi
  ·rename_i q;rw [if_pos q];exact h _ hi
  ·rename_i q
   rw [if_neg q]
   rw [z2S] at hi ⊢
   cases hm:j - l.length with
   |zero=>rw [hm] at hi;exact hab hi
   |succ m=>rw [hm] at hi;simp at hi;omega
theorem zcu {k:Nat}(hk:1≤k){sg sg':zeV→Int}{top:Nat}(hs: ∀nm,(k:Int)≤sg nm→(k:Int)≤sg' nm){l l':List Int}(h:Thr k l l')(x:Lc):(k:Int)≤llM sg top l x→(k:Int)≤llM sg' top l' x:=by
 unfold llM
 split
 ·rw [z7I _ _ _ hk,z7I _ _ _ hk]
  intro ⟨h1,h2⟩
  exact⟨h1,Int.le_trans h2 (z6b h _)⟩
 ·split
  ·split
   ·rw [z0A,z0A];exact fun⟨a,b⟩=>⟨h _ a,h _ b⟩
   ·rw [z55,z55];exact fun q=>q.imp (h _) (h _)
  ·exact hs _
theorem z50 {k:Nat}(hk:1≤k){sg sg':zeV→Int}{top:Nat}(hs: ∀nm,(k:Int)≤sg nm→(k:Int)≤sg' nm): ∀(xs:List Lc) (l l':List Int),l.length=l'.length→Thr k l l'→Thr k (jB sg top xs l) (jB sg' top xs l'):=by
 intro xs
 induction xs with
 |nil=>intro l l' _ h;exact h
 |cons x xs ih=>
  intro l l' hl h
  exact ih _ _ (by simp [hl]) (zaV hk hl h (zcu hk hs h x))
theorem zbx (nm:zeV)(g:List Int)(k:Int): ∀(A:List As) (i:Nat) (h:Int),k≤stL nm g A i h↔k≤h∨ ∃j x,A[j]?=some x∧x.by_.toList=nm.toList∧k≤zc g ((i+j:Nat):Int)∧h<zc g ((i+j:Nat):Int):=by
 intro A
 induction A with
 |nil=>intro i h;simp [stL]
 |cons x xs ih=>
  intro i h
  unfold stL
  rw [ih]
  by_cases hb:((x.by_.toList==nm.toList)&&decide (h<zc g i))=true
  ·rw [if_pos hb]
   have hb':x.by_.toList=nm.toList∧h<zc g i:=by simpa using hb
   constructor
   ·rintro(q|⟨j,y,h1,h2,h3,h4⟩)
    ·exact .inr ⟨0,x,rfl,hb'.1,q,hb'.2⟩
    ·exact .inr ⟨j+1,y,by simpa using h1,h2,by rw [show i+(j+1)=i+1+j by omega];exact h3,by rw [show i+(j+1)=i+1+j by omega];omega⟩
   ·rintro(q|⟨j,y,h1,h2,h3,h4⟩)
    ·exact .inl (by omega)
    ·by_cases hle:k≤zc g i
     ·exact .inl hle
     ·cases j with
      |zero=>exact absurd h3 hle
      |succ j=>
       refine .inr ⟨j,y,by simpa using h1,h2,by rw [show i+1+j=i+(j+1) by omega];exact h3,?_⟩
       rw [show i+1+j=i+(j+1) by omega]
       omega
  ·rw [if_neg hb]
   constructor
   ·rintro(q|⟨j,y,h1,h2,h3,h4⟩)
    ·exact .inl q
    ·exact .inr ⟨j+1,y,by simpa using h1,h2,by rw [show i+(j+1)=i+1+j by omega];exact h3,by rw [show i+(j+1)=i+1+j by omega];exact h4⟩
   ·rintro(q|⟨j,y,h1,h2,h3,h4⟩)
    ·exact .inl q
    ·cases j with
     |zero=>
      have e:x=y:=by simpa using h1
      subst e
      exact absurd (by simpa using ⟨h2,h4⟩) hb
     |succ j=>exact .inr ⟨j,y,by simpa using h1,h2,by rw [show i+1+j=i+(j+1) by omega];exact h3,by rw [show i+1+j=i+(j+1) by omega];exact h4⟩
theorem z9V (nm:zeV)(g:List Int)(A:List As){k:Int}(hk:1≤k):k≤stL nm g A 0 0↔ ∃(j:Nat) (x:As),A[j]?=some x∧x.by_.toList=nm.toList∧k≤zc g (j:Int):=by
 rw [zbx]
 constructor
 ·rintro(q|⟨j,x,h1,h2,h3,_⟩)
  ·omega
  ·exact⟨j,x,h1,h2,by simpa using h3⟩
 ·rintro⟨j,x,h1,h2,h3⟩
  exact .inr ⟨j,x,h1,h2,by simpa using h3,by simp;omega⟩
theorem z1s {A:List As}{qs:List zeV}{top:Nat}{g:List Int}{nm:zeV}{k:Int}(hk:1≤k):k≤stM A qs top g nm↔(plM nm qs 0≠ -1∧k≤top)∨(plM nm qs 0= -1∧ ∃(j:Nat) (x:As),A[j]?=some x∧x.by_.toList=nm.toList∧k≤zc g (j:Int)):=by
 unfold stM
 by_cases h:plM nm qs 0= -1
 ·rw [if_neg (by simp [h]),z9V nm g A hk];simp [h]
 ·rw [if_pos (by simpa using h)];simp [h]
theorem zc4 {A:List As}{qs:List zeV}{top k:Nat}(hk:1≤k){g g':List Int}(h:Thr k g g')(nm:zeV):(k:Int)≤stM A qs top g nm→(k:Int)≤stM A qs top g' nm:=by
 rw [z1s (by omega),z1s (by omega)]
 rintro(q|⟨q,j,x,h1,h2,h3⟩)
 ·exact .inl q
 ·exact .inr ⟨q,j,x,h1,h2,h _ h3⟩
theorem zcb {A:List As}{W:List Int}{k:Nat}(hk:1≤k){l l':List Int}(h:Thr k l l'):Thr k (ltM A W l) (ltM A W l'):=by
 intro i hi
 by_cases h0:i<0
 ·rw [z4n h0] at hi;omega
 ·obtain⟨j,rfl⟩:=Int.eq_ofNat_of_zero_le (show 0≤i by omega)
  unfold ltM at hi ⊢
  rw [z6i] at hi ⊢
  cases hq:A[j]? with
  |none=>rw [hq] at hi;simp at hi;omega
  |some x=>
   rw [hq] at hi
   simp only at hi ⊢
   rw [z0A] at hi ⊢
   exact⟨hi.1,h _ hi.2⟩
theorem z7M {A:List As}{L:List Lc}{qs:List zeV}{top:Nat}{W:List Int}{k:Nat}(hk:1≤k){g g':List Int}(h:Thr k g g'):Thr k (ltM A W (jB (stM A qs top g) top L [])) (ltM A W (jB (stM A qs top g') top L [])):=
 zcb hk (z50 hk (zc4 hk h) L [] [] rfl (fun i hi=>hi))
theorem zdb {A:List As}{L:List Lc}{qs:List zeV}{top:Nat}{W:List Int}{k:Nat}(hk:1≤k): ∀r,Thr k (gvM A L qs top W r) (gvM A L qs top W (r+1)):=by
 intro r
 induction r with
 |zero=>intro i hi;unfold gvM at hi;rw [z2h] at hi;omega
 |succ r ih=>exact z7M hk ih
theorem zdy {A:List As}{L:List Lc}{qs:List zeV}{top:Nat}{W:List Int}{k:Nat}(hk:1≤k){r r':Nat}(h:r≤r'):Thr k (gvM A L qs top W r) (gvM A L qs top W r'):=by
 induction h with
 |refl=>exact fun i hi=>hi
 |step _ ih=>exact fun i hi=>zdb hk _ i (ih i hi)
theorem zb7 {p q:Nat→Bool}: ∀(l:List Nat) (m:Nat),(∀i,p i=true→q i=true)→m∈l→p m=false→q m=true→l.countP p+1≤l.countP q:=by
 intro l
 induction l with
 |nil=>intro m _ h;cases h
 |cons a l ih=>
  intro m h hm h1 h2
  rw [List.countP_cons,List.countP_cons]
  have hle:l.countP p≤l.countP q:=List.countP_mono_left fun i _=>h i
  rcases List.mem_cons.1 hm with e|e
  ·subst e;simp [h1,h2];omega
  ·have:=ih m h e h1 h2
   have h3:=h a
   cases hpa:p a
   ·simp;cases q a<;>simp<;>omega
   ·simp [h3 hpa];omega
theorem z7F {A:List As}{L:List Lc}{qs:List zeV}{top:Nat}{W:List Int}(r:Nat):(gvM A L qs top W (r+1)).length=A.length:=by unfold gvM ltM;simp
theorem zdV {A:List As}{L:List Lc}{qs:List zeV}{top:Nat}{W:List Int}{k r:Nat}{i:Int}(hk:1≤k)(h:(k:Int)≤zc (gvM A L qs top W r) i): ∃j:Nat,i=j∧j<A.length:=by
 by_cases h0:i<0
 ·rw [z4n h0] at h;omega
 ·obtain⟨j,rfl⟩:=Int.eq_ofNat_of_zero_le (show 0≤i by omega)
  refine⟨j,rfl,?_⟩
  cases r with
  |zero=>unfold gvM at h;rw [z2h] at h;omega
  |succ r=>
   rw [z2S] at h
   by_cases hj:j<A.length
   ·exact hj
   ·have e:(gvM A L qs top W (r+1))[j]?=none:=List.getElem?_eq_none (by rw [z7F];omega)
    simp [List.getD,e] at h
    omega
theorem zdr {A:List As}{L:List Lc}{qs:List zeV}{top:Nat}{W:List Int}{k:Nat}(hk:1≤k):Thr k (gvM A L qs top W (A.length+1)) (gvM A L qs top W A.length):=by
 have key: ∀m,(∃r,r<m∧Thr k (gvM A L qs top W (r+1)) (gvM A L qs top W r))∨m≤(List.range A.length).countP fun(i:Nat)=>decide ((k:Int)≤zc (gvM A L qs top W m) (i:Int)):=by
  intro m
  induction m with
  |zero=>exact .inr (zeR _)
  |succ m ih=>
   rcases ih with⟨r,h1,h2⟩|h
   ·exact .inl ⟨r,by omega,h2⟩
   ·by_cases hs:Thr k (gvM A L qs top W (m+1)) (gvM A L qs top W m)
    ·exact .inl ⟨m,by omega,hs⟩
    ·refine .inr ?_
     unfold Thr at hs
     simp only [Classical.not_forall] at hs
     obtain⟨i,h1,h2⟩:=hs
     obtain⟨j,rfl,hj⟩:=zdV hk h1
     have:=zb7 (p:=fun(i:Nat)=>decide ((k:Int)≤zc (gvM A L qs top W m) (i:Int))) (q:=fun(i:Nat)=>decide ((k:Int)≤zc (gvM A L qs top W (m+1)) (i:Int))) (List.range A.length) j (fun i hi=>by simp only [decide_eq_true_eq] at hi ⊢;exact zdb hk m _ hi) (by simpa using hj) (by simpa using h2) (by simpa using h1)
     omega
 have st: ∀r d,Thr k (gvM A L qs top W (r+1)) (gvM A L qs top W r)→Thr k (gvM A L qs top W (r+d+1)) (gvM A L qs top W (r+d)):=by
  intro r d h
  induction d with
  |zero=>exact h
  |succ d ih=>exact z7M hk ih
 rcases key (A.length+1) with⟨r,h1,h2⟩|h
 ·have:=st r (A.length - r) h2
  rw [show r+(A.length - r)=A.length by omega] at this
  exact this
 ·have hle:(List.range A.length).countP (fun(i:Nat)=>decide ((k:Int)≤zc (gvM A L qs top W (A.length+1)) (i:Int)))≤A.length:=by
   have:=List.countP_le_length (p:=fun(i:Nat)=>decide ((k:Int)≤zc (gvM A L qs top W (A.length+1)) (i:Int))) (l:=List.range A.length)
   simpa using this
  omega
theorem jH {a b:zeV}(h:a.toList=b.toList):a=b:=by
 rw [zeJ,zeJ] at h
 cases a;cases b
 congr
 exact Array.toList_inj.1 h
def atM:List (zeV×Int)→zeV→Int
 |[],_=>0
 |p::ps,nm=>if p.1.toList==nm.toList then p.2 else atM ps nm
def rsM:List (zeV×Int)→zeV→Int→List (zeV×Int)×Bool
 |[],nm,v=>([(nm,v)],decide (0<v))
 |p::ps,nm,v=>if p.1.toList==nm.toList then(if v≤p.2 then(p::ps,false) else((p.1,v)::ps,true)) else(p::(rsM ps nm v).1,(rsM ps nm v).2)
theorem z7U: ∀(l:List (zeV×Int)) (nm:zeV) (v:Int),(rsM l nm v).2=decide (atM l nm<v):=by
 intro l
 induction l with
 |nil=>intro nm v;rfl
 |cons p ps ih=>
  intro nm v
  unfold rsM atM
  split
  ·split
   ·simp;omega
   ·simp;omega
  ·exact ih nm v
theorem z2Z: ∀(l:List (zeV×Int)) (nm m:zeV) (v:Int),0≤v→atM (rsM l nm v).1 m=if m=nm then(if v≤atM l nm then atM l nm else v) else atM l m:=by
 intro l
 induction l with
 |nil=>
  intro nm m v hv
  unfold rsM atM
  simp only
  by_cases h:m=nm
  ·subst h;simp [atM];omega
  ·have h':(nm.toList==m.toList)=false:=by simpa using fun e=>h (jH e).symm
   rw [h',if_neg h];rfl
 |cons p ps ih=>
  intro nm m v hv
  unfold rsM
  by_cases hp:(p.1.toList==nm.toList)=true
  ·rw [if_pos hp]
   have hpe:p.1=nm:=jH (by simpa using hp)
   split
   ·rename_i hle
    by_cases h:m=nm
    ·subst h
     simp only [atM,hp,if_true]
     rw [if_pos hle]
    ·rw [if_neg h]
   ·rename_i hle
    by_cases h:m=nm
    ·subst h
     simp only [atM,hp,if_true]
     rw [if_neg hle]
    ·rw [if_neg h]
     have h':(p.1.toList==m.toList)=false:=by rw [hpe];simpa using fun e=>h (jH e).symm
     simp [atM,h']
  ·rw [if_neg hp]
   have hp':(p.1.toList==nm.toList)=false:=by simpa using hp
   by_cases h:m=nm
   ·subst h
    have:=ih m m v hv
    simp only [atM,hp'] at this ⊢
    simpa using this
   ·rw [if_neg h]
    have:=ih nm m v hv
    rw [if_neg h] at this
    simp only [atM,this]
theorem z8V (l:List (zeV×Int))(nm:zeV)(v:Int):(rsM l nm v).1.length≤l.length+1:=by
 induction l with
 |nil=>simp [rsM]
 |cons p ps ih=>
  unfold rsM
  split
  ·split<;>simp
  ·simpa using ih
def z1W (x:Int):List Int→Int→Int
 |[],n=>n
 |y::ys,n=>z1W x ys (if x≤y then n+1 else n)
def z30 (vs:List Int)(k:Int):List Int→Int→Int
 |[],b=>b
 |x::xs,b=>z30 vs k xs (if decide (k≤z1W x vs 0)&&decide (b<x) then x else b)
theorem z7l (x:Int): ∀(ys:List Int) (n:Int),z1W x ys n=n+z1W x ys 0:=by
 intro ys
 induction ys with
 |nil=>intro n;simp [z1W]
 |cons y ys ih=>
  intro n
  unfold z1W
  rw [ih,ih (if x≤y then 0+1 else 0)]
  split<;>omega
theorem z5J {x z:Int}: ∀ys:List Int,(∀y∈ys,x≤y→z≤y)→z1W x ys 0≤z1W z ys 0:=by
 intro ys
 induction ys with
 |nil=>intro _;exact Int.le_refl _
 |cons y ys ih=>
  intro h
  unfold z1W
  rw [z7l,z7l z]
  have h1:=ih fun u hu=>h u (List.mem_cons_of_mem _ hu)
  have h2:=h y List.mem_cons_self
  split<;>split<;>omega
theorem z3s {x:Int}: ∀ys:List Int,(∀y∈ys,¬x≤y)→z1W x ys 0=0:=by
 intro ys
 induction ys with
 |nil=>intro _;rfl
 |cons y ys ih=>
  intro h
  unfold z1W
  rw [if_neg (h y List.mem_cons_self)]
  exact ih fun u hu=>h u (List.mem_cons_of_mem _ hu)
theorem zdS {l:Int}: ∀vs:List Int,(∃x∈vs,l≤x)→ ∃x∈vs,l≤x∧ ∀y∈vs,l≤y→x≤y:=by
 intro vs
 induction vs with
 |nil=>intro ⟨x,h,_⟩;cases h
 |cons v vs ih=>
  intro h
  by_cases hr: ∃x∈vs,l≤x
  ·obtain⟨x,h1,h2,h3⟩:=ih hr
   by_cases hv:l≤v∧v<x
   ·refine⟨v,List.mem_cons_self,hv.1,fun y hy hl=> ?_⟩
    rcases List.mem_cons.1 hy with e|e
    ·omega
    ·have:=h3 y e hl;omega
   ·refine⟨x,List.mem_cons_of_mem _ h1,h2,fun y hy hl=> ?_⟩
    rcases List.mem_cons.1 hy with e|e
    ·omega
    ·exact h3 y e hl
  ·obtain⟨x,hx,hl⟩:=h
   rcases List.mem_cons.1 hx with e|e
   ·subst e
    refine⟨x,List.mem_cons_self,hl,fun y hy hl'=> ?_⟩
    rcases List.mem_cons.1 hy with e|e
    ·omega
    ·exact absurd ⟨y,e,hl'⟩ hr
   ·exact absurd ⟨x,e,hl⟩ hr
theorem z9p (vs:List Int)(k:Int)(l:Int): ∀(xs:List Int) (b:Int),l≤z30 vs k xs b↔l≤b∨ ∃x∈xs,k≤z1W x vs 0∧l≤x∧b<x:=by
 intro xs
 induction xs with
 |nil=>intro b;simp [z30]
 |cons x xs ih=>
  intro b
  unfold z30
  rw [ih]
  by_cases hc:(decide (k≤z1W x vs 0)&&decide (b<x))=true
  ·rw [if_pos hc]
   have hc':k≤z1W x vs 0∧b<x:=by simpa using hc
   constructor
   ·rintro(q|⟨y,h1,h2,h3,h4⟩)
    ·exact .inr ⟨x,List.mem_cons_self,hc'.1,q,hc'.2⟩
    ·exact .inr ⟨y,List.mem_cons_of_mem _ h1,h2,h3,by omega⟩
   ·rintro(q|⟨y,h1,h2,h3,h4⟩)
    ·exact .inl (by omega)
    ·rcases List.mem_cons.1 h1 with e|e
     ·subst e;exact .inl h3
     ·by_cases hx:l≤x
      ·exact .inl hx
      ·exact .inr ⟨y,e,h2,h3,by omega⟩
  ·rw [if_neg hc]
   constructor
   ·rintro(q|⟨y,h1,h2,h3,h4⟩)
    ·exact .inl q
    ·exact .inr ⟨y,List.mem_cons_of_mem _ h1,h2,h3,h4⟩
   ·rintro(q|⟨y,h1,h2,h3,h4⟩)
    ·exact .inl q
    ·rcases List.mem_cons.1 h1 with e|e
     ·subst e;exact absurd (by simpa using ⟨h2,h4⟩) hc
     ·exact .inr ⟨y,e,h2,h3,h4⟩
theorem z9P (vs:List Int){k l:Int}(hk:1≤k)(hl:1≤l):l≤z30 vs k vs 0↔k≤z1W l vs 0:=by
 rw [z9p]
 constructor
 ·rintro(q|⟨x,h1,h2,h3,h4⟩)
  ·omega
  ·exact Int.le_trans h2 (z5J vs fun y _ hy=>by omega)
 ·intro h
  by_cases he: ∃x∈vs,l≤x
  ·obtain⟨x,h1,h2,h3⟩:=zdS vs he
   exact .inr ⟨x,h1,Int.le_trans h (z5J vs fun y hy hl'=>h3 y hy hl'),h2,by omega⟩
  ·rw [z3s vs fun y hy hl'=>he ⟨y,hy,hl'⟩] at h
   omega
theorem z2J (vs:List Int)(k:Int):0≤z30 vs k vs 0:=(z9p vs k 0 vs 0).2 (.inl (Int.le_refl _))
theorem z3l {a b:Int}(ha:0≤a)(hb:0≤b)(h: ∀l:Int,1≤l→(l≤a↔l≤b)):a=b:=by
 by_cases h1:a<b
 ·have:=(h b (by omega)).2 (Int.le_refl _);omega
 ·by_cases h2:b<a
  ·have:=(h a (by omega)).1 (Int.le_refl _);omega
  ·omega
theorem z96 (ls:List Int)(lev:Int): ∀(is:List Int) (c:Int),z3J ls lev is c=z1W lev (is.map (zc ls)) c:=by
 intro is
 induction is with
 |nil=>intro c;rfl
 |cons i is ih=>intro c;unfold z3J;rw [ih];rfl
theorem zcK (ls items:List Int){k:Int}(hk:1≤k)(top:Nat)(ht: ∀i,zc ls i≤top):z30 (items.map (zc ls)) k (items.map (zc ls)) 0=cdM ls items k top:=by
 refine z3l (z2J _ _) (z5Y _ _ _ _).1 fun l hl=> ?_
 obtain⟨m,rfl⟩:=Int.eq_ofNat_of_zero_le (show 0≤l by omega)
 rw [z9P _ hk hl,z7I _ _ _ (by omega),←z96]
 constructor
 ·intro h
  refine⟨?_,h⟩
  by_cases hm:m≤top
  ·exact hm
  ·rw [z96,z3s _ fun y hy hl'=> ?_] at h
   ·omega
   ·obtain⟨i,_,rfl⟩:=List.mem_map.1 hy
    have:=ht i;omega
 ·exact fun h=>h.2
theorem zdx {a b:Int}(ha:0≤a)(hb:0≤b):z30 [a,b] 1 [a,b] 0=z7n a b:=by
 refine z3l (z2J _ _) (by unfold z7n;split<;>omega) fun l hl=> ?_
 rw [z9P _ (by omega) hl,z55]
 unfold z1W z1W z1W
 split<;>split<;>omega
theorem zc3 {a b:Int}(ha:0≤a)(hb:0≤b):z30 [a,b] 2 [a,b] 0=z3j a b:=by
 refine z3l (z2J _ _) (by unfold z3j;split<;>omega) fun l hl=> ?_
 rw [z9P _ (by omega) hl,z0A]
 unfold z1W z1W z1W
 split<;>split<;>omega
theorem z9e (x y:Int):(if y<x then y else x)=z3j x y:=by unfold z3j;split<;>split<;>omega
def Lvr (top:Nat)(l:List Int):Prop:= ∀i,0≤zc l i∧zc l i≤top
theorem z4m {top:Nat}{l:List Int}(h: ∀x∈l,0≤x∧x≤top):Lvr top l:=by
 intro i
 unfold zc
 split
 ·omega
 ·simp only [List.getD]
  cases hq:l[i.toNat]? with
  |none=>simp
  |some y=>exact h y (zeP hq)
theorem zcZ {sg:zeV→Int}{top:Nat}(hs: ∀nm,0≤sg nm∧sg nm≤top): ∀(xs:List Lc) (l:List Int),(∀x∈l,0≤x∧x≤(top:Int))→ ∀x∈jB sg top xs l,0≤x∧x≤(top:Int):=by
 intro xs
 induction xs with
 |nil=>intro l h;exact h
 |cons c xs ih=>
  intro l h
  refine ih _ fun x hx=> ?_
  rcases List.mem_append.1 hx with q|q
  ·exact h x q
  ·have e:x=llM sg top l c:=by simpa using q
   rw [e]
   have hr:=z4m h
   unfold llM
   split
   ·exact z5Y _ _ _ _
   ·split
    ·split
     ·have:=hr c.left;have:=hr c.right;unfold z3j;split<;>omega
     ·have:=hr c.left;have:=hr c.right;unfold z7n;split<;>omega
    ·exact hs _
theorem z5i {sg:zeV→Int}{top:Nat}(hs: ∀nm,0≤sg nm∧sg nm≤top)(L:List Lc):Lvr top (jB sg top L []):=z4m (zcZ hs L [] fun x h=>by cases h)
theorem zcP {A:List As}{W ls:List Int}{top:Nat}(hW:Lvr top W)(hl:Lvr top ls):Lvr top (ltM A W ls):=by
 refine z4m fun x hx=> ?_
 obtain⟨a,_,rfl⟩:=List.mem_map.1 hx
 have:=hW a.conds;have:=hl a.to_
 unfold z3j;split<;>omega
theorem z2L {A:List As}{qs:List zeV}{top:Nat}{g:List Int}(hg:Lvr top g)(nm:zeV):0≤stM A qs top g nm∧stM A qs top g nm≤top:=by
 unfold stM
 split
 ·omega
 ·refine⟨(zbx nm g 0 A 0 0).2 (.inl (Int.le_refl _)),?_⟩
  by_cases h:stL nm g A 0 0≤top
  ·exact h
  ·obtain⟨j,x,_,_,h3⟩:=(z9V nm g A (k:=(top:Int)+1) (by omega)).1 (by omega)
   have:=hg j;omega
theorem z6c {A:List As}{L:List Lc}{qs:List zeV}{top:Nat}{W:List Int}(hW:Lvr top W): ∀r,Lvr top (gvM A L qs top W r):=by
 intro r
 induction r with
 |zero=>intro i;unfold gvM;rw [z2h];omega
 |succ r ih=>exact zcP hW (z5i (z2L ih) L)
def zH (L:List Lc)(top:Nat)(W:List Int)(s:List (zeV×Int))(a:As):Int:=z3j (zc W a.conds) (zc (jB (atM s) top L []) a.to_)
def swM (L:List Lc)(top:Nat)(W:List Int):List As→List (zeV×Int)→Bool→List (zeV×Int)×Bool
 |[],s,m=>(s,m)
 |a::B,s,m=>swM L top W B (rsM s a.by_ (zH L top W s a)).1 (m||(rsM s a.by_ (zH L top W s a)).2)
structure Std (A:List As)(L:List Lc)(qs:List zeV)(top:Nat)(W:List Int)(s:List (zeV×Int)):Prop where
 rng: ∀nm,0≤atM s nm∧atM s nm≤top
 req: ∀nm,plM nm qs 0≠ -1→atM s nm=top
 low: ∀nm,atM s nm≤stM A qs top (gvM A L qs top W A.length) nm
theorem z3v {L:List Lc}{top:Nat}{W:List Int}{s:List (zeV×Int)}(hW:Lvr top W)(hs: ∀nm,0≤atM s nm∧atM s nm≤top)(a:As):0≤zH L top W s a∧zH L top W s a≤top:=by
 have h1:=hW a.conds
 have h2:=z5i hs L a.to_
 unfold zH z3j;split<;>omega
theorem z9L {A:List As}{L:List Lc}{qs:List zeV}{top:Nat}{W:List Int}{s:List (zeV×Int)}(hW:Lvr top W)(h:Std A L qs top W s){a:As}(ha:a∈A):zH L top W s a≤stM A qs top (gvM A L qs top W A.length) a.by_:=by
 have hg:=z6c (A:=A) (L:=L) (qs:=qs) hW
 by_cases h0:zH L top W s a≤0
 ·have:=(z2L (A:=A) (qs:=qs) (hg A.length) a.by_).1;omega
 ·obtain⟨k,hk⟩:=Int.eq_ofNat_of_zero_le (show 0≤zH L top W s a by omega)
  have hk1:1≤k:=by omega
  obtain⟨j,hj,rfl⟩:=List.getElem_of_mem ha
  have hx:A[j]?=some A[j]:=zeH hj
  have h1:(k:Int)≤zH L top W s A[j]:=by omega
  unfold zH at h1
  rw [z0A] at h1
  have h2:=z50 hk1 (sg:=atM s) (sg':=stM A qs top (gvM A L qs top W A.length)) (top:=top) (fun nm hn=>Int.le_trans hn (h.low nm)) L [] [] rfl (fun i hi=>hi) _ h1.2
  have h3:(k:Int)≤zc (gvM A L qs top W (A.length+1)) (j:Int):=by
   show(k:Int)≤zc (ltM A W _) (j:Int)
   unfold ltM
   rw [z6i,hx]
   exact z0A.2 ⟨h1.1,h2⟩
  have h4:=zdr hk1 _ h3
  rw [hk]
  refine(z1s (by omega)).2 ?_
  by_cases hq:plM A[j].by_ qs 0= -1
  ·exact .inr ⟨hq,j,_,hx,rfl,h4⟩
  ·exact .inl ⟨hq,by have:=hW A[j].conds;omega⟩
theorem zar {A:List As}{L:List Lc}{qs:List zeV}{top:Nat}{W:List Int}{s:List (zeV×Int)}(hW:Lvr top W)(h:Std A L qs top W s){a:As}(ha:a∈A):Std A L qs top W (rsM s a.by_ (zH L top W s a)).1:=by
 have hr:=z3v (L:=L) hW h.rng a
 have hl:=z9L hW h ha
 refine⟨fun nm=> ?_,fun nm hq=> ?_,fun nm=> ?_⟩
 ·rw [z2Z _ _ _ _ hr.1]
  have:=h.rng nm
  have:=h.rng a.by_
  split
  ·split<;>omega
  ·omega
 ·rw [z2Z _ _ _ _ hr.1]
  have:=h.req nm hq
  split
  ·rename_i e;subst e;split<;>omega
  ·omega
 ·rw [z2Z _ _ _ _ hr.1]
  have:=h.low nm
  split
  ·rename_i e;subst e;split<;>omega
  ·omega
theorem zcz {L:List Lc}{top:Nat}{W:List Int}: ∀(B:List As) (s:List (zeV×Int)) (m:Bool),(swM L top W B s m).2=false→m=false:=by
 intro B
 induction B with
 |nil=>intro s m h;exact h
 |cons a B ih=>
  intro s m h
  have:=ih _ _ h
  simp only [Bool.or_eq_false_iff] at this
  exact this.1
theorem zaK {L:List Lc}{top:Nat}{W:List Int}(hW:Lvr top W): ∀(B:List As) (s:List (zeV×Int)) (m:Bool),(∀nm,0≤atM s nm∧atM s nm≤top)→(swM L top W B s m).2=false→atM (swM L top W B s m).1=atM s∧ ∀a∈B,zH L top W s a≤atM s a.by_:=by
 intro B
 induction B with
 |nil=>intro s m _ h;exact⟨rfl,fun a h=>by cases h⟩
 |cons a B ih=>
  intro s m hr h
  have hf:=zcz B _ _ h
  simp only [Bool.or_eq_false_iff] at hf
  have hf2:=hf.2
  rw [z7U] at hf2
  have hle:zH L top W s a≤atM s a.by_:=by simpa using hf2
  have he:atM (rsM s a.by_ (zH L top W s a)).1=atM s:=by
   funext nm
   rw [z2Z _ _ _ _ (z3v hW hr a).1]
   split
   ·rename_i e;subst e;first|rfl|rw [if_pos hle]
   ·rfl
  obtain⟨h1,h2⟩:=ih _ _ (by rw [he];exact hr) h
  refine⟨by rw [←he];exact h1,fun x hx=> ?_⟩
  rcases List.mem_cons.1 hx with e|e
  ·rw [e];exact hle
  ·have e2: ∀s',atM s'=atM s→zH L top W s' x=zH L top W s x:=fun s' hs=>by unfold zH;rw [hs]
   have:=h2 x e
   rw [e2 _ he,he] at this
   exact this
theorem za3 {A:List As}{L:List Lc}{qs:List zeV}{top:Nat}{W:List Int}{s:List (zeV×Int)}(hW:Lvr top W)(h:Std A L qs top W s)(hg: ∀a∈A,zH L top W s a≤atM s a.by_)(nm:zeV):atM s nm=stM A qs top (gvM A L qs top W A.length) nm:=by
 have key: ∀(r k:Nat),1≤k→ ∀(j:Nat) (x:As),A[j]?=some x→(k:Int)≤zc (gvM A L qs top W r) (j:Int)→(k:Int)≤atM s x.by_:=by
  intro r
  induction r with
  |zero=>intro k hk j x _ h1;unfold gvM at h1;rw [z2h] at h1;omega
  |succ r ih=>
   intro k hk j x hx h1
   have h1:(k:Int)≤zc (ltM A W (jB (stM A qs top (gvM A L qs top W r)) top L [])) (j:Int):=h1
   unfold ltM at h1
   rw [z6i,hx] at h1
   have h1:=z0A.1 h1
   have h2:=z50 hk (sg:=stM A qs top (gvM A L qs top W r)) (sg':=atM s) (top:=top) (fun nm hn=> ?_) L [] [] rfl (fun i hi=>hi) _ h1.2
   ·exact Int.le_trans (z0A.2 ⟨h1.1,h2⟩) (hg x (zeP hx))
   ·rcases(z1s (by omega)).1 hn with⟨q1,q2⟩|⟨_,j',y,q2,q3,q4⟩
    ·rw [h.req nm q1];exact q2
    ·have:=ih k hk j' y q2 q4
     rw [jH q3] at this
     exact this
 refine z3l (h.rng nm).1 (z2L (z6c hW _) nm).1 fun l hl=> ?_
 obtain⟨k,rfl⟩:=Int.eq_ofNat_of_zero_le (show 0≤l by omega)
 constructor
 ·intro h1;exact Int.le_trans h1 (h.low nm)
 ·intro h1
  rcases(z1s (by omega)).1 h1 with⟨q1,q2⟩|⟨_,j',y,q2,q3,q4⟩
  ·rw [h.req nm q1];exact q2
  ·have:=key _ k (by omega) j' y q2 q4
   rw [jH q3] at this
   exact this
def z1Z (top:Nat)(s:List (zeV×Int)):List As→Nat
 |[]=>0
 |a::B=>((top:Int)- atM s a.by_).toNat+z1Z top s B
theorem z78 {top:Nat}{s s':List (zeV×Int)}(h: ∀nm,atM s nm≤atM s' nm): ∀A:List As,z1Z top s' A≤z1Z top s A:=by
 intro A
 induction A with
 |nil=>exact zeK _
 |cons a A ih=>unfold z1Z;have:=h a.by_;omega
theorem zck {top:Nat}{s s':List (zeV×Int)}(h: ∀nm,atM s nm≤atM s' nm): ∀(A:List As) (a:As),a∈A→atM s a.by_<atM s' a.by_→atM s' a.by_≤top→z1Z top s' A<z1Z top s A:=by
 intro A
 induction A with
 |nil=>intro a h;cases h
 |cons b A ih=>
  intro a ha h1 h2
  unfold z1Z
  have hb:=h b.by_
  rcases List.mem_cons.1 ha with e|e
  ·subst e;have:=z78 (top:=top) h A;omega
  ·have:=ih a e h1 h2;omega
theorem zc8 {A:List As}{L:List Lc}{top:Nat}{W:List Int}(hW:Lvr top W): ∀(B:List As) (s:List (zeV×Int)) (m:Bool),(∀a∈B,a∈A)→(∀nm,0≤atM s nm∧atM s nm≤top)→(∀nm,atM s nm≤atM (swM L top W B s m).1 nm)∧((swM L top W B s m).2=true→m=true∨z1Z top (swM L top W B s m).1 A<z1Z top s A):=by
 intro B
 induction B with
 |nil=>intro s m _ _;exact⟨fun nm=>Int.le_refl _,fun h=> .inl h⟩
 |cons a B ih=>
  intro s m hB hr
  have hg:=z3v (L:=L) hW hr a
  have hr2: ∀nm,0≤atM (rsM s a.by_ (zH L top W s a)).1 nm∧atM (rsM s a.by_ (zH L top W s a)).1 nm≤top:=fun nm=>by
   rw [z2Z _ _ _ _ hg.1]
   have:=hr nm;have:=hr a.by_
   split
   ·split<;>omega
   ·omega
  have hup: ∀nm,atM s nm≤atM (rsM s a.by_ (zH L top W s a)).1 nm:=fun nm=>by
   rw [z2Z _ _ _ _ hg.1]
   split
   ·rename_i e;subst e;split<;>omega
   ·exact Int.le_refl _
  obtain⟨h1,h2⟩:=ih _ (m||(rsM s a.by_ (zH L top W s a)).2) (fun x hx=>hB x (List.mem_cons_of_mem _ hx)) hr2
  refine⟨fun nm=>Int.le_trans (hup nm) (h1 nm),fun hm=> ?_⟩
  rcases h2 hm with q|q
  ·by_cases hm0:m=true
   ·exact .inl hm0
   ·have hm1:m=false:=by simpa using hm0
    rw [z7U] at q
    have hlt:atM s a.by_<zH L top W s a:=by simpa [hm1] using q
    refine .inr (Nat.lt_of_le_of_lt (z78 h1 A) (zck hup A a (hB a List.mem_cons_self) ?_ (hr2 _).2))
    rw [z2Z _ _ _ _ hg.1,if_pos rfl]
    split<;>omega
  ·exact .inr (zeQ q (z78 hup A))
theorem z8r {top:Nat}{s:List (zeV×Int)}(h: ∀nm,0≤atM s nm): ∀A:List As,z1Z top s A≤A.length*top:=by
 intro A
 induction A with
 |nil=>exact zeR _
 |cons a A ih=>
  unfold z1Z
  have:=h a.by_
  rw [List.length_cons,Nat.add_mul,Nat.one_mul]
  omega
theorem z68 (a b:Int)(w:World):Calls Tryz.prog 109 #[.int .i64 a,.int .i64 b] w fun e w'=>e= .returned (.int .i64 (z3j a b))∧w'=w:=by
 by_cases h:a<b
 ·have hr:Hid (z3j a b=a):=z8 (if_pos h)
  go_enter Tryz.func109,Tryz.ntmps109
  go_wp2_with fail
  go_ret
  exact⟨by rw [hr.out];rfl,rfl⟩
 ·have hr:Hid (z3j a b=b):=z8 (if_neg h)
  go_enter Tryz.func109,Tryz.ntmps109
  go_wp2_with fail
  go_ret
  exact⟨by rw [hr.out];rfl,rfl⟩
theorem z8z (a b:Int)(w:World):Calls Tryz.prog 167 #[.int .i64 a,.int .i64 b] w fun e w'=>e= .returned (.int .i64 (z7n a b))∧w'=w:=by
 by_cases h:b<a
 ·have hr:Hid (z7n a b=a):=z8 (if_pos h)
  go_enter Tryz.func167,Tryz.ntmps167
  go_wp2_with fail
  go_ret
  exact⟨by rw [hr.out];rfl,rfl⟩
 ·have hr:Hid (z7n a b=b):=z8 (if_neg h)
  go_enter Tryz.func167,Tryz.ntmps167
  go_wp2_with fail
  go_ret
  exact⟨by rw [hr.out];rfl,rfl⟩
theorem As.cells3 (x:As):x.cells.length=3:=rfl
theorem z31 (gb base lb vb ib:Nat)(st:St)(V:Nat→Value)(iv cv:List Value)(l:List (zeV×zeV))(av:Value)(vals:List zeV)(vv:Value)(qs:List zeV)(qv:Value)(given:List Int)(gv:Value)(nm:zeV)(w:World)(h:Gd w gb base lb vb st V iv cv l av vals vv qs qv)(hg:w.ownsRow ib 3 1 gv given.length (given.map (Value.int .i64)))(hgl:given.length≤100000)(hA:st.A.length≤100000)(hv2:1≤vals.length)(hvl:vals.length≤100000)(hql:qs.length≤100000):
  Calls Tryz.prog 36 #[.pointer (some ⟨gb,0,none⟩),.string nm,gv] w fun e w'=>e= .returned (.int .i64 (stM st.A qs (vals.length - 1) given nm))∧w'=w:=by
 obtain⟨en,hbx⟩:=h.box
 have hrow:=h.tree.own 3 (by omega) (by omega)
 obtain⟨a3,k3,e3⟩:=za hrow
 obtain⟨a7,k7,e7⟩:=za h.vals
 obtain⟨a8,k8,e8⟩:=za h.reqs
 obtain⟨ag,kg,rfl⟩:=za hg
 have hn3:nOf st 3=st.A.length:=rfl
 have hrow:w.ownsRow base 84 3 (.slice a3 st.A.length k3) st.A.length ((st.A.map As.cells).flatten):=by rw [e3] at hrow;exact hrow
 obtain⟨b0,b1,b2,b3,b4,b5,b6,b7,bf⟩:=z39 hbx
 rw [e3,hn3] at b1
 rw [e7] at b6
 have HT:=z8 (z6T gb _ _ _ w b6 hvl)
 have HP:=z8 (jZ vb qs qv nm w h.reqs hql)
 rw [e8] at b7 HP
 have HL:=z8 (fun i:Int=>ji ib given _ i w hg hgl)
 have HR:=z8 hrow
 have hst:Hid (stM st.A qs (vals.length - 1) given nm=if plM nm qs 0 != -1 then((vals.length - 1:Nat):Int) else stL nm given st.A 0 0):=z8 rfl
 clear h hg hrow hbx bf b0 b2 b3 b4 b5 b6 e3 e7 e8 hn3
 generalize plM nm qs 0=z at*
 go_enter Tryz.func36,Tryz.ntmps36
 go_wp2_with fail
 refine HP.out.mono ?_
 rintro e w1 ⟨rfl,rfl⟩
 clear HP
 cases hz:(z != -1)
 case true=>
  have hres:Hid (stM st.A qs (vals.length - 1) given nm=(vals.length:Int)- 1):=z8 (by rw [hst.out,hz];simp;omega)
  go_wp2_with fail
  refine HT.out.mono ?_
  rintro e w2 ⟨rfl,rfl⟩
  go_wp2_with fail
  go_ret
  exact⟨by rw [hres.out];rfl,rfl⟩
 case false=>
 have hres:Hid (stM st.A qs (vals.length - 1) given nm=stL nm given st.A 0 0):=z8 (by rw [hst.out,hz];rfl)
 clear hst HT
 go_wp2_with fail
 go_loopg [7,8] (st.A.length+1) (fun k hv iv wr=> ∃(i:Nat) (h:Int),k+i=st.A.length+1∧i≤st.A.length∧iv= .int .i64 i∧hv= .int .i64 h∧wr=w1∧Hid (stL nm given (st.A.drop i) i h=stL nm given st.A 0 0))
 case atStart=>exact⟨0,0,rfl,zeR _,rfl,rfl,rfl,z8 rfl⟩
 case round=>
  obtain⟨i,h,hk,hil,rfl,rfl,rfl,hfin⟩:=hrel
  have hHK:=z8 hk
  clear hk
  by_cases hlt:i<st.A.length
  ·obtain⟨g,cap,hvv,hbb,hgg⟩:=HR.out.form (by omega)
   injection hvv with e1 e2 e3
   subst e1 e3
   obtain⟨x,hx⟩: ∃x,st.A[i]?=some x:=⟨st.A[i],zeH hlt⟩
   have q0:wr.cell? ⟨g,i*3,none⟩=some (.string x.by_):=zf HR.out _ _ (zI As.cells 3 As.cells3 st.A i 0 x hx (by omega))
   have hst:Hid (stL nm given (st.A.drop i) i h=stL nm given (st.A.drop (i+1)) (i+1) (if(x.by_.toList==nm.toList)&&decide (h<zc given i) then zc given i else h)):=z8 (by
    obtain⟨hl,hx'⟩:=zeI.1 hx
    rw [zeO hl,hx']
    rfl)
   have hlt':(i:Int)<st.A.length:=by omega
   have HLI:=z8 (HL.out i)
   generalize zc given i=t at*
   clear hx HL
   go_wp2_with fail
   refine HLI.out.mono ?_
   rintro e w2 ⟨rfl,rfl⟩
   clear HLI
   cases hb:(x.by_.toList==nm.toList)
   ·have HS:Hid (stL nm given (st.A.drop i) i h=stL nm given (st.A.drop (i+1)) (i+1) h):=z8 (by rw [hst.out,hb];rfl)
    go_wp2_with fail
    have hk:=hHK.out
    go_roundg (st.A.length - i)
    case measure=>omega
    case rel=>exact⟨i+1,h,by omega,by omega,by go_num,rfl,rfl,z8 (by rw [←hfin.out,HS.out])⟩
   ·by_cases hz:h<t
    ·have HS:Hid (stL nm given (st.A.drop i) i h=stL nm given (st.A.drop (i+1)) (i+1) t):=z8 (by rw [hst.out,hb];simp [hz])
     go_wp2_with fail
     have hk:=hHK.out
     go_roundg (st.A.length - i)
     case measure=>omega
     case rel=>exact⟨i+1,t,by omega,by omega,by go_num,rfl,rfl,z8 (by rw [←hfin.out,HS.out])⟩
    ·have HS:Hid (stL nm given (st.A.drop i) i h=stL nm given (st.A.drop (i+1)) (i+1) h):=z8 (by rw [hst.out,hb];simp [hz])
     go_wp2_with fail
     have hk:=hHK.out
     go_roundg (st.A.length - i)
     case measure=>omega
     case rel=>exact⟨i+1,h,by omega,by omega,by go_num,rfl,rfl,z8 (by rw [←hfin.out,HS.out])⟩
  ·have hlt': ¬(i:Int)<st.A.length:=by omega
   have hr2:Hid (stL nm given st.A 0 0=h):=z8 (by rw [←hfin.out,zeN (by omega)];rfl)
   go_wp2_with fail
   go_ret
   exact⟨by rw [hres.out,hr2.out];rfl,rfl⟩
theorem z72 (gb lb ibs nv:Nat)(av:Option Addr)(kv:Nat)(levels:List Int)(lv:Value)(cf:Int)(ct:zeV)(c1 c2 cp ck:Int)(its:List Int)(u:Value)(w:World)(hg:w.cell? ⟨gb,6,none⟩=some (.slice av nv kv))(hn1:1≤nv)(hn:nv≤100000)(hl:w.ownsRow lb 3 1 lv levels.length (levels.map (Value.int .i64)))(hll:levels.length≤100000)(hu:w.ownsRow ibs 3 1 u its.length (its.map (Value.int .i64)))(hil:its.length≤100000):
  Calls Tryz.prog 166 #[.pointer (some ⟨gb,0,none⟩),.agg #[.int .i64 cf,.string ct,.int .i64 c1,.int .i64 c2,.int .i64 cp,.int .i64 ck,u],lv] w fun e w'=>e= .returned (.int .i64 (cdM levels its ck (nv - 1)))∧Below w.heap.size w w':=by
 obtain⟨al,kl,rfl⟩:=za hl
 obtain⟨au,ku,rfl⟩:=za hu
 have hgl:=zd hg
 have hBA:=(zeU w.heap.size w).alloc (zeK _) (.cells #[.int .i64 cf,.string ct,.int .i64 c1,.int .i64 c2,.int .i64 cp,.int .i64 ck,.slice au its.length ku] 160)
 have hg':=(hBA.cell (p:=⟨gb,6,none⟩) hgl).trans hg
 have hbx:=heap_alloc_new w (.cells #[.int .i64 cf,.string ct,.int .i64 c1,.int .i64 c2,.int .i64 cp,.int .i64 ck,.slice au its.length ku] 160)
 have hl':=hl.alloc (.cells #[.int .i64 cf,.string ct,.int .i64 c1,.int .i64 c2,.int .i64 cp,.int .i64 ck,.slice au its.length ku] 160)
 have hu':=hu.alloc (.cells #[.int .i64 cf,.string ct,.int .i64 c1,.int .i64 c2,.int .i64 cp,.int .i64 ck,.slice au its.length ku] 160)
 have HB:=z8 hBA
 have HT:=z8 (z6T gb nv kv av _ hg' hn)
 have HU:=z8 (zeL hu' (zeL hl' hbx))
 clear hg' hBA hl hu hg hbx hl' hu'
 go_enter Tryz.func166,Tryz.ntmps166
 go_wp2_with fail
 refine HT.out.mono ?_
 rintro e w1 ⟨rfl,rfl⟩
 clear HT
 obtain⟨hu',hl',hbx⟩:=HU.out
 clear HU
 generalize (w.alloc (.cells #[.int .i64 cf,.string ct,.int .i64 c1,.int .i64 c2,.int .i64 cp,.int .i64 ck,.slice au its.length ku] 160))=W at*
 have HL:=z8 (fun(i:Int) (n:Nat)=>ji lb levels _ i (W.drewN n) (zb (w':=W.drewN n) hl' fun k e=>rfl) hll)
 obtain⟨b0,b1,b2,b3,b4,b5,b6,bf⟩:=z92 hbx
 have HU:=z8 hu'
 clear hu' hl' hbx bf b0 b1 b2 b3 b4
 go_wp2_with fail
 go_loopg [7] nv (fun k tv wr=> ∃(lev n:Nat),k=lev+1∧lev<nv∧tv= .int .i64 lev∧wr=W.drewN n∧Hid (cdM levels its ck lev=cdM levels its ck (nv - 1)))
 case atStart=>exact⟨nv - 1,0,by omega,by omega,by congr 1;omega,rfl,z8 rfl⟩
 case round=>
  obtain⟨lev,n,hk,hlt,rfl,rfl,hfin⟩:=hrel
  have HK:=z8 hk
  clear hk
  cases lev with
  |zero=>
   have hres:Hid (cdM levels its ck (nv - 1)=0):=z8 (by rw [←hfin.out];rfl)
   go_wp2_with fail
   go_ret
   exact⟨by rw [hres.out];rfl,⟨HB.out.os,HB.out.tape,HB.out.output,HB.out.size,HB.out.block⟩⟩
  |succ m=>
   have hpos:(0:Int)<((m+1:Nat):Int):=by omega
   have hst:Hid (cdM levels its ck (m+1)=if ck≤z3J levels ((m+1:Nat):Int) its 0 then((m+1:Nat):Int) else cdM levels its ck m):=z8 rfl
   obtain⟨gk0,hgk0⟩: ∃gk0,gk0=gk:=⟨_,rfl⟩
   have HGK0:=z8 hgk0
   clear hgk0
   go_wp2_with fail
   go_loopg [8,9] (its.length+1) (fun k cv jv wr=> ∃(j q:Nat) (c:Int),k+j=its.length+1∧j≤its.length∧cv= .int .i64 c∧jv= .int .i64 j∧wr=W.drewN q∧0≤c∧c≤j∧Hid (z3J levels ((m+1:Nat):Int) (its.drop j) c=z3J levels ((m+1:Nat):Int) its 0))
   case atStart=>exact⟨0,n,0,rfl,zeR _,rfl,rfl,rfl,by omega,by omega,z8 rfl⟩
   case round=>
    obtain⟨j,q,c,hkj,hjc,rfl,rfl,rfl,hc0,hc1,hfj⟩:=hrel
    have HKJ:=z8 hkj
    clear hkj
    by_cases hjl:j<its.length
    ·obtain⟨g2,cap2,hv2,hb2,hg2⟩:=HU.out.form (by omega)
     injection hv2 with e1 e2 e3
     subst e1 e3
     obtain⟨x,hx⟩: ∃x,its[j]?=some x:=⟨its[j],zeH hjl⟩
     have p1:W.cell? ⟨g2,j,none⟩=some (.int .i64 x):=zf HU.out _ _ (by simp [hx])
     have hjl':(j:Int)<its.length:=by omega
     have hsj:Hid (z3J levels ((m+1:Nat):Int) (its.drop j) c=z3J levels ((m+1:Nat):Int) (its.drop (j+1)) (if((m+1:Nat):Int)≤zc levels x then c+1 else c)):=z8 (by
      obtain⟨hl,hx'⟩:=zeI.1 hx
      rw [zeO hl,hx']
      rfl)
     have HLx:=z8 (HL.out x)
     generalize zc levels x=t at*
     clear hx
     by_cases ht:((m+1:Nat):Int)≤t
     ·have HS:Hid (z3J levels ((m+1:Nat):Int) (its.drop j) c=z3J levels ((m+1:Nat):Int) (its.drop (j+1)) (c+1)):=z8 (by rw [hsj.out,if_pos ht])
      go_wp2_with (go_at_call 48;refine(HLx.out _).mono ?_;rintro e w2 ⟨rfl,rfl⟩)
      have hk:=HKJ.out
      go_roundg (its.length - j)
      case measure=>omega
      case rel=>exact⟨j+1,_,c+1,by omega,by omega,by go_num,by go_num,rfl,by omega,by omega,z8 (by rw [←hfj.out,HS.out])⟩
     ·have HS:Hid (z3J levels ((m+1:Nat):Int) (its.drop j) c=z3J levels ((m+1:Nat):Int) (its.drop (j+1)) c):=z8 (by rw [hsj.out,if_neg ht])
      go_wp2_with (go_at_call 48;refine(HLx.out _).mono ?_;rintro e w2 ⟨rfl,rfl⟩)
      have hk:=HKJ.out
      go_roundg (its.length - j)
      case measure=>omega
      case rel=>exact⟨j+1,_,c,by omega,by omega,by go_num,by go_num,rfl,by omega,by omega,z8 (by rw [←hfj.out,HS.out])⟩
    ·have hjl': ¬(j:Int)<its.length:=by omega
     have hcn:Hid (z3J levels ((m+1:Nat):Int) its 0=c):=z8 (by rw [←hfj.out,zeN (by omega)];rfl)
     by_cases hck:ck≤c
     ·have hres:Hid (cdM levels its ck (nv - 1)=((m+1:Nat):Int)):=z8 (by rw [←hfin.out,hst.out,hcn.out,if_pos hck])
      go_wp2_with fail
      go_ret
      exact⟨by rw [hres.out];rfl,⟨HB.out.os,HB.out.tape,HB.out.output,HB.out.size,HB.out.block⟩⟩
     ·have HS:Hid (cdM levels its ck m=cdM levels its ck (nv - 1)):=z8 (by rw [←hfin.out,hst.out,hcn.out,if_neg hck])
      go_wp2_with fail
      have hk:=HK.out
      have hg0:=HGK0.out
      go_roundg (m+1)
      case measure=>omega
      case rel=>exact⟨m,_,rfl,by omega,by go_num,rfl,HS⟩
theorem z5R (gb base lb vb ib:Nat)(st:St)(V:Nat→Value)(iv cv:List Value)(l:List (zeV×zeV))(av:Value)(vals:List zeV)(vv:Value)(qs:List zeV)(qv:Value)(given:List Int)(gv:Value)(jb ub:Nat)(levels:List Int)(lv:Value)(x:Lc)(u:Value)(w:World)(h:Gd w gb base lb vb st V iv cv l av vals vv qs qv)(hg:w.ownsRow ib 3 1 gv given.length (given.map (Value.int .i64)))(hgl:given.length≤100000)(hA:st.A.length≤100000)(hv2:1≤vals.length)(hvl:vals.length≤100000)(hql:qs.length≤100000)(hl:w.ownsRow jb 3 1 lv levels.length (levels.map (Value.int .i64)))(hll:levels.length≤100000)(hu:w.ownsRow ub 3 1 u x.items.length (x.items.map (Value.int .i64)))(hil:x.items.length≤100000):
  Calls Tryz.prog 145 #[.pointer (some ⟨gb,0,none⟩),.agg #[.int .i64 x.form,.string x.text,.int .i64 x.left,.int .i64 x.right,.int .i64 x.place,.int .i64 x.count,u],gv,lv] w fun e w'=>e= .returned (.int .i64 (llM (stM st.A qs (vals.length - 1) given) (vals.length - 1) levels x))∧Below w.heap.size w w':=by
 obtain⟨al,kl,rfl⟩:=za hl
 obtain⟨au,ku,rfl⟩:=za hu
 obtain⟨ag,kg,rfl⟩:=za hg
 have hBA:=(zeU w.heap.size w).alloc (zeK _) (.cells #[.int .i64 x.form,.string x.text,.int .i64 x.left,.int .i64 x.right,.int .i64 x.place,.int .i64 x.count,.slice au x.items.length ku] 160)
 have hbx:=heap_alloc_new w (.cells #[.int .i64 x.form,.string x.text,.int .i64 x.left,.int .i64 x.right,.int .i64 x.place,.int .i64 x.count,.slice au x.items.length ku] 160)
 have hG':Gd (w.alloc (.cells #[.int .i64 x.form,.string x.text,.int .i64 x.left,.int .i64 x.right,.int .i64 x.place,.int .i64 x.count,.slice au x.items.length ku] 160)) gb base lb vb st V iv cv l av vals vv qs qv:=h.keep ((zeU w.heap.size w).alloc (zeK _) _)
 have hl':=hl.alloc (.cells #[.int .i64 x.form,.string x.text,.int .i64 x.left,.int .i64 x.right,.int .i64 x.place,.int .i64 x.count,.slice au x.items.length ku] 160)
 have hu':=hu.alloc (.cells #[.int .i64 x.form,.string x.text,.int .i64 x.left,.int .i64 x.right,.int .i64 x.place,.int .i64 x.count,.slice au x.items.length ku] 160)
 have hg':=hg.alloc (.cells #[.int .i64 x.form,.string x.text,.int .i64 x.left,.int .i64 x.right,.int .i64 x.place,.int .i64 x.count,.slice au x.items.length ku] 160)
 have HB:=z8 hBA
 have HU:=z8 (zeL hu' (zeL hl' (zeL hg' (zeL hG' hbx))))
 have hst:Hid (llM (stM st.A qs (vals.length - 1) given) (vals.length - 1) levels x=if x.form==2 then cdM levels x.items x.count (vals.length - 1) else if x.form==1 then(if x.text.toList==[38,38] then z3j (zc levels x.left) (zc levels x.right) else z7n (zc levels x.left) (zc levels x.right)) else stM st.A qs (vals.length - 1) given x.text):=z8 rfl
 clear h hg hl hu hBA hbx HU
 have HBB:=z8 (fun(W':World) (hb:Below (w.alloc (.cells #[.int .i64 x.form,.string x.text,.int .i64 x.left,.int .i64 x.right,.int .i64 x.place,.int .i64 x.count,.slice au x.items.length ku] 160)).heap.size (w.alloc (.cells #[.int .i64 x.form,.string x.text,.int .i64 x.left,.int .i64 x.right,.int .i64 x.place,.int .i64 x.count,.slice au x.items.length ku] 160)) W')=>HB.out.trans (hb.mono HB.out.size))
 have hc6: ∃a7 k7,(w.alloc (.cells #[.int .i64 x.form,.string x.text,.int .i64 x.left,.int .i64 x.right,.int .i64 x.place,.int .i64 x.count,.slice au x.items.length ku] 160)).cell? ⟨gb,6,none⟩=some (.slice a7 vals.length k7):=by
  obtain⟨e,he⟩:=hG'.box
  obtain⟨a7,k7,e7⟩:=za hG'.vals
  rw [e7] at he
  exact⟨a7,k7,(z39 he).2.2.2.2.2.2.1⟩
 obtain⟨a7,k7,hc6⟩:=hc6
 have HC:=z8 (fun n=>z72 gb jb ub vals.length a7 k7 levels _ x.form x.text x.left x.right x.place x.count x.items _ ((w.alloc (.cells #[.int .i64 x.form,.string x.text,.int .i64 x.left,.int .i64 x.right,.int .i64 x.place,.int .i64 x.count,.slice au x.items.length ku] 160)).drewN n) hc6 hv2 hvl (zb (w':=(w.alloc (.cells #[.int .i64 x.form,.string x.text,.int .i64 x.left,.int .i64 x.right,.int .i64 x.place,.int .i64 x.count,.slice au x.items.length ku] 160)).drewN n) hl' fun k e=>rfl) hll (zb (w':=(w.alloc (.cells #[.int .i64 x.form,.string x.text,.int .i64 x.left,.int .i64 x.right,.int .i64 x.place,.int .i64 x.count,.slice au x.items.length ku] 160)).drewN n) hu' fun k e=>rfl) hil)
 have HS:=z8 (fun n=>z31 gb base lb vb ib st V iv cv l av vals vv qs qv given _ x.text ((w.alloc (.cells #[.int .i64 x.form,.string x.text,.int .i64 x.left,.int .i64 x.right,.int .i64 x.place,.int .i64 x.count,.slice au x.items.length ku] 160)).drewN n) (hG'.drewN n) (zb (w':=(w.alloc (.cells #[.int .i64 x.form,.string x.text,.int .i64 x.left,.int .i64 x.right,.int .i64 x.place,.int .i64 x.count,.slice au x.items.length ku] 160)).drewN n) hg' fun k e=>rfl) hgl hA hv2 hvl hql)
 have HL:=z8 (fun(i:Int) (n:Nat)=>ji jb levels _ i ((w.alloc (.cells #[.int .i64 x.form,.string x.text,.int .i64 x.left,.int .i64 x.right,.int .i64 x.place,.int .i64 x.count,.slice au x.items.length ku] 160)).drewN n) (zb (w':=(w.alloc (.cells #[.int .i64 x.form,.string x.text,.int .i64 x.left,.int .i64 x.right,.int .i64 x.place,.int .i64 x.count,.slice au x.items.length ku] 160)).drewN n) hl' fun k e=>rfl) hll)
 clear hu' hl' hg' hG' hc6
 cases h2:(x.form==2)
 case true=>
  have hres:Hid (llM (stM st.A qs (vals.length - 1) given) (vals.length - 1) levels x=cdM levels x.items x.count (vals.length - 1)):=z8 (by rw [hst.out,h2];rfl)
  go_enter Tryz.func145,Tryz.ntmps145
  go_wp2_with fail
  refine(HC.out 0).mono ?_
  rintro e w2 ⟨rfl,hB2⟩
  go_wp2_with fail
  go_ret
  exact⟨by rw [hres.out];rfl,HBB.out _ ⟨hB2.os,hB2.tape,hB2.output,hB2.size,hB2.block⟩⟩
 case false=>
 cases h1:(x.form==1)
 case true=>
  have HL1:=z8 (HL.out x.left)
  have HL2:=z8 (HL.out x.right)
  have hs2:Hid (llM (stM st.A qs (vals.length - 1) given) (vals.length - 1) levels x=if x.text.toList==[38,38] then z3j (zc levels x.left) (zc levels x.right) else z7n (zc levels x.left) (zc levels x.right)):=z8 (by rw [hst.out,h2,h1];rfl)
  generalize zc levels x.left=t1 at*
  generalize zc levels x.right=t2 at*
  cases ht:(x.text.toList==[38,38])
  case true=>
   have hres:Hid (llM (stM st.A qs (vals.length - 1) given) (vals.length - 1) levels x=z3j t1 t2):=z8 (by rw [hs2.out,ht];rfl)
   have HLO:=z8 (fun W=>z68 t1 t2 W)
   generalize z3j t1 t2=z at*
   go_enter Tryz.func145,Tryz.ntmps145
   go_wp2_with fail
   refine(HL1.out 0).mono ?_
   rintro e w2 ⟨rfl,rfl⟩
   go_wp2_with fail
   refine(HL2.out 0).mono ?_
   rintro e w2 ⟨rfl,rfl⟩
   go_wp2_with (go_at_call 109;refine(HLO.out _).mono ?_;rintro e w2 ⟨rfl,rfl⟩)
   go_ret
   exact⟨by rw [hres.out];rfl,⟨HB.out.os,HB.out.tape,HB.out.output,HB.out.size,HB.out.block⟩⟩
  case false=>
   have hres:Hid (llM (stM st.A qs (vals.length - 1) given) (vals.length - 1) levels x=z7n t1 t2):=z8 (by rw [hs2.out,ht];rfl)
   have HLO:=z8 (fun W=>z8z t1 t2 W)
   generalize z7n t1 t2=z at*
   go_enter Tryz.func145,Tryz.ntmps145
   go_wp2_with fail
   refine(HL1.out 0).mono ?_
   rintro e w2 ⟨rfl,rfl⟩
   go_wp2_with fail
   refine(HL2.out 0).mono ?_
   rintro e w2 ⟨rfl,rfl⟩
   go_wp2_with (go_at_call 167;refine(HLO.out _).mono ?_;rintro e w2 ⟨rfl,rfl⟩)
   go_ret
   exact⟨by rw [hres.out];rfl,⟨HB.out.os,HB.out.tape,HB.out.output,HB.out.size,HB.out.block⟩⟩
 case false=>
  have hres:Hid (llM (stM st.A qs (vals.length - 1) given) (vals.length - 1) levels x=stM st.A qs (vals.length - 1) given x.text):=z8 (by rw [hst.out,h2,h1];rfl)
  go_enter Tryz.func145,Tryz.ntmps145
  go_wp2_with fail
  refine(HS.out 0).mono ?_
  rintro e w2 ⟨rfl,rfl⟩
  go_wp2_with fail
  go_ret
  exact⟨by rw [hres.out];rfl,⟨HB.out.os,HB.out.tape,HB.out.output,HB.out.size,HB.out.block⟩⟩
end Go.Proofs.YtkoohcilbpdgeaaGreatDoor
