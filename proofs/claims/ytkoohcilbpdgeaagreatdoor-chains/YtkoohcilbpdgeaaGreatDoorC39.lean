import Derived.Laws.OwnMore
import Derived.Test.YtkoohcilbpdgeaaGreatDoorC38
set_option linter.all false
set_option linter.unusedVariables false
set_option linter.unusedSimpArgs false
set_option linter.unnecessarySimpa false
set_option linter.constructorNameAsVariable false
set_option linter.deprecated false
set_option maxRecDepth 100000
set_option maxHeartbeats 6400000
namespace Go.Proofs.YtkoohcilbpdgeaaGreatDoor
open Go Go.RowKit
attribute [local go_sem] wrap64_byte
theorem info154:(Tryz.prog.info? 154).map (fun i=>(i.zero,i.size,i.bytes))=some (some (.agg #[.string ⟨#[]⟩,.int .i64 0]),2,24):=by kernel_rfl
def sdCells (p:ByteArray×Int):List Value:=[.string p.1,.int .i64 p.2]
theorem sdCells_len (p:ByteArray×Int):(sdCells p).length=2:=rfl
def Sds (w:World)(base:Nat)(v:Value)(l:List (ByteArray×Int)):Prop:=w.ownsRow base 154 2 v l.length ((l.map sdCells).flatten)
theorem Sds.slice {w:World}{base:Nat}{v:Value}{l:List (ByteArray×Int)}(h:Sds w base v l): ∃a c,v= .slice a l.length c:=ownsRow_slice h
theorem Sds.cell {w:World}{base g cap:Nat}{l:List (ByteArray×Int)}(h:Sds w base (.slice (some ⟨g,0,none⟩) l.length cap) l){i:Nat}{p:ByteArray×Int}(hp:l[i]?=some p):w.cell? ⟨g,i*2,none⟩=some (.string p.1)∧w.cell? ⟨g,i*2+1,none⟩=some (.int .i64 p.2):=
 ⟨row_cell h _ _ (flat_get sdCells 2 sdCells_len l i 0 p hp (by omega)),row_cell h _ _ (flat_get sdCells 2 sdCells_len l i 1 p hp (by omega))⟩
theorem Sds.same {w w':World}{base:Nat}{v:Value}{l:List (ByteArray×Int)}(h:Sds w base v l)(hk: ∀k,v.ownBlock=some k→w'.heap[k]?=w.heap[k]?):Sds w' base v l:=ownsRow_same h hk
theorem atR_any (base:Nat)(l:List (ByteArray×Int))(v:Value)(nm:ByteArray)(w:World)(h:Sds w base v l)(hlen:l.length≤100000):
  Calls Tryz.prog 60 #[v,.string nm] w fun e w'=>e= .returned (.int .i64 (atM l nm))∧w'=w:=by
 obtain⟨a0,c0,rfl⟩:=h.slice
 have HW:=hide h
 clear h
 go_enter Tryz.func60,Tryz.ntmps60
 go_wp2_with fail
 go_loopg [5] (l.length+1) (fun k iv wr=> ∃(i:Nat),k+i=l.length+1∧i≤l.length∧iv= .int .i64 i∧wr=w∧Hid (atM (l.drop i) nm=atM l nm))
 case atStart=>exact⟨0,rfl,Nat.zero_le _,rfl,rfl,hide rfl⟩
 case round=>
  obtain⟨i,hk,hiE,rfl,rfl,hfin⟩:=hrel
  have hHK:=hide hk
  clear hk
  by_cases hlt:i<l.length
  ·obtain⟨g,cap,hv,hb,hg⟩:=World.ownsRow.form HW.out (by omega)
   injection hv with e1 e2 e3
   subst e1 e3
   obtain⟨x,hx⟩: ∃x,l[i]?=some x:=⟨l[i],List.getElem?_eq_getElem hlt⟩
   obtain⟨q0,q1⟩:=HW.out.cell hx
   have hlt':(i:Int)<l.length:=by omega
   have hst:Hid (atM (l.drop i) nm=if x.1.toList==nm.toList then x.2 else atM (l.drop (i+1)) nm):=hide (by
    obtain⟨hl,hx'⟩:=List.getElem?_eq_some_iff.1 hx
    rw [List.drop_eq_getElem_cons hl,hx']
    rfl)
   clear hx
   cases hq:(x.1.toList==nm.toList)
   ·go_wp2_with fail
    have hk:=hHK.out
    go_roundg (l.length - i)
    case measure=>omega
    case rel=>exact⟨i+1,by omega,by omega,by go_num,rfl,hide (by rw [←hfin.out,hst.out,hq];rfl)⟩
   ·have hres:Hid (atM l nm=x.2):=hide (by rw [←hfin.out,hst.out,hq];rfl)
    go_wp2_with fail
    go_ret
    exact⟨by rw [hres.out];rfl,rfl⟩
  ·have hlt': ¬(i:Int)<l.length:=by omega
   have hres:Hid (atM l nm=0):=hide (by rw [←hfin.out,List.drop_of_length_le (by omega)];rfl)
   go_wp2_with fail
   go_ret
   exact⟨by rw [hres.out];rfl,rfl⟩
theorem kthR_any (base:Nat)(vs:List Int)(v:Value)(kk:Int)(w:World)(h:w.ownsRow base 3 1 v vs.length (vs.map (Value.int .i64)))(hlen:vs.length≤100000):
  Calls Tryz.prog 144 #[v,.int .i64 kk] w fun e w'=>e= .returned (.int .i64 (kthL vs kk vs 0))∧ ∃n,w'=w.drewN n:=by
 obtain⟨a0,c0,rfl⟩:=ownsRow_slice h
 have HW:=hide h
 clear h
 go_enter Tryz.func144,Tryz.ntmps144
 go_wp2_with fail
 go_loopg [5,6] (vs.length+1) (fun k bv iv wr=> ∃(i m:Nat) (b:Int),k+i=vs.length+1∧i≤vs.length∧bv= .int .i64 b∧iv= .int .i64 i∧wr=w.drewN m∧Hid (kthL vs kk (vs.drop i) b=kthL vs kk vs 0))
 case atStart=>exact⟨0,0,0,rfl,Nat.zero_le _,rfl,rfl,rfl,hide rfl⟩
 case round=>
  obtain⟨i,m,b,hk,hiE,rfl,rfl,rfl,hfin⟩:=hrel
  have hHK:=hide hk
  clear hk
  by_cases hlt:i<vs.length
  ·obtain⟨g,cap,hv,hb,hg⟩:=HW.out.form (by omega)
   injection hv with e1 e2 e3
   subst e1 e3
   obtain⟨x,hx⟩: ∃x,vs[i]?=some x:=⟨vs[i],List.getElem?_eq_getElem hlt⟩
   have q0:w.cell? ⟨g,i,none⟩=some (.int .i64 x):=row_cell HW.out _ _ (by simp [hx])
   have hlt':(i:Int)<vs.length:=by omega
   have hst:Hid (kthL vs kk (vs.drop i) b=kthL vs kk (vs.drop (i+1)) (if decide (kk≤cntV x vs 0)&&decide (b<x) then x else b)):=hide (by
    obtain⟨hl,hx'⟩:=List.getElem?_eq_some_iff.1 hx
    rw [List.drop_eq_getElem_cons hl,hx']
    rfl)
   clear hx
   obtain⟨gk0,hgk0⟩: ∃gk0,gk0=gk:=⟨_,rfl⟩
   have HGK0:=hide hgk0
   clear hgk0
   go_wp2_with fail
   go_loopg [7,8] (vs.length+1) (fun k nv jv wr2=> ∃(j m2:Nat) (n:Int),k+j=vs.length+1∧j≤vs.length∧nv= .int .i64 n∧jv= .int .i64 j∧wr2=w.drewN m2∧0≤n∧n≤j∧Hid (cntV x (vs.drop j) n=cntV x vs 0))
   case atStart=>exact⟨0,m,0,rfl,Nat.zero_le _,rfl,rfl,rfl,by omega,by omega,hide rfl⟩
   case round=>
    obtain⟨j,m2,n,hkj,hjc,rfl,rfl,rfl,hn0,hn1,hfj⟩:=hrel
    have HKJ:=hide hkj
    clear hkj
    by_cases hjl:j<vs.length
    ·obtain⟨y,hy⟩: ∃y,vs[j]?=some y:=⟨vs[j],List.getElem?_eq_getElem hjl⟩
     have p0:w.cell? ⟨g,j,none⟩=some (.int .i64 y):=row_cell HW.out _ _ (by simp [hy])
     have hjl':(j:Int)<vs.length:=by omega
     have hsj:Hid (cntV x (vs.drop j) n=cntV x (vs.drop (j+1)) (if x≤y then n+1 else n)):=hide (by
      obtain⟨hl,hx'⟩:=List.getElem?_eq_some_iff.1 hy
      rw [List.drop_eq_getElem_cons hl,hx']
      rfl)
     clear hy
     by_cases hxy:x≤y
     ·have HS:Hid (cntV x (vs.drop j) n=cntV x (vs.drop (j+1)) (n+1)):=hide (by rw [hsj.out,if_pos hxy])
      go_wp2_with fail
      go_quiet (fail)
      go_wp2_with fail
      have hk:=HKJ.out
      go_roundg (vs.length - j)
      case measure=>omega
      case rel=>exact⟨j+1,_,n+1,by omega,by omega,by go_num,by go_num,rfl,by omega,by omega,hide (by rw [←hfj.out,HS.out])⟩
     ·have HS:Hid (cntV x (vs.drop j) n=cntV x (vs.drop (j+1)) n):=hide (by rw [hsj.out,if_neg hxy])
      go_wp2_with fail
      go_quiet (fail)
      go_wp2_with fail
      have hk:=HKJ.out
      go_roundg (vs.length - j)
      case measure=>omega
      case rel=>exact⟨j+1,_,n,by omega,by omega,by go_num,by go_num,rfl,by omega,by omega,hide (by rw [←hfj.out,HS.out])⟩
    ·have hjl': ¬(j:Int)<vs.length:=by omega
     have hcn:Hid (cntV x vs 0=n):=hide (by rw [←hfj.out,List.drop_of_length_le (by omega)];rfl)
     by_cases hkn:kk≤n
     ·by_cases hbx:b<x
      ·have HS:Hid (kthL vs kk (vs.drop (i+1)) x=kthL vs kk vs 0):=hide (by rw [←hfin.out,hst.out,hcn.out];simp [hkn,hbx])
       go_wp2_with fail
       have hk:=hHK.out
       have hg0:=HGK0.out
       go_roundg (gk0 - 1)
       case measure=>omega
       case rel=>exact⟨i+1,_,x,by omega,by omega,by go_num,by go_num,rfl,HS⟩
      ·have HS:Hid (kthL vs kk (vs.drop (i+1)) b=kthL vs kk vs 0):=hide (by rw [←hfin.out,hst.out,hcn.out];simp [hbx])
       go_wp2_with fail
       have hk:=hHK.out
       have hg0:=HGK0.out
       go_roundg (gk0 - 1)
       case measure=>omega
       case rel=>exact⟨i+1,_,b,by omega,by omega,by go_num,by go_num,rfl,HS⟩
     ·have HS:Hid (kthL vs kk (vs.drop (i+1)) b=kthL vs kk vs 0):=hide (by rw [←hfin.out,hst.out,hcn.out];simp [hkn])
      go_wp2_with fail
      have hk:=hHK.out
      have hg0:=HGK0.out
      go_roundg (gk0 - 1)
      case measure=>omega
      case rel=>exact⟨i+1,_,b,by omega,by omega,by go_num,by go_num,rfl,HS⟩
  ·have hlt': ¬(i:Int)<vs.length:=by omega
   have hres:Hid (kthL vs kk vs 0=b):=hide (by rw [←hfin.out,List.drop_of_length_le (by omega)];rfl)
   go_wp2_with fail
   go_ret
   exact⟨by rw [hres.out];rfl,m,rfl⟩
theorem flat_set: ∀(l:List (ByteArray×Int)) (i:Nat) (p:ByteArray×Int) (x:Int),l[i]?=some p→((l.set i (p.1,x)).map sdCells).flatten=((l.map sdCells).flatten).set (i*2+1) (.int .i64 x):=by
 intro l
 induction l with
 |nil=>intro i p x h;simp at h
 |cons q l ih=>
  intro i p x h
  cases i with
  |zero=>
   have e:q=p:=by simpa using h
   subst e
   rfl
  |succ i=>
   have:=ih i p x (by simpa using h)
   rw [show(i+1)*2+1=i*2+1+1+1 by omega]
   show sdCells q++((l.set i (p.1,x)).map sdCells).flatten=_
   rw [this]
   rfl
def RsPost (l:List (ByteArray×Int))(nm:ByteArray)(x:Int)(base:Nat)(w:World)(e:Ending)(w':World):Prop:= ∃v,e= .returned (.tuple #[v,.bool (rsM l nm x).2])∧Sds w' base v (rsM l nm x).1∧Below base w w'
theorem raised_any (base:Nat)(l:List (ByteArray×Int))(v:Value)(nm:ByteArray)(x:Int)(w:World)(h:Sds w base v l)(hb:base≤w.heap.size)(hlen:l.length≤100000):
  Calls Tryz.prog 105 #[v,.string nm,.int .i64 x] w fun e w'=>RsPost l nm x base w e w':=by
 obtain⟨a0,c0,rfl⟩:=h.slice
 have HW:=hide h
 clear h
 obtain⟨i0,hi,hz0,hz1,hz2⟩:=info_parts info154
 go_enter Tryz.func105,Tryz.ntmps105
 go_wp2_with fail
 go_loopg [8] (l.length+1) (fun k iv wr=> ∃(i:Nat),k+i=l.length+1∧i≤l.length∧iv= .int .i64 i∧wr=w∧Hid (rsM l nm x=(l.take i++(rsM (l.drop i) nm x).1,(rsM (l.drop i) nm x).2)))
 case atStart=>exact⟨0,rfl,Nat.zero_le _,rfl,rfl,hide (by simp)⟩
 case round=>
  obtain⟨i,hk,hiE,rfl,rfl,hfin⟩:=hrel
  have hHK:=hide hk
  clear hk
  by_cases hlt:i<l.length
  ·obtain⟨g,cap,hv,hbg,hg⟩:=World.ownsRow.form HW.out (by omega)
   injection hv with e1 e2 e3
   subst e1 e3
   obtain⟨p,hx⟩: ∃p,l[i]?=some p:=⟨l[i],List.getElem?_eq_getElem hlt⟩
   obtain⟨q0,q1⟩:=HW.out.cell hx
   have f1:=World.ownsRow.frozenAt HW.out (i*2+1)
   have hlt':(i:Int)<l.length:=by omega
   have hdr:Hid (l.drop i=p::l.drop (i+1)):=hide (by
    obtain⟨hl,hx'⟩:=List.getElem?_eq_some_iff.1 hx
    rw [List.drop_eq_getElem_cons hl,hx'])
   have hta:Hid (l.take (i+1)=l.take i++[p]):=hide (by rw [List.take_add_one,hx];rfl)
   cases hq:(p.1.toList==nm.toList)
   ·have HS:Hid (rsM l nm x=(l.take (i+1)++(rsM (l.drop (i+1)) nm x).1,(rsM (l.drop (i+1)) nm x).2)):=hide (by
     rw [hfin.out,hdr.out]
     simp only [rsM,hq]
     simp [hta.out])
    clear hx hfin hdr hta
    go_wp2_with fail
    have hk:=hHK.out
    go_roundg (l.length - i)
    case measure=>omega
    case rel=>exact⟨i+1,by omega,by omega,by go_num,rfl,HS⟩
   ·by_cases hle:x≤p.2
    ·have hres:Hid (rsM l nm x=(l,false)):=hide (by
      rw [hfin.out]
      conv=>lhs;rw [hdr.out]
      simp only [rsM,hq,hle,if_true]
      rw [←hdr.out,List.take_append_drop])
     clear hx hfin hdr hta
     go_wp2_with fail
     go_ret2
     exact⟨.slice (some ⟨g,0,none⟩) l.length c0,by rw [hres.out];rfl,by rw [hres.out];exact HW.out,Below.refl _ _⟩
    ·have hres:Hid (rsM l nm x=(l.set i (p.1,x),true)):=hide (by
      rw [hfin.out]
      conv=>lhs;rw [hdr.out]
      simp only [rsM,hq,hle,if_true,if_false]
      rw [List.set_eq_take_append_cons_drop,if_pos hlt])
     have HST:Hid (Sds (wr.setCell ⟨g,i*2+1,none⟩ (.int .i64 x)) base (.slice (some ⟨g,0,none⟩) l.length c0) (l.set i (p.1,x))):=hide (by
      have q:=(World.ownsRow.stored HW.out (i*2+1) (.int .i64 x)).1
      unfold Sds
      rw [flat_set l i p x hx,List.length_set]
      exact q)
     have HB:=hide ((Below.refl base wr).setCell (p:=⟨g,i*2+1,none⟩) hbg (.int .i64 x))
     clear hx hfin hdr hta
     go_wp2_with fail
     go_ret2
     exact⟨.slice (some ⟨g,0,none⟩) l.length c0,by rw [hres.out];rfl,by rw [hres.out];exact HST.out,HB.out⟩
  ·have hlt': ¬(i:Int)<l.length:=by omega
   have hres:Hid (rsM l nm x=(l++[(nm,x)],decide (0<x))):=hide (by rw [hfin.out,List.drop_of_length_le (by omega),List.take_of_length_le (by omega)];rfl)
   clear hfin
   go_wp2_with (at_builtin;go_must (refine wpList_append_lies _ rfl (.tmp 36) (.tmp 40) 107 rfl base 154 i0 _ 2 24 Tryz.underlying107 hi hz0 hz1 hz2 rfl (by omega) _ l.length _ rfl (World.ownsRow.alloc HW.out _) ⟨wr.heap.size,0,none⟩ 1 1 [.string nm,.int .i64 x] rfl rfl ?news ?one (by omega) ?mm ?bys ?base (wr.heap.size+1) (by simp) ?rest))
   case one=>exact⟨rfl,rfl⟩
   case mm=>unfold maxLen;omega
   case bys=>omega
   case base=>omega
   case rest=>
    intro gb2 cap2 w3 hown3 hgrow hat hlt2
    have hB3:=hide (Below.grown ((Below.refl base wr).alloc hb _) hgrow (by simp;omega) fun k e=>(World.ownsRow.lt HW.out k e).1)
    have hown4:Hid (Sds w3 base (.slice (some ⟨gb2,0,none⟩) (l.length+1) cap2) (l++[(nm,x)])):=hide (by
     unfold Sds
     simpa [sdCells] using hown3)
    clear hown3 hgrow hat
    go_wp2_with fail
    go_ret2
    exact⟨.slice (some ⟨gb2,0,none⟩) (l.length+1) cap2,by rw [hres.out];simp,by rw [hres.out];exact hown4.out,hB3.out⟩
def AskL (op tx:ByteArray)(k:Int):Prop:=(op=⟨#[124,124]⟩∧k=1)∨(op=⟨#[38,38]⟩∧k=2)∨(op=sOf∧ ∃c:UInt8,tx=⟨#[c]⟩∧(c.toNat:Int)- 48=k∧48≤c.toNat∧c.toNat≤57)
theorem AskL.name {op tx:ByteArray}{k:Int}(h:AskL op tx k):(op.toList==[110,97,109,101])=false:=by
 rcases h with⟨rfl,_⟩|⟨rfl,_⟩|⟨rfl,_⟩<;>(rw [ByteArray.toList_eq];decide)
theorem standR_node {X:Nat→Prop}{w:World}{v:Value}{op tx:ByteArray}{p:Int}{vs:List Value}(h:NodeX X w v op tx p vs)(hlen:vs.length≤100000)(sv:Value)(hsv:isSl sv)(zs:List Int)(hzs:zs.length=vs.length)(k:Int)(hk:AskL op tx k)
  (hsub: ∀(i:Nat) (u:Value) (z:Int),vs[i]?=some u→zs[i]?=some z→(∃g,u= .pointer (some ⟨g,0,none⟩))∧ ∀W,Below w.heap.size w W→Calls Tryz.prog 106 #[u,sv] W fun e w'=>e= .returned (.int .i64 z)∧Below W.heap.size W w'):
  Calls Tryz.prog 106 #[v,sv] w fun e w'=>e= .returned (.int .i64 (kthL zs k zs 0))∧Below w.heap.size w w':=by
 obtain⟨g,kv0,rfl,hh,hg,hkv⟩:=node_at h
 obtain⟨ak,kk,rfl⟩:=ownsRow_slice hkv
 obtain⟨as0,ns,ks,rfl⟩:=hsv
 obtain⟨c0,c1,c2,c3,cf⟩:=box4' hh
 have HC:=hide hsub
 have HK:=hide hkv
 have hnm:=hk.name
 obtain⟨i0,hi,hz0,hz1,hz2⟩:=info_parts info3
 clear h hh hsub hkv cf c2
 go_enter Tryz.func106,Tryz.ntmps106
 go_wp2_with fail
 go_loopg [5,6] (vs.length+1) (fun k tv iv wr=> ∃(i:Nat),k+i=vs.length+1∧i≤vs.length∧iv= .int .i64 i∧Hid (wr.ownsRow w.heap.size 3 1 tv i ((zs.take i).map (Value.int .i64)))∧Hid (Below w.heap.size w wr))
 case atStart=>exact⟨0,rfl,Nat.zero_le _,rfl,hide (World.ownsRow_nil _ _ _ _),hide (Below.refl _ _)⟩
 case round=>
  obtain⟨i,hki,hil,rfl,HOW,HB⟩:=hrel
  have hHK:=hide hki
  clear hki
  obtain⟨ag,kg,rfl⟩:=ownsRow_slice HOW.out
  have d0:wr.cell? ⟨g,0,none⟩=some (.string op):=(HB.out.cell (p:=⟨g,0,none⟩) hg).trans c0
  have d1:wr.cell? ⟨g,1,none⟩=some (.string tx):=(HB.out.cell (p:=⟨g,1,none⟩) hg).trans c1
  have d3:wr.cell? ⟨g,3,none⟩=some (.slice ak vs.length kk):=(HB.out.cell (p:=⟨g,3,none⟩) hg).trans c3
  have hz0':w.heap.size≤wr.heap.size:=HB.out.size
  by_cases hlt:i<vs.length
  ·obtain⟨u,hu⟩: ∃u,vs[i]?=some u:=⟨vs[i],List.getElem?_eq_getElem hlt⟩
   obtain⟨z,hz⟩: ∃z,zs[i]?=some z:=⟨zs[i]'(by omega),List.getElem?_eq_getElem (by omega)⟩
   have hkr:=HK.out
   obtain⟨gr,cap,hvv,hbb,hgg⟩:=hkr.form (by omega)
   injection hvv with e1 e2 e3
   subst e1 e3
   have r0:wr.cell? ⟨gr,i,none⟩=some u:=(HB.out.cell (p:=⟨gr,i,none⟩) hgg).trans (row_cell hkr _ _ hu)
   obtain⟨⟨gu,rfl⟩,hcall⟩:=HC.out i u z hu hz
   have HCA:=hide (hcall wr HB.out)
   have hst:Hid (zs.take (i+1)=zs.take i++[z]):=hide (by rw [List.take_add_one,hz];rfl)
   have hlt':(i:Int)<vs.length:=by omega
   clear hu hz hkr hcall d0 d1
   go_wp2_with fail
   refine HCA.out.mono ?_
   rintro e w2 ⟨rfl,hB2⟩
   have hown2:=ownsRow_same HOW.out fun k e=>hB2.block k (HOW.out.lt k e).2
   have HB2:=hide (HB.out.trans (hB2.mono hz0'))
   have hw2:w.heap.size≤w2.heap.size:=HB2.out.size
   clear hB2 HCA
   go_wp2_with (at_builtin;go_must (refine wpList_append_lies _ rfl (.tmp 37) (.tmp 39) 60 rfl w.heap.size 3 i0 _ 1 8 Tryz.underlying60 hi hz0 hz1 hz2 rfl (by omega) _ i _ rfl (hown2.alloc _) ⟨w2.heap.size,0,none⟩ 1 1 [.int .i64 z] rfl rfl ?news ?one (by omega) ?mm ?bys ?base (w2.heap.size+1) (by simp) ?rest))
   case news=>exact World.news_of_block (heap_alloc_new w2 _)
   case one=>intro u hu;simp at hu;subst hu;rfl
   case mm=>unfold maxLen;omega
   case bys=>omega
   case base=>simp;omega
   case rest=>
    intro gb2 cap2 w3 hown3 hgrow hat hlt2
    have hB3:=hide (Below.grown (HB2.out.alloc hw2 _) hgrow (by simp;omega) fun k e=>(hown2.lt k e).1)
    have hown4:Hid (w3.ownsRow w.heap.size 3 1 (.slice (some ⟨gb2,0,none⟩) (i+1) cap2) (i+1) ((zs.take (i+1)).map (Value.int .i64))):=hide (by rw [hst.out];simpa using hown3)
    clear hown3 hgrow hat
    go_wp2_with fail
    have hk:=hHK.out
    go_roundg (vs.length - i)
    case measure=>omega
    case rel=>exact⟨i+1,by omega,by omega,by go_num,hown4,hB3⟩
  ·have hlt': ¬(i:Int)<vs.length:=by omega
   have hiv:i=zs.length:=by omega
   have hrow:wr.ownsRow w.heap.size 3 1 (.slice ag i kg) zs.length (zs.map (Value.int .i64)):=by
    have q:=HOW.out
    rw [hiv] at q ⊢
    rw [List.take_length] at q
    exact q
   have HKT:=hide (fun k n=>kthR_any w.heap.size zs _ k (wr.drewN n) (ownsRow_same (w':=wr.drewN n) hrow fun k e=>rfl) (by omega))
   clear hrow hiv HC HK HOW c0 c1 c3
   rcases hk with⟨rfl,rfl⟩|⟨rfl,rfl⟩|⟨rfl,c,rfl,rfl,hc1,hc2⟩
   ·go_wp2_with fail
    refine(HKT.out 1 0).mono ?_
    rintro e w2 ⟨rfl,n2,rfl⟩
    go_wp2_with fail
    go_ret
    exact⟨rfl,⟨HB.out.os,HB.out.tape,HB.out.output,HB.out.size,HB.out.block⟩⟩
   ·go_wp2_with fail
    refine(HKT.out 2 0).mono ?_
    rintro e w2 ⟨rfl,n2,rfl⟩
    go_wp2_with fail
    go_ret
    exact⟨rfl,⟨HB.out.os,HB.out.tape,HB.out.output,HB.out.size,HB.out.block⟩⟩
   ·unfold sOf at*
    have hcv: ∀h0:0<(ByteArray.mk #[c]).size,((((ByteArray.mk #[c])[0]'h0).toNat:Int)- 48)%256=(c.toNat:Int)- 48:=fun _=>by
     show((c.toNat:Int)- 48)%256=_
     omega
    go_wp2_with fail
    refine(HKT.out _ 0).mono ?_
    rintro e w2 ⟨rfl,n2,rfl⟩
    go_wp2_with fail
    go_ret
    exact⟨rfl,⟨HB.out.os,HB.out.tape,HB.out.output,HB.out.size,HB.out.block⟩⟩
theorem lcsM_ext (sg:ByteArray→Int)(top:Nat): ∀(xs:List Lc) (ls:List Int),∃t,lcsM sg top xs ls=ls++t:=by
 intro xs
 induction xs with
 |nil=>intro ls;exact⟨[],by simp [lcsM]⟩
 |cons x xs ih=>
  intro ls
  obtain⟨t,ht⟩:=ih (ls++[llM sg top ls x])
  exact⟨[llM sg top ls x]++t,by unfold lcsM;rw [ht,List.append_assoc]⟩
theorem lcs_at (sg:ByteArray→Int)(top:Nat){L:List Lc}{i:Nat}{x:Lc}(h:L[i]?=some x):
  typeAtM (lcsM sg top L []) (i:Int)=llM sg top (lcsM sg top (L.take i) []) x∧ ∀j:Nat,j<i→typeAtM (lcsM sg top (L.take i) []) (j:Int)=typeAtM (lcsM sg top L []) (j:Int):=by
 obtain⟨hl,hx⟩:=List.getElem?_eq_some_iff.1 h
 have e:lcsM sg top L []=lcsM sg top (L.drop (i+1)) (lcsM sg top (L.take i) []++[llM sg top (lcsM sg top (L.take i) []) x]):=by
  conv=>lhs;rw [←List.take_append_drop (i+1) L,lcsM_append,lcsM_step sg top h]
 have hlen:(lcsM sg top (L.take i) []).length=i:=by rw [lcsM_length];simp;omega
 obtain⟨t,ht⟩:=lcsM_ext sg top (L.drop (i+1)) (lcsM sg top (L.take i) []++[llM sg top (lcsM sg top (L.take i) []) x])
 rw [e,ht]
 refine⟨?_,fun j hj=> ?_⟩
 ·rw [tA_append,if_pos (by simp [hlen]),tA_append,if_neg (by omega),hlen,Nat.sub_self,tA_nat];rfl
 ·rw [tA_append,if_pos (by simp [hlen];omega),tA_append,if_pos (by omega)]
theorem refL_le {X:Nat→Prop}{w:World}{L:List Lc}: ∀{f:Nat} {v:Value} {a i:Nat},RefLX X w L f v a i→a≤i:=by
 intro f
 induction f with
 |zero=>intro v a i h;exact absurd h id
 |succ f ih=>
  intro v a i ⟨x,hx,h⟩
  rcases h with⟨h1,h2,p,h3⟩|⟨h1,v1,v2,j,k,p,h2,h3,h4,h8,h5,h6,h7⟩|⟨h1,vs,c,h2,h3,h4,h5,h6⟩
  ·omega
  ·have:=ih h6;have:=ih h7;omega
  ·have gen: ∀(vs:List Value) (is:List Int) (a e:Nat),SegV (fun v a i=>RefLX X w L f v a i) vs is a e→a≤e:=by
    intro vs
    induction vs with
    |nil=>
     intro is a e h
     cases is with
     |nil=>have h:a=e:=h;omega
     |cons i is=>exact absurd h id
    |cons v vs ih2=>
     intro is a e h
     cases is with
     |nil=>exact absurd h id
     |cons i is=>
      obtain⟨j,_,q2,q3⟩:=h
      have:=ih q2;have:=ih2 is _ _ q3;omega
   exact gen _ _ _ _ h6
theorem refL_ptr {X:Nat→Prop}{w:World}{L:List Lc}{f:Nat}{v:Value}{a i:Nat}(h:RefLX X w L f v a i): ∃g,v= .pointer (some ⟨g,0,none⟩):=by
 cases f with
 |zero=>exact absurd h id
 |succ f=>
  obtain⟨x,hx,h⟩:=h
  rcases h with⟨h1,h2,p,h3⟩|⟨h1,v1,v2,j,k,p,h2,h3,h4,h8,h5,h6,h7⟩|⟨h1,vs,c,h2,h3,h4,h5,h6⟩
  ·obtain⟨g,_,e,_⟩:=h3.ex;exact⟨g,e⟩
  ·obtain⟨g,_,e,_⟩:=h5.ex;exact⟨g,e⟩
  ·obtain⟨g,_,e,_⟩:=h5.ex;exact⟨g,e⟩
theorem segL_all {X:Nat→Prop}{w:World}{L:List Lc}{f:Nat}: ∀(vs:List Value) (is:List Int) (a e:Nat),SegV (fun v a i=>RefLX X w L f v a i) vs is a e→a≤e∧(∀it∈is,∃j:Nat,it=(j:Int)∧j<e)∧ ∀(n:Nat) (v:Value) (it:Int),vs[n]?=some v→is[n]?=some it→ ∃a' j:Nat,it=(j:Int)∧RefLX X w L f v a' j:=by
 intro vs
 induction vs with
 |nil=>
  intro is a e h
  cases is with
  |nil=>have h:a=e:=h;exact⟨by omega,fun it h=>(by cases h),fun n v it h=>by simp at h⟩
  |cons i is=>exact absurd h id
 |cons v vs ih=>
  intro is a e h
  cases is with
  |nil=>exact absurd h id
  |cons i is=>
   obtain⟨j,q1,q2,q3⟩:=h
   have:=refL_le q2
   obtain⟨r1,r2,r3⟩:=ih is _ _ q3
   refine⟨by omega,fun it h=> ?_,fun n u it h1 h2=> ?_⟩
   ·rcases List.mem_cons.1 h with e|e
    ·exact⟨j,by rw [e,q1],by omega⟩
    ·exact r2 it e
   ·cases n with
    |zero=>
     have e1:v=u:=by simpa using h1
     have e2:i=it:=by simpa using h2
     subst e1 e2
     exact⟨a,j,q1,q2⟩
    |succ n=>exact r3 n u it (by simpa using h1) (by simpa using h2)
theorem standR_name {X:Nat→Prop}{w:World}{v:Value}{tx:ByteArray}{p:Int}{vs:List Value}(h:NodeX X w v sName tx p vs)(base:Nat)(sl:List (ByteArray×Int))(sv:Value)(hs:Sds w base sv sl)(hsl:sl.length≤100000):
  Calls Tryz.prog 106 #[v,sv] w fun e w'=>e= .returned (.int .i64 (atM sl tx))∧Below w.heap.size w w':=by
 obtain⟨g,kv0,rfl,hh,hg,hkv⟩:=node_at h
 obtain⟨c0,c1,c2,c3,cf⟩:=box4' hh
 have HA:=hide (fun n=>atR_any base sl sv tx (w.drewN n) (hs.same fun k e=>rfl) hsl)
 obtain⟨as0,ks,rfl⟩:=hs.slice
 unfold sName at c0
 clear h hh hkv cf c2 c3 hs
 go_enter Tryz.func106,Tryz.ntmps106
 go_wp2_with fail
 refine(HA.out 0).mono ?_
 rintro e w2 ⟨rfl,rfl⟩
 go_wp2_with fail
 go_ret
 exact⟨rfl,⟨rfl,rfl,rfl,Nat.le_refl _,fun _ _=>rfl⟩⟩
theorem standR_LX {X:Nat→Prop}{L:List Lc}(hcnt: ∀x∈L,x.form=2→1≤x.count)(hit: ∀x∈L,x.items.length≤100000)(base:Nat)(sl:List (ByteArray×Int))(sv:Value)(hsl:sl.length≤100000)(top:Nat)(hr: ∀nm,0≤atM sl nm∧atM sl nm≤top):
  ∀(f:Nat) (v:Value) (a i:Nat) (w:World),RefLX X w L f v a i→Sds w base sv sl→Calls Tryz.prog 106 #[v,sv] w fun e w'=>e= .returned (.int .i64 (typeAtM (lcsM (atM sl) top L []) (i:Int)))∧Below w.heap.size w w':=by
 have hrg:=lcs_rng (L:=L) hr
 intro f
 induction f with
 |zero=>intro v a i w h;exact absurd h id
 |succ f ih=>
  intro v a i w ⟨x,hx,h⟩ hs
  have hkeep: ∀{W:World},Below w.heap.size w W→Sds W base sv sl:=fun hB=>hs.same fun k e=>hB.block k (World.ownsRow.lt hs k e).2
  obtain⟨hat,hpre⟩:=lcs_at (atM sl) top hx
  have hsv:isSl sv:=by obtain⟨a0,c0,e⟩:=hs.slice;exact⟨a0,_,c0,e⟩
  rcases h with⟨h1,h2,p,h3⟩|⟨h1,v1,v2,j,k,p,h2,h3,h4,h8,h5,h6,h7⟩|⟨h1,vs,c,h2,h3,h4,h5,h6⟩
  ·rw [hat]
   have e:llM (atM sl) top (lcsM (atM sl) top (L.take i) []) x=atM sl x.text:=by unfold llM;simp [h1]
   rw [e]
   exact standR_name h3 base sl sv hs hsl
  ·have hj:=refL_le h6
   have hk:=refL_le h7
   have e1:=hpre j (by omega)
   have e2:=hpre k (by omega)
   have key: ∀kk,AskL x.text ⟨#[]⟩ kk→Calls Tryz.prog 106 #[v,sv] w fun e w'=>e= .returned (.int .i64 (kthL [typeAtM (lcsM (atM sl) top L []) (j:Int),typeAtM (lcsM (atM sl) top L []) (k:Int)] kk [typeAtM (lcsM (atM sl) top L []) (j:Int),typeAtM (lcsM (atM sl) top L []) (k:Int)] 0))∧Below w.heap.size w w':=fun kk hkk=>by
    refine standR_node h5 (by simp) sv hsv _ rfl kk hkk fun n u z hu hz=> ?_
    match n,hu,hz with
    |0,hu,hz=>
     have q1:v1=u:=by simpa using hu
     have q2:typeAtM (lcsM (atM sl) top L []) (j:Int)=z:=by simpa using hz
     subst q1 q2
     exact⟨refL_ptr h6,fun W hB=>ih v1 a j W (h6.keepX (below_same hB)) (hkeep hB)⟩
    |1,hu,hz=>
     have q1:v2=u:=by simpa using hu
     have q2:typeAtM (lcsM (atM sl) top L []) (k:Int)=z:=by simpa using hz
     subst q1 q2
     exact⟨refL_ptr h7,fun W hB=>ih v2 (j+1) k W (h7.keepX (below_same hB)) (hkeep hB)⟩
    |n+2,hu,hz=>simp at hu
   have r1:=hrg (j:Int)
   have r2:=hrg (k:Int)
   rw [hat]
   rcases h8 with ht|ht
   ·have e:llM (atM sl) top (lcsM (atM sl) top (L.take i) []) x=kthL [typeAtM (lcsM (atM sl) top L []) (j:Int),typeAtM (lcsM (atM sl) top L []) (k:Int)] 1 [typeAtM (lcsM (atM sl) top L []) (j:Int),typeAtM (lcsM (atM sl) top L []) (k:Int)] 0:=by
     rw [kth_or r1.1 r2.1]
     unfold llM
     rw [h1,h3,h4,e1,e2,ht,ByteArray.toList_eq]
     rfl
    rw [e]
    exact key 1 (.inl ⟨ht,rfl⟩)
   ·have e:llM (atM sl) top (lcsM (atM sl) top (L.take i) []) x=kthL [typeAtM (lcsM (atM sl) top L []) (j:Int),typeAtM (lcsM (atM sl) top L []) (k:Int)] 2 [typeAtM (lcsM (atM sl) top L []) (j:Int),typeAtM (lcsM (atM sl) top L []) (k:Int)] 0:=by
     rw [kth_and r1.1 r2.1]
     unfold llM
     rw [h1,h3,h4,e1,e2,ht,ByteArray.toList_eq]
     rfl
    rw [e]
    exact key 2 (.inr (.inl ⟨ht,rfl⟩))
  ·have hlen:=SegV.length _ _ _ _ h6
   obtain⟨_,r2,r3⟩:=segL_all _ _ _ _ h6
   have hxm:=List.mem_of_getElem? hx
   have e:llM (atM sl) top (lcsM (atM sl) top (L.take i) []) x=kthL (x.items.map (typeAtM (lcsM (atM sl) top L []))) x.count (x.items.map (typeAtM (lcsM (atM sl) top L []))) 0:=by
    have em:x.items.map (typeAtM (lcsM (atM sl) top L []))=x.items.map (typeAtM (lcsM (atM sl) top (L.take i) [])):=List.map_congr_left fun it hi=>by
     obtain⟨j,rfl,hj⟩:=r2 it hi
     exact(hpre j hj).symm
    rw [em,kth_cd _ _ (hcnt x hxm h1) top fun i'=>(lcs_rng hr (L.take i) i').2]
    unfold llM
    rw [h1]
    rfl
   rw [hat,e]
   refine standR_node h5 (by rw [hlen];exact hit x hxm) sv hsv _ (by rw [List.length_map,hlen]) x.count (.inr (.inr ⟨rfl,c,rfl,h2,h3,h4⟩)) fun n u z hu hz=> ?_
   rw [List.getElem?_map] at hz
   cases hq:x.items[n]? with
   |none=>rw [hq] at hz;cases hz
   |some it=>
    rw [hq] at hz
    have hz:typeAtM (lcsM (atM sl) top L []) it=z:=by simpa using hz
    obtain⟨a',j,rfl,hj⟩:=r3 n u it hu hq
    subst hz
    exact⟨refL_ptr hj,fun W hB=>ih u a' j W (hj.keepX (below_same hB)) (hkeep hB)⟩
end Go.Proofs.YtkoohcilbpdgeaaGreatDoor
