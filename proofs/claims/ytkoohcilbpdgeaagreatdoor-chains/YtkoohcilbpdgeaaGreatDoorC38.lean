import Derived.Deep.DeepCutAuto
import Derived.Deep.RegionWith
import Derived.Test.YtkoohcilbpdgeaaGreatDoorC37
set_option linter.all false
set_option linter.unusedVariables false
set_option linter.unusedSimpArgs false
set_option linter.unnecessarySimpa false
set_option linter.constructorNameAsVariable false
set_option linter.deprecated false
set_option maxRecDepth 100000
set_option maxHeartbeats 6400000
namespace Go.Proofs.YtkoohcilbpdgeaaGreatDoor
open Go Go.RowKit
attribute [local go_sem] wrap64_byte
theorem lower_any (a b:Int)(w:World):Calls Tryz.prog 109 #[.int .i64 a,.int .i64 b] w fun e w'=>e= .returned (.int .i64 (lowM a b))∧w'=w:=by
 by_cases h:a<b
 ·have hr:Hid (lowM a b=a):=hide (if_pos h)
  go_enter Tryz.func109,Tryz.ntmps109
  go_wp2_with fail
  go_ret
  exact⟨by rw [hr.out];rfl,rfl⟩
 ·have hr:Hid (lowM a b=b):=hide (if_neg h)
  go_enter Tryz.func109,Tryz.ntmps109
  go_wp2_with fail
  go_ret
  exact⟨by rw [hr.out];rfl,rfl⟩
theorem higher_any (a b:Int)(w:World):Calls Tryz.prog 167 #[.int .i64 a,.int .i64 b] w fun e w'=>e= .returned (.int .i64 (higM a b))∧w'=w:=by
 by_cases h:b<a
 ·have hr:Hid (higM a b=a):=hide (if_pos h)
  go_enter Tryz.func167,Tryz.ntmps167
  go_wp2_with fail
  go_ret
  exact⟨by rw [hr.out];rfl,rfl⟩
 ·have hr:Hid (higM a b=b):=hide (if_neg h)
  go_enter Tryz.func167,Tryz.ntmps167
  go_wp2_with fail
  go_ret
  exact⟨by rw [hr.out];rfl,rfl⟩
theorem As.cells3 (x:As):x.cells.length=3:=rfl
theorem standing_any (gb base lb vb ib:Nat)(st:St)(V:Nat→Value)(iv cv:List Value)(l:List (ByteArray×ByteArray))(av:Value)(vals:List ByteArray)(vv:Value)(qs:List ByteArray)(qv:Value)(given:List Int)(gv:Value)(nm:ByteArray)(w:World)(h:Gd w gb base lb vb st V iv cv l av vals vv qs qv)(hg:w.ownsRow ib 3 1 gv given.length (given.map (Value.int .i64)))(hgl:given.length≤100000)(hA:st.A.length≤100000)(hv2:1≤vals.length)(hvl:vals.length≤100000)(hql:qs.length≤100000):
  Calls Tryz.prog 36 #[.pointer (some ⟨gb,0,none⟩),.string nm,gv] w fun e w'=>e= .returned (.int .i64 (stM st.A qs (vals.length - 1) given nm))∧w'=w:=by
 obtain⟨en,hbx⟩:=h.box
 have hrow:=h.tree.own 3 (by omega) (by omega)
 obtain⟨a3,k3,e3⟩:=ownsRow_slice hrow
 obtain⟨a7,k7,e7⟩:=ownsRow_slice h.vals
 obtain⟨a8,k8,e8⟩:=ownsRow_slice h.reqs
 obtain⟨ag,kg,rfl⟩:=ownsRow_slice hg
 have hn3:nOf st 3=st.A.length:=rfl
 have hrow:w.ownsRow base 84 3 (.slice a3 st.A.length k3) st.A.length ((st.A.map As.cells).flatten):=by rw [e3] at hrow;exact hrow
 obtain⟨b0,b1,b2,b3,b4,b5,b6,b7,bf⟩:=box8 hbx
 rw [e3,hn3] at b1
 rw [e7] at b6
 have HT:=hide (top_any gb _ _ _ w b6 hvl)
 have HP:=hide (placeOf_any vb qs qv nm w h.reqs hql)
 rw [e8] at b7 HP
 have HL:=hide (fun i:Int=>levelAt_any ib given _ i w hg hgl)
 have HR:=hide hrow
 have hst:Hid (stM st.A qs (vals.length - 1) given nm=if plM nm qs 0 != -1 then((vals.length - 1:Nat):Int) else stL nm given st.A 0 0):=hide rfl
 clear h hg hrow hbx bf b0 b2 b3 b4 b5 b6 e3 e7 e8 hn3
 generalize plM nm qs 0=z at*
 go_enter Tryz.func36,Tryz.ntmps36
 go_wp2_with fail
 refine HP.out.mono ?_
 rintro e w1 ⟨rfl,rfl⟩
 clear HP
 cases hz:(z != -1)
 case true=>
  have hres:Hid (stM st.A qs (vals.length - 1) given nm=(vals.length:Int)- 1):=hide (by rw [hst.out,hz];simp;omega)
  go_wp2_with fail
  refine HT.out.mono ?_
  rintro e w2 ⟨rfl,rfl⟩
  go_wp2_with fail
  go_ret
  exact⟨by rw [hres.out];rfl,rfl⟩
 case false=>
 have hres:Hid (stM st.A qs (vals.length - 1) given nm=stL nm given st.A 0 0):=hide (by rw [hst.out,hz];rfl)
 clear hst HT
 go_wp2_with fail
 go_loopg [7,8] (st.A.length+1) (fun k hv iv wr=> ∃(i:Nat) (h:Int),k+i=st.A.length+1∧i≤st.A.length∧iv= .int .i64 i∧hv= .int .i64 h∧wr=w1∧Hid (stL nm given (st.A.drop i) i h=stL nm given st.A 0 0))
 case atStart=>exact⟨0,0,rfl,Nat.zero_le _,rfl,rfl,rfl,hide rfl⟩
 case round=>
  obtain⟨i,h,hk,hil,rfl,rfl,rfl,hfin⟩:=hrel
  have hHK:=hide hk
  clear hk
  by_cases hlt:i<st.A.length
  ·obtain⟨g,cap,hvv,hbb,hgg⟩:=HR.out.form (by omega)
   injection hvv with e1 e2 e3
   subst e1 e3
   obtain⟨x,hx⟩: ∃x,st.A[i]?=some x:=⟨st.A[i],List.getElem?_eq_getElem hlt⟩
   have q0:wr.cell? ⟨g,i*3,none⟩=some (.string x.by_):=row_cell HR.out _ _ (flat_get As.cells 3 As.cells3 st.A i 0 x hx (by omega))
   have hst:Hid (stL nm given (st.A.drop i) i h=stL nm given (st.A.drop (i+1)) (i+1) (if(x.by_.toList==nm.toList)&&decide (h<typeAtM given i) then typeAtM given i else h)):=hide (by
    obtain⟨hl,hx'⟩:=List.getElem?_eq_some_iff.1 hx
    rw [List.drop_eq_getElem_cons hl,hx']
    rfl)
   have hlt':(i:Int)<st.A.length:=by omega
   have HLI:=hide (HL.out i)
   generalize typeAtM given i=t at*
   clear hx HL
   go_wp2_with fail
   refine HLI.out.mono ?_
   rintro e w2 ⟨rfl,rfl⟩
   clear HLI
   cases hb:(x.by_.toList==nm.toList)
   ·have HS:Hid (stL nm given (st.A.drop i) i h=stL nm given (st.A.drop (i+1)) (i+1) h):=hide (by rw [hst.out,hb];rfl)
    go_wp2_with fail
    have hk:=hHK.out
    go_roundg (st.A.length - i)
    case measure=>omega
    case rel=>exact⟨i+1,h,by omega,by omega,by go_num,rfl,rfl,hide (by rw [←hfin.out,HS.out])⟩
   ·by_cases hz:h<t
    ·have HS:Hid (stL nm given (st.A.drop i) i h=stL nm given (st.A.drop (i+1)) (i+1) t):=hide (by rw [hst.out,hb];simp [hz])
     go_wp2_with fail
     have hk:=hHK.out
     go_roundg (st.A.length - i)
     case measure=>omega
     case rel=>exact⟨i+1,t,by omega,by omega,by go_num,rfl,rfl,hide (by rw [←hfin.out,HS.out])⟩
    ·have HS:Hid (stL nm given (st.A.drop i) i h=stL nm given (st.A.drop (i+1)) (i+1) h):=hide (by rw [hst.out,hb];simp [hz])
     go_wp2_with fail
     have hk:=hHK.out
     go_roundg (st.A.length - i)
     case measure=>omega
     case rel=>exact⟨i+1,h,by omega,by omega,by go_num,rfl,rfl,hide (by rw [←hfin.out,HS.out])⟩
  ·have hlt': ¬(i:Int)<st.A.length:=by omega
   have hr2:Hid (stL nm given st.A 0 0=h):=hide (by rw [←hfin.out,List.drop_of_length_le (by omega)];rfl)
   go_wp2_with fail
   go_ret
   exact⟨by rw [hres.out,hr2.out];rfl,rfl⟩
theorem cntM_bound (ls:List Int)(lev:Int): ∀(is:List Int) (c:Int),c≤cntM ls lev is c∧cntM ls lev is c≤c+is.length:=by
 intro is
 induction is with
 |nil=>intro c;exact⟨Int.le_refl _,by simp [cntM]⟩
 |cons i is ih=>
  intro c
  unfold cntM
  split
  ·have:=ih (c+1);simp;omega
  ·have:=ih c;simp;omega
theorem counted_any (gb lb ibs nv:Nat)(av:Option Addr)(kv:Nat)(levels:List Int)(lv:Value)(cf:Int)(ct:ByteArray)(c1 c2 cp ck:Int)(its:List Int)(u:Value)(w:World)(hg:w.cell? ⟨gb,6,none⟩=some (.slice av nv kv))(hn1:1≤nv)(hn:nv≤100000)(hl:w.ownsRow lb 3 1 lv levels.length (levels.map (Value.int .i64)))(hll:levels.length≤100000)(hu:w.ownsRow ibs 3 1 u its.length (its.map (Value.int .i64)))(hil:its.length≤100000):
  Calls Tryz.prog 166 #[.pointer (some ⟨gb,0,none⟩),.agg #[.int .i64 cf,.string ct,.int .i64 c1,.int .i64 c2,.int .i64 cp,.int .i64 ck,u],lv] w fun e w'=>e= .returned (.int .i64 (cdM levels its ck (nv - 1)))∧Below w.heap.size w w':=by
 obtain⟨al,kl,rfl⟩:=ownsRow_slice hl
 obtain⟨au,ku,rfl⟩:=ownsRow_slice hu
 have hgl:=block_lt_of_cell hg
 have hBA:=(Below.refl w.heap.size w).alloc (Nat.le_refl _) (.cells #[.int .i64 cf,.string ct,.int .i64 c1,.int .i64 c2,.int .i64 cp,.int .i64 ck,.slice au its.length ku] 160)
 have hg':=(hBA.cell (p:=⟨gb,6,none⟩) hgl).trans hg
 have hbx:=heap_alloc_new w (.cells #[.int .i64 cf,.string ct,.int .i64 c1,.int .i64 c2,.int .i64 cp,.int .i64 ck,.slice au its.length ku] 160)
 have hl':=hl.alloc (.cells #[.int .i64 cf,.string ct,.int .i64 c1,.int .i64 c2,.int .i64 cp,.int .i64 ck,.slice au its.length ku] 160)
 have hu':=hu.alloc (.cells #[.int .i64 cf,.string ct,.int .i64 c1,.int .i64 c2,.int .i64 cp,.int .i64 ck,.slice au its.length ku] 160)
 have HB:=hide hBA
 have HT:=hide (top_any gb nv kv av _ hg' hn)
 have HU:=hide (And.intro hu' (And.intro hl' hbx))
 clear hg' hBA hl hu hg hbx hl' hu'
 go_enter Tryz.func166,Tryz.ntmps166
 go_wp2_with fail
 refine HT.out.mono ?_
 rintro e w1 ⟨rfl,rfl⟩
 clear HT
 obtain⟨hu',hl',hbx⟩:=HU.out
 clear HU
 generalize (w.alloc (.cells #[.int .i64 cf,.string ct,.int .i64 c1,.int .i64 c2,.int .i64 cp,.int .i64 ck,.slice au its.length ku] 160))=W at*
 have HL:=hide (fun(i:Int) (n:Nat)=>levelAt_any lb levels _ i (W.drewN n) (ownsRow_same (w':=W.drewN n) hl' fun k e=>rfl) hll)
 obtain⟨b0,b1,b2,b3,b4,b5,b6,bf⟩:=box7 hbx
 have HU:=hide hu'
 clear hu' hl' hbx bf b0 b1 b2 b3 b4
 go_wp2_with fail
 go_loopg [7] nv (fun k tv wr=> ∃(lev n:Nat),k=lev+1∧lev<nv∧tv= .int .i64 lev∧wr=W.drewN n∧Hid (cdM levels its ck lev=cdM levels its ck (nv - 1)))
 case atStart=>exact⟨nv - 1,0,by omega,by omega,by congr 1;omega,rfl,hide rfl⟩
 case round=>
  obtain⟨lev,n,hk,hlt,rfl,rfl,hfin⟩:=hrel
  have HK:=hide hk
  clear hk
  cases lev with
  |zero=>
   have hres:Hid (cdM levels its ck (nv - 1)=0):=hide (by rw [←hfin.out];rfl)
   go_wp2_with fail
   go_ret
   exact⟨by rw [hres.out];rfl,⟨HB.out.os,HB.out.tape,HB.out.output,HB.out.size,HB.out.block⟩⟩
  |succ m=>
   have hpos:(0:Int)<((m+1:Nat):Int):=by omega
   have hst:Hid (cdM levels its ck (m+1)=if ck≤cntM levels ((m+1:Nat):Int) its 0 then((m+1:Nat):Int) else cdM levels its ck m):=hide rfl
   obtain⟨gk0,hgk0⟩: ∃gk0,gk0=gk:=⟨_,rfl⟩
   have HGK0:=hide hgk0
   clear hgk0
   go_wp2_with fail
   go_loopg [8,9] (its.length+1) (fun k cv jv wr=> ∃(j q:Nat) (c:Int),k+j=its.length+1∧j≤its.length∧cv= .int .i64 c∧jv= .int .i64 j∧wr=W.drewN q∧0≤c∧c≤j∧Hid (cntM levels ((m+1:Nat):Int) (its.drop j) c=cntM levels ((m+1:Nat):Int) its 0))
   case atStart=>exact⟨0,n,0,rfl,Nat.zero_le _,rfl,rfl,rfl,by omega,by omega,hide rfl⟩
   case round=>
    obtain⟨j,q,c,hkj,hjc,rfl,rfl,rfl,hc0,hc1,hfj⟩:=hrel
    have HKJ:=hide hkj
    clear hkj
    by_cases hjl:j<its.length
    ·obtain⟨g2,cap2,hv2,hb2,hg2⟩:=HU.out.form (by omega)
     injection hv2 with e1 e2 e3
     subst e1 e3
     obtain⟨x,hx⟩: ∃x,its[j]?=some x:=⟨its[j],List.getElem?_eq_getElem hjl⟩
     have p1:W.cell? ⟨g2,j,none⟩=some (.int .i64 x):=row_cell HU.out _ _ (by simp [hx])
     have hjl':(j:Int)<its.length:=by omega
     have hsj:Hid (cntM levels ((m+1:Nat):Int) (its.drop j) c=cntM levels ((m+1:Nat):Int) (its.drop (j+1)) (if((m+1:Nat):Int)≤typeAtM levels x then c+1 else c)):=hide (by
      obtain⟨hl,hx'⟩:=List.getElem?_eq_some_iff.1 hx
      rw [List.drop_eq_getElem_cons hl,hx']
      rfl)
     have HLx:=hide (HL.out x)
     generalize typeAtM levels x=t at*
     clear hx
     by_cases ht:((m+1:Nat):Int)≤t
     ·have HS:Hid (cntM levels ((m+1:Nat):Int) (its.drop j) c=cntM levels ((m+1:Nat):Int) (its.drop (j+1)) (c+1)):=hide (by rw [hsj.out,if_pos ht])
      go_wp2_with (go_at_call 48;refine(HLx.out _).mono ?_;rintro e w2 ⟨rfl,rfl⟩)
      have hk:=HKJ.out
      go_roundg (its.length - j)
      case measure=>omega
      case rel=>exact⟨j+1,_,c+1,by omega,by omega,by go_num,by go_num,rfl,by omega,by omega,hide (by rw [←hfj.out,HS.out])⟩
     ·have HS:Hid (cntM levels ((m+1:Nat):Int) (its.drop j) c=cntM levels ((m+1:Nat):Int) (its.drop (j+1)) c):=hide (by rw [hsj.out,if_neg ht])
      go_wp2_with (go_at_call 48;refine(HLx.out _).mono ?_;rintro e w2 ⟨rfl,rfl⟩)
      have hk:=HKJ.out
      go_roundg (its.length - j)
      case measure=>omega
      case rel=>exact⟨j+1,_,c,by omega,by omega,by go_num,by go_num,rfl,by omega,by omega,hide (by rw [←hfj.out,HS.out])⟩
    ·have hjl': ¬(j:Int)<its.length:=by omega
     have hcn:Hid (cntM levels ((m+1:Nat):Int) its 0=c):=hide (by rw [←hfj.out,List.drop_of_length_le (by omega)];rfl)
     by_cases hck:ck≤c
     ·have hres:Hid (cdM levels its ck (nv - 1)=((m+1:Nat):Int)):=hide (by rw [←hfin.out,hst.out,hcn.out,if_pos hck])
      go_wp2_with fail
      go_ret
      exact⟨by rw [hres.out];rfl,⟨HB.out.os,HB.out.tape,HB.out.output,HB.out.size,HB.out.block⟩⟩
     ·have HS:Hid (cdM levels its ck m=cdM levels its ck (nv - 1)):=hide (by rw [←hfin.out,hst.out,hcn.out,if_neg hck])
      go_wp2_with fail
      have hk:=HK.out
      have hg0:=HGK0.out
      go_roundg (m+1)
      case measure=>omega
      case rel=>exact⟨m,_,rfl,by omega,by go_num,rfl,HS⟩
theorem licLevel_any (gb base lb vb ib:Nat)(st:St)(V:Nat→Value)(iv cv:List Value)(l:List (ByteArray×ByteArray))(av:Value)(vals:List ByteArray)(vv:Value)(qs:List ByteArray)(qv:Value)(given:List Int)(gv:Value)(jb ub:Nat)(levels:List Int)(lv:Value)(x:Lc)(u:Value)(w:World)(h:Gd w gb base lb vb st V iv cv l av vals vv qs qv)(hg:w.ownsRow ib 3 1 gv given.length (given.map (Value.int .i64)))(hgl:given.length≤100000)(hA:st.A.length≤100000)(hv2:1≤vals.length)(hvl:vals.length≤100000)(hql:qs.length≤100000)(hl:w.ownsRow jb 3 1 lv levels.length (levels.map (Value.int .i64)))(hll:levels.length≤100000)(hu:w.ownsRow ub 3 1 u x.items.length (x.items.map (Value.int .i64)))(hil:x.items.length≤100000):
  Calls Tryz.prog 145 #[.pointer (some ⟨gb,0,none⟩),.agg #[.int .i64 x.form,.string x.text,.int .i64 x.left,.int .i64 x.right,.int .i64 x.place,.int .i64 x.count,u],gv,lv] w fun e w'=>e= .returned (.int .i64 (llM (stM st.A qs (vals.length - 1) given) (vals.length - 1) levels x))∧Below w.heap.size w w':=by
 obtain⟨al,kl,rfl⟩:=ownsRow_slice hl
 obtain⟨au,ku,rfl⟩:=ownsRow_slice hu
 obtain⟨ag,kg,rfl⟩:=ownsRow_slice hg
 have hBA:=(Below.refl w.heap.size w).alloc (Nat.le_refl _) (.cells #[.int .i64 x.form,.string x.text,.int .i64 x.left,.int .i64 x.right,.int .i64 x.place,.int .i64 x.count,.slice au x.items.length ku] 160)
 have hbx:=heap_alloc_new w (.cells #[.int .i64 x.form,.string x.text,.int .i64 x.left,.int .i64 x.right,.int .i64 x.place,.int .i64 x.count,.slice au x.items.length ku] 160)
 have hG':Gd (w.alloc (.cells #[.int .i64 x.form,.string x.text,.int .i64 x.left,.int .i64 x.right,.int .i64 x.place,.int .i64 x.count,.slice au x.items.length ku] 160)) gb base lb vb st V iv cv l av vals vv qs qv:=h.keep ((Below.refl w.heap.size w).alloc (Nat.le_refl _) _)
 have hl':=hl.alloc (.cells #[.int .i64 x.form,.string x.text,.int .i64 x.left,.int .i64 x.right,.int .i64 x.place,.int .i64 x.count,.slice au x.items.length ku] 160)
 have hu':=hu.alloc (.cells #[.int .i64 x.form,.string x.text,.int .i64 x.left,.int .i64 x.right,.int .i64 x.place,.int .i64 x.count,.slice au x.items.length ku] 160)
 have hg':=hg.alloc (.cells #[.int .i64 x.form,.string x.text,.int .i64 x.left,.int .i64 x.right,.int .i64 x.place,.int .i64 x.count,.slice au x.items.length ku] 160)
 have HB:=hide hBA
 have HU:=hide (And.intro hu' (And.intro hl' (And.intro hg' (And.intro hG' hbx))))
 have hst:Hid (llM (stM st.A qs (vals.length - 1) given) (vals.length - 1) levels x=if x.form==2 then cdM levels x.items x.count (vals.length - 1) else if x.form==1 then(if x.text.toList==[38,38] then lowM (typeAtM levels x.left) (typeAtM levels x.right) else higM (typeAtM levels x.left) (typeAtM levels x.right)) else stM st.A qs (vals.length - 1) given x.text):=hide rfl
 clear h hg hl hu hBA hbx HU
 have HBB:=hide (fun(W':World) (hb:Below (w.alloc (.cells #[.int .i64 x.form,.string x.text,.int .i64 x.left,.int .i64 x.right,.int .i64 x.place,.int .i64 x.count,.slice au x.items.length ku] 160)).heap.size (w.alloc (.cells #[.int .i64 x.form,.string x.text,.int .i64 x.left,.int .i64 x.right,.int .i64 x.place,.int .i64 x.count,.slice au x.items.length ku] 160)) W')=>HB.out.trans (hb.mono HB.out.size))
 have hc6: ∃a7 k7,(w.alloc (.cells #[.int .i64 x.form,.string x.text,.int .i64 x.left,.int .i64 x.right,.int .i64 x.place,.int .i64 x.count,.slice au x.items.length ku] 160)).cell? ⟨gb,6,none⟩=some (.slice a7 vals.length k7):=by
  obtain⟨e,he⟩:=hG'.box
  obtain⟨a7,k7,e7⟩:=ownsRow_slice hG'.vals
  rw [e7] at he
  exact⟨a7,k7,(box8 he).2.2.2.2.2.2.1⟩
 obtain⟨a7,k7,hc6⟩:=hc6
 have HC:=hide (fun n=>counted_any gb jb ub vals.length a7 k7 levels _ x.form x.text x.left x.right x.place x.count x.items _ ((w.alloc (.cells #[.int .i64 x.form,.string x.text,.int .i64 x.left,.int .i64 x.right,.int .i64 x.place,.int .i64 x.count,.slice au x.items.length ku] 160)).drewN n) hc6 hv2 hvl (ownsRow_same (w':=(w.alloc (.cells #[.int .i64 x.form,.string x.text,.int .i64 x.left,.int .i64 x.right,.int .i64 x.place,.int .i64 x.count,.slice au x.items.length ku] 160)).drewN n) hl' fun k e=>rfl) hll (ownsRow_same (w':=(w.alloc (.cells #[.int .i64 x.form,.string x.text,.int .i64 x.left,.int .i64 x.right,.int .i64 x.place,.int .i64 x.count,.slice au x.items.length ku] 160)).drewN n) hu' fun k e=>rfl) hil)
 have HS:=hide (fun n=>standing_any gb base lb vb ib st V iv cv l av vals vv qs qv given _ x.text ((w.alloc (.cells #[.int .i64 x.form,.string x.text,.int .i64 x.left,.int .i64 x.right,.int .i64 x.place,.int .i64 x.count,.slice au x.items.length ku] 160)).drewN n) (hG'.drewN n) (ownsRow_same (w':=(w.alloc (.cells #[.int .i64 x.form,.string x.text,.int .i64 x.left,.int .i64 x.right,.int .i64 x.place,.int .i64 x.count,.slice au x.items.length ku] 160)).drewN n) hg' fun k e=>rfl) hgl hA hv2 hvl hql)
 have HL:=hide (fun(i:Int) (n:Nat)=>levelAt_any jb levels _ i ((w.alloc (.cells #[.int .i64 x.form,.string x.text,.int .i64 x.left,.int .i64 x.right,.int .i64 x.place,.int .i64 x.count,.slice au x.items.length ku] 160)).drewN n) (ownsRow_same (w':=(w.alloc (.cells #[.int .i64 x.form,.string x.text,.int .i64 x.left,.int .i64 x.right,.int .i64 x.place,.int .i64 x.count,.slice au x.items.length ku] 160)).drewN n) hl' fun k e=>rfl) hll)
 clear hu' hl' hg' hG' hc6
 cases h2:(x.form==2)
 case true=>
  have hres:Hid (llM (stM st.A qs (vals.length - 1) given) (vals.length - 1) levels x=cdM levels x.items x.count (vals.length - 1)):=hide (by rw [hst.out,h2];rfl)
  go_enter Tryz.func145,Tryz.ntmps145
  go_wp2_with fail
  refine(HC.out 0).mono ?_
  rintro e w2 ⟨rfl,hB2⟩
  go_wp2_with fail
  go_ret
  exact⟨by rw [hres.out];rfl,HBB.out _ ⟨hB2.os,hB2.tape,hB2.output,hB2.size,hB2.block⟩⟩
 case false=>
 cases h1:(x.form==1)
 case true=>
  have HL1:=hide (HL.out x.left)
  have HL2:=hide (HL.out x.right)
  have hs2:Hid (llM (stM st.A qs (vals.length - 1) given) (vals.length - 1) levels x=if x.text.toList==[38,38] then lowM (typeAtM levels x.left) (typeAtM levels x.right) else higM (typeAtM levels x.left) (typeAtM levels x.right)):=hide (by rw [hst.out,h2,h1];rfl)
  generalize typeAtM levels x.left=t1 at*
  generalize typeAtM levels x.right=t2 at*
  cases ht:(x.text.toList==[38,38])
  case true=>
   have hres:Hid (llM (stM st.A qs (vals.length - 1) given) (vals.length - 1) levels x=lowM t1 t2):=hide (by rw [hs2.out,ht];rfl)
   have HLO:=hide (fun W=>lower_any t1 t2 W)
   generalize lowM t1 t2=z at*
   go_enter Tryz.func145,Tryz.ntmps145
   go_wp2_with fail
   refine(HL1.out 0).mono ?_
   rintro e w2 ⟨rfl,rfl⟩
   go_wp2_with fail
   refine(HL2.out 0).mono ?_
   rintro e w2 ⟨rfl,rfl⟩
   go_wp2_with (go_at_call 109;refine(HLO.out _).mono ?_;rintro e w2 ⟨rfl,rfl⟩)
   go_ret
   exact⟨by rw [hres.out];rfl,⟨HB.out.os,HB.out.tape,HB.out.output,HB.out.size,HB.out.block⟩⟩
  case false=>
   have hres:Hid (llM (stM st.A qs (vals.length - 1) given) (vals.length - 1) levels x=higM t1 t2):=hide (by rw [hs2.out,ht];rfl)
   have HLO:=hide (fun W=>higher_any t1 t2 W)
   generalize higM t1 t2=z at*
   go_enter Tryz.func145,Tryz.ntmps145
   go_wp2_with fail
   refine(HL1.out 0).mono ?_
   rintro e w2 ⟨rfl,rfl⟩
   go_wp2_with fail
   refine(HL2.out 0).mono ?_
   rintro e w2 ⟨rfl,rfl⟩
   go_wp2_with (go_at_call 167;refine(HLO.out _).mono ?_;rintro e w2 ⟨rfl,rfl⟩)
   go_ret
   exact⟨by rw [hres.out];rfl,⟨HB.out.os,HB.out.tape,HB.out.output,HB.out.size,HB.out.block⟩⟩
 case false=>
  have hres:Hid (llM (stM st.A qs (vals.length - 1) given) (vals.length - 1) levels x=stM st.A qs (vals.length - 1) given x.text):=hide (by rw [hst.out,h2,h1];rfl)
  go_enter Tryz.func145,Tryz.ntmps145
  go_wp2_with fail
  refine(HS.out 0).mono ?_
  rintro e w2 ⟨rfl,rfl⟩
  go_wp2_with fail
  go_ret
  exact⟨by rw [hres.out];rfl,⟨HB.out.os,HB.out.tape,HB.out.output,HB.out.size,HB.out.block⟩⟩
def LOk (st:St):Prop:=st.L.length≤100000∧ ∀x∈st.L,x.items.length≤100000
theorem licLevels_any (gb base lb vb ib:Nat)(st:St)(V:Nat→Value)(iv cv:List Value)(l:List (ByteArray×ByteArray))(av:Value)(vals:List ByteArray)(vv:Value)(qs:List ByteArray)(qv:Value)(given:List Int)(gv:Value)(w:World)(h:Gd w gb base lb vb st V iv cv l av vals vv qs qv)(hg:w.ownsRow ib 3 1 gv given.length (given.map (Value.int .i64)))(hgl:given.length≤100000)(hA:st.A.length≤100000)(hv2:1≤vals.length)(hvl:vals.length≤100000)(hql:qs.length≤100000)(hL:LOk st):
  Calls Tryz.prog 108 #[.pointer (some ⟨gb,0,none⟩),gv] w fun e w'=>LvPost (lcsM (stM st.A qs (vals.length - 1) given) (vals.length - 1) st.L []) w e w':=by
 obtain⟨hL,hLi⟩:=hL
 obtain⟨en,hbx⟩:=h.box
 obtain⟨a4,k4,e4⟩:=ownsRow_slice (h.tree.own 4 (by omega) (by omega))
 obtain⟨ag0,kg0,rfl⟩:=ownsRow_slice hg
 have hgb:=lt_of_get hbx
 have b2:=(box8 hbx).2.2.1
 rw [e4] at b2
 have HG:=hide h
 have HGV:=hide hg
 obtain⟨i0,hi,hz0,hz1,hz2⟩:=info_parts info3
 have HM:=hide (World.ownsRow_made (base:=w.heap.size) (e:=3) (size:=1) w #[] 0 (Nat.le_refl _) (by decide) (by simp))
 have HB0:Hid (Below w.heap.size w (w.alloc (.cells #[] 3))):=hide ((Below.refl _ _).alloc (Nat.le_refl _) _)
 clear h hbx hg
 generalize hsg:(stM st.A qs (vals.length - 1) given)=sg at*
 have HSG:=hide hsg
 clear hsg
 go_enter Tryz.func108,Tryz.ntmps108
 go_wp2_with fail
 go_loopg [5,6] (st.L.length+1) (fun k tv jv wr=> ∃(i:Nat),k+i=st.L.length+1∧i≤st.L.length∧jv= .int .i64 i∧Hid (wr.ownsRow w.heap.size 3 1 tv i ((lcsM sg (vals.length - 1) (st.L.take i) []).map (Value.int .i64)))∧Below w.heap.size w wr)
 case atStart=>exact⟨0,rfl,Nat.zero_le _,rfl,hide HM.out,HB0.out⟩
 case round=>
  obtain⟨i,hk,hiC,rfl,HOW,hbel⟩:=hrel
  have hHK:=hide hk
  clear hk
  obtain⟨ag,kg,rfl⟩:=ownsRow_slice HOW.out
  have d2:wr.cell? ⟨gb,2,none⟩=some (.slice a4 (nOf st 4) k4):=(hbel.cell (p:=⟨gb,2,none⟩) hgb).trans b2
  have hn4:nOf st 4=st.L.length:=rfl
  rw [hn4] at d2
  have hz0':w.heap.size≤wr.heap.size:=hbel.size
  have HBL:=hide hbel
  by_cases hlt:i<st.L.length
  ·have hG2:=HG.out.keep hbel
   have hg2:=ownsRow_same HGV.out fun k e=>hbel.block k (HGV.out.lt k e).2
   obtain⟨x,hx⟩: ∃x,st.L[i]?=some x:=⟨st.L[i],List.getElem?_eq_getElem hlt⟩
   have hil:=hG2.tree.il
   obtain⟨u,hu⟩: ∃u,iv[i]?=some u:=⟨iv[i]'(by omega),List.getElem?_eq_getElem (by omega)⟩
   have hrow:wr.ownsRow base 160 7 (.slice a4 st.L.length k4) st.L.length ((List.zipWith Lc.cells st.L iv).flatten):=by
    have q:=hG2.tree.own 4 (by omega) (by omega)
    rw [e4] at q
    exact q
   have hur:=hG2.tree.items i x u hx hu
   obtain⟨au,ku,rfl⟩:=ownsRow_slice hur
   obtain⟨g,cap,hvv,hbb,hgg⟩:=hrow.form (by omega)
   injection hvv with e1 e2 e3
   subst e1 e3
   have hcell: ∀j z,(x.cells (.slice au x.items.length ku))[j]?=some z→j<7→wr.cell? ⟨g,i*7+j,none⟩=some z:=fun j z hz hj=>row_cell hrow _ _ ((zip_get st.L iv i j x _ hx hu hj).trans hz)
   have q0:wr.cell? ⟨g,i*7,none⟩=some (.int .i64 x.form):=hcell 0 _ rfl (by omega)
   have q1:=hcell 1 _ rfl (by omega)
   have q2:=hcell 2 _ rfl (by omega)
   have q3:=hcell 3 _ rfl (by omega)
   have q4:=hcell 4 _ rfl (by omega)
   have q5:=hcell 5 _ rfl (by omega)
   have q6:=hcell 6 _ rfl (by omega)
   have hst:=hide (lcsM_step sg (vals.length - 1) hx)
   have hxi:=hLi x (List.mem_of_getElem? hx)
   have hul:(lcsM sg (vals.length - 1) (st.L.take i) []).length=i:=by rw [lcsM_length];simp;omega
   have HUL:=hide hul
   have hlt':(i:Int)<st.L.length:=by omega
   clear hul hx hu hil hrow hbel hcell
   generalize lcsM sg (vals.length - 1) (st.L.take i) []=U at*
   have hown0:wr.ownsRow w.heap.size 3 1 (.slice ag i kg) U.length (U.map (Value.int .i64)):=by rw [HUL.out];exact HOW.out
   have HLL:=hide (licLevel_any gb base lb vb ib st V iv cv l av vals vv qs qv given _ w.heap.size base U (.slice ag i kg) x _ wr hG2 hg2 hgl hA hv2 hvl hql hown0 (by have:=HUL.out;omega) hur hxi)
   rw [HSG.out] at HLL
   have HOWN:=hide hown0
   clear hG2 hown0 hg2 hur
   generalize hz:llM sg (vals.length - 1) U x=z at*
   clear hz
   go_wp2_with fail
   refine HLL.out.mono ?_
   rintro e w2 ⟨rfl,hB2⟩
   have hown2:=ownsRow_same HOWN.out fun k e=>hB2.block k (HOWN.out.lt k e).2
   rw [HUL.out] at hown2
   have HB2:=hide (HBL.out.trans (hB2.mono hz0'))
   have hw2:w.heap.size≤w2.heap.size:=HB2.out.size
   clear hB2 HLL q0 q1 q2 q3 q4 q5 q6
   go_wp2_with (at_builtin;go_must (refine wpList_append_lies _ rfl (.tmp 31) (.tmp 33) 60 rfl w.heap.size 3 i0 _ 1 8 Tryz.underlying60 hi hz0 hz1 hz2 rfl (by omega) _ i _ rfl (hown2.alloc _) ⟨w2.heap.size,0,none⟩ 1 1 [.int .i64 z] rfl rfl ?news ?one (by omega) ?mm ?bys ?base (w2.heap.size+1) (by simp) ?rest))
   case news=>exact World.news_of_block (heap_alloc_new w2 _)
   case one=>intro u hu;simp at hu;subst hu;rfl
   case mm=>unfold maxLen;omega
   case bys=>omega
   case base=>simp;omega
   case rest=>
    intro gb2 cap2 w3 hown3 hgrow hat hlt2
    have hB3:=hide (Below.grown (HB2.out.alloc hw2 _) hgrow (by simp;omega) fun k e=>(hown2.lt k e).1)
    have hown4:Hid (w3.ownsRow w.heap.size 3 1 (.slice (some ⟨gb2,0,none⟩) (i+1) cap2) (i+1) ((lcsM sg (vals.length - 1) (st.L.take (i+1)) []).map (Value.int .i64))):=hide (by rw [hst.out];simpa using hown3)
    clear hown3 hgrow hat
    go_wp2_with fail
    have hk:=hHK.out
    go_roundg (st.L.length - i)
    case measure=>omega
    case rel=>exact⟨i+1,by omega,by omega,by go_num,hown4,hB3.out⟩
  ·have hlt': ¬(i:Int)<st.L.length:=by omega
   have hiC':i=st.L.length:=by omega
   have hfin:wr.ownsRow w.heap.size 3 1 (.slice ag i kg) (lcsM sg (vals.length - 1) st.L []).length ((lcsM sg (vals.length - 1) st.L []).map (Value.int .i64)):=by
    have hq:=HOW.out
    rw [lcsM_length]
    rw [hiC',List.take_length] at hq
    simpa [hiC'] using hq
   have HF:=hide hfin
   clear hfin hiC' hbel
   go_wp2_with fail
   go_ret
   exact⟨_,rfl,HF.out,HBL.out⟩
theorem ltM_take (A:List As)(W ls:List Int){i:Nat}{x:As}(h:A[i]?=some x):ltM (A.take (i+1)) W ls=ltM (A.take i) W ls++[lowM (typeAtM W x.conds) (typeAtM ls x.to_)]:=by
 rw [List.take_add_one,h]
 simp [ltM]
theorem lifted_any (gb base lb vb ib:Nat)(st:St)(V:Nat→Value)(iv cv:List Value)(l:List (ByteArray×ByteArray))(av:Value)(vals:List ByteArray)(vv:Value)(qs:List ByteArray)(qv:Value)(given:List Int)(gv:Value)(wb:Nat)(W:List Int)(wv:Value)(w:World)(h:Gd w gb base lb vb st V iv cv l av vals vv qs qv)(hg:w.ownsRow ib 3 1 gv given.length (given.map (Value.int .i64)))(hgl:given.length≤100000)(hA:st.A.length≤100000)(hv2:1≤vals.length)(hvl:vals.length≤100000)(hql:qs.length≤100000)(hL:LOk st)(hw:w.ownsRow wb 3 1 wv W.length (W.map (Value.int .i64)))(hwl:W.length≤100000):
  Calls Tryz.prog 65 #[.pointer (some ⟨gb,0,none⟩),wv,gv] w fun e w'=>LvPost (ltM st.A W (lcsM (stM st.A qs (vals.length - 1) given) (vals.length - 1) st.L [])) w e w':=by
 have HLS:=hide (fun n=>licLevels_any gb base lb vb ib st V iv cv l av vals vv qs qv given gv (w.drewN n) (h.drewN n) (ownsRow_same (w':=w.drewN n) hg fun k e=>rfl) hgl hA hv2 hvl hql hL)
 have hul:(lcsM (stM st.A qs (vals.length - 1) given) (vals.length - 1) st.L []).length≤100000:=by rw [lcsM_length];simpa using hL.1
 obtain⟨en,hbx⟩:=h.box
 obtain⟨a3,k3,e3⟩:=ownsRow_slice (h.tree.own 3 (by omega) (by omega))
 obtain⟨ag0,kg0,rfl⟩:=ownsRow_slice hg
 obtain⟨aw,kw,rfl⟩:=ownsRow_slice hw
 have hgb:=lt_of_get hbx
 have b1:=(box8 hbx).2.1
 rw [e3] at b1
 have HG:=hide h
 have HWV:=hide hw
 clear h hbx hg hw
 generalize lcsM (stM st.A qs (vals.length - 1) given) (vals.length - 1) st.L []=LS at*
 go_enter Tryz.func65,Tryz.ntmps65
 go_wp2_with fail
 refine(HLS.out 0).mono ?_
 rintro e wc ⟨lv,rfl,hlo,hlb⟩
 have hlb:Below w.heap.size w wc:=⟨hlb.os,hlb.tape,hlb.output,hlb.size,hlb.block⟩
 have hlo:wc.ownsRow w.heap.size 3 1 lv LS.length (LS.map (Value.int .i64)):=hlo
 obtain⟨al,kl,rfl⟩:=ownsRow_slice hlo
 have HB:=hide hlb
 have HLO:=hide hlo
 have hzc:w.heap.size≤wc.heap.size:=hlb.size
 have hgc:gb<wc.heap.size:=by omega
 have d1:wc.cell? ⟨gb,1,none⟩=some (.slice a3 (nOf st 3) k3):=(hlb.cell (p:=⟨gb,1,none⟩) hgb).trans b1
 obtain⟨i0,hi,hz0,hz1,hz2⟩:=info_parts info3
 have HM:=hide (World.ownsRow_made (base:=wc.heap.size) (e:=3) (size:=1) wc #[] 0 (Nat.le_refl _) (by decide) (by simp))
 have HB0:Hid (Below wc.heap.size wc (wc.alloc (.cells #[] 3))):=hide ((Below.refl _ _).alloc (Nat.le_refl _) _)
 have HR:Hid (wc.ownsRow base 84 3 (.slice a3 st.A.length k3) st.A.length ((st.A.map As.cells).flatten)):=hide (by
  have q:=(HG.out.keep hlb).tree.own 3 (by omega) (by omega)
  rw [e3] at q
  exact q)
 have HWC:=hide (ownsRow_same HWV.out fun k e=>hlb.block k (HWV.out.lt k e).2)
 clear hlb hlo HLS HWV HG
 go_wp2_with fail
 go_loopg [8,9] (st.A.length+1) (fun k tv jv wr=> ∃(i:Nat),k+i=st.A.length+1∧i≤st.A.length∧jv= .int .i64 i∧Hid (wr.ownsRow wc.heap.size 3 1 tv i ((ltM (st.A.take i) W LS).map (Value.int .i64)))∧Below wc.heap.size wc wr)
 case atStart=>exact⟨0,rfl,Nat.zero_le _,rfl,hide HM.out,HB0.out⟩
 case round=>
  obtain⟨i,hk,hiC,rfl,HOW,hbel⟩:=hrel
  have hHK:=hide hk
  clear hk
  obtain⟨ag,kg,rfl⟩:=ownsRow_slice HOW.out
  have d1':wr.cell? ⟨gb,1,none⟩=some (.slice a3 (nOf st 3) k3):=(hbel.cell (p:=⟨gb,1,none⟩) hgc).trans d1
  have hn3:nOf st 3=st.A.length:=rfl
  rw [hn3] at d1'
  have hz0':wc.heap.size≤wr.heap.size:=hbel.size
  have HBL:=hide hbel
  by_cases hlt:i<st.A.length
  ·obtain⟨x,hx⟩: ∃x,st.A[i]?=some x:=⟨st.A[i],List.getElem?_eq_getElem hlt⟩
   obtain⟨g,cap,hvv,hbb,hgg⟩:=HR.out.form (by omega)
   injection hvv with u1 u2 u3
   subst u1 u3
   have hcell: ∀j z,x.cells[j]?=some z→j<3→wr.cell? ⟨g,i*3+j,none⟩=some z:=fun j z hz hj=>(hbel.cell (p:=⟨g,i*3+j,none⟩) hgg).trans (row_cell HR.out _ _ ((flat_get As.cells 3 As.cells3 st.A i j x hx hj).trans hz))
   have q0:wr.cell? ⟨g,i*3,none⟩=some (.string x.by_):=hcell 0 _ rfl (by omega)
   have q1:=hcell 1 _ rfl (by omega)
   have q2:=hcell 2 _ rfl (by omega)
   have hst:=hide (ltM_take st.A W LS hx)
   have hlt':(i:Int)<st.A.length:=by omega
   have hBn:=hbel.alloc hbel.size (.cells #[.string x.by_,.int .i64 x.to_,.int .i64 x.conds] 84)
   have HBN:=hide hBn
   have hzn:(wr.alloc (.cells #[.string x.by_,.int .i64 x.to_,.int .i64 x.conds] 84)).heap.size=wr.heap.size+1:=by simp
   have hown0:(wr.alloc (.cells #[.string x.by_,.int .i64 x.to_,.int .i64 x.conds] 84)).ownsRow wc.heap.size 3 1 (.slice ag i kg) i ((ltM (st.A.take i) W LS).map (Value.int .i64)):=HOW.out.alloc _
   have HL1:=hide (levelAt_any wb W _ x.conds (wr.alloc (.cells #[.string x.by_,.int .i64 x.to_,.int .i64 x.conds] 84)) (ownsRow_same HWC.out fun k e=>hBn.block k (HWC.out.lt k e).2) hwl)
   have HL2:=hide (levelAt_any w.heap.size LS _ x.to_ (wr.alloc (.cells #[.string x.by_,.int .i64 x.to_,.int .i64 x.conds] 84)) (ownsRow_same HLO.out fun k e=>hBn.block k (HLO.out.lt k e).2) hul)
   have HOW0:=hide hown0
   clear hx hbel hcell hBn hown0
   generalize typeAtM W x.conds=t1 at*
   generalize typeAtM LS x.to_=t2 at*
   have HLO3:=hide (fun W'=>lower_any t1 t2 W')
   generalize lowM t1 t2=z at*
   go_wp2_with fail
   refine HL1.out.mono ?_
   rintro e w2 ⟨rfl,rfl⟩
   go_wp2_with fail
   refine HL2.out.mono ?_
   rintro e w2 ⟨rfl,rfl⟩
   go_wp2_with fail
   refine(HLO3.out _).mono ?_
   rintro e w2 ⟨rfl,rfl⟩
   clear HL1 HL2 HLO3
   generalize (wr.alloc (.cells #[.string x.by_,.int .i64 x.to_,.int .i64 x.conds] 84))=w2 at*
   have hw2:wc.heap.size≤w2.heap.size:=by omega
   clear hzn
   go_wp2_with (at_builtin;go_must (refine wpList_append_lies _ rfl (.tmp 47) (.tmp 49) 60 rfl wc.heap.size 3 i0 _ 1 8 Tryz.underlying60 hi hz0 hz1 hz2 rfl (by omega) _ i _ rfl (HOW0.out.alloc _) ⟨w2.heap.size,0,none⟩ 1 1 [.int .i64 z] rfl rfl ?news ?one (by omega) ?mm ?bys ?base (w2.heap.size+1) (by simp) ?rest))
   case news=>exact World.news_of_block (heap_alloc_new w2 _)
   case one=>intro u hu;simp at hu;subst hu;rfl
   case mm=>unfold maxLen;omega
   case bys=>omega
   case base=>simp;omega
   case rest=>
    intro gb2 cap2 w3 hown3 hgrow hat hlt2
    have hB3:=hide (Below.grown (HBN.out.alloc hw2 _) hgrow (by simp;omega) fun k e=>(HOW0.out.lt k e).1)
    have hown4:Hid (w3.ownsRow wc.heap.size 3 1 (.slice (some ⟨gb2,0,none⟩) (i+1) cap2) (i+1) ((ltM (st.A.take (i+1)) W LS).map (Value.int .i64))):=hide (by rw [hst.out];simpa using hown3)
    clear hown3 hgrow hat
    go_wp2_with fail
    have hk:=hHK.out
    go_roundg (st.A.length - i)
    case measure=>omega
    case rel=>exact⟨i+1,by omega,by omega,by go_num,hown4,hB3.out⟩
  ·have hlt': ¬(i:Int)<st.A.length:=by omega
   have hiC':i=st.A.length:=by omega
   have hfin:wr.ownsRow w.heap.size 3 1 (.slice ag i kg) (ltM st.A W LS).length ((ltM st.A W LS).map (Value.int .i64)):=by
    have hq:=HOW.out
    rw [hiC',List.take_length] at hq
    have e:(ltM st.A W LS).length=i:=by simp [ltM,hiC']
    rw [e,hiC']
    exact ownsRow_base hq hzc
   have HF:=hide hfin
   have HBE:=hide (HB.out.trans (hbel.mono HB.out.size))
   clear hfin hiC' hbel
   go_wp2_with fail
   go_ret
   exact⟨_,rfl,HF.out,HBE.out⟩
theorem givenLevels_any (gb base lb vb:Nat)(st:St)(V:Nat→Value)(iv cv:List Value)(l:List (ByteArray×ByteArray))(av:Value)(vals:List ByteArray)(vv:Value)(qs:List ByteArray)(qv:Value)(w:World)(h:Gd w gb base lb vb st V iv cv l av vals vv qs qv)(hE:st.E.length≤100000)(hC:st.C.length≤100000)(hCl: ∀c∈st.C,c.length≤100000)(hvl:vals.length≤100000)(hll:l.length≤100000)(hls: ∀p∈l,p.2.size≤600)(hEs: ∀x∈st.E,x.text.size≤600)
  (hW: ∀x∈worthsM l st.E [],x.text.size≤100000000) (hA:st.A.length≤100000) (hv2:1≤vals.length) (hql:qs.length≤100000) (hL:LOk st):
  Calls Tryz.prog 35 #[.pointer (some ⟨gb,0,none⟩)] w fun e w'=>LvPost (gvM st.A st.L qs (vals.length - 1) (lvsM vals (worthsM l st.E []) st.C []) st.A.length) w e w':=by
 have HCL:=hide (condsLevels_any gb base lb vb st V iv cv l av vals vv qs qv w h hE hC hCl hvl hll hls hEs hW)
 have hLl:(lvsM vals (worthsM l st.E []) st.C []).length≤100000:=by rw [lvsM_length];simpa using hC
 generalize (lvsM vals (worthsM l st.E []) st.C [])=LV at*
 obtain⟨en,hbx⟩:=h.box
 obtain⟨a3,k3,e3⟩:=ownsRow_slice (h.tree.own 3 (by omega) (by omega))
 have hgb:=lt_of_get hbx
 have b1:=(box8 hbx).2.1
 rw [e3] at b1
 have HG:=hide h
 clear h hbx hls hEs hW e3
 go_enter Tryz.func35,Tryz.ntmps35
 go_wp2_with fail
 refine HCL.out.mono ?_
 rintro e wc ⟨lv,rfl,hlo,hlb⟩
 obtain⟨al,kl,rfl⟩:=ownsRow_slice hlo
 have hzc:w.heap.size≤wc.heap.size:=hlb.size
 have hgc:gb<wc.heap.size:=by omega
 have d1:wc.cell? ⟨gb,1,none⟩=some (.slice a3 (nOf st 3) k3):=(hlb.cell (p:=⟨gb,1,none⟩) hgb).trans b1
 have HG1:=hide (HG.out.keep hlb)
 have HB:=hide hlb
 have HLO:=hide hlo
 have HM:=hide (World.ownsRow_made (base:=wc.heap.size) (e:=3) (size:=1) wc #[] 0 (Nat.le_refl _) (by decide) (by simp))
 have HB0:Hid (Below wc.heap.size wc (wc.alloc (.cells #[] 3))):=hide ((Below.refl _ _).alloc (Nat.le_refl _) _)
 clear hlb hlo HCL HG b1
 go_wp2_with fail
 go_loopg [4,5] (st.A.length+1) (fun k tv jv wr=> ∃(i:Nat),k+i=st.A.length+1∧i≤st.A.length∧jv= .int .i64 i∧Hid (wr.ownsRow wc.heap.size 3 1 tv (gvM st.A st.L qs (vals.length - 1) LV i).length ((gvM st.A st.L qs (vals.length - 1) LV i).map (Value.int .i64)))∧Below wc.heap.size wc wr)
 case atStart=>exact⟨0,rfl,Nat.zero_le _,rfl,hide HM.out,HB0.out⟩
 case round=>
  obtain⟨i,hk,hiC,rfl,HOW,hbel⟩:=hrel
  have hHK:=hide hk
  clear hk
  obtain⟨ag,kg,rfl⟩:=ownsRow_slice HOW.out
  have d1':wr.cell? ⟨gb,1,none⟩=some (.slice a3 (nOf st 3) k3):=(hbel.cell (p:=⟨gb,1,none⟩) hgc).trans d1
  have hn3:nOf st 3=st.A.length:=rfl
  rw [hn3] at d1'
  have HBL:=hide hbel
  by_cases hlt:i<st.A.length
  ·have hgl:(gvM st.A st.L qs (vals.length - 1) LV i).length≤100000:=by
    cases i with
    |zero=>exact Nat.zero_le _
    |succ r=>rw [gv_len];exact hA
   have HLI:=hide (lifted_any gb base lb vb wc.heap.size st V iv cv l av vals vv qs qv (gvM st.A st.L qs (vals.length - 1) LV i) _ w.heap.size LV _ wr (HG1.out.keep hbel) HOW.out hgl hA hv2 hvl hql hL (ownsRow_same HLO.out fun k e=>hbel.block k (HLO.out.lt k e).2) hLl)
   have hst:Hid (ltM st.A LV (lcsM (stM st.A qs (vals.length - 1) (gvM st.A st.L qs (vals.length - 1) LV i)) (vals.length - 1) st.L [])=gvM st.A st.L qs (vals.length - 1) LV (i+1)):=hide rfl
   rw [hst.out] at HLI
   have hlt':(i:Int)<st.A.length:=by omega
   clear hbel hst
   generalize gvM st.A st.L qs (vals.length - 1) LV i=G0 at*
   generalize hG1:gvM st.A st.L qs (vals.length - 1) LV (i+1)=G1 at*
   have HG1':=hide hG1
   clear hG1
   go_wp2_with fail
   refine HLI.out.mono ?_
   rintro e w2 ⟨v2,rfl,ho2,hB2⟩
   obtain⟨a2,k2,rfl⟩:=ownsRow_slice ho2
   have HO2:=hide (ownsRow_base ho2 HBL.out.size)
   have HB2:=hide (HBL.out.trans (hB2.mono HBL.out.size))
   clear ho2 hB2 HLI
   go_wp2_with fail
   have hk:=hHK.out
   go_roundg (st.A.length - i)
   case measure=>omega
   case rel=>exact⟨i+1,by omega,by omega,by go_num,by rw [HG1'.out];exact HO2,HB2.out⟩
  ·have hlt': ¬(i:Int)<st.A.length:=by omega
   have hiC':i=st.A.length:=by omega
   have HF:Hid (wr.ownsRow w.heap.size 3 1 (.slice ag (gvM st.A st.L qs (vals.length - 1) LV i).length kg) (gvM st.A st.L qs (vals.length - 1) LV st.A.length).length ((gvM st.A st.L qs (vals.length - 1) LV st.A.length).map (Value.int .i64))):=hide (by
    have hq:=HOW.out
    rw [hiC'] at hq ⊢
    exact ownsRow_base hq hzc)
   have HBE:=hide (HB.out.trans (hbel.mono HB.out.size))
   clear hiC' hbel
   go_wp2_with fail
   go_ret
   exact⟨_,rfl,HF.out,HBE.out⟩
def quM (s a v q:ByteArray)(st:St):ByteArray×Int:=
 if grM s a v q st !=0 then(⟨#[]⟩,grM s a v q st) else
 (vaM (vlM v).1 (stM st.A (rqM q).1 ((vlM v).1.length - 1) (gvM st.A st.L (rqM q).1 ((vlM v).1.length - 1) (lvsM (vlM v).1 (worthsM (raM a).1 st.E []) st.C []) st.A.length) pol),0)
theorem query_of (s a v q:ByteArray)(st:St)(w:World)(h:Calls Tryz.prog 34 #[.string s,.string a,.string v,.string q] w fun e w'=>GrPost s a v q st w e w')(hE:st.E.length≤100000)(hA:st.A.length≤100000)(hC:st.C.length≤100000)(hCl: ∀c∈st.C,c.length≤100000)(hvl:(vlM v).1.length≤100000)(hll:(raM a).1.length≤100000)(hls: ∀p∈(raM a).1,p.2.size≤600)(hEs: ∀x∈st.E,x.text.size≤600)(hL:LOk st)
  (hW:grM s a v q st=0→ ∀x∈worthsM (raM a).1 st.E [],x.text.size≤100000000) (hv2:grM s a v q st=0→1≤(vlM v).1.length):
  Calls Tryz.prog 19 #[.string s,.string a,.string v,.string q] w fun e w'=>WoPost (quM s a v q st).1 (quM s a v q st).2 w e w':=by
 have HC:=hide h
 have hql:(rqM q).1.length≤100000:=by have:=rqM_len q;omega
 clear h
 go_enter Tryz.func19,Tryz.ntmps19
 go_wp2_with fail
 refine HC.out.mono ?_
 rintro e w1 ⟨x1,x2,x3,x4,x5,x6,x7,rfl,hB1,⟨a1,n1,k1,rfl⟩,⟨a2,n2,k2,rfl⟩,⟨a3,n3,k3,rfl⟩,⟨a4,n4,k4,rfl⟩,⟨a5,n5,k5,rfl⟩,⟨a6,n6,k6,rfl⟩,⟨a7,n7,k7,rfl⟩,hG⟩
 have hco:Hid (quM s a v q st=if grM s a v q st !=0 then(⟨#[]⟩,grM s a v q st) else
  (vaM (vlM v).1 (stM st.A (rqM q).1 ((vlM v).1.length - 1) (gvM st.A st.L (rqM q).1 ((vlM v).1.length - 1) (lvsM (vlM v).1 (worthsM (raM a).1 st.E []) st.C []) st.A.length) pol),0)):=hide rfl
 generalize grM s a v q st=E at*
 have hB2:=hB1.alloc hB1.size (.cells #[.int .i64 E,.slice a1 n1 k1,.slice a2 n2 k2,.slice a3 n3 k3,.slice a4 n4 k4,.slice a5 n5 k5,.slice a6 n6 k6,.slice a7 n7 k7] 58)
 have hX2:=heap_alloc_new w1 (.cells #[.int .i64 E,.slice a1 n1 k1,.slice a2 n2 k2,.slice a3 n3 k3,.slice a4 n4 k4,.slice a5 n5 k5,.slice a6 n6 k6,.slice a7 n7 k7] 58)
 have HB2:=hide hB2
 cases hEz:(E !=0)
 case true=>
  have hres:Hid (quM s a v q st=(⟨#[]⟩,E)):=hide (by rw [hco.out,hEz];rfl)
  clear hG hB1 hX2 hB2
  go_wp2_with fail
  go_quiet (fail)
  go_wp2_with fail
  go_ret2
  exact⟨by rw [hres.out];rfl,⟨HB2.out.os,HB2.out.tape,HB2.out.output,HB2.out.size,HB2.out.block⟩⟩
 have hE0:E=0:=by simpa using hEz
 subst hE0
 obtain⟨V,iv,cv,e1,e2,e3,e4,hT,hl,hvv,hqq⟩:=hG rfl
 have hn6:n6=(vlM v).1.length:=by
  obtain⟨qa,qk,q⟩:=ownsRow_slice hvv
  injection q with _ q _
 have hGd:Gd (w1.alloc (.cells #[.int .i64 0,.slice a1 n1 k1,.slice a2 n2 k2,.slice a3 n3 k3,.slice a4 n4 k4,.slice a5 n5 k5,.slice a6 n6 k6,.slice a7 n7 k7] 58)) w1.heap.size w.heap.size w.heap.size w.heap.size st V iv cv (raM a).1 (.slice a5 n5 k5) (vlM v).1 (.slice a6 n6 k6) (rqM q).1 (.slice a7 n7 k7):=
  ⟨⟨0,by rw [←e1,←e2,←e3,←e4];exact hX2⟩,hT.same fun k _ hk=>Below.heap_alloc _ _ _ hk,hl.alloc _,hvv.alloc _,hqq.alloc _⟩
 have HGL:=hide (givenLevels_any _ _ _ _ st V iv cv (raM a).1 _ (vlM v).1 _ (rqM q).1 _ _ hGd hE hC hCl hvl hll hls hEs (hW rfl) hA (hv2 rfl) hql hL)
 have hres:Hid (quM s a v q st=(vaM (vlM v).1 (stM st.A (rqM q).1 ((vlM v).1.length - 1) (gvM st.A st.L (rqM q).1 ((vlM v).1.length - 1) (lvsM (vlM v).1 (worthsM (raM a).1 st.E []) st.C []) st.A.length) pol),0)):=hide (by rw [hco.out];rfl)
 have hgl:(gvM st.A st.L (rqM q).1 ((vlM v).1.length - 1) (lvsM (vlM v).1 (worthsM (raM a).1 st.E []) st.C []) st.A.length).length≤100000:=by
  cases st.A.length with
  |zero=>exact Nat.zero_le _
  |succ r=>rw [gv_len];exact hA
 generalize gvM st.A st.L (rqM q).1 ((vlM v).1.length - 1) (lvsM (vlM v).1 (worthsM (raM a).1 st.E []) st.C []) st.A.length=GV at*
 have HGD:=hide hGd
 have hz1:w.heap.size≤w1.heap.size:=hB1.size
 have HN:=hide hn6
 have hv2':=hv2 rfl
 clear hco hG hEz hB1 hB2 hT hl hvv hqq e1 e2 e3 e4 hGd hX2 hn6 hW hv2
 go_wp2_with fail
 refine HGL.out.mono ?_
 rintro e w2 ⟨lv,rfl,hlv,hB3⟩
 have hG2:=HGD.out.keep hB3
 obtain⟨al,kl,rfl⟩:=ownsRow_slice hlv
 have HST:=hide (standing_any _ _ _ _ _ st V iv cv (raM a).1 _ (vlM v).1 _ (rqM q).1 _ GV _ pol w2 hG2 hlv hgl hA hv2' hvl hql)
 unfold pol at HST hres
 have hc6:w2.cell? ⟨w1.heap.size,6,none⟩=some (.slice a6 (vlM v).1.length k6):=by
  obtain⟨e,he⟩:=hG2.box
  rw [←HN.out]
  exact(box8 he).2.2.2.2.2.2.1
 have hv3:w2.ownsRow w.heap.size 9 1 (.slice a6 (vlM v).1.length k6) (vlM v).1.length ((vlM v).1.map Value.string):=by have q:=hG2.vals;rw [HN.out] at q;exact q
 have HVA:=hide (fun i=>valueAt_any w1.heap.size w.heap.size (vlM v).1 a6 k6 i w2 hc6 hv3 hvl)
 have HB3:=hide (HB2.out.trans (hB3.mono HB2.out.size))
 clear hG2 hB3 hlv hc6 hv3 HGL
 generalize stM st.A (rqM q).1 ((vlM v).1.length - 1) GV ⟨#[80,79,76,73,67,89]⟩=lev at*
 go_wp2_with fail
 refine HST.out.mono ?_
 rintro e w3 ⟨rfl,rfl⟩
 have HVL:=hide (HVA.out lev)
 generalize vaM (vlM v).1 lev=D at*
 clear HVA HST
 go_wp2_with fail
 refine HVL.out.mono ?_
 rintro e w4 ⟨rfl,rfl⟩
 go_wp2_with fail
 go_ret2
 exact⟨by rw [hres.out];rfl,HB3.out⟩
end Go.Proofs.YtkoohcilbpdgeaaGreatDoor
