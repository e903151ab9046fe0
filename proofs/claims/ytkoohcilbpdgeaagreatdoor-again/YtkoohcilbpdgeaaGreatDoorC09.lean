import Derived.Deep.DeepCutAuto
import Derived.Deep.RegionWith
import Derived.Laws.OwnMore
import Derived.Test.YtkoohcilbpdgeaaGreatDoorC08
set_option linter.all false
set_option linter.unusedVariables false
set_option linter.unusedSimpArgs false
set_option linter.unnecessarySimpa false
set_option linter.constructorNameAsVariable false
set_option linter.deprecated false
set_option maxRecDepth 100000
set_option maxHeartbeats 6400000
namespace Go.Proofs.YtkoohcilbpdgeaaGreatDoor
open Go Go.RowKit
attribute [local go_sem] wrap64_byte
theorem z62 (a b:Int)(w:World):Calls Tryz.prog 109 #[.int .i64 a,.int .i64 b] w fun e w'=>e= .returned (.int .i64 (z6a a b))∧w'=w:=by
 by_cases h:a<b
 ·have hr:Hid (z6a a b=a):=z8 (if_pos h)
  go_enter Tryz.func109,Tryz.ntmps109
  go_wp2_with fail
  go_ret
  exact⟨by rw [hr.out];rfl,rfl⟩
 ·have hr:Hid (z6a a b=b):=z8 (if_neg h)
  go_enter Tryz.func109,Tryz.ntmps109
  go_wp2_with fail
  go_ret
  exact⟨by rw [hr.out];rfl,rfl⟩
theorem z8y (a b:Int)(w:World):Calls Tryz.prog 167 #[.int .i64 a,.int .i64 b] w fun e w'=>e= .returned (.int .i64 (z8L a b))∧w'=w:=by
 by_cases h:b<a
 ·have hr:Hid (z8L a b=a):=z8 (if_pos h)
  go_enter Tryz.func167,Tryz.ntmps167
  go_wp2_with fail
  go_ret
  exact⟨by rw [hr.out];rfl,rfl⟩
 ·have hr:Hid (z8L a b=b):=z8 (if_neg h)
  go_enter Tryz.func167,Tryz.ntmps167
  go_wp2_with fail
  go_ret
  exact⟨by rw [hr.out];rfl,rfl⟩
theorem As.cells3 (x:As):x.cells.length=3:=rfl
theorem z30 (gb base lb vb ib:Nat)(st:St)(V:Nat→Value)(iv cv:List Value)(l:List (zgS×zgS))(av:Value)(vals:List zgS)(vv:Value)(qs:List zgS)(qv:Value)(given:List Int)(gv:Value)(nm:zgS)(w:World)(h:Gd w gb base lb vb st V iv cv l av vals vv qs qv)(hg:w.ownsRow ib 3 1 gv given.length (given.map (Value.int .i64)))(hgl:given.length≤100000)(hA:st.A.length≤100000)(hv2:1≤vals.length)(hvl:vals.length≤100000)(hql:qs.length≤100000):
  Calls Tryz.prog 36 #[.pointer (some ⟨gb,0,none⟩),.string nm,gv] w fun e w'=>e= .returned (.int .i64 (stM st.A qs (vals.length - 1) given nm))∧w'=w:=by
 obtain⟨en,hbx⟩:=h.box
 have hrow:=h.tree.own 3 (by omega) (by omega)
 obtain⟨a3,k3,e3⟩:=za hrow
 obtain⟨a7,k7,e7⟩:=za h.vals
 obtain⟨a8,k8,e8⟩:=za h.reqs
 obtain⟨ag,kg,rfl⟩:=za hg
 have hn3:nOf st 3=st.A.length:=rfl
 have hrow:w.ownsRow base 84 3 (.slice a3 st.A.length k3) st.A.length ((st.A.map As.cells).flatten):=by rw [e3] at hrow;exact hrow
 obtain⟨b0,b1,b2,b3,b4,b5,b6,b7,bf⟩:=z31 hbx
 rw [e3,hn3] at b1
 rw [e7] at b6
 have HT:=z8 (z7b gb _ _ _ w b6 hvl)
 have HP:=z8 (jY vb qs qv nm w h.reqs hql)
 rw [e8] at b7 HP
 have HL:=z8 (fun i:Int=>jn ib given _ i w hg hgl)
 have HR:=z8 hrow
 have hst:Hid (stM st.A qs (vals.length - 1) given nm=if plM nm qs 0 != -1 then((vals.length - 1:Nat):Int) else stL nm given st.A 0 0):=z8 rfl
 clear h hg hrow hbx bf b0 b2 b3 b4 b5 b6 e3 e7 e8 hn3
 generalize plM nm qs 0=z at*
 go_enter Tryz.func36,Tryz.ntmps36
 go_wp2_with fail
 refine HP.out.mono ?_
 rintro e w1 ⟨rfl,rfl⟩
 clear HP
 cases hz:(z != -1)
 case true=>
  have hres:Hid (stM st.A qs (vals.length - 1) given nm=(vals.length:Int)- 1):=z8 (by rw [hst.out,hz];simp;omega)
  go_wp2_with fail
  refine HT.out.mono ?_
  rintro e w2 ⟨rfl,rfl⟩
  go_wp2_with fail
  go_ret
  exact⟨by rw [hres.out];rfl,rfl⟩
 case false=>
 have hres:Hid (stM st.A qs (vals.length - 1) given nm=stL nm given st.A 0 0):=z8 (by rw [hst.out,hz];rfl)
 clear hst HT
 go_wp2_with fail
 go_loopg [7,8] (st.A.length+1) (fun k hv iv wr=> ∃(i:Nat) (h:Int),k+i=st.A.length+1∧i≤st.A.length∧iv= .int .i64 i∧hv= .int .i64 h∧wr=w1∧Hid (stL nm given (st.A.drop i) i h=stL nm given st.A 0 0))
 case atStart=>exact⟨0,0,rfl,zgO _,rfl,rfl,rfl,z8 rfl⟩
 case round=>
  obtain⟨i,h,hk,hil,rfl,rfl,rfl,hfin⟩:=hrel
  have hHK:=z8 hk
  clear hk
  by_cases hlt:i<st.A.length
  ·obtain⟨g,cap,hvv,hbb,hgg⟩:=HR.out.form (by omega)
   injection hvv with e1 e2 e3
   subst e1 e3
   obtain⟨x,hx⟩: ∃x,st.A[i]?=some x:=⟨st.A[i],zgE hlt⟩
   have q0:wr.cell? ⟨g,i*3,none⟩=some (.string x.by_):=zl HR.out _ _ (zS As.cells 3 As.cells3 st.A i 0 x hx (by omega))
   have hst:Hid (stL nm given (st.A.drop i) i h=stL nm given (st.A.drop (i+1)) (i+1) (if(x.by_.toList==nm.toList)&&decide (h<zb given i) then zb given i else h)):=z8 (by
    obtain⟨hl,hx'⟩:=zgF.1 hx
    rw [zgL hl,hx']
    rfl)
   have hlt':(i:Int)<st.A.length:=by omega
   have HLI:=z8 (HL.out i)
   generalize zb given i=t at*
   clear hx HL
   go_wp2_with fail
   refine HLI.out.mono ?_
   rintro e w2 ⟨rfl,rfl⟩
   clear HLI
   cases hb:(x.by_.toList==nm.toList)
   ·have HS:Hid (stL nm given (st.A.drop i) i h=stL nm given (st.A.drop (i+1)) (i+1) h):=z8 (by rw [hst.out,hb];rfl)
    go_wp2_with fail
    have hk:=hHK.out
    go_roundg (st.A.length - i)
    case measure=>omega
    case rel=>exact⟨i+1,h,by omega,by omega,by go_num,rfl,rfl,z8 (by rw [←hfin.out,HS.out])⟩
   ·by_cases hz:h<t
    ·have HS:Hid (stL nm given (st.A.drop i) i h=stL nm given (st.A.drop (i+1)) (i+1) t):=z8 (by rw [hst.out,hb];simp [hz])
     go_wp2_with fail
     have hk:=hHK.out
     go_roundg (st.A.length - i)
     case measure=>omega
     case rel=>exact⟨i+1,t,by omega,by omega,by go_num,rfl,rfl,z8 (by rw [←hfin.out,HS.out])⟩
    ·have HS:Hid (stL nm given (st.A.drop i) i h=stL nm given (st.A.drop (i+1)) (i+1) h):=z8 (by rw [hst.out,hb];simp [hz])
     go_wp2_with fail
     have hk:=hHK.out
     go_roundg (st.A.length - i)
     case measure=>omega
     case rel=>exact⟨i+1,h,by omega,by omega,by go_num,rfl,rfl,z8 (by rw [←hfin.out,HS.out])⟩
  ·have hlt': ¬(i:Int)<st.A.length:=by omega
   have hr2:Hid (stL nm given st.A 0 0=h):=z8 (by rw [←hfin.out,zgK (by omega)];rfl)
   go_wp2_with fail
   go_ret
   exact⟨by rw [hres.out,hr2.out];rfl,rfl⟩
theorem z6Y (gb lb ibs nv:Nat)(av:Option Addr)(kv:Nat)(levels:List Int)(lv:Value)(cf:Int)(ct:zgS)(c1 c2 cp ck:Int)(its:List Int)(u:Value)(w:World)(hg:w.cell? ⟨gb,6,none⟩=some (.slice av nv kv))(hn1:1≤nv)(hn:nv≤100000)(hl:w.ownsRow lb 3 1 lv levels.length (levels.map (Value.int .i64)))(hll:levels.length≤100000)(hu:w.ownsRow ibs 3 1 u its.length (its.map (Value.int .i64)))(hil:its.length≤100000):
  Calls Tryz.prog 166 #[.pointer (some ⟨gb,0,none⟩),.agg #[.int .i64 cf,.string ct,.int .i64 c1,.int .i64 c2,.int .i64 cp,.int .i64 ck,u],lv] w fun e w'=>e= .returned (.int .i64 (cdM levels its ck (nv - 1)))∧Below w.heap.size w w':=by
 obtain⟨al,kl,rfl⟩:=za hl
 obtain⟨au,ku,rfl⟩:=za hu
 have hgl:=zd hg
 have hBA:=(zgR w.heap.size w).alloc (zgH _) (.cells #[.int .i64 cf,.string ct,.int .i64 c1,.int .i64 c2,.int .i64 cp,.int .i64 ck,.slice au its.length ku] 160)
 have hg':=(hBA.cell (p:=⟨gb,6,none⟩) hgl).trans hg
 have hbx:=heap_alloc_new w (.cells #[.int .i64 cf,.string ct,.int .i64 c1,.int .i64 c2,.int .i64 cp,.int .i64 ck,.slice au its.length ku] 160)
 have hl':=hl.alloc (.cells #[.int .i64 cf,.string ct,.int .i64 c1,.int .i64 c2,.int .i64 cp,.int .i64 ck,.slice au its.length ku] 160)
 have hu':=hu.alloc (.cells #[.int .i64 cf,.string ct,.int .i64 c1,.int .i64 c2,.int .i64 cp,.int .i64 ck,.slice au its.length ku] 160)
 have HB:=z8 hBA
 have HT:=z8 (z7b gb nv kv av _ hg' hn)
 have HU:=z8 (zgI hu' (zgI hl' hbx))
 clear hg' hBA hl hu hg hbx hl' hu'
 go_enter Tryz.func166,Tryz.ntmps166
 go_wp2_with fail
 refine HT.out.mono ?_
 rintro e w1 ⟨rfl,rfl⟩
 clear HT
 obtain⟨hu',hl',hbx⟩:=HU.out
 clear HU
 generalize (w.alloc (.cells #[.int .i64 cf,.string ct,.int .i64 c1,.int .i64 c2,.int .i64 cp,.int .i64 ck,.slice au its.length ku] 160))=W at*
 have HL:=z8 (fun(i:Int) (n:Nat)=>jn lb levels _ i (W.drewN n) (zc (w':=W.drewN n) hl' fun k e=>rfl) hll)
 obtain⟨b0,b1,b2,b3,b4,b5,b6,bf⟩:=z9f hbx
 have HU:=z8 hu'
 clear hu' hl' hbx bf b0 b1 b2 b3 b4
 go_wp2_with fail
 go_loopg [7] nv (fun k tv wr=> ∃(lev n:Nat),k=lev+1∧lev<nv∧tv= .int .i64 lev∧wr=W.drewN n∧Hid (cdM levels its ck lev=cdM levels its ck (nv - 1)))
 case atStart=>exact⟨nv - 1,0,by omega,by omega,by congr 1;omega,rfl,z8 rfl⟩
 case round=>
  obtain⟨lev,n,hk,hlt,rfl,rfl,hfin⟩:=hrel
  have HK:=z8 hk
  clear hk
  cases lev with
  |zero=>
   have hres:Hid (cdM levels its ck (nv - 1)=0):=z8 (by rw [←hfin.out];rfl)
   go_wp2_with fail
   go_ret
   exact⟨by rw [hres.out];rfl,⟨HB.out.os,HB.out.tape,HB.out.output,HB.out.size,HB.out.block⟩⟩
  |succ m=>
   have hpos:(0:Int)<((m+1:Nat):Int):=by omega
   have hst:Hid (cdM levels its ck (m+1)=if ck≤z43 levels ((m+1:Nat):Int) its 0 then((m+1:Nat):Int) else cdM levels its ck m):=z8 rfl
   obtain⟨gk0,hgk0⟩: ∃gk0,gk0=gk:=⟨_,rfl⟩
   have HGK0:=z8 hgk0
   clear hgk0
   go_wp2_with fail
   go_loopg [8,9] (its.length+1) (fun k cv jv wr=> ∃(j q:Nat) (c:Int),k+j=its.length+1∧j≤its.length∧cv= .int .i64 c∧jv= .int .i64 j∧wr=W.drewN q∧0≤c∧c≤j∧Hid (z43 levels ((m+1:Nat):Int) (its.drop j) c=z43 levels ((m+1:Nat):Int) its 0))
   case atStart=>exact⟨0,n,0,rfl,zgO _,rfl,rfl,rfl,by omega,by omega,z8 rfl⟩
   case round=>
    obtain⟨j,q,c,hkj,hjc,rfl,rfl,rfl,hc0,hc1,hfj⟩:=hrel
    have HKJ:=z8 hkj
    clear hkj
    by_cases hjl:j<its.length
    ·obtain⟨g2,cap2,hv2,hb2,hg2⟩:=HU.out.form (by omega)
     injection hv2 with e1 e2 e3
     subst e1 e3
     obtain⟨x,hx⟩: ∃x,its[j]?=some x:=⟨its[j],zgE hjl⟩
     have p1:W.cell? ⟨g2,j,none⟩=some (.int .i64 x):=zl HU.out _ _ (by simp [hx])
     have hjl':(j:Int)<its.length:=by omega
     have hsj:Hid (z43 levels ((m+1:Nat):Int) (its.drop j) c=z43 levels ((m+1:Nat):Int) (its.drop (j+1)) (if((m+1:Nat):Int)≤zb levels x then c+1 else c)):=z8 (by
      obtain⟨hl,hx'⟩:=zgF.1 hx
      rw [zgL hl,hx']
      rfl)
     have HLx:=z8 (HL.out x)
     generalize zb levels x=t at*
     clear hx
     by_cases ht:((m+1:Nat):Int)≤t
     ·have HS:Hid (z43 levels ((m+1:Nat):Int) (its.drop j) c=z43 levels ((m+1:Nat):Int) (its.drop (j+1)) (c+1)):=z8 (by rw [hsj.out,if_pos ht])
      go_wp2_with (go_at_call 48;refine(HLx.out _).mono ?_;rintro e w2 ⟨rfl,rfl⟩)
      have hk:=HKJ.out
      go_roundg (its.length - j)
      case measure=>omega
      case rel=>exact⟨j+1,_,c+1,by omega,by omega,by go_num,by go_num,rfl,by omega,by omega,z8 (by rw [←hfj.out,HS.out])⟩
     ·have HS:Hid (z43 levels ((m+1:Nat):Int) (its.drop j) c=z43 levels ((m+1:Nat):Int) (its.drop (j+1)) c):=z8 (by rw [hsj.out,if_neg ht])
      go_wp2_with (go_at_call 48;refine(HLx.out _).mono ?_;rintro e w2 ⟨rfl,rfl⟩)
      have hk:=HKJ.out
      go_roundg (its.length - j)
      case measure=>omega
      case rel=>exact⟨j+1,_,c,by omega,by omega,by go_num,by go_num,rfl,by omega,by omega,z8 (by rw [←hfj.out,HS.out])⟩
    ·have hjl': ¬(j:Int)<its.length:=by omega
     have hcn:Hid (z43 levels ((m+1:Nat):Int) its 0=c):=z8 (by rw [←hfj.out,zgK (by omega)];rfl)
     by_cases hck:ck≤c
     ·have hres:Hid (cdM levels its ck (nv - 1)=((m+1:Nat):Int)):=z8 (by rw [←hfin.out,hst.out,hcn.out,if_pos hck])
      go_wp2_with fail
      go_ret
      exact⟨by rw [hres.out];rfl,⟨HB.out.os,HB.out.tape,HB.out.output,HB.out.size,HB.out.block⟩⟩
     ·have HS:Hid (cdM levels its ck m=cdM levels its ck (nv - 1)):=z8 (by rw [←hfin.out,hst.out,hcn.out,if_neg hck])
      go_wp2_with fail
      have hk:=HK.out
      have hg0:=HGK0.out
      go_roundg (m+1)
      case measure=>omega
      case rel=>exact⟨m,_,rfl,by omega,by go_num,rfl,HS⟩
theorem z5X (gb base lb vb ib:Nat)(st:St)(V:Nat→Value)(iv cv:List Value)(l:List (zgS×zgS))(av:Value)(vals:List zgS)(vv:Value)(qs:List zgS)(qv:Value)(given:List Int)(gv:Value)(jb ub:Nat)(levels:List Int)(lv:Value)(x:Lc)(u:Value)(w:World)(h:Gd w gb base lb vb st V iv cv l av vals vv qs qv)(hg:w.ownsRow ib 3 1 gv given.length (given.map (Value.int .i64)))(hgl:given.length≤100000)(hA:st.A.length≤100000)(hv2:1≤vals.length)(hvl:vals.length≤100000)(hql:qs.length≤100000)(hl:w.ownsRow jb 3 1 lv levels.length (levels.map (Value.int .i64)))(hll:levels.length≤100000)(hu:w.ownsRow ub 3 1 u x.items.length (x.items.map (Value.int .i64)))(hil:x.items.length≤100000):
  Calls Tryz.prog 145 #[.pointer (some ⟨gb,0,none⟩),.agg #[.int .i64 x.form,.string x.text,.int .i64 x.left,.int .i64 x.right,.int .i64 x.place,.int .i64 x.count,u],gv,lv] w fun e w'=>e= .returned (.int .i64 (llM (stM st.A qs (vals.length - 1) given) (vals.length - 1) levels x))∧Below w.heap.size w w':=by
 obtain⟨al,kl,rfl⟩:=za hl
 obtain⟨au,ku,rfl⟩:=za hu
 obtain⟨ag,kg,rfl⟩:=za hg
 have hBA:=(zgR w.heap.size w).alloc (zgH _) (.cells #[.int .i64 x.form,.string x.text,.int .i64 x.left,.int .i64 x.right,.int .i64 x.place,.int .i64 x.count,.slice au x.items.length ku] 160)
 have hbx:=heap_alloc_new w (.cells #[.int .i64 x.form,.string x.text,.int .i64 x.left,.int .i64 x.right,.int .i64 x.place,.int .i64 x.count,.slice au x.items.length ku] 160)
 have hG':Gd (w.alloc (.cells #[.int .i64 x.form,.string x.text,.int .i64 x.left,.int .i64 x.right,.int .i64 x.place,.int .i64 x.count,.slice au x.items.length ku] 160)) gb base lb vb st V iv cv l av vals vv qs qv:=h.keep ((zgR w.heap.size w).alloc (zgH _) _)
 have hl':=hl.alloc (.cells #[.int .i64 x.form,.string x.text,.int .i64 x.left,.int .i64 x.right,.int .i64 x.place,.int .i64 x.count,.slice au x.items.length ku] 160)
 have hu':=hu.alloc (.cells #[.int .i64 x.form,.string x.text,.int .i64 x.left,.int .i64 x.right,.int .i64 x.place,.int .i64 x.count,.slice au x.items.length ku] 160)
 have hg':=hg.alloc (.cells #[.int .i64 x.form,.string x.text,.int .i64 x.left,.int .i64 x.right,.int .i64 x.place,.int .i64 x.count,.slice au x.items.length ku] 160)
 have HB:=z8 hBA
 have HU:=z8 (zgI hu' (zgI hl' (zgI hg' (zgI hG' hbx))))
 have hst:Hid (llM (stM st.A qs (vals.length - 1) given) (vals.length - 1) levels x=if x.form==2 then cdM levels x.items x.count (vals.length - 1) else if x.form==1 then(if x.text.toList==[38,38] then z6a (zb levels x.left) (zb levels x.right) else z8L (zb levels x.left) (zb levels x.right)) else stM st.A qs (vals.length - 1) given x.text):=z8 rfl
 clear h hg hl hu hBA hbx HU
 have HBB:=z8 (fun(W':World) (hb:Below (w.alloc (.cells #[.int .i64 x.form,.string x.text,.int .i64 x.left,.int .i64 x.right,.int .i64 x.place,.int .i64 x.count,.slice au x.items.length ku] 160)).heap.size (w.alloc (.cells #[.int .i64 x.form,.string x.text,.int .i64 x.left,.int .i64 x.right,.int .i64 x.place,.int .i64 x.count,.slice au x.items.length ku] 160)) W')=>HB.out.trans (hb.mono HB.out.size))
 have hc6: ∃a7 k7,(w.alloc (.cells #[.int .i64 x.form,.string x.text,.int .i64 x.left,.int .i64 x.right,.int .i64 x.place,.int .i64 x.count,.slice au x.items.length ku] 160)).cell? ⟨gb,6,none⟩=some (.slice a7 vals.length k7):=by
  obtain⟨e,he⟩:=hG'.box
  obtain⟨a7,k7,e7⟩:=za hG'.vals
  rw [e7] at he
  exact⟨a7,k7,(z31 he).2.2.2.2.2.2.1⟩
 obtain⟨a7,k7,hc6⟩:=hc6
 have HC:=z8 (fun n=>z6Y gb jb ub vals.length a7 k7 levels _ x.form x.text x.left x.right x.place x.count x.items _ ((w.alloc (.cells #[.int .i64 x.form,.string x.text,.int .i64 x.left,.int .i64 x.right,.int .i64 x.place,.int .i64 x.count,.slice au x.items.length ku] 160)).drewN n) hc6 hv2 hvl (zc (w':=(w.alloc (.cells #[.int .i64 x.form,.string x.text,.int .i64 x.left,.int .i64 x.right,.int .i64 x.place,.int .i64 x.count,.slice au x.items.length ku] 160)).drewN n) hl' fun k e=>rfl) hll (zc (w':=(w.alloc (.cells #[.int .i64 x.form,.string x.text,.int .i64 x.left,.int .i64 x.right,.int .i64 x.place,.int .i64 x.count,.slice au x.items.length ku] 160)).drewN n) hu' fun k e=>rfl) hil)
 have HS:=z8 (fun n=>z30 gb base lb vb ib st V iv cv l av vals vv qs qv given _ x.text ((w.alloc (.cells #[.int .i64 x.form,.string x.text,.int .i64 x.left,.int .i64 x.right,.int .i64 x.place,.int .i64 x.count,.slice au x.items.length ku] 160)).drewN n) (hG'.drewN n) (zc (w':=(w.alloc (.cells #[.int .i64 x.form,.string x.text,.int .i64 x.left,.int .i64 x.right,.int .i64 x.place,.int .i64 x.count,.slice au x.items.length ku] 160)).drewN n) hg' fun k e=>rfl) hgl hA hv2 hvl hql)
 have HL:=z8 (fun(i:Int) (n:Nat)=>jn jb levels _ i ((w.alloc (.cells #[.int .i64 x.form,.string x.text,.int .i64 x.left,.int .i64 x.right,.int .i64 x.place,.int .i64 x.count,.slice au x.items.length ku] 160)).drewN n) (zc (w':=(w.alloc (.cells #[.int .i64 x.form,.string x.text,.int .i64 x.left,.int .i64 x.right,.int .i64 x.place,.int .i64 x.count,.slice au x.items.length ku] 160)).drewN n) hl' fun k e=>rfl) hll)
 clear hu' hl' hg' hG' hc6
 cases h2:(x.form==2)
 case true=>
  have hres:Hid (llM (stM st.A qs (vals.length - 1) given) (vals.length - 1) levels x=cdM levels x.items x.count (vals.length - 1)):=z8 (by rw [hst.out,h2];rfl)
  go_enter Tryz.func145,Tryz.ntmps145
  go_wp2_with fail
  refine(HC.out 0).mono ?_
  rintro e w2 ⟨rfl,hB2⟩
  go_wp2_with fail
  go_ret
  exact⟨by rw [hres.out];rfl,HBB.out _ ⟨hB2.os,hB2.tape,hB2.output,hB2.size,hB2.block⟩⟩
 case false=>
 cases h1:(x.form==1)
 case true=>
  have HL1:=z8 (HL.out x.left)
  have HL2:=z8 (HL.out x.right)
  have hs2:Hid (llM (stM st.A qs (vals.length - 1) given) (vals.length - 1) levels x=if x.text.toList==[38,38] then z6a (zb levels x.left) (zb levels x.right) else z8L (zb levels x.left) (zb levels x.right)):=z8 (by rw [hst.out,h2,h1];rfl)
  generalize zb levels x.left=t1 at*
  generalize zb levels x.right=t2 at*
  cases ht:(x.text.toList==[38,38])
  case true=>
   have hres:Hid (llM (stM st.A qs (vals.length - 1) given) (vals.length - 1) levels x=z6a t1 t2):=z8 (by rw [hs2.out,ht];rfl)
   have HLO:=z8 (fun W=>z62 t1 t2 W)
   generalize z6a t1 t2=z at*
   go_enter Tryz.func145,Tryz.ntmps145
   go_wp2_with fail
   refine(HL1.out 0).mono ?_
   rintro e w2 ⟨rfl,rfl⟩
   go_wp2_with fail
   refine(HL2.out 0).mono ?_
   rintro e w2 ⟨rfl,rfl⟩
   go_wp2_with (go_at_call 109;refine(HLO.out _).mono ?_;rintro e w2 ⟨rfl,rfl⟩)
   go_ret
   exact⟨by rw [hres.out];rfl,⟨HB.out.os,HB.out.tape,HB.out.output,HB.out.size,HB.out.block⟩⟩
  case false=>
   have hres:Hid (llM (stM st.A qs (vals.length - 1) given) (vals.length - 1) levels x=z8L t1 t2):=z8 (by rw [hs2.out,ht];rfl)
   have HLO:=z8 (fun W=>z8y t1 t2 W)
   generalize z8L t1 t2=z at*
   go_enter Tryz.func145,Tryz.ntmps145
   go_wp2_with fail
   refine(HL1.out 0).mono ?_
   rintro e w2 ⟨rfl,rfl⟩
   go_wp2_with fail
   refine(HL2.out 0).mono ?_
   rintro e w2 ⟨rfl,rfl⟩
   go_wp2_with (go_at_call 167;refine(HLO.out _).mono ?_;rintro e w2 ⟨rfl,rfl⟩)
   go_ret
   exact⟨by rw [hres.out];rfl,⟨HB.out.os,HB.out.tape,HB.out.output,HB.out.size,HB.out.block⟩⟩
 case false=>
  have hres:Hid (llM (stM st.A qs (vals.length - 1) given) (vals.length - 1) levels x=stM st.A qs (vals.length - 1) given x.text):=z8 (by rw [hst.out,h2,h1];rfl)
  go_enter Tryz.func145,Tryz.ntmps145
  go_wp2_with fail
  refine(HS.out 0).mono ?_
  rintro e w2 ⟨rfl,rfl⟩
  go_wp2_with fail
  go_ret
  exact⟨by rw [hres.out];rfl,⟨HB.out.os,HB.out.tape,HB.out.output,HB.out.size,HB.out.block⟩⟩
def LOk (st:St):Prop:=st.L.length≤100000∧ ∀x∈st.L,x.items.length≤100000
theorem z5n (gb base lb vb ib:Nat)(st:St)(V:Nat→Value)(iv cv:List Value)(l:List (zgS×zgS))(av:Value)(vals:List zgS)(vv:Value)(qs:List zgS)(qv:Value)(given:List Int)(gv:Value)(w:World)(h:Gd w gb base lb vb st V iv cv l av vals vv qs qv)(hg:w.ownsRow ib 3 1 gv given.length (given.map (Value.int .i64)))(hgl:given.length≤100000)(hA:st.A.length≤100000)(hv2:1≤vals.length)(hvl:vals.length≤100000)(hql:qs.length≤100000)(hL:LOk st):
  Calls Tryz.prog 108 #[.pointer (some ⟨gb,0,none⟩),gv] w fun e w'=>z3f (jP (stM st.A qs (vals.length - 1) given) (vals.length - 1) st.L []) w e w':=by
 obtain⟨hL,hLi⟩:=hL
 obtain⟨en,hbx⟩:=h.box
 obtain⟨a4,k4,e4⟩:=za (h.tree.own 4 (by omega) (by omega))
 obtain⟨ag0,kg0,rfl⟩:=za hg
 have hgb:=jm hbx
 have b2:=(z31 hbx).2.2.1
 rw [e4] at b2
 have HG:=z8 h
 have HGV:=z8 hg
 obtain⟨i0,hi,hz0,hz1,hz2⟩:=info_parts info3
 have HM:=z8 (World.ownsRow_made (base:=w.heap.size) (e:=3) (size:=1) w #[] 0 (zgH _) (by decide) (by simp))
 have HB0:Hid (Below w.heap.size w (w.alloc (.cells #[] 3))):=z8 ((zgR _ _).alloc (zgH _) _)
 clear h hbx hg
 generalize hsg:(stM st.A qs (vals.length - 1) given)=sg at*
 have HSG:=z8 hsg
 clear hsg
 go_enter Tryz.func108,Tryz.ntmps108
 go_wp2_with fail
 go_loopg [5,6] (st.L.length+1) (fun k tv jv wr=> ∃(i:Nat),k+i=st.L.length+1∧i≤st.L.length∧jv= .int .i64 i∧Hid (wr.ownsRow w.heap.size 3 1 tv i ((jP sg (vals.length - 1) (st.L.take i) []).map (Value.int .i64)))∧Below w.heap.size w wr)
 case atStart=>exact⟨0,rfl,zgO _,rfl,z8 HM.out,HB0.out⟩
 case round=>
  obtain⟨i,hk,hiC,rfl,HOW,hbel⟩:=hrel
  have hHK:=z8 hk
  clear hk
  obtain⟨ag,kg,rfl⟩:=za HOW.out
  have d2:wr.cell? ⟨gb,2,none⟩=some (.slice a4 (nOf st 4) k4):=(hbel.cell (p:=⟨gb,2,none⟩) hgb).trans b2
  have hn4:nOf st 4=st.L.length:=rfl
  rw [hn4] at d2
  have hz0':w.heap.size≤wr.heap.size:=hbel.size
  have HBL:=z8 hbel
  by_cases hlt:i<st.L.length
  ·have hG2:=HG.out.keep hbel
   have hg2:=zc HGV.out fun k e=>hbel.block k (HGV.out.lt k e).2
   obtain⟨x,hx⟩: ∃x,st.L[i]?=some x:=⟨st.L[i],zgE hlt⟩
   have hil:=hG2.tree.il
   obtain⟨u,hu⟩: ∃u,iv[i]?=some u:=⟨iv[i]'(by omega),zgE (by omega)⟩
   have hrow:wr.ownsRow base 160 7 (.slice a4 st.L.length k4) st.L.length ((List.zipWith Lc.cells st.L iv).flatten):=by
    have q:=hG2.tree.own 4 (by omega) (by omega)
    rw [e4] at q
    exact q
   have hur:=hG2.tree.items i x u hx hu
   obtain⟨au,ku,rfl⟩:=za hur
   obtain⟨g,cap,hvv,hbb,hgg⟩:=hrow.form (by omega)
   injection hvv with e1 e2 e3
   subst e1 e3
   have hcell: ∀j z,(x.cells (.slice au x.items.length ku))[j]?=some z→j<7→wr.cell? ⟨g,i*7+j,none⟩=some z:=fun j z hz hj=>zl hrow _ _ ((z55 st.L iv i j x _ hx hu hj).trans hz)
   have q0:wr.cell? ⟨g,i*7,none⟩=some (.int .i64 x.form):=hcell 0 _ rfl (by omega)
   have q1:=hcell 1 _ rfl (by omega)
   have q2:=hcell 2 _ rfl (by omega)
   have q3:=hcell 3 _ rfl (by omega)
   have q4:=hcell 4 _ rfl (by omega)
   have q5:=hcell 5 _ rfl (by omega)
   have q6:=hcell 6 _ rfl (by omega)
   have hst:=z8 (z6h sg (vals.length - 1) hx)
   have hxi:=hLi x (zgM hx)
   have hul:(jP sg (vals.length - 1) (st.L.take i) []).length=i:=by rw [z1a];simp;omega
   have HUL:=z8 hul
   have hlt':(i:Int)<st.L.length:=by omega
   clear hul hx hu hil hrow hbel hcell
   generalize jP sg (vals.length - 1) (st.L.take i) []=U at*
   have hown0:wr.ownsRow w.heap.size 3 1 (.slice ag i kg) U.length (U.map (Value.int .i64)):=by rw [HUL.out];exact HOW.out
   have HLL:=z8 (z5X gb base lb vb ib st V iv cv l av vals vv qs qv given _ w.heap.size base U (.slice ag i kg) x _ wr hG2 hg2 hgl hA hv2 hvl hql hown0 (by have:=HUL.out;omega) hur hxi)
   rw [HSG.out] at HLL
   have HOWN:=z8 hown0
   clear hG2 hown0 hg2 hur
   generalize hz:llM sg (vals.length - 1) U x=z at*
   clear hz
   go_wp2_with fail
   refine HLL.out.mono ?_
   rintro e w2 ⟨rfl,hB2⟩
   have hown2:=zc HOWN.out fun k e=>hB2.block k (HOWN.out.lt k e).2
   rw [HUL.out] at hown2
   have HB2:=z8 (HBL.out.trans (hB2.mono hz0'))
   have hw2:w.heap.size≤w2.heap.size:=HB2.out.size
   clear hB2 HLL q0 q1 q2 q3 q4 q5 q6
   go_wp2_with (at_builtin;go_must (refine wpList_append_lies _ rfl (.tmp 31) (.tmp 33) 60 rfl w.heap.size 3 i0 _ 1 8 Tryz.underlying60 hi hz0 hz1 hz2 rfl (by omega) _ i _ rfl (hown2.alloc _) ⟨w2.heap.size,0,none⟩ 1 1 [.int .i64 z] rfl rfl ?news ?one (by omega) ?mm ?bys ?base (w2.heap.size+1) (by simp) ?rest))
   case news=>exact World.news_of_block (heap_alloc_new w2 _)
   case one=>intro u hu;simp at hu;subst hu;rfl
   case mm=>unfold maxLen;omega
   case bys=>omega
   case base=>simp;omega
   case rest=>
    intro gb2 cap2 w3 hown3 hgrow hat hlt2
    have hB3:=z8 (Below.grown (HB2.out.alloc hw2 _) hgrow (by simp;omega) fun k e=>(hown2.lt k e).1)
    have hown4:Hid (w3.ownsRow w.heap.size 3 1 (.slice (some ⟨gb2,0,none⟩) (i+1) cap2) (i+1) ((jP sg (vals.length - 1) (st.L.take (i+1)) []).map (Value.int .i64))):=z8 (by rw [hst.out];simpa using hown3)
    clear hown3 hgrow hat
    go_wp2_with fail
    have hk:=hHK.out
    go_roundg (st.L.length - i)
    case measure=>omega
    case rel=>exact⟨i+1,by omega,by omega,by go_num,hown4,hB3.out⟩
  ·have hlt': ¬(i:Int)<st.L.length:=by omega
   have hiC':i=st.L.length:=by omega
   have hfin:wr.ownsRow w.heap.size 3 1 (.slice ag i kg) (jP sg (vals.length - 1) st.L []).length ((jP sg (vals.length - 1) st.L []).map (Value.int .i64)):=by
    have hq:=HOW.out
    rw [z1a]
    rw [hiC',List.take_length] at hq
    simpa [hiC'] using hq
   have HF:=z8 hfin
   clear hfin hiC' hbel
   go_wp2_with fail
   go_ret
   exact⟨_,rfl,HF.out,HBL.out⟩
theorem zbb (A:List As)(W ls:List Int){i:Nat}{x:As}(h:A[i]?=some x):ltM (A.take (i+1)) W ls=ltM (A.take i) W ls++[z6a (zb W x.conds) (zb ls x.to_)]:=by
 rw [List.take_add_one,h]
 simp [ltM]
theorem z80 (gb base lb vb ib:Nat)(st:St)(V:Nat→Value)(iv cv:List Value)(l:List (zgS×zgS))(av:Value)(vals:List zgS)(vv:Value)(qs:List zgS)(qv:Value)(given:List Int)(gv:Value)(wb:Nat)(W:List Int)(wv:Value)(w:World)(h:Gd w gb base lb vb st V iv cv l av vals vv qs qv)(hg:w.ownsRow ib 3 1 gv given.length (given.map (Value.int .i64)))(hgl:given.length≤100000)(hA:st.A.length≤100000)(hv2:1≤vals.length)(hvl:vals.length≤100000)(hql:qs.length≤100000)(hL:LOk st)(hw:w.ownsRow wb 3 1 wv W.length (W.map (Value.int .i64)))(hwl:W.length≤100000):
  Calls Tryz.prog 65 #[.pointer (some ⟨gb,0,none⟩),wv,gv] w fun e w'=>z3f (ltM st.A W (jP (stM st.A qs (vals.length - 1) given) (vals.length - 1) st.L [])) w e w':=by
 have HLS:=z8 (fun n=>z5n gb base lb vb ib st V iv cv l av vals vv qs qv given gv (w.drewN n) (h.drewN n) (zc (w':=w.drewN n) hg fun k e=>rfl) hgl hA hv2 hvl hql hL)
 have hul:(jP (stM st.A qs (vals.length - 1) given) (vals.length - 1) st.L []).length≤100000:=by rw [z1a];simpa using hL.1
 obtain⟨en,hbx⟩:=h.box
 obtain⟨a3,k3,e3⟩:=za (h.tree.own 3 (by omega) (by omega))
 obtain⟨ag0,kg0,rfl⟩:=za hg
 obtain⟨aw,kw,rfl⟩:=za hw
 have hgb:=jm hbx
 have b1:=(z31 hbx).2.1
 rw [e3] at b1
 have HG:=z8 h
 have HWV:=z8 hw
 clear h hbx hg hw
 generalize jP (stM st.A qs (vals.length - 1) given) (vals.length - 1) st.L []=LS at*
 go_enter Tryz.func65,Tryz.ntmps65
 go_wp2_with fail
 refine(HLS.out 0).mono ?_
 rintro e wc ⟨lv,rfl,hlo,hlb⟩
 have hlb:Below w.heap.size w wc:=⟨hlb.os,hlb.tape,hlb.output,hlb.size,hlb.block⟩
 have hlo:wc.ownsRow w.heap.size 3 1 lv LS.length (LS.map (Value.int .i64)):=hlo
 obtain⟨al,kl,rfl⟩:=za hlo
 have HB:=z8 hlb
 have HLO:=z8 hlo
 have hzc:w.heap.size≤wc.heap.size:=hlb.size
 have hgc:gb<wc.heap.size:=by omega
 have d1:wc.cell? ⟨gb,1,none⟩=some (.slice a3 (nOf st 3) k3):=(hlb.cell (p:=⟨gb,1,none⟩) hgb).trans b1
 obtain⟨i0,hi,hz0,hz1,hz2⟩:=info_parts info3
 have HM:=z8 (World.ownsRow_made (base:=wc.heap.size) (e:=3) (size:=1) wc #[] 0 (zgH _) (by decide) (by simp))
 have HB0:Hid (Below wc.heap.size wc (wc.alloc (.cells #[] 3))):=z8 ((zgR _ _).alloc (zgH _) _)
 have HR:Hid (wc.ownsRow base 84 3 (.slice a3 st.A.length k3) st.A.length ((st.A.map As.cells).flatten)):=z8 (by
  have q:=(HG.out.keep hlb).tree.own 3 (by omega) (by omega)
  rw [e3] at q
  exact q)
 have HWC:=z8 (zc HWV.out fun k e=>hlb.block k (HWV.out.lt k e).2)
 clear hlb hlo HLS HWV HG
 go_wp2_with fail
 go_loopg [8,9] (st.A.length+1) (fun k tv jv wr=> ∃(i:Nat),k+i=st.A.length+1∧i≤st.A.length∧jv= .int .i64 i∧Hid (wr.ownsRow wc.heap.size 3 1 tv i ((ltM (st.A.take i) W LS).map (Value.int .i64)))∧Below wc.heap.size wc wr)
 case atStart=>exact⟨0,rfl,zgO _,rfl,z8 HM.out,HB0.out⟩
 case round=>
  obtain⟨i,hk,hiC,rfl,HOW,hbel⟩:=hrel
  have hHK:=z8 hk
  clear hk
  obtain⟨ag,kg,rfl⟩:=za HOW.out
  have d1':wr.cell? ⟨gb,1,none⟩=some (.slice a3 (nOf st 3) k3):=(hbel.cell (p:=⟨gb,1,none⟩) hgc).trans d1
  have hn3:nOf st 3=st.A.length:=rfl
  rw [hn3] at d1'
  have hz0':wc.heap.size≤wr.heap.size:=hbel.size
  have HBL:=z8 hbel
  by_cases hlt:i<st.A.length
  ·obtain⟨x,hx⟩: ∃x,st.A[i]?=some x:=⟨st.A[i],zgE hlt⟩
   obtain⟨g,cap,hvv,hbb,hgg⟩:=HR.out.form (by omega)
   injection hvv with u1 u2 u3
   subst u1 u3
   have hcell: ∀j z,x.cells[j]?=some z→j<3→wr.cell? ⟨g,i*3+j,none⟩=some z:=fun j z hz hj=>(hbel.cell (p:=⟨g,i*3+j,none⟩) hgg).trans (zl HR.out _ _ ((zS As.cells 3 As.cells3 st.A i j x hx hj).trans hz))
   have q0:wr.cell? ⟨g,i*3,none⟩=some (.string x.by_):=hcell 0 _ rfl (by omega)
   have q1:=hcell 1 _ rfl (by omega)
   have q2:=hcell 2 _ rfl (by omega)
   have hst:=z8 (zbb st.A W LS hx)
   have hlt':(i:Int)<st.A.length:=by omega
   have hBn:=hbel.alloc hbel.size (.cells #[.string x.by_,.int .i64 x.to_,.int .i64 x.conds] 84)
   have HBN:=z8 hBn
   have hzn:(wr.alloc (.cells #[.string x.by_,.int .i64 x.to_,.int .i64 x.conds] 84)).heap.size=wr.heap.size+1:=by simp
   have hown0:(wr.alloc (.cells #[.string x.by_,.int .i64 x.to_,.int .i64 x.conds] 84)).ownsRow wc.heap.size 3 1 (.slice ag i kg) i ((ltM (st.A.take i) W LS).map (Value.int .i64)):=HOW.out.alloc _
   have HL1:=z8 (jn wb W _ x.conds (wr.alloc (.cells #[.string x.by_,.int .i64 x.to_,.int .i64 x.conds] 84)) (zc HWC.out fun k e=>hBn.block k (HWC.out.lt k e).2) hwl)
   have HL2:=z8 (jn w.heap.size LS _ x.to_ (wr.alloc (.cells #[.string x.by_,.int .i64 x.to_,.int .i64 x.conds] 84)) (zc HLO.out fun k e=>hBn.block k (HLO.out.lt k e).2) hul)
   have HOW0:=z8 hown0
   clear hx hbel hcell hBn hown0
   generalize zb W x.conds=t1 at*
   generalize zb LS x.to_=t2 at*
   have HLO3:=z8 (fun W'=>z62 t1 t2 W')
   generalize z6a t1 t2=z at*
   go_wp2_with fail
   refine HL1.out.mono ?_
   rintro e w2 ⟨rfl,rfl⟩
   go_wp2_with fail
   refine HL2.out.mono ?_
   rintro e w2 ⟨rfl,rfl⟩
   go_wp2_with fail
   refine(HLO3.out _).mono ?_
   rintro e w2 ⟨rfl,rfl⟩
   clear HL1 HL2 HLO3
   generalize (wr.alloc (.cells #[.string x.by_,.int .i64 x.to_,.int .i64 x.conds] 84))=w2 at*
   have hw2:wc.heap.size≤w2.heap.size:=by omega
   clear hzn
   go_wp2_with (at_builtin;go_must (refine wpList_append_lies _ rfl (.tmp 47) (.tmp 49) 60 rfl wc.heap.size 3 i0 _ 1 8 Tryz.underlying60 hi hz0 hz1 hz2 rfl (by omega) _ i _ rfl (HOW0.out.alloc _) ⟨w2.heap.size,0,none⟩ 1 1 [.int .i64 z] rfl rfl ?news ?one (by omega) ?mm ?bys ?base (w2.heap.size+1) (by simp) ?rest))
   case news=>exact World.news_of_block (heap_alloc_new w2 _)
   case one=>intro u hu;simp at hu;subst hu;rfl
   case mm=>unfold maxLen;omega
   case bys=>omega
   case base=>simp;omega
   case rest=>
    intro gb2 cap2 w3 hown3 hgrow hat hlt2
    have hB3:=z8 (Below.grown (HBN.out.alloc hw2 _) hgrow (by simp;omega) fun k e=>(HOW0.out.lt k e).1)
    have hown4:Hid (w3.ownsRow wc.heap.size 3 1 (.slice (some ⟨gb2,0,none⟩) (i+1) cap2) (i+1) ((ltM (st.A.take (i+1)) W LS).map (Value.int .i64))):=z8 (by rw [hst.out];simpa using hown3)
    clear hown3 hgrow hat
    go_wp2_with fail
    have hk:=hHK.out
    go_roundg (st.A.length - i)
    case measure=>omega
    case rel=>exact⟨i+1,by omega,by omega,by go_num,hown4,hB3.out⟩
  ·have hlt': ¬(i:Int)<st.A.length:=by omega
   have hiC':i=st.A.length:=by omega
   have hfin:wr.ownsRow w.heap.size 3 1 (.slice ag i kg) (ltM st.A W LS).length ((ltM st.A W LS).map (Value.int .i64)):=by
    have hq:=HOW.out
    rw [hiC',List.take_length] at hq
    have e:(ltM st.A W LS).length=i:=by simp [ltM,hiC']
    rw [e,hiC']
    exact zu hq hzc
   have HF:=z8 hfin
   have HBE:=z8 (HB.out.trans (hbel.mono HB.out.size))
   clear hfin hiC' hbel
   go_wp2_with fail
   go_ret
   exact⟨_,rfl,HF.out,HBE.out⟩
theorem z1m (gb base lb vb:Nat)(st:St)(V:Nat→Value)(iv cv:List Value)(l:List (zgS×zgS))(av:Value)(vals:List zgS)(vv:Value)(qs:List zgS)(qv:Value)(w:World)(h:Gd w gb base lb vb st V iv cv l av vals vv qs qv)(hE:st.E.length≤100000)(hC:st.C.length≤100000)(hCl: ∀c∈st.C,c.length≤100000)(hvl:vals.length≤100000)(hll:l.length≤100000)(hls: ∀p∈l,p.2.size≤600)(hEs: ∀x∈st.E,x.text.size≤600)
  (hW: ∀x∈zf l st.E [],x.text.size≤100000000) (hA:st.A.length≤100000) (hv2:1≤vals.length) (hql:qs.length≤100000) (hL:LOk st):
  Calls Tryz.prog 35 #[.pointer (some ⟨gb,0,none⟩)] w fun e w'=>z3f (gvM st.A st.L qs (vals.length - 1) (jZ vals (zf l st.E []) st.C []) st.A.length) w e w':=by
 have HCL:=z8 (z1s gb base lb vb st V iv cv l av vals vv qs qv w h hE hC hCl hvl hll hls hEs hW)
 have hLl:(jZ vals (zf l st.E []) st.C []).length≤100000:=by rw [z0v];simpa using hC
 generalize (jZ vals (zf l st.E []) st.C [])=LV at*
 obtain⟨en,hbx⟩:=h.box
 obtain⟨a3,k3,e3⟩:=za (h.tree.own 3 (by omega) (by omega))
 have hgb:=jm hbx
 have b1:=(z31 hbx).2.1
 rw [e3] at b1
 have HG:=z8 h
 clear h hbx hls hEs hW e3
 go_enter Tryz.func35,Tryz.ntmps35
 go_wp2_with fail
 refine HCL.out.mono ?_
 rintro e wc ⟨lv,rfl,hlo,hlb⟩
 obtain⟨al,kl,rfl⟩:=za hlo
 have hzc:w.heap.size≤wc.heap.size:=hlb.size
 have hgc:gb<wc.heap.size:=by omega
 have d1:wc.cell? ⟨gb,1,none⟩=some (.slice a3 (nOf st 3) k3):=(hlb.cell (p:=⟨gb,1,none⟩) hgb).trans b1
 have HG1:=z8 (HG.out.keep hlb)
 have HB:=z8 hlb
 have HLO:=z8 hlo
 have HM:=z8 (World.ownsRow_made (base:=wc.heap.size) (e:=3) (size:=1) wc #[] 0 (zgH _) (by decide) (by simp))
 have HB0:Hid (Below wc.heap.size wc (wc.alloc (.cells #[] 3))):=z8 ((zgR _ _).alloc (zgH _) _)
 clear hlb hlo HCL HG b1
 go_wp2_with fail
 go_loopg [4,5] (st.A.length+1) (fun k tv jv wr=> ∃(i:Nat),k+i=st.A.length+1∧i≤st.A.length∧jv= .int .i64 i∧Hid (wr.ownsRow wc.heap.size 3 1 tv (gvM st.A st.L qs (vals.length - 1) LV i).length ((gvM st.A st.L qs (vals.length - 1) LV i).map (Value.int .i64)))∧Below wc.heap.size wc wr)
 case atStart=>exact⟨0,rfl,zgO _,rfl,z8 HM.out,HB0.out⟩
 case round=>
  obtain⟨i,hk,hiC,rfl,HOW,hbel⟩:=hrel
  have hHK:=z8 hk
  clear hk
  obtain⟨ag,kg,rfl⟩:=za HOW.out
  have d1':wr.cell? ⟨gb,1,none⟩=some (.slice a3 (nOf st 3) k3):=(hbel.cell (p:=⟨gb,1,none⟩) hgc).trans d1
  have hn3:nOf st 3=st.A.length:=rfl
  rw [hn3] at d1'
  have HBL:=z8 hbel
  by_cases hlt:i<st.A.length
  ·have hgl:(gvM st.A st.L qs (vals.length - 1) LV i).length≤100000:=by
    cases i with
    |zero=>exact zgO _
    |succ r=>rw [z7Q];exact hA
   have HLI:=z8 (z80 gb base lb vb wc.heap.size st V iv cv l av vals vv qs qv (gvM st.A st.L qs (vals.length - 1) LV i) _ w.heap.size LV _ wr (HG1.out.keep hbel) HOW.out hgl hA hv2 hvl hql hL (zc HLO.out fun k e=>hbel.block k (HLO.out.lt k e).2) hLl)
   have hst:Hid (ltM st.A LV (jP (stM st.A qs (vals.length - 1) (gvM st.A st.L qs (vals.length - 1) LV i)) (vals.length - 1) st.L [])=gvM st.A st.L qs (vals.length - 1) LV (i+1)):=z8 rfl
   rw [hst.out] at HLI
   have hlt':(i:Int)<st.A.length:=by omega
   clear hbel hst
   generalize gvM st.A st.L qs (vals.length - 1) LV i=G0 at*
   generalize hG1:gvM st.A st.L qs (vals.length - 1) LV (i+1)=G1 at*
   have HG1':=z8 hG1
   clear hG1
   go_wp2_with fail
   refine HLI.out.mono ?_
   rintro e w2 ⟨v2,rfl,ho2,hB2⟩
   obtain⟨a2,k2,rfl⟩:=za ho2
   have HO2:=z8 (zu ho2 HBL.out.size)
   have HB2:=z8 (HBL.out.trans (hB2.mono HBL.out.size))
   clear ho2 hB2 HLI
   go_wp2_with fail
   have hk:=hHK.out
   go_roundg (st.A.length - i)
   case measure=>omega
   case rel=>exact⟨i+1,by omega,by omega,by go_num,by rw [HG1'.out];exact HO2,HB2.out⟩
  ·have hlt': ¬(i:Int)<st.A.length:=by omega
   have hiC':i=st.A.length:=by omega
   have HF:Hid (wr.ownsRow w.heap.size 3 1 (.slice ag (gvM st.A st.L qs (vals.length - 1) LV i).length kg) (gvM st.A st.L qs (vals.length - 1) LV st.A.length).length ((gvM st.A st.L qs (vals.length - 1) LV st.A.length).map (Value.int .i64))):=z8 (by
    have hq:=HOW.out
    rw [hiC'] at hq ⊢
    exact zu hq hzc)
   have HBE:=z8 (HB.out.trans (hbel.mono HB.out.size))
   clear hiC' hbel
   go_wp2_with fail
   go_ret
   exact⟨_,rfl,HF.out,HBE.out⟩
def quM (s a v q:zgS)(st:St):zgS×Int:=
 if grM s a v q st !=0 then(⟨#[]⟩,grM s a v q st) else
 (vaM (vlM v).1 (stM st.A (rqM q).1 ((vlM v).1.length - 1) (gvM st.A st.L (rqM q).1 ((vlM v).1.length - 1) (jZ (vlM v).1 (zf (raM a).1 st.E []) st.C []) st.A.length) pol),0)
theorem zbc (s a v q:zgS)(st:St)(w:World)(h:Calls Tryz.prog 34 #[.string s,.string a,.string v,.string q] w fun e w'=>z2d s a v q st w e w')(hE:st.E.length≤100000)(hA:st.A.length≤100000)(hC:st.C.length≤100000)(hCl: ∀c∈st.C,c.length≤100000)(hvl:(vlM v).1.length≤100000)(hll:(raM a).1.length≤100000)(hls: ∀p∈(raM a).1,p.2.size≤600)(hEs: ∀x∈st.E,x.text.size≤600)(hL:LOk st)
  (hW:grM s a v q st=0→ ∀x∈zf (raM a).1 st.E [],x.text.size≤100000000) (hv2:grM s a v q st=0→1≤(vlM v).1.length):
  Calls Tryz.prog 19 #[.string s,.string a,.string v,.string q] w fun e w'=>z0o (quM s a v q st).1 (quM s a v q st).2 w e w':=by
 have HC:=z8 h
 have hql:(rqM q).1.length≤100000:=by have:=z98 q;omega
 clear h
 go_enter Tryz.func19,Tryz.ntmps19
 go_wp2_with fail
 refine HC.out.mono ?_
 rintro e w1 ⟨x1,x2,x3,x4,x5,x6,x7,rfl,hB1,⟨a1,n1,k1,rfl⟩,⟨a2,n2,k2,rfl⟩,⟨a3,n3,k3,rfl⟩,⟨a4,n4,k4,rfl⟩,⟨a5,n5,k5,rfl⟩,⟨a6,n6,k6,rfl⟩,⟨a7,n7,k7,rfl⟩,hG⟩
 have hco:Hid (quM s a v q st=if grM s a v q st !=0 then(⟨#[]⟩,grM s a v q st) else
  (vaM (vlM v).1 (stM st.A (rqM q).1 ((vlM v).1.length - 1) (gvM st.A st.L (rqM q).1 ((vlM v).1.length - 1) (jZ (vlM v).1 (zf (raM a).1 st.E []) st.C []) st.A.length) pol),0)):=z8 rfl
 generalize grM s a v q st=E at*
 have hB2:=hB1.alloc hB1.size (.cells #[.int .i64 E,.slice a1 n1 k1,.slice a2 n2 k2,.slice a3 n3 k3,.slice a4 n4 k4,.slice a5 n5 k5,.slice a6 n6 k6,.slice a7 n7 k7] 58)
 have hX2:=heap_alloc_new w1 (.cells #[.int .i64 E,.slice a1 n1 k1,.slice a2 n2 k2,.slice a3 n3 k3,.slice a4 n4 k4,.slice a5 n5 k5,.slice a6 n6 k6,.slice a7 n7 k7] 58)
 have HB2:=z8 hB2
 cases hEz:(E !=0)
 case true=>
  have hres:Hid (quM s a v q st=(⟨#[]⟩,E)):=z8 (by rw [hco.out,hEz];rfl)
  clear hG hB1 hX2 hB2
  go_wp2_with fail
  go_quiet (fail)
  go_wp2_with fail
  go_ret2
  exact⟨by rw [hres.out];rfl,⟨HB2.out.os,HB2.out.tape,HB2.out.output,HB2.out.size,HB2.out.block⟩⟩
 have hE0:E=0:=by simpa using hEz
 subst hE0
 obtain⟨V,iv,cv,e1,e2,e3,e4,hT,hl,hvv,hqq⟩:=hG rfl
 have hn6:n6=(vlM v).1.length:=by
  obtain⟨qa,qk,q⟩:=za hvv
  injection q with _ q _
 have hGd:Gd (w1.alloc (.cells #[.int .i64 0,.slice a1 n1 k1,.slice a2 n2 k2,.slice a3 n3 k3,.slice a4 n4 k4,.slice a5 n5 k5,.slice a6 n6 k6,.slice a7 n7 k7] 58)) w1.heap.size w.heap.size w.heap.size w.heap.size st V iv cv (raM a).1 (.slice a5 n5 k5) (vlM v).1 (.slice a6 n6 k6) (rqM q).1 (.slice a7 n7 k7):=
  ⟨⟨0,by rw [←e1,←e2,←e3,←e4];exact hX2⟩,hT.same fun k _ hk=>zgJ _ _ _ hk,hl.alloc _,hvv.alloc _,hqq.alloc _⟩
 have HGL:=z8 (z1m _ _ _ _ st V iv cv (raM a).1 _ (vlM v).1 _ (rqM q).1 _ _ hGd hE hC hCl hvl hll hls hEs (hW rfl) hA (hv2 rfl) hql hL)
 have hres:Hid (quM s a v q st=(vaM (vlM v).1 (stM st.A (rqM q).1 ((vlM v).1.length - 1) (gvM st.A st.L (rqM q).1 ((vlM v).1.length - 1) (jZ (vlM v).1 (zf (raM a).1 st.E []) st.C []) st.A.length) pol),0)):=z8 (by rw [hco.out];rfl)
 have hgl:(gvM st.A st.L (rqM q).1 ((vlM v).1.length - 1) (jZ (vlM v).1 (zf (raM a).1 st.E []) st.C []) st.A.length).length≤100000:=by
  cases st.A.length with
  |zero=>exact zgO _
  |succ r=>rw [z7Q];exact hA
 generalize gvM st.A st.L (rqM q).1 ((vlM v).1.length - 1) (jZ (vlM v).1 (zf (raM a).1 st.E []) st.C []) st.A.length=GV at*
 have HGD:=z8 hGd
 have hz1:w.heap.size≤w1.heap.size:=hB1.size
 have HN:=z8 hn6
 have hv2':=hv2 rfl
 clear hco hG hEz hB1 hB2 hT hl hvv hqq e1 e2 e3 e4 hGd hX2 hn6 hW hv2
 go_wp2_with fail
 refine HGL.out.mono ?_
 rintro e w2 ⟨lv,rfl,hlv,hB3⟩
 have hG2:=HGD.out.keep hB3
 obtain⟨al,kl,rfl⟩:=za hlv
 have HST:=z8 (z30 _ _ _ _ _ st V iv cv (raM a).1 _ (vlM v).1 _ (rqM q).1 _ GV _ pol w2 hG2 hlv hgl hA hv2' hvl hql)
 unfold pol at HST hres
 have hc6:w2.cell? ⟨w1.heap.size,6,none⟩=some (.slice a6 (vlM v).1.length k6):=by
  obtain⟨e,he⟩:=hG2.box
  rw [←HN.out]
  exact(z31 he).2.2.2.2.2.2.1
 have hv3:w2.ownsRow w.heap.size 9 1 (.slice a6 (vlM v).1.length k6) (vlM v).1.length ((vlM v).1.map Value.string):=by have q:=hG2.vals;rw [HN.out] at q;exact q
 have HVA:=z8 (fun i=>z3Z w1.heap.size w.heap.size (vlM v).1 a6 k6 i w2 hc6 hv3 hvl)
 have HB3:=z8 (HB2.out.trans (hB3.mono HB2.out.size))
 clear hG2 hB3 hlv hc6 hv3 HGL
 generalize stM st.A (rqM q).1 ((vlM v).1.length - 1) GV ⟨#[80,79,76,73,67,89]⟩=lev at*
 go_wp2_with fail
 refine HST.out.mono ?_
 rintro e w3 ⟨rfl,rfl⟩
 have HVL:=z8 (HVA.out lev)
 generalize vaM (vlM v).1 lev=D at*
 clear HVA HST
 go_wp2_with fail
 refine HVL.out.mono ?_
 rintro e w4 ⟨rfl,rfl⟩
 go_wp2_with fail
 go_ret2
 exact⟨by rw [hres.out];rfl,HB3.out⟩
theorem zaZ (sg:zgS→Int)(top:Nat): ∀(xs:List Lc) (ls:List Int),∃t,jP sg top xs ls=ls++t:=by
 intro xs
 induction xs with
 |nil=>intro ls;exact⟨[],by simp [jP]⟩
 |cons x xs ih=>
  intro ls
  obtain⟨t,ht⟩:=ih (ls++[llM sg top ls x])
  exact⟨[llM sg top ls x]++t,by unfold jP;rw [ht,List.append_assoc]⟩
theorem z2z (sg:zgS→Int)(top:Nat){L:List Lc}{i:Nat}{x:Lc}(h:L[i]?=some x):
  zb (jP sg top L []) (i:Int)=llM sg top (jP sg top (L.take i) []) x∧ ∀j:Nat,j<i→zb (jP sg top (L.take i) []) (j:Int)=zb (jP sg top L []) (j:Int):=by
 obtain⟨hl,hx⟩:=zgF.1 h
 have e:jP sg top L []=jP sg top (L.drop (i+1)) (jP sg top (L.take i) []++[llM sg top (jP sg top (L.take i) []) x]):=by
  conv=>lhs;rw [←List.take_append_drop (i+1) L,z3A,z6h sg top h]
 have hlen:(jP sg top (L.take i) []).length=i:=by rw [z1a];simp;omega
 obtain⟨t,ht⟩:=zaZ sg top (L.drop (i+1)) (jP sg top (L.take i) []++[llM sg top (jP sg top (L.take i) []) x])
 rw [e,ht]
 refine⟨?_,fun j hj=> ?_⟩
 ·rw [z0i,if_pos (by simp [hlen]),z0i,if_neg (by omega),hlen,Nat.sub_self,z1j];rfl
 ·rw [z0i,if_pos (by simp [hlen];omega),z0i,if_pos (by omega)]
theorem z3F {X:Nat→Prop}{w:World}{L:List Lc}: ∀{f:Nat} {v:Value} {a i:Nat},RefLX X w L f v a i→a≤i:=by
 intro f
 induction f with
 |zero=>intro v a i h;exact absurd h id
 |succ f ih=>
  intro v a i ⟨x,hx,h⟩
  rcases h with⟨h1,h2,p,h3⟩|⟨h1,v1,v2,j,k,p,h2,h3,h4,h8,h5,h6,h7⟩|⟨h1,vs,c,h2,h3,h4,h5,h6⟩
  ·omega
  ·have:=ih h6;have:=ih h7;omega
  ·have gen: ∀(vs:List Value) (is:List Int) (a e:Nat),SegV (fun v a i=>RefLX X w L f v a i) vs is a e→a≤e:=by
    intro vs
    induction vs with
    |nil=>
     intro is a e h
     cases is with
     |nil=>have h:a=e:=h;omega
     |cons i is=>exact absurd h id
    |cons v vs ih2=>
     intro is a e h
     cases is with
     |nil=>exact absurd h id
     |cons i is=>
      obtain⟨j,_,q2,q3⟩:=h
      have:=ih q2;have:=ih2 is _ _ q3;omega
   exact gen _ _ _ _ h6
theorem z7W {X:Nat→Prop}{w:World}{L:List Lc}{f:Nat}: ∀(vs:List Value) (is:List Int) (a e:Nat),SegV (fun v a i=>RefLX X w L f v a i) vs is a e→a≤e∧(∀it∈is,∃j:Nat,it=(j:Int)∧j<e)∧ ∀(n:Nat) (v:Value) (it:Int),vs[n]?=some v→is[n]?=some it→ ∃a' j:Nat,it=(j:Int)∧RefLX X w L f v a' j:=by
 intro vs
 induction vs with
 |nil=>
  intro is a e h
  cases is with
  |nil=>have h:a=e:=h;exact⟨by omega,fun it h=>(by cases h),fun n v it h=>by simp at h⟩
  |cons i is=>exact absurd h id
 |cons v vs ih=>
  intro is a e h
  cases is with
  |nil=>exact absurd h id
  |cons i is=>
   obtain⟨j,q1,q2,q3⟩:=h
   have:=z3F q2
   obtain⟨r1,r2,r3⟩:=ih is _ _ q3
   refine⟨by omega,fun it h=> ?_,fun n u it h1 h2=> ?_⟩
   ·rcases List.mem_cons.1 h with e|e
    ·exact⟨j,by rw [e,q1],by omega⟩
    ·exact r2 it e
   ·cases n with
    |zero=>
     have e1:v=u:=by simpa using h1
     have e2:i=it:=by simpa using h2
     subst e1 e2
     exact⟨a,j,q1,q2⟩
    |succ n=>exact r3 n u it (by simpa using h1) (by simpa using h2)
theorem zcM {q:zgS}{l:List zgS}{ok:Bool}(h:(ok=false∧(rnM q).2=true∧q.size≠0)∨(rnM q=(l,false)∧q.size≠0∧ok=(decide (0≤l.length)&&decide (l.length≤4)))∨(q.size=0∧l=[]∧ok=decide (0=0))):
  (rqM q).2= !(ok&&decide (plM pol l 0<0))∧((rqM q).2=false→(rqM q).1=l):=by
 rcases h with⟨rfl,h2,h3⟩|⟨h1,h2,rfl⟩|⟨h1,rfl,rfl⟩
 ·have e:rqM q=([],true):=by unfold rqM;rw [if_neg h3,h2];rfl
  rw [e]
  exact⟨rfl,fun e=>by cases e⟩
 ·have hp:=z2l pol l 0
  by_cases h4:4<l.length
  ·have e:rqM q=([],true):=by unfold rqM;rw [if_neg h2,h1];simp [h4]
   rw [e]
   refine⟨?_,fun e=>by cases e⟩
   have: ¬l.length≤4:=by omega
   simp [this]
  ·by_cases h5:plM pol l 0= -1
   ·have e:rqM q=(l,false):=by unfold rqM;rw [if_neg h2,h1];simp [h4,h5]
    rw [e]
    refine⟨?_,fun _=>rfl⟩
    have:l.length≤4:=by omega
    simp [this,h5]
   ·have e:rqM q=([],true):=by unfold rqM;rw [if_neg h2,h1];simp [h5]
    rw [e]
    refine⟨?_,fun e=>by cases e⟩
    have: ¬plM pol l 0<0:=by omega
    simp [this]
 ·have e:rqM q=([],false):=by unfold rqM;rw [if_pos h1]
  rw [e]
  exact⟨rfl,fun _=>rfl⟩
theorem z34 (s a v q:zgS)(st:St)(w:World)(hs:s.size≤600)(ha:a.size≤100)(hv:v.size≤60)(hq:q.size≤60)(h:Calls Tryz.prog 49 #[.string s] w fun e w'=>zbI s st w e w')(hg:jX st.E)(hcov:zci st)(hA:st.A.length≤100000)(hCl: ∀c∈st.C,c.length≤100000)(hvl:(vlM v).1.length≤100000):
  Calls Tryz.prog 57 #[.string s,.string a,.string v,.string q,.bool true] w fun e w'=>zbS s a v q st w e w':=by
 have hs': ¬(600:Int)<s.size:=by omega
 have ha': ¬(100:Int)<a.size:=by omega
 have hv': ¬(60:Int)<v.size:=by omega
 have hq': ¬(60:Int)<q.size:=by omega
 have hgr:Hid (grM s a v q st=if(ckM s st).1 !=0 then(ckM s st).1 else if(raM a).2||(vlM v).2||(rqM q).2 then 6 else if hoM (vlM v).1 st.C then 7 else 0):=z8 (by unfold grM;rw [if_neg];simp;omega)
 have H:=z8 h
 have HG:=z8 (zgI hg hCl)
 have HA:=z8 (fun W=>z4m a W (by omega))
 have HV:=z8 (fun W=>z8D v W (by omega))
 obtain⟨fk,hcov⟩:=hcov
 obtain⟨A,A0,A1,AP⟩:=SegB.parts _ _ _ hcov
 have hAle: ∀i,i<st.A.length→A i≤A (i+1):=fun i hi=>by
  obtain⟨k,_,q2,q3⟩:=AP i _ (zgE hi)
  have:=q2.a_le
  omega
 have HP:=z8 (zgI AP (zcC (vals:=(vlM v).1) A0 A1 hAle))
 clear h hg hCl hcov A0 A1 AP hAle
 go_enter Tryz.func57,Tryz.ntmps57
 go_wp2_with fail
 refine H.out.mono ?_
 rintro e w1 ⟨lv,rfl,hB,⟨a1,n1,k1,hlv⟩,htr⟩
 subst hlv
 have HB1:=z8 hB
 have HTR:=z8 htr
 clear hB htr H
 generalize ckM s st=ck at*
 obtain⟨ck1,ck2⟩:=ck
 simp only at*
 cases hz:(ck1 !=0)
 case true=>
  have hres:Hid (grM s a v q st=ck1):=z8 (by rw [hgr.out,hz];rfl)
  go_wp2_with fail
  (try simp only [Exit.inBlock,Exit.then])
  refine bodyPost_ret (z00 rfl _ _ _) rfl ?_
  exact⟨_,_,_,_,by rw [hres.out];simp,HB1.out,zm,zm,zm,zm,fun e=>by rw [hres.out] at e;subst e;simp at hz⟩
 have hck0:ck1=0:=by simpa using hz
 subst hck0
 obtain⟨f2,ps,how,hseg⟩:=HTR.out rfl
 have hn1:n1=st.A.length:=by
  obtain⟨a2,k2,e2⟩:=jD how
  injection e2
 subst hn1
 have HW:=z8 how
 have HS:=z8 hseg
 have hpl:=z8 (SegA.len _ _ _ _ _ _ hseg)
 have HA1:=z8 (HA.out w1)
 clear how hseg HTR hz HA
 go_wp2_with fail
 refine HA1.out.mono ?_
 rintro e w2 ⟨a2,n2,k2,rfl,hB2,hO2⟩
 have HB2:=z8 hB2
 have HO2:=z8 hO2
 have HB12:=z8 (HB1.out.trans (hB2.mono HB1.out.size))
 have HV1:=z8 (HV.out w2)
 clear hB2 hO2 HV HA1
 go_wp2_with fail
 refine HV1.out.mono ?_
 rintro e w3 ⟨a3,n3,k3,rfl,hB3,hO3⟩
 have HB3:=z8 hB3
 have HO3:=z8 hO3
 have HB13:=z8 (HB12.out.trans (hB3.mono HB12.out.size))
 have HB23:=z8 (HB2.out.trans (hB3.mono HB2.out.size))
 clear hB3 hO3 HV1
 have HN:=z8 (z5E q 0 4 w3 (by omega) (by omega) (by omega))
 go_wp2_with fail
 refine HN.out.mono ?_
 rintro e w5 ⟨a5,n5,k5,l5,ok,rfl,hB5,hO5,hl5,hcs⟩
 have hn5:n5=l5.length:=by
  obtain⟨qa,qk,q⟩:=za hO5
  injection q with _ q _
 subst hn5
 have HPL:=z8 (z4D _ l5 _ pol w5 hO5 (by omega))
 have hpr:=z2l pol l5 0
 have hzq:Hid ((rqM q).2= !(ok&&decide (plM pol l5 0<0))∧((rqM q).2=false→(rqM q).1=l5)):=z8 (zcM hcs)
 unfold pol at HPL hzq hpr
 generalize plM ⟨#[80,79,76,73,67,89]⟩ l5 0=pz at*
 have HO5:=z8 hO5
 have HB35:=z8 hB5
 have HB25:=z8 (HB3.out.trans (hB5.mono HB3.out.size))
 have HB15:=z8 (HB13.out.trans (hB5.mono HB13.out.size))
 have HB35':=z8 (HB23.out.trans (hB5.mono HB23.out.size))
 clear hB5 hO5 hcs HN hpr
 go_wp2_with fail
 refine HPL.out.mono ?_
 rintro e w6 ⟨rfl,rfl⟩
 clear HPL
 have hzz:Hid (∀b:Bool,(!(ok&&decide (pz<0)))=b→(rqM q).2=b):=z8 fun b e=>by rw [hzq.out.1,e]
 cases hzo:(ok&&decide (pz<0))
 case false=>
  have hrq:(rqM q).2=true:=hzz.out true (by rw [hzo];rfl)
  have hres:Hid (grM s a v q st=6):=z8 (by rw [hgr.out,hrq];simp)
  cases ok
  all_goals cases hra:(raM a).2
  all_goals cases hva:(vlM v).2
  all_goals by_cases hpz:pz<0
  all_goals first|(exfalso;simp [hpz] at hzo;done)|skip
  all_goals go_wp2_with fail
  all_goals (try simp only [Exit.inBlock,Exit.then])
  all_goals refine bodyPost_ret (z00 rfl _ _ _) rfl ?_
  all_goals exact⟨_,_,_,_,by rw [hres.out];rfl,HB15.out,zm,zm,zm,zm,fun e=>by rw [hres.out] at e;cases e⟩
 have hrq:(rqM q).2=false:=hzz.out false (by rw [hzo];rfl)
 have hrl:Hid ((rqM q).1=l5):=z8 (hzq.out.2 hrq)
 have hok:ok=true∧pz<0:=by simpa using hzo
 obtain⟨rfl,hpz⟩:=hok
 clear hzo hzz hzq
 cases hra:(raM a).2
 case true=>
  have hres:Hid (grM s a v q st=6):=z8 (by rw [hgr.out,hra];rfl)
  go_wp2_with fail
  (try simp only [Exit.inBlock,Exit.then])
  refine bodyPost_ret (z00 rfl _ _ _) rfl ?_
  exact⟨_,_,_,_,by rw [hres.out];rfl,HB15.out,zm,zm,zm,zm,fun e=>by rw [hres.out] at e;cases e⟩
 cases hva:(vlM v).2
 case true=>
  have hres:Hid (grM s a v q st=6):=z8 (by rw [hgr.out,hra,hva,hrq];rfl)
  go_wp2_with fail
  (try simp only [Exit.inBlock,Exit.then])
  refine bodyPost_ret (z00 rfl _ _ _) rfl ?_
  exact⟨_,_,_,_,by rw [hres.out];rfl,HB15.out,zm,zm,zm,zm,fun e=>by rw [hres.out] at e;cases e⟩
 have hgr2:Hid (grM s a v q st=if hoM (vlM v).1 st.C then 7 else 0):=z8 (by rw [hgr.out,hra,hva,hrq];rfl)
 have HO2':=z8 (HO2.out hra)
 have HO3':=z8 (HO3.out hva)
 have hn3:n3=(vlM v).1.length:=by
  obtain⟨qa,qk,q⟩:=za HO3'.out
  injection q with _ q _
 subst hn3
 clear hgr HO2 HO3 hra hva
 go_wp2_with fail
 go_loopg [25] (st.A.length+1) (fun n iv wr=> ∃i:Nat,n+i=st.A.length+1∧i≤st.A.length∧iv= .int .i64 i∧Hid (Below w6.heap.size w6 wr)∧Hid (z3j (fun i=>okB (vlM v).1 st.C (A i) (A (i+1))) (st.A.length - i) i= !hoM (vlM v).1 st.C))
 case atStart=>exact⟨0,rfl,zgO _,rfl,z8 (zgR _ _),z8 HP.out.2⟩
 case round=>
  obtain⟨i,hk,hiE,rfl,HBR,hfin⟩:=hrel
  have hHK:=z8 hk
  clear hk
  by_cases hlt:i<st.A.length
  ·obtain⟨g,cap,hvx,hb,hgl⟩:=HW.out.form (by omega)
   injection hvx with e1 e2 e3
   subst e1 e3
   obtain⟨pp,hpp⟩: ∃pp,ps[i]?=some pp:=⟨ps[i]'(by have:=hpl.out;omega),zgE _⟩
   obtain⟨x,a',b',e',g',hx,li,ci,r1,r2,r3,r4,r5⟩:=SegA.get _ _ _ _ _ _ i pp HS.out hpp
   have c2:w1.cell? ⟨g,i*3+2,none⟩=some (.pointer pp.2):=zl HW.out _ _ ((zaH hpp hx (by omega)).trans rfl)
   have hB1r:=HB35'.out.trans (HBR.out.mono HB35'.out.size)
   have q2:=(hB1r.cell (p:=⟨g,i*3+2,none⟩) hgl).trans c2
   obtain⟨kx,z1,z2,z3⟩:=HP.out.1 i x hx
   have hkc:kx=ci:=by rw [r2] at z1;omega
   subst hkc
   have hC:=z9H HG.out.1 (vlM v).1 _ (.slice a3 (vlM v).1.length k3) hvl HG.out.2 f2 _ kx b' g' fk (A i) wr (r5.keepX (zD hB1r)) z2 (zc HO3'.out fun q e=>(HB35.out.trans (HBR.out.mono HB35.out.size)).block q (HO3'.out.lt q e).2)
   rw [←z3] at hC
   have HC:=z8 hC
   have hst:Hid ((!hoM (vlM v).1 st.C)=(okB (vlM v).1 st.C (A i) (A (i+1))&&z3j (fun i=>okB (vlM v).1 st.C (A i) (A (i+1))) (st.A.length -(i+1)) (i+1))):=z8 (by
    rw [←hfin.out]
    obtain⟨m,hm⟩: ∃m,st.A.length - i=m+1:=⟨st.A.length - i - 1,by omega⟩
    rw [hm,show st.A.length -(i+1)=m by omega]
    rfl)
   have hlt':(i:Int)<st.A.length:=by omega
   have HWB:=z8 (HB15.out.trans (HBR.out.mono HB15.out.size))
   clear hC hB1r c2 hpp hx r4 r5 hfin z1 z2 z3 r1 r2 r3
   cases hbi:okB (vlM v).1 st.C (A i) (A (i+1))
   case true=>
    rw [hbi] at HC
    have HS2:Hid (z3j (fun i=>okB (vlM v).1 st.C (A i) (A (i+1))) (st.A.length -(i+1)) (i+1)= !hoM (vlM v).1 st.C):=z8 (by rw [hst.out,hbi];rfl)
    clear hbi hst
    go_wp2_with fail
    refine HC.out.mono ?_
    rintro e w4 ⟨rfl,hB4⟩
    have HB4:=z8 (HBR.out.trans (hB4.mono HBR.out.size))
    clear hB4
    go_wp2_with fail
    have hk:=hHK.out
    go_roundg (st.A.length - i)
    case measure=>omega
    case rel=>exact⟨i+1,by omega,by omega,by go_num,HB4,HS2⟩
   case false=>
    rw [hbi] at HC
    have hres:Hid (grM s a v q st=7):=z8 (by
     have:hoM (vlM v).1 st.C=true:=by have q:=hst.out;rw [hbi] at q;simpa using q
     rw [hgr2.out,this];rfl)
    clear hbi hst
    go_wp2_with fail
    refine HC.out.mono ?_
    rintro e w4 ⟨rfl,hB4⟩
    have HB4:=z8 (HWB.out.trans (hB4.mono HWB.out.size))
    clear hB4
    go_wp2_with fail
    (try simp only [Exit.inBlock,Exit.then])
    refine bodyPost_ret (z00 rfl _ _ _) rfl ?_
    exact⟨_,_,_,_,by rw [hres.out];rfl,HB4.out,zm,zm,zm,zm,fun e=>by rw [hres.out] at e;cases e⟩
  ·have hlt': ¬(i:Int)<st.A.length:=by omega
   have hres:Hid (grM s a v q st=0):=z8 (by
    have:hoM (vlM v).1 st.C=false:=by
     have q:=hfin.out
     rw [show st.A.length - i=0 by omega] at q
     have q:true= !hoM (vlM v).1 st.C:=q
     cases hh:hoM (vlM v).1 st.C
     ·rfl
     ·rw [hh] at q;cases q
    rw [hgr2.out,this];rfl)
   have hB1r:=z8 (HB35'.out.trans (HBR.out.mono HB35'.out.size))
   have hB2r:=z8 (HB25.out.trans (HBR.out.mono HB25.out.size))
   have hB3r:=z8 (HB35.out.trans (HBR.out.mono HB35.out.size))
   have HWB:=z8 (HB15.out.trans (HBR.out.mono HB15.out.size))
   go_wp2_with fail
   (try simp only [Exit.inBlock,Exit.then])
   refine bodyPost_ret (z00 rfl _ _ _) rfl ?_
   refine⟨_,_,_,_,by rw [hres.out];rfl,HWB.out,⟨_,_,_,rfl⟩,⟨_,_,_,rfl⟩,⟨_,_,_,rfl⟩,⟨_,_,_,rfl⟩,fun _=>⟨f2,ps,?_,?_,?_,?_,?_⟩⟩
   ·exact zc HW.out fun q e=>hB1r.out.block q (HW.out.lt q e).2
   ·exact SegA.imp (fun p x a b e g ⟨i,ci,q1,q2,q3,q4,q5⟩=>⟨i,ci,q1,q2,q3,q4.keepX (zD hB1r.out),q5.keepX (zD hB1r.out)⟩) _ _ _ _ _ _ HS.out
   ·exact zu (zc HO2'.out fun q e=>hB2r.out.block q (HO2'.out.lt q e).2) HB1.out.size
   ·exact zu (zc HO3'.out fun q e=>hB3r.out.block q (HO3'.out.lt q e).2) HB12.out.size
   ·rw [hrl.out];exact zu (zc HO5.out fun q e=>HBR.out.block q (HO5.out.lt q e).2) HB13.out.size
theorem z3m {s:zgS}{st:St}(h:(ckM s st).1=0):s.size≤600∧st.bad=false∧st.A.length≤8∧cfM st.L (-1)= -1:=by
 unfold ckM at h
 split at h
 ·cases h
 ·split at h
  ·cases h
  ·split at h
   ·cases h
   ·split at h
    ·cases h
    ·rename_i h1 h2 h3 h4
     exact⟨by omega,by simpa using h2,by omega,by simpa using h4⟩
theorem z95 {s:zgS}{n:Nat}{st:St}(hM:MR s n st0=some st)(hck:(ckM s st).1=0): ∀x∈st.L,x.form=2→1≤x.count:=by
 obtain⟨hs,_,_,hcf⟩:=z3m hck
 obtain⟨e,w',fr,⟨lv,_,_,_,h⟩,_⟩:=z0d s n st (World.holding Tryz.prog default ⟨#[],#[],[]⟩) hM hs []
 obtain⟨f,ps,_,h⟩:=h hck
 have hg:=z1V s n st0 st hM z6O
 have hmf:=zfF (fun x hx=>(hg.l x hx).2) ps st.A 0 0 st.L.length st.E.length 0 st.at_ h hg.o
 have hr:=hmf.cf
 rw [hcf] at hr
 intro x hx hf
 obtain⟨j,hj⟩:=List.mem_iff_getElem?.1 hx
 have hjl:=(zgF.1 hj).1
 have hno:z0P x=false:=by
  rcases hmf.min with⟨_,q⟩|⟨j',y,_,q1,q2,q3,q4,_⟩
  ·exact q j x (zgO _) hjl hj
  ·have:=(hmf.span j' y (zgO _) q1 q2 q3).1
   omega
 unfold z0P at hno
 rw [hf] at hno
 simp at hno
 exact hno.1
theorem z7p (s a v q:zgS)(st:St)(w:World)(h:Calls Tryz.prog 34 #[.string s,.string a,.string v,.string q] w fun e w'=>z2d s a v q st w e w')(E:Int)(hE:grM s a v q st=E)(hn:(E !=0)=true):
  Calls Tryz.prog 19 #[.string s,.string a,.string v,.string q] w fun e w'=>z0o ⟨#[]⟩ E w e w':=by
 have HC:=z8 h
 have HE:=z8 hE
 clear h hE
 go_enter Tryz.func19,Tryz.ntmps19
 go_wp2_with fail
 refine HC.out.mono ?_
 rintro e w1 ⟨x1,x2,x3,x4,x5,x6,x7,rfl,hB1,⟨a1,n1,k1,rfl⟩,⟨a2,n2,k2,rfl⟩,⟨a3,n3,k3,rfl⟩,⟨a4,n4,k4,rfl⟩,⟨a5,n5,k5,rfl⟩,⟨a6,n6,k6,rfl⟩,⟨a7,n7,k7,rfl⟩,hG⟩
 rw [HE.out] at*
 have HB2:=z8 (hB1.alloc hB1.size (.cells #[.int .i64 E,.slice a1 n1 k1,.slice a2 n2 k2,.slice a3 n3 k3,.slice a4 n4 k4,.slice a5 n5 k5,.slice a6 n6 k6,.slice a7 n7 k7] 58))
 clear hG hB1 HC HE
 go_wp2_with fail
 go_quiet (fail)
 go_wp2_with fail
 go_ret2
 exact⟨rfl,⟨HB2.out.os,HB2.out.tape,HB2.out.output,HB2.out.size,HB2.out.block⟩⟩
structure Ask (s a v q:zgS)(st:St):Prop where
 gr: ∀w,Calls Tryz.prog 34 #[.string s,.string a,.string v,.string q] w fun e w'=>z2d s a v q st w e w'
 ak: ∀w,Calls Tryz.prog 57 #[.string s,.string a,.string v,.string q,.bool true] w fun e w'=>zbS s a v q st w e w'
 mr: ∃n,MR s n st0=some st
 ea:st.A.length≤10010
 el:st.L.length≤10010
 ee:st.E.length≤10010
 ec:st.C.length≤10010
 cl: ∀c∈st.C,c.length≤100000
 cov:zci st
 gd:z5U st
 es: ∀x∈st.E,x.text.size≤600
 ra:(∀p∈(raM a).1,p.2.size≤600)∧(raM a).1.length≤100000
 w:grM s a v q st=0→ ∀x∈zf (raM a).1 st.E [],x.text.size≤100000000∧ -999999999≤x.num∧x.num≤999999999
theorem z9S (s a v q:zgS)(hs:s.size≤600)(ha:a.size≤100)(hv:v.size≤60)(hq:q.size≤60): ∃st,Ask s a v q st:=by
 obtain⟨n,st,hM,hA,hL,hE,hC⟩:=z7B s hs
 have hz:Sz st:=z8O s hs n st0 st hM ⟨fun x h=>(by cases h),fun x h=>(by cases h),fun x h=>(by cases h),fun x h=>(by cases h)⟩
 have hcl:=z9F s n st0 st hM (fun c h=>by cases h)
 have hcv:=zce s n st0 st hM zgd
 have hgd:=z1V s n st0 st hM z6O
 have hvl:=z3s v
 exact⟨st,fun w=>z1p s a v q st w hs ha hv hq (fun W=>jz s n st W hM hs (by omega) (by omega) (by omega)) (by omega) hcl hvl,
  fun w=>z34 s a v q st w hs ha hv hq (z0d s n st w hM hs) hgd.e hcv (by omega) hcl hvl,⟨n,hM⟩,hA,hL,hE,hC,hcl,hcv,hgd,hz.1,z2i a (by omega),fun h0=>z3L (a:=a) (v:=v) (q:=q) hM (by omega) h0⟩
theorem Ask.two {s a v q:zgS}{st:St}(h:grM s a v q st=0):2≤(vlM v).1.length:=zcj (z11 h).1
theorem Ask.lok {s a v q:zgS}{st:St}(h:Ask s a v q st):LOk st:=⟨by have:=h.el;omega,fun x hx=>(h.gd.l x hx).1⟩
theorem Ask.cnt {s a v q:zgS}{st:St}(h:Ask s a v q st)(h0:grM s a v q st=0): ∀x∈st.L,x.form=2→1≤x.count:=by
 obtain⟨n,hM⟩:=h.mr
 exact z95 hM (z11 h0).2.2.1
theorem Ask.query {s a v q:zgS}{st:St}(h:Ask s a v q st)(w:World):Calls Tryz.prog 19 #[.string s,.string a,.string v,.string q] w fun e w'=>z0o (quM s a v q st).1 (quM s a v q st).2 w e w':=
 zbc s a v q st w (h.gr w) (by have:=h.ee;omega) (by have:=h.ea;omega) (by have:=h.ec;omega) h.cl (z3s v) h.ra.2 h.ra.1 h.es h.lok (fun h0 x hx=>(h.w h0 x hx).1) (fun h0=>by have:=Ask.two h0;omega)
theorem z7J {s a v q:zgS}(h: ¬(s.size≤600∧a.size≤100∧v.size≤60∧q.size≤60))(st:St):grM s a v q st=1:=by unfold grM;rw [if_pos];simp;omega
def neM (names:List zgS)(ls:List Int):List As→Nat→Int→Int
 |[],_,b=>b
 |x::xs,i,b=>neM names ls xs (i+1) (if zb ls i==0||plM x.by_ names 0== -1 then b else if b== -1||decide (zb ls i<zb ls b) then(i:Int) else b)
def z4I (A:List As)(ln:Nat→List zgS)(qs:List zgS)(ls:List Int)(i:Nat):Int:=
 if(ln i).any fun nm=>plM nm qs 0 != -1 then 1 else if neM (ln i) ls A 0 (-1)== -1 then 0 else 1+zb ls (neM (ln i) ls A 0 (-1))
def lgM (A:List As)(ln:Nat→List zgS)(qs:List zgS)(g ls:List Int):List Int:=(List.range A.length).map fun(i:Nat)=>if 0<zb g (i:Int) then z4I A ln qs ls i else 0
def rwM (A:List As)(ln:Nat→List zgS)(qs:List zgS)(g:List Int):Nat→List Int
 |0=>[]
 |r+1=>lgM A ln qs g (rwM A ln qs g r)
theorem zc5 (A:List As)(ln:Nat→List zgS)(qs:List zgS)(g:List Int)(r:Nat):(rwM A ln qs g (r+1)).length=A.length:=by unfold rwM lgM;simp
theorem z86 (A:List As)(ln:Nat→List zgS)(qs:List zgS)(g ls:List Int)(i:Nat):zb (lgM A ln qs g ls) (i:Int)=if i<A.length then(if 0<zb g (i:Int) then z4I A ln qs ls i else 0) else 0:=by
 rw [z1j]
 unfold lgM
 simp only [List.getD,List.getElem?_map]
 by_cases h:i<A.length
 ·rw [List.getElem?_range h,if_pos h];rfl
 ·rw [List.getElem?_eq_none (by simpa using h),if_neg h];rfl
def z9T (names:List zgS)(ls:List Int)(i:Nat)(x:As):Prop:=zb ls (i:Int)≠0∧plM x.by_ names 0≠ -1
theorem zew (names:List zgS)(ls:List Int): ∀(B:List As) (i:Nat) (b:Int),(b= -1∨0≤b)→
  (neM names ls B i b=b∧(∀(j:Nat) (x:As),B[j]?=some x→z9T names ls (i+j) x→b≠ -1∧zb ls b≤zb ls ((i+j:Nat):Int)))∨
  (∃(j:Nat) (x:As),B[j]?=some x∧neM names ls B i b=((i+j:Nat):Int)∧z9T names ls (i+j) x∧(b= -1∨zb ls ((i+j:Nat):Int)≤zb ls b)∧ ∀(k:Nat) (y:As),B[k]?=some y→z9T names ls (i+k) y→zb ls ((i+j:Nat):Int)≤zb ls ((i+k:Nat):Int)):=by
 intro B
 induction B with
 |nil=>intro i b _;exact .inl ⟨rfl,fun j x h=>by simp at h⟩
 |cons x B ih=>
  intro i b hb
  have e1:neM names ls (x::B) i b=neM names ls B (i+1) (if zb ls i==0||plM x.by_ names 0== -1 then b else if b== -1||decide (zb ls i<zb ls b) then(i:Int) else b):=rfl
  rw [e1]
  by_cases hc:(zb ls i==0||plM x.by_ names 0== -1)=true
  ·rw [if_pos hc]
   have hnc: ¬z9T names ls (i+0) x:=fun⟨q1,q2⟩=>by
    have q1:zb ls (i:Int)≠0:=q1
    simp [q1,q2] at hc
   rcases ih (i+1) b hb with⟨h1,h2⟩|⟨j,y,h1,h2,h3,h4,h5⟩
   ·refine .inl ⟨h1,fun j y hj hcj=> ?_⟩
    cases j with
    |zero=>
     have e:x=y:=by simpa using hj
     subst e;exact absurd hcj hnc
    |succ j=>rw [show i+(j+1)=i+1+j by omega] at*;exact h2 j y (by simpa using hj) hcj
   ·refine .inr ⟨j+1,y,by simpa using h1,by rw [show i+(j+1)=i+1+j by omega];exact h2,by rw [show i+(j+1)=i+1+j by omega];exact h3,by rw [show i+(j+1)=i+1+j by omega];exact h4,fun k z hk hck=> ?_⟩
    rw [show i+(j+1)=i+1+j by omega]
    cases k with
    |zero=>
     have e:x=z:=by simpa using hk
     subst e;exact absurd hck hnc
    |succ k=>rw [show i+(k+1)=i+1+k by omega] at*;exact h5 k z (by simpa using hk) hck
  ·rw [if_neg hc]
   have hcd:z9T names ls (i+0) x:=by
    simp only [Bool.or_eq_true,not_or,beq_iff_eq] at hc
    exact hc
   by_cases hd:(b== -1||decide (zb ls i<zb ls b))=true
   ·rw [if_pos hd]
    have hd':b= -1∨zb ls (i:Int)<zb ls b:=by simpa using hd
    rcases ih (i+1) i (.inr (by omega)) with⟨h1,h2⟩|⟨j,y,h1,h2,h3,h4,h5⟩
    ·refine .inr ⟨0,x,rfl,h1,hcd,by rcases hd' with q|q;exact .inl q;exact .inr (by show zb ls (i:Int)≤_;omega),fun k z hk hck=> ?_⟩
     cases k with
     |zero=>exact Int.le_refl _
     |succ k=>rw [show i+(k+1)=i+1+k by omega] at*;exact(h2 k z (by simpa using hk) hck).2
    ·refine .inr ⟨j+1,y,by simpa using h1,by rw [show i+(j+1)=i+1+j by omega];exact h2,by rw [show i+(j+1)=i+1+j by omega];exact h3,?_,fun k z hk hck=> ?_⟩
     ·rw [show i+(j+1)=i+1+j by omega]
      rcases hd' with q|q
      ·exact .inl q
      ·rcases h4 with q2|q2
       ·omega
       ·exact .inr (by omega)
     ·rw [show i+(j+1)=i+1+j by omega]
      cases k with
      |zero=>
       rcases h4 with q2|q2
       ·omega
       ·exact q2
      |succ k=>rw [show i+(k+1)=i+1+k by omega] at*;exact h5 k z (by simpa using hk) hck
   ·rw [if_neg hd]
    have hd':b≠ -1∧zb ls b≤zb ls (i:Int):=by
     simp only [Bool.or_eq_true,not_or,beq_iff_eq,decide_eq_true_eq] at hd
     exact⟨hd.1,by omega⟩
    rcases ih (i+1) b hb with⟨h1,h2⟩|⟨j,y,h1,h2,h3,h4,h5⟩
    ·refine .inl ⟨h1,fun j y hj hcj=> ?_⟩
     cases j with
     |zero=>exact hd'
     |succ j=>rw [show i+(j+1)=i+1+j by omega] at*;exact h2 j y (by simpa using hj) hcj
    ·refine .inr ⟨j+1,y,by simpa using h1,by rw [show i+(j+1)=i+1+j by omega];exact h2,by rw [show i+(j+1)=i+1+j by omega];exact h3,by rw [show i+(j+1)=i+1+j by omega];exact h4,fun k z hk hck=> ?_⟩
     rw [show i+(j+1)=i+1+j by omega]
     cases k with
     |zero=>
      rcases h4 with q2|q2
      ·exact absurd q2 hd'.1
      ·show _≤zb ls (i:Int);omega
     |succ k=>rw [show i+(k+1)=i+1+k by omega] at*;exact h5 k z (by simpa using hk) hck
theorem z1X (names:List zgS)(ls:List Int)(A:List As):
  (neM names ls A 0 (-1)= -1∧ ∀(j:Nat) (x:As),A[j]?=some x→ ¬z9T names ls j x)∨
  (∃(j:Nat) (x:As),A[j]?=some x∧neM names ls A 0 (-1)=(j:Int)∧z9T names ls j x∧ ∀(k:Nat) (y:As),A[k]?=some y→z9T names ls k y→zb ls (j:Int)≤zb ls (k:Int)):=by
 rcases zew names ls A 0 (-1) (.inl rfl) with⟨h1,h2⟩|⟨j,x,h1,h2,h3,_,h5⟩
 ·exact .inl ⟨h1,fun j x hj hc=>(h2 j x hj (by simpa using hc)).1 rfl⟩
 ·exact .inr ⟨j,x,h1,by simpa using h2,by simpa using h3,fun k y hk hc=>by simpa using h5 k y hk (by simpa using hc)⟩
section
variable {A:List As} {ln:Nat→List zgS} {qs:List zgS} {g:List Int}
theorem z0H: ∀(r:Nat) (i:Nat),0≤zb (rwM A ln qs g r) (i:Int)∧zb (rwM A ln qs g r) (i:Int)≤r:=by
 intro r
 induction r with
 |zero=>intro i;unfold rwM;rw [z2q];omega
 |succ r ih=>
  intro i
  unfold rwM
  rw [z86]
  split
  ·split
   ·unfold z4I
    split
    ·omega
    ·split
     ·omega
     ·rename_i h
      rcases z1X (ln i) (rwM A ln qs g r) A with⟨e,_⟩|⟨j,x,_,e,_,_⟩
      ·rw [e] at h;exact absurd rfl h
      ·rw [e];have:=ih j;omega
   ·omega
  ·omega
theorem z3n {r i:Nat}(h:zb (rwM A ln qs g r) (i:Int)≠0):i<A.length∧0<zb g (i:Int):=by
 cases r with
 |zero=>unfold rwM at h;rw [z2q] at h;exact absurd rfl h
 |succ r=>
  unfold rwM at h
  rw [z86] at h
  split at h
  ·split at h
   ·exact⟨‹_›,‹_›⟩
   ·exact absurd rfl h
  ·exact absurd rfl h
theorem z8Z {r:Nat}(hC: ∀i:Nat,(zb (rwM A ln qs g r) (i:Int)≠0→zb (rwM A ln qs g (r+1)) (i:Int)=zb (rwM A ln qs g r) (i:Int))∧(zb (rwM A ln qs g r) (i:Int)=0→zb (rwM A ln qs g (r+1)) (i:Int)=0∨zb (rwM A ln qs g (r+1)) (i:Int)=((r+1:Nat):Int)))(names:List zgS):
  (∀(j:Nat) (x:As),A[j]?=some x→ ¬z9T names (rwM A ln qs g r) j x)∧(neM names (rwM A ln qs g (r+1)) A 0 (-1)= -1∨ ∃j:Nat,neM names (rwM A ln qs g (r+1)) A 0 (-1)=(j:Int)∧zb (rwM A ln qs g (r+1)) (j:Int)=((r+1:Nat):Int))∧neM names (rwM A ln qs g r) A 0 (-1)= -1∨
  (∃(f f':Nat) (y:As),neM names (rwM A ln qs g r) A 0 (-1)=(f:Int)∧neM names (rwM A ln qs g (r+1)) A 0 (-1)=(f':Int)∧A[f']?=some y∧plM y.by_ names 0≠ -1∧zb (rwM A ln qs g r) (f:Int)≠0∧zb (rwM A ln qs g (r+1)) (f':Int)=zb (rwM A ln qs g r) (f:Int)):=by
 rcases z1X names (rwM A ln qs g r) A with⟨e,h⟩|⟨f,x,hf,e,hc,hmin⟩
 ·refine .inl ⟨h,?_,e⟩
  rcases z1X names (rwM A ln qs g (r+1)) A with⟨e2,_⟩|⟨f',y,hf',e2,hc2,_⟩
  ·exact .inl e2
  ·refine .inr ⟨f',e2,?_⟩
   have h0:zb (rwM A ln qs g r) (f':Int)=0:=by
    by_cases q:zb (rwM A ln qs g r) (f':Int)=0
    ·exact q
    ·exact absurd ⟨q,hc2.2⟩ (h f' y hf')
   rcases(hC f').2 h0 with q|q
   ·exact absurd q hc2.1
   ·exact q
 ·refine .inr ?_
  have hf1:=(hC f).1 hc.1
  have hcf:z9T names (rwM A ln qs g (r+1)) f x:=⟨by rw [hf1];exact hc.1,hc.2⟩
  rcases z1X names (rwM A ln qs g (r+1)) A with⟨_,h⟩|⟨f',y,hf',e2,hc2,hmin2⟩
  ·exact absurd hcf (h f x hf)
  ·refine⟨f,f',y,e,e2,hf',hc2.2,hc.1,?_⟩
   have h1:=hmin2 f x hf hcf
   by_cases q:zb (rwM A ln qs g r) (f':Int)=0
   ·rcases(hC f').2 q with q2|q2
    ·exact absurd q2 hc2.1
    ·have:=(z0H (A:=A) (ln:=ln) (qs:=qs) (g:=g) r f).2
     omega
   ·have h2:=hmin f' y hf' ⟨q,hc2.2⟩
    have:=(hC f').1 q
    omega
theorem zaM: ∀(r:Nat) (i:Nat),(zb (rwM A ln qs g r) (i:Int)≠0→zb (rwM A ln qs g (r+1)) (i:Int)=zb (rwM A ln qs g r) (i:Int))∧(zb (rwM A ln qs g r) (i:Int)=0→zb (rwM A ln qs g (r+1)) (i:Int)=0∨zb (rwM A ln qs g (r+1)) (i:Int)=((r+1:Nat):Int)):=by
 intro r
 induction r with
 |zero=>
  intro i
  refine⟨fun h=> ?_,fun _=> ?_⟩
  ·unfold rwM at h;rw [z2q] at h;exact absurd rfl h
  ·have h1:=z0H (A:=A) (ln:=ln) (qs:=qs) (g:=g) 1 i
   show zb (rwM A ln qs g 1) (i:Int)=0∨zb (rwM A ln qs g 1) (i:Int)=((0+1:Nat):Int)
   omega
 |succ r ih=>
  intro i
  have e1:zb (rwM A ln qs g (r+1)) (i:Int)=if i<A.length then(if 0<zb g (i:Int) then z4I A ln qs (rwM A ln qs g r) i else 0) else 0:=z86 ..
  have e2:zb (rwM A ln qs g (r+1+1)) (i:Int)=if i<A.length then(if 0<zb g (i:Int) then z4I A ln qs (rwM A ln qs g (r+1)) i else 0) else 0:=z86 ..
  rw [e1,e2]
  by_cases hi:i<A.length
  ·rw [if_pos hi,if_pos hi]
   by_cases hg:0<zb g (i:Int)
   ·rw [if_pos hg,if_pos hg]
    unfold z4I
    by_cases hr:((ln i).any fun nm=>plM nm qs 0 != -1)=true
    ·rw [if_pos hr,if_pos hr]
     exact⟨fun _=>rfl,fun h=>by omega⟩
    ·rw [if_neg hr,if_neg hr]
     rcases z8Z ih (ln i) with⟨_,h2,h3⟩|⟨f,f',y,h1,h2,h3,h4,h5,h6⟩
     ·rw [if_pos (by rw [h3];rfl)]
      refine⟨fun h=>absurd rfl h,fun _=> ?_⟩
      rcases h2 with q|⟨j,q1,q2⟩
      ·rw [if_pos (by rw [q];rfl)];exact .inl rfl
      ·rw [if_neg (by rw [q1];simp),q1,q2];right;omega
     ·rw [if_neg (by rw [h1];simp),if_neg (by rw [h2];simp),h1,h2,h6]
      have:=z0H (A:=A) (ln:=ln) (qs:=qs) (g:=g) r f
      exact⟨fun _=>rfl,fun h=>by omega⟩
   ·rw [if_neg hg,if_neg hg];exact⟨fun h=>absurd rfl h,fun _=> .inl rfl⟩
  ·rw [if_neg hi,if_neg hi];exact⟨fun h=>absurd rfl h,fun _=> .inl rfl⟩
theorem z9w {r i:Nat}{m:Int}(hm:zb (rwM A ln qs g r) (i:Int)=m)(h0:m≠0):
  (m=1∧((ln i).any fun nm=>plM nm qs 0 != -1)=true)∨(2≤m∧ ∃(f:Nat) (y:As),neM (ln i) (rwM A ln qs g r) A 0 (-1)=(f:Int)∧A[f]?=some y∧plM y.by_ (ln i) 0≠ -1∧zb (rwM A ln qs g r) (f:Int)=m - 1):=by
 obtain⟨hi,hg⟩:=z3n (r:=r) (by rw [hm];exact h0)
 cases r with
 |zero=>unfold rwM at hm;rw [z2q] at hm;exact absurd hm.symm h0
 |succ r=>
  have e1:zb (rwM A ln qs g (r+1)) (i:Int)=if i<A.length then(if 0<zb g (i:Int) then z4I A ln qs (rwM A ln qs g r) i else 0) else 0:=z86 ..
  rw [if_pos hi,if_pos hg] at e1
  unfold z4I at e1
  by_cases hr:((ln i).any fun nm=>plM nm qs 0 != -1)=true
  ·rw [if_pos hr] at e1
   exact .inl ⟨by omega,hr⟩
  ·rw [if_neg hr] at e1
   rcases z8Z (zaM r) (ln i) with⟨_,_,h3⟩|⟨f,f',y,h1,h2,h3,h4,h5,h6⟩
   ·rw [if_pos (by rw [h3];rfl)] at e1;exact absurd (hm.symm.trans e1) h0
   ·rw [if_neg (by rw [h1];simp),h1] at e1
    have:=z0H (A:=A) (ln:=ln) (qs:=qs) (g:=g) r f
    exact .inr ⟨by omega,f',y,h2,h3,h4,by omega⟩
def z6m (A:List As)(ln:Nat→List zgS)(ls:List Int):Nat→Int→List Int
 |0,_=>[]
 |k+1,nx=>nx::z6m A ln ls k (neM (if nx<0 then [] else ln nx.toNat) ls A 0 (-1))
def Row (A:List As)(ln:Nat→List zgS)(qs:List zgS)(g ls:List Int):Int→List Int→Prop
 |_,[]=>False
 |m,[k]=>m=1∧ ∃(i:Nat) (x:As),k=(i:Int)∧A[i]?=some x∧0<zb g (i:Int)∧zb ls (i:Int)=m∧((ln i).any fun nm=>plM nm qs 0 != -1)=true
 |m,k::k2::ks=> ∃(i j:Nat) (x y:As),k=(i:Int)∧k2=(j:Int)∧A[i]?=some x∧0<zb g (i:Int)∧zb ls (i:Int)=m∧A[j]?=some y∧plM y.by_ (ln i) 0≠ -1∧Row A ln qs g ls (m - 1) (k2::ks)
theorem zeA {r:Nat}: ∀(k i:Nat),zb (rwM A ln qs g r) (i:Int)=((k+1:Nat):Int)→Row A ln qs g (rwM A ln qs g r) ((k+1:Nat):Int) (z6m A ln (rwM A ln qs g r) (k+1) i):=by
 intro k
 induction k with
 |zero=>
  intro i h
  obtain⟨hi,hg⟩:=z3n (r:=r) (i:=i) (by rw [h];omega)
  rcases z9w h (by omega) with⟨_,h2⟩|⟨h2,_⟩
  ·exact⟨rfl,i,_,rfl,zgE hi,hg,h,h2⟩
  ·omega
 |succ k ih=>
  intro i h
  obtain⟨hi,hg⟩:=z3n (r:=r) (i:=i) (by rw [h];omega)
  rcases z9w h (by omega) with⟨h1,_⟩|⟨_,f,y,h2,h3,h4,h5⟩
  ·omega
  ·have h6:=ih f (by rw [h5];omega)
   have e:z6m A ln (rwM A ln qs g r) (k+1+1) i=(i:Int)::z6m A ln (rwM A ln qs g r) (k+1) f:=by
    show(i:Int)::z6m A ln _ (k+1) (neM (if(i:Int)<0 then [] else ln (i:Int).toNat) _ A 0 (-1))=_
    rw [if_neg (by omega),Int.toNat_natCast,h2]
   rw [e]
   have e2: ∃t,z6m A ln (rwM A ln qs g r) (k+1) f=(f:Int)::t:=⟨_,rfl⟩
   obtain⟨t,e2⟩:=e2
   rw [e2] at h6 ⊢
   exact⟨i,f,_,y,rfl,rfl,zgE hi,hg,h,h3,h4,by rw [show(((k+1+1:Nat):Int)- 1)=((k+1:Nat):Int) by omega];exact h6⟩
theorem za4 {ls:List Int}: ∀(ks:List Int) (m:Int),Row A ln qs g ls m ks→ ∀k∈ks,∃(i:Nat) (x:As),k=(i:Int)∧A[i]?=some x∧0<zb g (i:Int)∧zb ls k≤m:=by
 intro ks
 induction ks with
 |nil=>intro m h;exact absurd h id
 |cons k ks ih=>
  intro m h q hq
  cases ks with
  |nil=>
   obtain⟨_,i,x,rfl,h1,h2,h3,_⟩:=h
   have e:q=(i:Int):=by simpa using hq
   subst e
   exact⟨i,x,rfl,h1,h2,by omega⟩
  |cons k2 ks=>
   obtain⟨i,j,x,y,rfl,rfl,h1,h2,h3,h4,h5,h6⟩:=h
   rcases List.mem_cons.1 hq with e|e
   ·subst e;exact⟨i,x,rfl,h1,h2,by omega⟩
   ·obtain⟨i',x',z1,z2,z3,z4⟩:=ih (m - 1) h6 q e
    exact⟨i',x',z1,z2,z3,by omega⟩
theorem zaC {ls:List Int}{k m:Int}{ks:List Int}(h:Row A ln qs g ls m (k::ks)):zb ls k=m:=by
 cases ks with
 |nil=>obtain⟨_,i,x,rfl,_,_,h3,_⟩:=h;exact h3
 |cons k2 ks=>obtain⟨i,j,x,y,rfl,_,_,_,h3,_⟩:=h;exact h3
theorem zdj {ls:List Int}: ∀(ks:List Int) (m:Int),Row A ln qs g ls m ks→ ∀(t t':Nat) (k:Int),t'<t→ks[t]?=some k→ks[t']?≠some k:=by
 intro ks
 induction ks with
 |nil=>intro m h;exact absurd h id
 |cons k ks ih=>
  intro m h t t' q ht h1 h2
  cases t with
  |zero=>omega
  |succ t=>
   have h1:ks[t]?=some q:=by simpa using h1
   cases ks with
   |nil=>simp at h1
   |cons k2 ks=>
    have hh:=zaC h
    obtain⟨i,j,x,y,rfl,rfl,_,_,_,_,_,h6⟩:=h
    cases t' with
    |zero=>
     have e:(i:Int)=q:=by simpa using h2
     obtain⟨_,_,_,_,_,hle⟩:=za4 _ _ h6 q (zgM h1)
     rw [e] at hh
     omega
    |succ t'=>exact ih (m - 1) h6 t t' q (by omega) h1 (by simpa using h2)
theorem zcw {ls:List Int}: ∀(ks:List Int) (m:Int),Row A ln qs g ls m ks→ ∀(t:Nat) (k k':Int),ks[t]?=some k→ks[t+1]?=some k'→ ∃(i j:Nat) (y:As),k=(i:Int)∧k'=(j:Int)∧A[j]?=some y∧plM y.by_ (ln i) 0≠ -1:=by
 intro ks
 induction ks with
 |nil=>intro m h;exact absurd h id
 |cons k ks ih=>
  intro m h t q q' h1 h2
  cases ks with
  |nil=>simp at h2
  |cons k2 ks=>
   obtain⟨i,j,x,y,rfl,rfl,_,_,_,z4,z5,h6⟩:=h
   cases t with
   |zero=>
    have e1:(i:Int)=q:=by simpa using h1
    have e2:(j:Int)=q':=by simpa using h2
    exact⟨i,j,y,e1.symm,e2.symm,z4,z5⟩
   |succ t=>exact ih (m - 1) h6 t q q' (by simpa using h1) (by simpa using h2)
theorem zbm {ls:List Int}: ∀(ks:List Int) (m:Int),Row A ln qs g ls m ks→ ∀k,ks.getLast?=some k→ ∃i:Nat,k=(i:Int)∧((ln i).any fun nm=>plM nm qs 0 != -1)=true:=by
 intro ks
 induction ks with
 |nil=>intro m h;exact absurd h id
 |cons k ks ih=>
  intro m h q hq
  cases ks with
  |nil=>
   obtain⟨_,i,x,rfl,_,_,_,h4⟩:=h
   have e:(i:Int)=q:=by simpa using hq
   exact⟨i,e.symm,h4⟩
  |cons k2 ks=>
   obtain⟨i,j,x,y,rfl,rfl,_,_,_,_,_,h6⟩:=h
   exact ih (m - 1) h6 q (by simpa using hq)
end
def z2Z (x:Lc):Option zgS:=if x.form==0 then some x.text else none
def z3a (L:List Lc)(a e:Nat):List zgS:=((L.take e).drop a).filterMap z2Z
theorem z4M {L:List Lc}{a e:Nat}{nm:zgS}:nm∈z3a L a e↔ ∃(j:Nat) (x:Lc),a≤j∧j<e∧L[j]?=some x∧x.form=0∧x.text=nm:=by
 unfold z3a
 rw [List.mem_filterMap]
 constructor
 ·rintro⟨x,hx,hn⟩
  obtain⟨j,hj⟩:=List.mem_iff_getElem?.1 hx
  rw [List.getElem?_drop] at hj
  obtain⟨hl,he⟩:=zgF.1 hj
  have hlt:a+j<e:=by rw [List.length_take] at hl;omega
  rw [List.getElem?_take_of_lt hlt] at hj
  unfold z2Z at hn
  split at hn
  ·rename_i hf
   exact⟨a+j,x,by omega,hlt,hj,by simpa using hf,by simpa using hn⟩
  ·cases hn
 ·rintro⟨j,x,h1,h2,h3,h4,rfl⟩
  refine⟨x,List.mem_iff_getElem?.2 ⟨j - a,?_⟩,by unfold z2Z;rw [h4];rfl⟩
  rw [List.getElem?_drop,show a+(j - a)=j by omega,List.getElem?_take_of_lt h2]
  exact h3
theorem z9t {L:List Lc}{a e:Nat}{x:Lc}(h:L[e]?=some x)(ha:a≤e):z3a L a (e+1)=z3a L a e++(z2Z x).toList:=by
 unfold z3a
 have hl:=(zgF.1 h).1
 rw [List.take_add_one,h,List.drop_append_of_le_length (by rw [List.length_take];omega),List.filterMap_append]
 congr 1
 first|done|(show List.filterMap z2Z [x]=_;cases hq:z2Z x<;>simp [List.filterMap,hq])
def z26 (A:List As)(i:Nat):Int:=if i=0 then 0 else(A.getD (i - 1) ⟨⟨#[]⟩,0,0⟩).to_+1
def lnM (A:List As)(L:List Lc)(i:Nat):List zgS:=match A[i]? with
 |some x=>z3a L (z26 A i).toNat (x.to_+1).toNat
 |none=>[]
def Tos (A:List As)(L:List Lc):Prop:= ∀(i:Nat) (x:As),A[i]?=some x→ ∃a t:Nat,z26 A i=(a:Int)∧x.to_=(t:Int)∧a≤t∧t<L.length
theorem zas {X:Nat→Prop}{w:World}{L:List Lc}{E:List Ex}{C:List (List Cl)}{f:Nat}: ∀(ps:List PP) (xs:List As) (a b e g:Nat),SegA (fun p x a b e g=>AsX X w L E C f p x a b e g) ps xs a b e g→a≤e∧ ∀(i:Nat) (x:As) (p:PP),xs[i]?=some x→ps[i]?=some p→ ∃a' t:Nat,(if i=0 then(a:Int) else(xs.getD (i - 1) ⟨⟨#[]⟩,0,0⟩).to_+1)=(a':Int)∧x.to_=(t:Int)∧a'≤t∧t<e∧RefLX X w L f (.pointer p.1) a' t:=by
 intro ps
 induction ps with
 |nil=>
  intro xs a b e g h
  cases xs with
  |nil=>obtain⟨rfl,_⟩:=h;exact⟨zgH _,fun i x p h=>by simp at h⟩
  |cons c cs=>exact absurd h id
 |cons u ps ih=>
  intro xs a b e g h
  cases xs with
  |nil=>exact absurd h id
  |cons x xs=>
   obtain⟨m,n,⟨i,ci,q1,_,q3,q4,_⟩,h3⟩:=h
   have hle:=z3F q4
   obtain⟨r1,r2⟩:=ih xs m n e g h3
   refine⟨by omega,fun k y p hk hp=> ?_⟩
   cases k with
   |zero=>
    have e1:x=y:=by simpa using hk
    have e2:u=p:=by simpa using hp
    subst e1 e2
    exact⟨a,i,rfl,q1,hle,by omega,q4⟩
   |succ k=>
    obtain⟨a',t,z1,z2,z3,z4,z5⟩:=r2 k y p (by simpa using hk) (by simpa using hp)
    refine⟨a',t,?_,z2,z3,z4,z5⟩
    rw [if_neg (by omega)]
    cases k with
    |zero=>
     rw [if_pos rfl] at z1
     show x.to_+1=_
     rw [q1];omega
    |succ k=>
     rw [if_neg (by omega)] at z1
     exact z1
theorem zd1 {X:Nat→Prop}{w:World}{L:List Lc}(hcnt: ∀x∈L,x.form=2→1≤x.count)(sg:zgS→Int)(top:Nat): ∀(f:Nat) (v:Value) (a i:Nat),RefLX X w L f v a i→1≤zb (jP sg top L []) (i:Int)→ ∃nm∈z3a L a (i+1),1≤sg nm:=by
 have up: ∀{a a' i i':Nat},a≤a'→i'≤i→(∃nm∈z3a L a' (i'+1),1≤sg nm)→ ∃nm∈z3a L a (i+1),1≤sg nm:=by
  intro a a' i i' h1 h2 ⟨nm,h3,h4⟩
  obtain⟨j,x,q1,q2,q3,q4,q5⟩:=z4M.1 h3
  exact⟨nm,z4M.2 ⟨j,x,by omega,by omega,q3,q4,q5⟩,h4⟩
 intro f
 induction f with
 |zero=>intro v a i h;exact absurd h id
 |succ f ih=>
  intro v a i ⟨x,hx,h⟩ h0
  obtain⟨hat,hpre⟩:=z2z sg top hx
  rw [hat] at h0
  unfold llM at h0
  rcases h with⟨h1,h2,p,h3⟩|⟨h1,v1,v2,j,k,p,h2,h3,h4,h8,h5,h6,h7⟩|⟨h1,vs,c,h2,h3,h4,h5,h6⟩
  ·rw [h1] at h0
   exact⟨x.text,z4M.2 ⟨i,x,by omega,by omega,hx,h1,rfl⟩,by simpa using h0⟩
  ·have hj:=z3F h6
   have hk:=z3F h7
   have e1:=hpre j (by omega)
   have e2:=hpre k (by omega)
   rw [h1,h3,h4,e1,e2] at h0
   have hor:1≤zb (jP sg top L []) (j:Int)∨1≤zb (jP sg top L []) (k:Int):=by
    have h0:(1:Int)≤if x.text.toList==[38,38] then z6a (zb (jP sg top L []) (j:Int)) (zb (jP sg top L []) (k:Int)) else z8L (zb (jP sg top L []) (j:Int)) (zb (jP sg top L []) (k:Int)):=h0
    split at h0
    ·exact .inl (z1T.1 h0).1
    ·exact z6z.1 h0
   rcases hor with q|q
   ·exact up (by omega) (by omega) (ih v1 a j h6 q)
   ·exact up (by omega) (by omega) (ih v2 (j+1) k h7 q)
  ·rw [h1] at h0
   have h0:((1:Nat):Int)≤cdM (jP sg top (L.take i) []) x.items x.count top:=h0
   have hc:=(z9K _ _ _ (by omega) top).1 h0
   have hc1:=hcnt x (zgM hx) h1
   obtain⟨r1,r2,r3⟩:=z7W _ _ _ _ h6
   have hex: ∃it∈x.items,1≤zb (jP sg top (L.take i) []) it:=by
    by_cases hq: ∃it∈x.items,1≤zb (jP sg top (L.take i) []) it
    ·exact hq
    ·exfalso
     have:z43 (jP sg top (L.take i) []) ((1:Nat):Int) x.items 0=0:=by
      rw [z97]
      refine z9e _ fun y hy hl=> ?_
      obtain⟨it,hi,rfl⟩:=List.mem_map.1 hy
      exact hq ⟨it,hi,hl⟩
     omega
   obtain⟨it,hi,hv⟩:=hex
   obtain⟨n,hn⟩:=List.mem_iff_getElem?.1 hi
   have hlen:=SegV.length _ _ _ _ h6
   have hnl:=(zgF.1 hn).1
   obtain⟨j',e1,hj'⟩:=r2 it hi
   rw [e1,hpre j' hj'] at hv
   have gen: ∀(vs:List Value) (is:List Int) (a e:Nat),SegV (fun v a i=>RefLX X w L f v a i) vs is a e→ ∀it∈is,∃(v:Value) (a' j:Nat),it=(j:Int)∧a≤a'∧j<e∧RefLX X w L f v a' j:=by
    intro vs
    induction vs with
    |nil=>
     intro is a e h it hi
     cases is with
     |nil=>cases hi
     |cons i is=>exact absurd h id
    |cons v vs ih2=>
     intro is a e h it hi
     cases is with
     |nil=>exact absurd h id
     |cons i is=>
      obtain⟨j,q1,q2,q3⟩:=h
      have hle:=z3F q2
      have hle2:=(z7W _ _ _ _ q3).1
      rcases List.mem_cons.1 hi with e|e
      ·exact⟨v,a,j,by rw [e,q1],by omega,by omega,q2⟩
      ·obtain⟨v',a',j',z1,z2,z3,z4⟩:=ih2 is _ _ q3 it e
       exact⟨v',a',j',z1,by omega,z3,z4⟩
   obtain⟨v',a',j2,z1,z2,z3,z4⟩:=gen _ _ _ _ h6 it hi
   have:j2=j':=by omega
   subst this
   exact up z2 (by omega) (ih v' a' j2 z4 hv)
def zfn (A:List As)(L:List Lc)(top:Nat):Prop:= ∀(sg:zgS→Int) (i:Nat) (x:As),A[i]?=some x→1≤zb (jP sg top L []) x.to_→ ∃nm∈lnM A L i,1≤sg nm
theorem z6I {A:List As}{L:List Lc}{i:Nat}{x:As}(hx:A[i]?=some x){a t:Nat}(h1:z26 A i=(a:Int))(h2:x.to_=(t:Int)):lnM A L i=z3a L a (t+1):=by
 unfold lnM
 rw [hx]
 show z3a L (z26 A i).toNat (x.to_+1).toNat=_
 rw [h1,h2]
 congr 1
theorem zbu {X:Nat→Prop}{w:World}{L:List Lc}{E:List Ex}{C:List (List Cl)}{f:Nat}{ps:List PP}{A:List As}(hcnt: ∀x∈L,x.form=2→1≤x.count)(top:Nat)(h:SegA (fun p x a b e g=>AsX X w L E C f p x a b e g) ps A 0 0 L.length E.length):zfn A L top∧Tos A L:=by
 have hl:=SegA.len _ _ _ _ _ _ h
 have hh:=(zas ps A 0 0 _ _ h).2
 have tr: ∀(i:Nat) (x:As),A[i]?=some x→ ∃(p:PP) (a t:Nat),z26 A i=(a:Int)∧x.to_=(t:Int)∧a≤t∧t<L.length∧RefLX X w L f (.pointer p.1) a t:=fun i x hx=>by
  have hi:=(zgF.1 hx).1
  obtain⟨a,t,z1,z2,z3,z4,z5⟩:=hh i x (ps[i]'(by omega)) hx (zgE _)
  exact⟨_,a,t,z1,z2,z3,z4,z5⟩
 refine⟨fun sg i x hx h1=> ?_,fun i x hx=> ?_⟩
 ·obtain⟨p,a,t,z1,z2,z3,z4,z5⟩:=tr i x hx
  rw [z6I hx z1 z2]
  rw [z2] at h1
  exact zd1 hcnt sg top f _ a t z5 h1
 ·obtain⟨p,a,t,z1,z2,z3,z4,z5⟩:=tr i x hx
  exact⟨a,t,z1,z2,z3,z4⟩
theorem z9u {nm:zgS}: ∀(l:List zgS) (i:Nat),nm∈l→plM nm l i≠ -1:=by
 intro l
 induction l with
 |nil=>intro i h;cases h
 |cons x l ih=>
  intro i h
  unfold plM
  split
  ·omega
  ·rename_i hq
   rcases List.mem_cons.1 h with e|e
   ·exact absurd (by simp [e]) hq
   ·exact ih (i+1) e
theorem z4N {nm:zgS}: ∀(l:List zgS) (i:Nat),plM nm l i≠ -1→nm∈l:=by
 intro l
 induction l with
 |nil=>intro i h;exact absurd rfl h
 |cons x l ih=>
  intro i h
  unfold plM at h
  split at h
  ·rename_i hq
   have e:x=nm:=z2Q (by simpa using hq)
   exact e▸List.mem_cons_self
  ·exact List.mem_cons_of_mem _ (ih _ h)
theorem zfN {A:List As}{L:List Lc}{qs:List zgS}{top:Nat}{W:List Int}(hp:zfn A L top): ∀r,r≤A.length→ ∀(i:Nat) (x:As),A[i]?=some x→1≤zb (gvM A L qs top W r) (i:Int)→zb (rwM A (lnM A L) qs (gvM A L qs top W A.length) r) (i:Int)≠0:=by
 intro r
 induction r with
 |zero=>intro _ i x _ h;unfold gvM at h;rw [z2q] at h;omega
 |succ r ih=>
  intro hr i x hx h
  have hi:=(zgF.1 hx).1
  have hg:0<zb (gvM A L qs top W A.length) (i:Int):=by
   have:=zcd (A:=A) (L:=L) (qs:=qs) (top:=top) (W:=W) (k:=1) (zgH _) hr (i:Int) h
   omega
  have h1:1≤zb (ltM A W (jP (stM A qs top (gvM A L qs top W r)) top L [])) (i:Int):=h
  unfold ltM at h1
  rw [z5N,hx] at h1
  have h1:=(z1T.1 h1).2
  obtain⟨nm,hn,hs⟩:=hp _ i x hx h1
  have e1:zb (rwM A (lnM A L) qs (gvM A L qs top W A.length) (r+1)) (i:Int)=if i<A.length then(if 0<zb (gvM A L qs top W A.length) (i:Int) then z4I A (lnM A L) qs (rwM A (lnM A L) qs (gvM A L qs top W A.length) r) i else 0) else 0:=z86 ..
  rw [e1,if_pos hi,if_pos hg]
  unfold z4I
  by_cases hq:((lnM A L i).any fun nm=>plM nm qs 0 != -1)=true
  ·rw [if_pos hq];omega
  ·rw [if_neg hq]
   rcases(z1v (Int.le_refl 1)).1 hs with⟨q1,_⟩|⟨_,j,y,q2,q3,q4⟩
   ·exact absurd (List.any_eq_true.2 ⟨nm,hn,by simpa using q1⟩) hq
   ·have h2:=ih (by omega) j y q2 q4
    have hc:z9T (lnM A L i) (rwM A (lnM A L) qs (gvM A L qs top W A.length) r) j y:=⟨h2,z9u _ _ (by rw [z2Q q3];exact hn)⟩
    rcases z1X (lnM A L i) (rwM A (lnM A L) qs (gvM A L qs top W A.length) r) A with⟨_,hno⟩|⟨f,z,_,e2,_,_⟩
    ·exact absurd hc (hno j y q2)
    ·rw [e2,if_neg (by simp)]
     have:=z0H (A:=A) (ln:=lnM A L) (qs:=qs) (g:=gvM A L qs top W A.length) r f
     omega
def zdW (x:Lc)(w:World)(e:Ending)(w':World):Prop:= ∃a k,e= .returned (.agg #[.int .i64 x.form,.string x.text,.int .i64 x.left,.int .i64 x.right,.int .i64 x.place,.int .i64 x.count,.slice a x.items.length k])∧Below w.heap.size w w'
theorem zda (tb o base:Nat)(st:St)(V:Nat→Value)(iv cv:List Value)(i:Nat)(x:Lc)(w:World)(hc:w.cell? ⟨tb,o+1,none⟩=some (V 4))(ht:TreeV w base st V iv cv)(hel:st.L.length≤100000)(hx:st.L[i]?=some x):
  Calls Tryz.prog 112 #[.pointer (some ⟨tb,o,none⟩),.int .i64 i] w fun e w'=>zdW x w e w':=by
 have HB:=z8 (zgR w.heap.size w)
 have hblt:=zd hc
 have how:=ht.own 4 (by omega) (by omega)
 have hlt:i<st.L.length:=(zgF.1 hx).1
 obtain⟨u,hu⟩: ∃u,iv[i]?=some u:=⟨iv[i]'(by have:=ht.il;omega),zgE (by have:=ht.il;omega)⟩
 have hit:=ht.items i x u hx hu
 obtain⟨a6,k6,rfl⟩:=za hit
 obtain⟨a5,k5,e5⟩: ∃a k,V 4= .slice a st.L.length k:=za how
 have how:w.ownsRow base 160 7 (.slice a5 st.L.length k5) st.L.length ((List.zipWith Lc.cells st.L iv).flatten):=e5▸how
 rw [e5] at hc
 obtain⟨g,cap,hv,hb,hg⟩:=how.form (by omega)
 injection hv with e1 e2 e3
 subst e1 e3
 have hcell: ∀j z,(x.cells (.slice a6 x.items.length k6))[j]?=some z→j<7→w.cell? ⟨g,i*7+j,none⟩=some z:=fun j z hz hj=>
  zl how _ _ ((z55 st.L iv i j x _ hx hu hj).trans hz)
 have q0:w.cell? ⟨g,i*7,none⟩=some (.int .i64 x.form):=hcell 0 _ rfl (by omega)
 have q1:=hcell 1 _ rfl (by omega)
 have q2:=hcell 2 _ rfl (by omega)
 have q3:=hcell 3 _ rfl (by omega)
 have q4:=hcell 4 _ rfl (by omega)
 have q5:=hcell 5 _ rfl (by omega)
 have q6:=hcell 6 _ rfl (by omega)
 have hlt':(i:Int)<st.L.length:=by omega
 clear hcell how hx ht e5 hit hu
 go_enter Tryz.func112,Tryz.ntmps112
 go_wp2_with fail
 exact bodyPost_ret (v:= .agg #[.int .i64 x.form,.string x.text,.int .i64 x.left,.int .i64 x.right,.int .i64 x.place,.int .i64 x.count,.slice a6 x.items.length k6]) (by simp [results,Tryz.results112,go_sem]) rfl ⟨a6,k6,rfl,HB.out.alloc (zgH _) _⟩
def zbG (l:List zgS)(w:World)(e:Ending)(w':World):Prop:= ∃v,e= .returned v∧w'.ownsRow w.heap.size 9 1 v l.length (l.map Value.string)∧Below w.heap.size w w'
theorem zaT (L:List Lc)(a:Nat):z3a L a a=[]:=by
 unfold z3a
 rw [zgK (by rw [List.length_take];omega)]
 rfl
theorem z7S (L:List Lc)(a e:Nat):(z3a L a e).length≤e - a:=by
 unfold z3a
 refine zgP (List.length_filterMap_le _ _) ?_
 rw [List.length_drop,List.length_take]
 omega
theorem z6T (tb o base:Nat)(st:St)(V:Nat→Value)(iv cv:List Value)(i:Nat)(w:World)(hc0:w.cell? ⟨tb,o,none⟩=some (V 3))(hc:w.cell? ⟨tb,o+1,none⟩=some (V 4))(ht:TreeV w base st V iv cv)(hel:st.L.length≤100000)(hal:st.A.length≤100000)(hto:Tos st.A st.L)(hi:i<st.A.length):
  Calls Tryz.prog 71 #[.pointer (some ⟨tb,o,none⟩),.int .i64 i] w fun e w'=>zbG (lnM st.A st.L i) w e w':=by
 obtain⟨x,hx⟩: ∃x,st.A[i]?=some x:=⟨st.A[i],zgE hi⟩
 obtain⟨a,t,hfa,htt,hat,htl⟩:=hto i x hx
 have hln:=z8 (z6I (L:=st.L) hx hfa htt)
 have hrow0:=ht.own 3 (by omega) (by omega)
 obtain⟨a3,k3,e3⟩:=za hrow0
 have hn3:nOf st 3=st.A.length:=rfl
 have hrow:w.ownsRow base 84 3 (.slice a3 st.A.length k3) st.A.length ((st.A.map As.cells).flatten):=by rw [e3] at hrow0;exact hrow0
 have hblt:=zd hc
 have HC4:=z8 hc
 rw [e3,hn3] at hc0
 obtain⟨g,cap,hv,hb,hg⟩:=hrow.form (by omega)
 injection hv with u1 u2 u3
 subst u1 u3
 have c1:w.cell? ⟨g,i*3+1,none⟩=some (.int .i64 t):=by
  rw [←htt]
  exact zl hrow _ _ (zS As.cells 3 As.cells3 st.A i 1 x hx (by omega))
 have HT:=z8 ht
 have hi':(i:Int)<st.A.length:=by omega
 have hfr:Hid (0<i→ ∃z:Int,w.cell? ⟨g,(i - 1)*3+1,none⟩=some (.int .i64 z)∧z+1=(a:Int)):=z8 fun h0=>by
  obtain⟨y,hy⟩: ∃y,st.A[i - 1]?=some y:=⟨st.A[i - 1],zgE (by omega)⟩
  refine⟨y.to_,zl hrow _ _ (zS As.cells 3 As.cells3 st.A (i - 1) 1 y hy (by omega)),?_⟩
  unfold z26 at hfa
  rw [if_neg (by omega)] at hfa
  simpa [List.getD,hy] using hfa
 have hf0:Hid (i=0→a=0):=z8 fun h0=>by
  unfold z26 at hfa
  rw [if_pos h0] at hfa
  omega
 obtain⟨i0,hii,hz0,hz1,hz2⟩:=info_parts info9
 have HM:=z8 (World.ownsRow_made (base:=w.heap.size) (e:=9) (size:=1) w #[] 0 (zgH _) (by decide) (by simp))
 have HB0:Hid (Below w.heap.size w (w.alloc (.cells #[] 9))):=z8 ((zgR _ _).alloc (zgH _) _)
 clear hc hrow hrow0 ht hx hfa htt e3 hn3 hto
 go_enter Tryz.func71,Tryz.ntmps71
 go_upto_if 23 with fail
 go_cut [6] (fun fv wx=>fv= .int .i64 a∧wx=w.alloc (.cells #[] 9))
 case first=>
  by_cases h0:i=0
  ·have ha0:=hf0.out h0
   subst h0 ha0
   go_wp2_with fail
   go_meet
   exact⟨rfl,rfl⟩
  ·obtain⟨z,hz,hza⟩:=hfr.out (by omega)
   have hpos:(0:Int)<(i:Int):=by omega
   have hza':Hid (z+1=(a:Int)):=z8 hza
   have hzb:z+1≤100000:=by omega
   have hzc:0≤z+1:=by omega
   clear hza
   go_wp2_with fail
   go_meet
   exact⟨by rw [←hza'.out],rfl⟩
 case rest=>
  obtain⟨rfl,rfl⟩:=hcut
  clear hfr hf0
  go_wp2_with fail
  go_loopg [5,7] (t+2 - a) (fun n nv kv wr=> ∃k:Nat,n+k=t+2∧a≤k∧k≤t+1∧kv= .int .i64 k∧Hid (wr.ownsRow w.heap.size 9 1 nv (z3a st.L a k).length ((z3a st.L a k).map Value.string))∧Hid (Below w.heap.size w wr))
  case atStart=>exact⟨a,by omega,zgH _,by omega,rfl,z8 (by rw [zaT];exact HM.out),HB0⟩
  case round=>
   obtain⟨k,hk,hak,hkt,rfl,HOW,HB⟩:=hrel
   have hHK:=z8 hk
   clear hk
   obtain⟨ag,kg,rfl⟩:=za HOW.out
   have hz0':w.heap.size≤wr.heap.size:=HB.out.size
   have d0:wr.cell? ⟨tb,o,none⟩=some (.slice (some ⟨g,0,none⟩) st.A.length k3):=(HB.out.cell (p:=⟨tb,o,none⟩) hblt).trans hc0
   have d1:wr.cell? ⟨g,i*3+1,none⟩=some (.int .i64 t):=(HB.out.cell (p:=⟨g,i*3+1,none⟩) hg).trans c1
   by_cases hlt:k≤t
   ·obtain⟨y,hy⟩: ∃y,st.L[k]?=some y:=⟨st.L[k]'(by omega),zgE _⟩
    have HLA:=z8 (fun n=>zda tb o base st V iv cv k y (wr.drewN n) ((HB.out.cell (p:=⟨tb,o+1,none⟩) hblt).trans HC4.out) ((HT.out.same fun q _ hq=>HB.out.block q hq).same fun q _ hq=>rfl) hel hy)
    have hst:=z8 (z9t hy hak)
    have hnl:=z7S st.L a k
    have hlt':(k:Int)≤t:=by omega
    clear hy
    go_wp2_with fail
    refine(HLA.out 0).mono ?_
    rintro e w2 ⟨a6,k6,rfl,hB2⟩
    have hBw:Below wr.heap.size wr w2:=⟨hB2.os,hB2.tape,hB2.output,hB2.size,hB2.block⟩
    clear hB2
    have hB2:=HB.out.trans (hBw.mono hz0')
    have hown2:=zc HOW.out fun q e=>hBw.block q (HOW.out.lt q e).2
    have hB3:=hB2.alloc hB2.size (.cells #[.int .i64 y.form,.string y.text,.int .i64 y.left,.int .i64 y.right,.int .i64 y.place,.int .i64 y.count,.slice a6 y.items.length k6] 160)
    have HOWN:=z8 (hown2.alloc (.cells #[.int .i64 y.form,.string y.text,.int .i64 y.left,.int .i64 y.right,.int .i64 y.place,.int .i64 y.count,.slice a6 y.items.length k6] 160))
    have HB3:=z8 hB3
    have hw3:w.heap.size≤(w2.alloc (.cells #[.int .i64 y.form,.string y.text,.int .i64 y.left,.int .i64 y.right,.int .i64 y.place,.int .i64 y.count,.slice a6 y.items.length k6] 160)).heap.size:=hB3.size
    have hw2:w.heap.size≤w2.heap.size:=hB2.size
    clear hown2 hB2 hB3 HLA hBw
    cases hf:(y.form==0)
    ·have hst2:Hid (z3a st.L a (k+1)=z3a st.L a k):=z8 (by rw [hst.out];unfold z2Z;rw [hf];simp)
     go_wp2_with fail
     have hk:=hHK.out
     go_roundg (t+1 - k)
     case measure=>omega
     case rel=>exact⟨k+1,by omega,by omega,by omega,by go_num,by rw [hst2.out];exact HOWN,HB3⟩
    ·have hst2:Hid (z3a st.L a (k+1)=z3a st.L a k++[y.text]):=z8 (by rw [hst.out];unfold z2Z;rw [hf];rfl)
     have hna:=z8 (World.news_of_block (heap_alloc_new (w2.alloc (.cells #[.int .i64 y.form,.string y.text,.int .i64 y.left,.int .i64 y.right,.int .i64 y.place,.int .i64 y.count,.slice a6 y.items.length k6] 160)) (.cells #[.string y.text] 9)))
     go_wp2_with (at_builtin;go_must (refine wpList_append_lies _ rfl (.tmp 53) (.tmp 56) 56 rfl w.heap.size 9 i0 _ 1 16 Tryz.underlying56 hii hz0 hz1 hz2 rfl (by omega) _ (z3a st.L a k).length _ rfl (HOWN.out.alloc _) ⟨w2.heap.size+1,0,none⟩ 1 1 [.string y.text] rfl rfl ?news ?one (by omega) ?mm ?bys ?base (w2.heap.size+1+1) (by simp) ?rest))
     case news=>simpa using hna.out
     case one=>intro u hu;simp at hu;subst hu;rfl
     case mm=>unfold maxLen;omega
     case bys=>omega
     case base=>simp;omega
     case rest=>
      intro gb2 cap2 w3 hown3 hgrow hat hlt2
      have hB4:=z8 (Below.grown (HB3.out.alloc hw3 _) hgrow (by simp;omega) fun q e=>(HOWN.out.lt q e).1)
      have hown4:Hid (w3.ownsRow w.heap.size 9 1 (.slice (some ⟨gb2,0,none⟩) ((z3a st.L a k).length+1) cap2) (z3a st.L a (k+1)).length ((z3a st.L a (k+1)).map Value.string)):=z8 (by rw [hst2.out];simpa using hown3)
      clear hown3 hgrow hat
      go_wp2_with fail
      have hk:=hHK.out
      go_roundg (t+1 - k)
      case measure=>omega
      case rel=>exact⟨k+1,by omega,by omega,by omega,by go_num,hown4,hB4⟩
   ·have hlt': ¬(k:Int)≤t:=by omega
    have hkk:k=t+1:=by omega
    have HF:Hid (lnM st.A st.L i=z3a st.L a k):=z8 (by rw [hln.out,hkk])
    clear hkk
    go_wp2_with fail
    go_ret
    exact⟨_,rfl,by rw [HF.out];exact HOW.out,HB.out⟩
theorem z38 (tb o base:Nat)(st:St)(V:Nat→Value)(iv cv:List Value)(i:Int)(w:World)(hc0:w.cell? ⟨tb,o,none⟩=some (V 3))(hc:w.cell? ⟨tb,o+1,none⟩=some (V 4))(ht:TreeV w base st V iv cv)(hel:st.L.length≤100000)(hal:st.A.length≤100000)(hto:Tos st.A st.L):
  Calls Tryz.prog 71 #[.pointer (some ⟨tb,o,none⟩),.int .i64 i] w fun e w'=>zbG (if i<0 then [] else lnM st.A st.L i.toNat) w e w':=by
 have HM:=z8 (World.ownsRow_made (base:=w.heap.size) (e:=9) (size:=1) w #[] 0 (zgH _) (by decide) (by simp))
 have HB0:Hid (Below w.heap.size w (w.alloc (.cells #[] 9))):=z8 ((zgR _ _).alloc (zgH _) _)
 by_cases h0:i<0
 ·rw [if_pos h0]
  clear hc hc0 ht
  go_enter Tryz.func71,Tryz.ntmps71
  go_wp2_with fail
  go_ret
  exact⟨_,rfl,HM.out,HB0.out⟩
 ·obtain⟨j,rfl⟩:=Int.eq_ofNat_of_zero_le (show 0≤i by omega)
  rw [if_neg h0,Int.toNat_natCast]
  by_cases h1:j<st.A.length
  ·exact z6T tb o base st V iv cv j w hc0 hc ht hel hal hto h1
  ·have hr:Hid (lnM st.A st.L j=[]):=z8 (by unfold lnM;rw [List.getElem?_eq_none (by omega)])
   obtain⟨a3,k3,e3⟩:=za (ht.own 3 (by omega) (by omega))
   have hn3:nOf st 3=st.A.length:=rfl
   rw [e3,hn3] at hc0
   have h1':(st.A.length:Int)≤(j:Int):=by omega
   have hblt:=zd hc
   rw [hr.out]
   clear hc ht hr
   go_enter Tryz.func71,Tryz.ntmps71
   go_wp2_with fail
   go_ret
   exact⟨_,rfl,HM.out,HB0.out⟩
theorem z1W (gb base lb vb:Nat)(st:St)(V:Nat→Value)(iv cv:List Value)(l:List (zgS×zgS))(av:Value)(vals:List zgS)(vv:Value)(qs:List zgS)(qv:Value)(nb ib:Nat)(names:List zgS)(nv:Value)(lens:List Int)(lv:Value)(w:World)(h:Gd w gb base lb vb st V iv cv l av vals vv qs qv)(hn:w.ownsRow nb 9 1 nv names.length (names.map Value.string))(hnl:names.length≤100000)(hl:w.ownsRow ib 3 1 lv lens.length (lens.map (Value.int .i64)))(hll:lens.length≤100000)(hA:st.A.length≤100000):
  Calls Tryz.prog 69 #[.pointer (some ⟨gb,0,none⟩),nv,lv] w fun e w'=>e= .returned (.int .i64 (neM names lens st.A 0 (-1)))∧ ∃n,w'=w.drewN n:=by
 obtain⟨en,hbx⟩:=h.box
 have hrow:=h.tree.own 3 (by omega) (by omega)
 obtain⟨a3,k3,e3⟩:=za hrow
 obtain⟨an,kn,rfl⟩:=za hn
 obtain⟨al,kl,rfl⟩:=za hl
 have hn3:nOf st 3=st.A.length:=rfl
 have hrow:w.ownsRow base 84 3 (.slice a3 st.A.length k3) st.A.length ((st.A.map As.cells).flatten):=by rw [e3] at hrow;exact hrow
 have b1:=(z31 hbx).2.1
 rw [e3,hn3] at b1
 have HP:=z8 (fun(nm:zgS) (n:Nat)=>jY nb names _ nm (w.drewN n) (zc (w':=w.drewN n) hn fun k e=>rfl) hnl)
 have HL:=z8 (fun(i:Int) (n:Nat)=>jn ib lens _ i (w.drewN n) (zc (w':=w.drewN n) hl fun k e=>rfl) hll)
 have HR:=z8 hrow
 clear h hn hl hrow hbx e3 hn3
 go_enter Tryz.func69,Tryz.ntmps69
 go_wp2_with fail
 go_loopg [7,8] (st.A.length+1) (fun k bv iv wr=> ∃(i m:Nat) (b:Int),k+i=st.A.length+1∧i≤st.A.length∧iv= .int .i64 i∧bv= .int .i64 b∧wr=w.drewN m∧b<i∧Hid (neM names lens (st.A.drop i) i b=neM names lens st.A 0 (-1)))
 case atStart=>exact⟨0,0,-1,rfl,zgO _,rfl,rfl,rfl,by omega,z8 rfl⟩
 case round=>
  obtain⟨i,m,b,hk,hil,rfl,rfl,rfl,hbi,hfin⟩:=hrel
  have hHK:=z8 hk
  clear hk
  by_cases hlt:i<st.A.length
  ·obtain⟨g,cap,hvv,hbb,hgg⟩:=HR.out.form (by omega)
   injection hvv with u1 u2 u3
   subst u1 u3
   obtain⟨x,hx⟩: ∃x,st.A[i]?=some x:=⟨st.A[i],zgE hlt⟩
   have q0:w.cell? ⟨g,i*3,none⟩=some (.string x.by_):=zl HR.out _ _ (zS As.cells 3 As.cells3 st.A i 0 x hx (by omega))
   have hst:Hid (neM names lens (st.A.drop i) i b=neM names lens (st.A.drop (i+1)) (i+1) (if zb lens i==0||plM x.by_ names 0== -1 then b else if b== -1||decide (zb lens i<zb lens b) then(i:Int) else b)):=z8 (by
    obtain⟨hl,hx'⟩:=zgF.1 hx
    rw [zgL hl,hx']
    rfl)
   have hlt':(i:Int)<st.A.length:=by omega
   have HLI:=z8 (HL.out i m)
   have HPI:=z8 (HP.out x.by_)
   have HLB:=z8 (HL.out b)
   clear hx
   generalize zb lens i=t at*
   generalize plM x.by_ names 0=p at*
   generalize zb lens b=tb at*
   go_wp2_with fail
   refine HLI.out.mono ?_
   rintro e w2 ⟨rfl,rfl⟩
   clear HLI
   have fin: ∀z:Int,(if t==0||p== -1 then b else if b== -1||decide (t<tb) then(i:Int) else b)=z→Hid (neM names lens (st.A.drop (i+1)) (i+1) z=neM names lens st.A 0 (-1)):=fun z hz=>z8 (by rw [←hfin.out,hst.out,hz])
   have FIN:=z8 fin
   clear fin hst hfin
   cases ht:(t==0)
   case true=>
    go_wp2_with fail
    have hk:=hHK.out
    go_roundg (st.A.length - i)
    case measure=>omega
    case rel=>exact⟨i+1,_,b,by omega,by omega,by go_num,rfl,rfl,by omega,FIN.out b (by rw [ht];rfl)⟩
   case false=>
   cases hp:(p== -1)
   case true=>
    go_wp2_with (go_at_call 66;refine(HPI.out _).mono ?_;rintro e w2 ⟨rfl,rfl⟩)
    have hk:=hHK.out
    go_roundg (st.A.length - i)
    case measure=>omega
    case rel=>exact⟨i+1,_,b,by omega,by omega,by go_num,rfl,rfl,by omega,FIN.out b (by rw [ht,hp];rfl)⟩
   case false=>
   cases hb:(b== -1)
   case true=>
    go_wp2_with (go_at_call 66;refine(HPI.out _).mono ?_;rintro e w2 ⟨rfl,rfl⟩)
    have hk:=hHK.out
    go_roundg (st.A.length - i)
    case measure=>omega
    case rel=>exact⟨i+1,_,i,by omega,by omega,by go_num,rfl,rfl,by omega,FIN.out i (by rw [ht,hp,hb];rfl)⟩
   case false=>
   by_cases htb:t<tb
   ·go_wp2_with (first|(go_at_call 66;refine(HPI.out _).mono ?_;rintro e w2 ⟨rfl,rfl⟩)|(go_at_call 48;refine(HLB.out _).mono ?_;rintro e w2 ⟨rfl,rfl⟩))
    have hk:=hHK.out
    go_roundg (st.A.length - i)
    case measure=>omega
    case rel=>exact⟨i+1,_,i,by omega,by omega,by go_num,rfl,rfl,by omega,FIN.out i (by rw [ht,hp,hb,decide_eq_true htb];rfl)⟩
   ·go_wp2_with (first|(go_at_call 66;refine(HPI.out _).mono ?_;rintro e w2 ⟨rfl,rfl⟩)|(go_at_call 48;refine(HLB.out _).mono ?_;rintro e w2 ⟨rfl,rfl⟩))
    have hk:=hHK.out
    go_roundg (st.A.length - i)
    case measure=>omega
    case rel=>exact⟨i+1,_,b,by omega,by omega,by go_num,rfl,rfl,by omega,FIN.out b (by rw [ht,hp,hb,decide_eq_false (by omega)];rfl)⟩
  ·have hlt': ¬(i:Int)<st.A.length:=by omega
   have hres:Hid (neM names lens st.A 0 (-1)=b):=z8 (by rw [←hfin.out,zgK (by omega)];rfl)
   go_wp2_with fail
   go_ret
   exact⟨by rw [hres.out];rfl,m,rfl⟩
theorem z9q (A:List As)(L:List Lc)(i:Nat)(h:Tos A L)(hL:L.length≤100000):(lnM A L i).length≤100000:=by
 cases hx:A[i]? with
 |none=>unfold lnM;rw [hx];exact zgO _
 |some x=>
  obtain⟨a,t,h1,h2,h3,h4⟩:=h i x hx
  rw [z6I hx h1 h2]
  have:=z7S L a (t+1)
  omega
theorem z4W (gb base lb vb:Nat)(st:St)(V:Nat→Value)(iv cv:List Value)(l:List (zgS×zgS))(av:Value)(vals:List zgS)(vv:Value)(qs:List zgS)(qv:Value)(ib:Nat)(lens:List Int)(lv:Value)(i:Nat)(w:World)(h:Gd w gb base lb vb st V iv cv l av vals vv qs qv)(hl:w.ownsRow ib 3 1 lv lens.length (lens.map (Value.int .i64)))(hll:lens.length≤100000)(hA:st.A.length≤100000)(hL:st.L.length≤100000)(hto:Tos st.A st.L)(hql:qs.length≤100000)(hb: ∀j,0≤zb lens j∧zb lens j≤100000):
  Calls Tryz.prog 146 #[.pointer (some ⟨gb,0,none⟩),.int .i64 i,lv] w fun e w'=>e= .returned (.int .i64 (z4I st.A (lnM st.A st.L) qs lens i))∧Below w.heap.size w w':=by
 obtain⟨en,hbx⟩:=h.box
 obtain⟨b0,b1,b2,b3,b4,b5,b6,b7,bf⟩:=z31 hbx
 have HLN:=z8 (fun n=>z38 gb 1 base st V iv cv i (w.drewN n) b1 b2 (h.tree.same fun q _ hq=>rfl) hL hA hto)
 have hin: ¬(i:Int)<0:=by omega
 rw [if_neg hin,Int.toNat_natCast] at HLN
 have hnl:=z9q st.A st.L i hto hL
 obtain⟨al,kl,rfl⟩:=za hl
 obtain⟨aq,kq,eq⟩:=za h.reqs
 rw [eq] at b7
 have hgb:=jm hbx
 have hst:Hid (z4I st.A (lnM st.A st.L) qs lens i=if(lnM st.A st.L i).any fun nm=>plM nm qs 0 != -1 then 1 else if neM (lnM st.A st.L i) lens st.A 0 (-1)== -1 then 0 else 1+zb lens (neM (lnM st.A st.L i) lens st.A 0 (-1))):=z8 rfl
 have HG:=z8 h
 have HL:=z8 hl
 have HEQ:=z8 eq
 clear h hl hbx bf b0 b1 b2 b3 b4 b5 b6 eq hin
 generalize lnM st.A st.L i=nms at*
 go_enter Tryz.func146,Tryz.ntmps146
 go_wp2_with fail
 refine(HLN.out 0).mono ?_
 rintro e w1 ⟨nv,rfl,hn,hB⟩
 have hB:Below w.heap.size w w1:=⟨hB.os,hB.tape,hB.output,hB.size,hB.block⟩
 have hn:w1.ownsRow w.heap.size 9 1 nv nms.length (nms.map Value.string):=hn
 obtain⟨an,kn,rfl⟩:=za hn
 have hG1:=HG.out.keep hB
 have hl1:=zc HL.out fun k e=>hB.block k (HL.out.lt k e).2
 have d7:w1.cell? ⟨gb,7,none⟩=some (.slice aq qs.length kq):=(hB.cell (p:=⟨gb,7,none⟩) hgb).trans b7
 have hrq:w1.ownsRow vb 9 1 (.slice aq qs.length kq) qs.length (qs.map Value.string):=by have q:=hG1.reqs;rw [HEQ.out] at q;exact q
 have HPL:=z8 (fun(nm:zgS) (W':World) (hk: ∀k,W'.heap[k]?=w1.heap[k]?)=>jY vb qs _ nm W' (zc hrq fun k e=>hk k) hql)
 have HNE:=z8 (fun n=>z1W gb base lb vb st V iv cv l av vals vv qs qv _ ib nms _ lens _ (w1.drewN n) (hG1.drewN n) (zc (w':=w1.drewN n) hn fun k e=>rfl) hnl (zc (w':=w1.drewN n) hl1 fun k e=>rfl) hll hA)
 have HLA:=z8 (fun(j:Int) (n:Nat)=>jn ib lens _ j (w1.drewN n) (zc (w':=w1.drewN n) hl1 fun k e=>rfl) hll)
 have HN:=z8 hn
 have HB:=z8 hB
 clear hG1 hl1 hrq hn hB HLN HG HL HEQ b7
 go_wp2_with fail
 go_loopg [8] (nms.length+1) (fun k iv wr=> ∃(j m:Nat),k+j=nms.length+1∧j≤nms.length∧iv= .int .i64 j∧wr=w1.drewN m∧Hid ((nms.drop j).any (fun nm=>plM nm qs 0 != -1)=nms.any fun nm=>plM nm qs 0 != -1))
 case atStart=>exact⟨0,0,rfl,zgO _,rfl,rfl,z8 rfl⟩
 case round=>
  obtain⟨j,m,hk,hjl,rfl,rfl,hfin⟩:=hrel
  have hHK:=z8 hk
  clear hk
  by_cases hlt:j<nms.length
  ·obtain⟨g,cap,hvv,hbb,hgg⟩:=HN.out.form (by omega)
   injection hvv with u1 u2 u3
   subst u1 u3
   obtain⟨x,hx⟩: ∃x,nms[j]?=some x:=⟨nms[j],zgE hlt⟩
   have q0:w1.cell? ⟨g,j,none⟩=some (.string x):=zl HN.out _ _ (by simp [hx])
   have hsj:Hid ((nms.drop j).any (fun nm=>plM nm qs 0 != -1)=(plM x qs 0 != -1||(nms.drop (j+1)).any fun nm=>plM nm qs 0 != -1)):=z8 (by
    obtain⟨hl,hx'⟩:=zgF.1 hx
    rw [zgL hl,hx']
    rfl)
   have hlt':(j:Int)<nms.length:=by omega
   have HPX:=z8 (fun N=>HPL.out x (w1.drewN N) (fun _=>rfl))
   clear hx
   generalize plM x qs 0=p at*
   cases hp:(p != -1)
   ·go_wp2_with fail
    go_quiet ((go_at_call 66;exact(HPX.out _).mono fun e w' ⟨q1,q2⟩=>⟨q1,_,q2⟩))
    go_wp2_with fail
    have hk:=hHK.out
    go_roundg (nms.length - j)
    case measure=>omega
    case rel=>exact⟨j+1,_,by omega,by omega,by go_num,rfl,z8 (by rw [←hfin.out,hsj.out,hp];rfl)⟩
   ·have hres:Hid (z4I st.A (lnM st.A st.L) qs lens i=1):=z8 (by rw [hst.out,←hfin.out,hsj.out,hp];rfl)
    go_wp2_with fail
    go_quiet ((go_at_call 66;exact(HPX.out _).mono fun e w' ⟨q1,q2⟩=>⟨q1,_,q2⟩))
    go_wp2_with fail
    go_ret
    exact⟨by rw [hres.out];rfl,⟨HB.out.os,HB.out.tape,HB.out.output,HB.out.size,HB.out.block⟩⟩
  ·have hlt': ¬(j:Int)<nms.length:=by omega
   have hno:Hid ((nms.any fun nm=>plM nm qs 0 != -1)=false):=z8 (by rw [←hfin.out,zgK (by omega)];rfl)
   have hst2:Hid (z4I st.A (lnM st.A st.L) qs lens i=if neM nms lens st.A 0 (-1)== -1 then 0 else 1+zb lens (neM nms lens st.A 0 (-1))):=z8 (by rw [hst.out,hno.out];rfl)
   clear hst hfin hno
   have HNM:=z8 (HNE.out m)
   generalize neM nms lens st.A 0 (-1)=f at*
   go_wp2_with fail
   refine HNM.out.mono ?_
   rintro e w2 ⟨rfl,n2,rfl⟩
   have HLF:=z8 (HLA.out f)
   have hbf:=hb f
   generalize zb lens f=t at*
   cases hf:(f== -1)
   ·have hres:Hid (z4I st.A (lnM st.A st.L) qs lens i=1+t):=z8 (by rw [hst2.out,hf];rfl)
    go_wp2_with (go_at_call 48;refine(HLF.out (m+n2)).mono ?_;rintro e w2 ⟨rfl,rfl⟩)
    go_ret
    exact⟨by rw [hres.out];go_num,⟨HB.out.os,HB.out.tape,HB.out.output,HB.out.size,HB.out.block⟩⟩
   ·have hres:Hid (z4I st.A (lnM st.A st.L) qs lens i=0):=z8 (by rw [hst2.out,hf];rfl)
    go_wp2_with fail
    go_ret
    exact⟨by rw [hres.out];rfl,⟨HB.out.os,HB.out.tape,HB.out.output,HB.out.size,HB.out.block⟩⟩
theorem z4d (gb base lb vb:Nat)(st:St)(V:Nat→Value)(iv cv:List Value)(l:List (zgS×zgS))(av:Value)(vals:List zgS)(vv:Value)(qs:List zgS)(qv:Value)(ib gg:Nat)(lens:List Int)(lv:Value)(given:List Int)(gv:Value)(w:World)(h:Gd w gb base lb vb st V iv cv l av vals vv qs qv)(hl:w.ownsRow ib 3 1 lv lens.length (lens.map (Value.int .i64)))(hll:lens.length≤100000)(hg:w.ownsRow gg 3 1 gv given.length (given.map (Value.int .i64)))(hgl:given.length≤100000)(hA:st.A.length≤100000)(hL:st.L.length≤100000)(hto:Tos st.A st.L)(hql:qs.length≤100000)(hb: ∀j,0≤zb lens j∧zb lens j≤100000):
  Calls Tryz.prog 110 #[.pointer (some ⟨gb,0,none⟩),gv,lv] w fun e w'=>z3f (lgM st.A (lnM st.A st.L) qs given lens) w e w':=by
 obtain⟨en,hbx⟩:=h.box
 obtain⟨a3,k3,e3⟩:=za (h.tree.own 3 (by omega) (by omega))
 obtain⟨ag0,kg0,rfl⟩:=za hg
 obtain⟨al,kl,rfl⟩:=za hl
 have hgb:=jm hbx
 have b1:=(z31 hbx).2.1
 rw [e3] at b1
 have HG:=z8 h
 have HGV:=z8 (zgI hg hl)
 obtain⟨i0,hi,hz0,hz1,hz2⟩:=info_parts info3
 have HM:=z8 (World.ownsRow_made (base:=w.heap.size) (e:=3) (size:=1) w #[] 0 (zgH _) (by decide) (by simp))
 have HB0:Hid (Below w.heap.size w (w.alloc (.cells #[] 3))):=z8 ((zgR _ _).alloc (zgH _) _)
 have hlg:Hid (lgM st.A (lnM st.A st.L) qs given lens=(List.range st.A.length).map (fun(j:Nat)=>if 0<zb given (j:Int) then z4I st.A (lnM st.A st.L) qs lens j else 0)):=z8 rfl
 obtain⟨F,hF⟩: ∃F:Nat→Int,F=(fun(j:Nat)=>if 0<zb given (j:Int) then z4I st.A (lnM st.A st.L) qs lens j else 0):=⟨_,rfl⟩
 rw [←hF] at hlg
 have HF:=z8 hF
 clear h hbx hg hl e3 hF
 go_enter Tryz.func110,Tryz.ntmps110
 go_wp2_with fail
 go_loopg [7,8] (st.A.length+1) (fun k tv jv wr=> ∃(i:Nat),k+i=st.A.length+1∧i≤st.A.length∧jv= .int .i64 i∧Hid (wr.ownsRow w.heap.size 3 1 tv i (((List.range i).map F).map (Value.int .i64)))∧Hid (Below w.heap.size w wr))
 case atStart=>exact⟨0,rfl,zgO _,rfl,z8 HM.out,HB0⟩
 case round=>
  obtain⟨i,hk,hiC,rfl,HOW,HB⟩:=hrel
  have hHK:=z8 hk
  clear hk
  obtain⟨ag,kg,rfl⟩:=za HOW.out
  have d1:wr.cell? ⟨gb,1,none⟩=some (.slice a3 (nOf st 3) k3):=(HB.out.cell (p:=⟨gb,1,none⟩) hgb).trans b1
  have hn3:nOf st 3=st.A.length:=rfl
  rw [hn3] at d1
  have hz0':w.heap.size≤wr.heap.size:=HB.out.size
  by_cases hlt:i<st.A.length
  ·have hlt':(i:Int)<st.A.length:=by omega
   have hg2:=zc HGV.out.1 fun k e=>HB.out.block k (HGV.out.1.lt k e).2
   have hl2:=zc HGV.out.2 fun k e=>HB.out.block k (HGV.out.2.lt k e).2
   have HLE:=z8 (fun N=>jn gg given _ i (wr.drewN N) (zc (w':=wr.drewN N) hg2 fun k e=>rfl) hgl)
   have HRL:=z8 (z4W gb base lb vb st V iv cv l av vals vv qs qv ib lens _ i wr (HG.out.keep HB.out) hl2 hll hA hL hto hql hb)
   have hFi:Hid (F i=if 0<zb given (i:Int) then z4I st.A (lnM st.A st.L) qs lens i else 0):=z8 (by rw [HF.out])
   clear hg2 hl2
   generalize zb given (i:Int)=t at*
   by_cases ht:0<t
   ·obtain⟨z,hz⟩: ∃z,z4I st.A (lnM st.A st.L) qs lens i=z:=⟨_,rfl⟩
    have HZ:Hid (F i=z):=z8 (by rw [hFi.out,if_pos ht,hz])
    rw [hz] at HRL
    clear hz hFi
    go_wp2_with (go_at_call 48;refine(HLE.out 0).mono ?_;rintro e w2 ⟨rfl,rfl⟩)
    refine HRL.out.mono ?_
    rintro e w2 ⟨rfl,hB2⟩
    have HO2:=z8 (zc HOW.out fun k e=>hB2.block k (HOW.out.lt k e).2)
    have HB2:=z8 (HB.out.trans (hB2.mono hz0'))
    have hw2:w.heap.size≤w2.heap.size:=HB2.out.size
    clear hB2 HRL
    go_wp2_with (at_builtin;go_must (refine wpList_append_lies _ rfl (.tmp 29) (.tmp 31) 60 rfl w.heap.size 3 i0 _ 1 8 Tryz.underlying60 hi hz0 hz1 hz2 rfl (by omega) _ i _ rfl (HO2.out.alloc _) ⟨w2.heap.size,0,none⟩ 1 1 [.int .i64 z] rfl rfl ?news ?one (by omega) ?mm ?bys ?base (w2.heap.size+1) (by simp) ?rest))
    case news=>exact World.news_of_block (heap_alloc_new w2 _)
    case one=>intro u hu;simp at hu;subst hu;rfl
    case mm=>unfold maxLen;omega
    case bys=>omega
    case base=>simp;omega
    case rest=>
     intro gb2 cap2 w3 hown3 hgrow hat hlt2
     have hB3:=z8 (Below.grown (HB2.out.alloc hw2 _) hgrow (by simp;omega) fun k e=>(HO2.out.lt k e).1)
     have hown4:Hid (w3.ownsRow w.heap.size 3 1 (.slice (some ⟨gb2,0,none⟩) (i+1) cap2) (i+1) (((List.range (i+1)).map F).map (Value.int .i64))):=z8 (by rw [List.range_succ,List.map_append,List.map_append];simpa [HZ.out] using hown3)
     clear hown3 hgrow hat
     go_wp2_with fail
     have hk:=hHK.out
     go_roundg (st.A.length - i)
     case measure=>omega
     case rel=>exact⟨i+1,by omega,by omega,by go_num,hown4,hB3⟩
   ·have HZ:Hid (F i=0):=z8 (by rw [hFi.out,if_neg ht])
    have HO2:=z8 HOW.out
    have HB2:=z8 HB.out
    have hw2:=hz0'
    clear hFi HRL
    go_wp2_with (first|(go_at_call 48;refine(HLE.out 0).mono ?_;rintro e w2 ⟨rfl,rfl⟩)|(at_builtin;go_must (refine wpList_append_lies _ rfl (.tmp 29) (.tmp 31) 60 rfl w.heap.size 3 i0 _ 1 8 Tryz.underlying60 hi hz0 hz1 hz2 rfl (by omega) _ i _ rfl (HO2.out.alloc _) ⟨wr.heap.size,0,none⟩ 1 1 [.int .i64 0] rfl rfl ?news ?one (by omega) ?mm ?bys ?base (wr.heap.size+1) (by simp) ?rest)))
    case news=>exact World.news_of_block (heap_alloc_new wr _)
    case one=>intro u hu;simp at hu;subst hu;rfl
    case mm=>unfold maxLen;omega
    case bys=>omega
    case base=>simp;omega
    case rest=>
     intro gb2 cap2 w3 hown3 hgrow hat hlt2
     have hB3:=z8 (Below.grown (HB2.out.alloc hw2 _) hgrow (by simp;omega) fun k e=>(HO2.out.lt k e).1)
     have hown4:Hid (w3.ownsRow w.heap.size 3 1 (.slice (some ⟨gb2,0,none⟩) (i+1) cap2) (i+1) (((List.range (i+1)).map F).map (Value.int .i64))):=z8 (by rw [List.range_succ,List.map_append,List.map_append];simpa [HZ.out] using hown3)
     clear hown3 hgrow hat
     go_wp2_with fail
     have hk:=hHK.out
     go_roundg (st.A.length - i)
     case measure=>omega
     case rel=>exact⟨i+1,by omega,by omega,by go_num,hown4,hB3⟩
  ·have hlt': ¬(i:Int)<st.A.length:=by omega
   have hiC':i=st.A.length:=by omega
   have hfin:wr.ownsRow w.heap.size 3 1 (.slice ag i kg) (lgM st.A (lnM st.A st.L) qs given lens).length ((lgM st.A (lnM st.A st.L) qs given lens).map (Value.int .i64)):=by
    have hq:=HOW.out
    rw [hlg.out,List.length_map,List.length_range]
    rw [hiC'] at hq ⊢
    exact hq
   have HFI:=z8 hfin
   clear hfin hiC'
   go_wp2_with fail
   go_ret
   exact⟨_,rfl,HFI.out,HB.out⟩
theorem zdL {A:List As}{ln:Nat→List zgS}{qs:List zgS}{g:List Int}{r:Nat}(hr:r≤100000)(j:Int):0≤zb (rwM A ln qs g r) j∧zb (rwM A ln qs g r) j≤100000:=by
 by_cases h:j<0
 ·rw [z1g h];omega
 ·obtain⟨k,rfl⟩:=Int.eq_ofNat_of_zero_le (show 0≤j by omega)
  have:=z0H (A:=A) (ln:=ln) (qs:=qs) (g:=g) r k
  omega
theorem z4c (gb base lb vb:Nat)(st:St)(V:Nat→Value)(iv cv:List Value)(l:List (zgS×zgS))(av:Value)(vals:List zgS)(vv:Value)(qs:List zgS)(qv:Value)(given:List Int)(w:World)(h:Gd w gb base lb vb st V iv cv l av vals vv qs qv)(hgv:Calls Tryz.prog 35 #[.pointer (some ⟨gb,0,none⟩)] w fun e w'=>z3f given w e w')(hgl:given.length≤100000)(hA:st.A.length≤100000)(hL:st.L.length≤100000)(hto:Tos st.A st.L)(hql:qs.length≤100000):
  Calls Tryz.prog 68 #[.pointer (some ⟨gb,0,none⟩)] w fun e w'=>z3f (rwM st.A (lnM st.A st.L) qs given st.A.length) w e w':=by
 have HGVC:=z8 hgv
 obtain⟨en,hbx⟩:=h.box
 obtain⟨a3,k3,e3⟩:=za (h.tree.own 3 (by omega) (by omega))
 have hgb:=jm hbx
 have b1:=(z31 hbx).2.1
 rw [e3] at b1
 have HG:=z8 h
 clear h hbx hgv e3
 go_enter Tryz.func68,Tryz.ntmps68
 go_wp2_with fail
 refine HGVC.out.mono ?_
 rintro e wc ⟨gv,rfl,hgo,hlb⟩
 obtain⟨al,kl,rfl⟩:=za hgo
 have hzc:w.heap.size≤wc.heap.size:=hlb.size
 have hgc:gb<wc.heap.size:=by omega
 have d1:wc.cell? ⟨gb,1,none⟩=some (.slice a3 (nOf st 3) k3):=(hlb.cell (p:=⟨gb,1,none⟩) hgb).trans b1
 have HG1:=z8 (HG.out.keep hlb)
 have HB:=z8 hlb
 have HGO:=z8 hgo
 have HM:=z8 (World.ownsRow_made (base:=wc.heap.size) (e:=3) (size:=1) wc #[] 0 (zgH _) (by decide) (by simp))
 have HB0:Hid (Below wc.heap.size wc (wc.alloc (.cells #[] 3))):=z8 ((zgR _ _).alloc (zgH _) _)
 clear hlb hgo HGVC HG b1
 go_wp2_with fail
 go_loopg [4,5] (st.A.length+1) (fun k tv jv wr=> ∃(i:Nat),k+i=st.A.length+1∧i≤st.A.length∧jv= .int .i64 i∧Hid (wr.ownsRow wc.heap.size 3 1 tv (rwM st.A (lnM st.A st.L) qs given i).length ((rwM st.A (lnM st.A st.L) qs given i).map (Value.int .i64)))∧Below wc.heap.size wc wr)
 case atStart=>exact⟨0,rfl,zgO _,rfl,z8 HM.out,HB0.out⟩
 case round=>
  obtain⟨i,hk,hiC,rfl,HOW,hbel⟩:=hrel
  have hHK:=z8 hk
  clear hk
  obtain⟨ag,kg,rfl⟩:=za HOW.out
  have d1':wr.cell? ⟨gb,1,none⟩=some (.slice a3 (nOf st 3) k3):=(hbel.cell (p:=⟨gb,1,none⟩) hgc).trans d1
  have hn3:nOf st 3=st.A.length:=rfl
  rw [hn3] at d1'
  have HBL:=z8 hbel
  by_cases hlt:i<st.A.length
  ·have hrl:(rwM st.A (lnM st.A st.L) qs given i).length≤100000:=by
    cases i with
    |zero=>exact zgO _
    |succ r=>rw [zc5];exact hA
   have HLI:=z8 (z4d gb base lb vb st V iv cv l av vals vv qs qv wc.heap.size w.heap.size (rwM st.A (lnM st.A st.L) qs given i) _ given _ wr (HG1.out.keep hbel) HOW.out hrl (zc HGO.out fun k e=>hbel.block k (HGO.out.lt k e).2) hgl hA hL hto hql (zdL (by omega)))
   have hst:Hid (lgM st.A (lnM st.A st.L) qs given (rwM st.A (lnM st.A st.L) qs given i)=rwM st.A (lnM st.A st.L) qs given (i+1)):=z8 rfl
   rw [hst.out] at HLI
   have hlt':(i:Int)<st.A.length:=by omega
   clear hbel hst
   generalize rwM st.A (lnM st.A st.L) qs given i=G0 at*
   generalize hG1:rwM st.A (lnM st.A st.L) qs given (i+1)=G1 at*
   have HG1':=z8 hG1
   clear hG1
   go_wp2_with fail
   refine HLI.out.mono ?_
   rintro e w2 ⟨v2,rfl,ho2,hB2⟩
   obtain⟨a2,k2,rfl⟩:=za ho2
   have HO2:=z8 (zu ho2 HBL.out.size)
   have HB2:=z8 (HBL.out.trans (hB2.mono HBL.out.size))
   clear ho2 hB2 HLI
   go_wp2_with fail
   have hk:=hHK.out
   go_roundg (st.A.length - i)
   case measure=>omega
   case rel=>exact⟨i+1,by omega,by omega,by go_num,by rw [HG1'.out];exact HO2,HB2.out⟩
  ·have hlt': ¬(i:Int)<st.A.length:=by omega
   have hiC':i=st.A.length:=by omega
   have HF:Hid (wr.ownsRow w.heap.size 3 1 (.slice ag (rwM st.A (lnM st.A st.L) qs given i).length kg) (rwM st.A (lnM st.A st.L) qs given st.A.length).length ((rwM st.A (lnM st.A st.L) qs given st.A.length).map (Value.int .i64))):=z8 (by
    have hq:=HOW.out
    rw [hiC'] at hq ⊢
    exact zu hq hzc)
   have HBE:=z8 (HB.out.trans (hbel.mono HB.out.size))
   clear hiC' hbel
   go_wp2_with fail
   go_ret
   exact⟨_,rfl,HF.out,HBE.out⟩
def dig (k:Int):UInt8:=UInt8.ofNat (48+k.toNat)
def z3G (ks:List Int):zgS:=⟨(ks.map dig).toArray⟩
theorem z8W {k:Int}(h0:0≤k)(h9:k≤9):48≤(dig k).toNat∧(dig k).toNat≤57∧((dig k).toNat:Int)- 48=k:=by
 unfold dig
 rw [UInt8.toNat_ofNat']
 omega
theorem z5K (ks:List Int):(z3G ks).size=ks.length:=by simp [z3G,ByteArray.size]
theorem z9G (ks:List Int)(k:Int):z3G (ks++[k])=z3G ks++⟨#[dig k]⟩:=by
 apply ByteArray.ext
 rw [ByteArray.data_append]
 simp [z3G]
theorem zbj (A:List As)(ln:Nat→List zgS)(ls:List Int): ∀(k:Nat) (nx:Int),(z6m A ln ls k nx).length=k:=by
 intro k
 induction k with
 |zero=>intro nx;rfl
 |succ k ih=>intro nx;show(_::z6m A ln ls k _).length=_;rw [List.length_cons,ih]
def z7a (A:List As)(ln:Nat→List zgS)(ls:List Int):List Int:=z6m A ln ls (zb ls (neM [pol] ls A 0 (-1))).toNat (neM [pol] ls A 0 (-1))
theorem zcQ (gb base lb vb:Nat)(st:St)(V:Nat→Value)(iv cv:List Value)(l:List (zgS×zgS))(av:Value)(vals:List zgS)(vv:Value)(qs:List zgS)(qv:Value)(lens:List Int)(w:World)(h:Gd w gb base lb vb st V iv cv l av vals vv qs qv)(hrl:Calls Tryz.prog 68 #[.pointer (some ⟨gb,0,none⟩)] w fun e w'=>z3f lens w e w')(hll:lens.length≤100000)(hA:st.A.length≤100000)(hL:st.L.length≤100000)(hto:Tos st.A st.L)(hb: ∀j,0≤zb lens j∧zb lens j≤1000)(hd: ∀x∈z7a st.A (lnM st.A st.L) lens,0≤x∧x≤9):
  Calls Tryz.prog 38 #[.pointer (some ⟨gb,0,none⟩)] w fun e w'=>e= .returned (.string (z3G (z7a st.A (lnM st.A st.L) lens)))∧Below w.heap.size w w':=by
 have HRL:=z8 hrl
 obtain⟨en,hbx⟩:=h.box
 obtain⟨b0,b1,b2,b3,b4,b5,b6,b7,bf⟩:=z31 hbx
 have hgb:=jm hbx
 have HG:=z8 h
 have HC:=z8 (zgI b1 b2)
 have hrm:Hid (z7a st.A (lnM st.A st.L) lens=z6m st.A (lnM st.A st.L) lens (zb lens (neM [pol] lens st.A 0 (-1))).toNat (neM [pol] lens st.A 0 (-1))):=z8 rfl
 have HD:=z8 hd
 clear h hbx hrl bf b0 b1 b2 b3 b4 b5 b6 b7 hd
 generalize z7a st.A (lnM st.A st.L) lens=R at*
 go_enter Tryz.func38,Tryz.ntmps38
 go_wp2_with fail
 refine HRL.out.mono ?_
 rintro e w1 ⟨lv,rfl,hlo,hB1⟩
 obtain⟨al,kl,rfl⟩:=za hlo
 have hz1:w.heap.size≤w1.heap.size:=hB1.size
 have hgc:gb<w1.heap.size:=by omega
 have hG1:=HG.out.keep hB1
 have hBA:Below w1.heap.size w1 (w1.alloc (.cells #[.string pol] 9)):=(zgR _ _).alloc (zgH _) _
 have hlit:(w1.alloc (.cells #[.string pol] 9)).ownsRow w1.heap.size 9 1 (.slice (some ⟨w1.heap.size,0,none⟩) 1 1) 1 [.string pol]:=World.ownsRow_lit w1 #[.string pol] 1 (zgH _) (by unfold maxLen;omega) rfl
 have HNE:=z8 (fun n=>z1W gb base lb vb st V iv cv l av vals vv qs qv w1.heap.size w.heap.size [pol] (.slice (some ⟨w1.heap.size,0,none⟩) 1 1) lens _ ((w1.alloc (.cells #[.string pol] 9)).drewN n) ((hG1.keep hBA).drewN n) (zc (w':=(w1.alloc (.cells #[.string pol] 9)).drewN n) hlit fun k e=>rfl) (by simp) (zc (w':=(w1.alloc (.cells #[.string pol] 9)).drewN n) (hlo.alloc _) fun k e=>rfl) hll hA)
 have HLE:=z8 (fun(j:Int) (n:Nat)=>jn w.heap.size lens _ j ((w1.alloc (.cells #[.string pol] 9)).drewN n) (zc (w':=(w1.alloc (.cells #[.string pol] 9)).drewN n) (hlo.alloc _) fun k e=>rfl) hll)
 have HLO:=z8 hlo
 have HB1:=z8 hB1
 have HG1:=z8 hG1
 have HBA:=z8 hBA
 have hbn:=hb (neM [pol] lens st.A 0 (-1))
 clear hlo hB1 hG1 hBA hlit HRL HG
 generalize neM [pol] lens st.A 0 (-1)=nx0 at*
 unfold pol at HNE HLE HBA
 go_wp2_with fail
 refine(HNE.out 0).mono ?_
 rintro e w2 ⟨rfl,n2,rfl⟩
 have HLX:=z8 (HLE.out nx0)
 generalize zb lens nx0=t0 at*
 obtain⟨k0,rfl⟩:=Int.eq_ofNat_of_zero_le hbn.1
 clear HNE HLE
 go_wp2_with fail
 refine(HLX.out n2).mono ?_
 rintro e w2 ⟨rfl,rfl⟩
 rw [Int.toNat_natCast] at hrm
 have HBS:Hid (Below w1.heap.size w1 ((w1.alloc (.cells #[.string ⟨#[80,79,76,73,67,89]⟩] 9)).drewN n2)):=z8 ⟨HBA.out.os,HBA.out.tape,HBA.out.output,HBA.out.size,HBA.out.block⟩
 clear HLX HBA
 go_wp2_with fail
 go_loopg [4,5,6] (k0+1) (fun n nv rv kv wr=> ∃(k:Nat) (nx:Int) (ds:List Int),n=k+1∧nv= .int .i64 nx∧rv= .string (z3G ds)∧kv= .int .i64 k∧Hid (Below w1.heap.size w1 wr)∧k+ds.length≤1000∧Hid (ds++z6m st.A (lnM st.A st.L) lens k nx=R))
 case atStart=>exact⟨k0,nx0,[],rfl,rfl,rfl,rfl,HBS,by simp;omega,z8 (by rw [hrm.out];rfl)⟩
 case round=>
  obtain⟨k,nx,ds,hk,rfl,rfl,rfl,HB,hlen,hfin⟩:=hrel
  have hHK:=z8 hk
  clear hk
  have hz2:w1.heap.size≤wr.heap.size:=HB.out.size
  cases k with
  |zero=>
   have hres:Hid (z3G R=z3G ds):=z8 (by rw [←hfin.out];show z3G (ds++[])=_;rw [List.append_nil])
   have HBE:=z8 (HB1.out.trans (HB.out.mono hz1))
   go_wp2_with fail
   go_ret
   exact⟨by rw [hres.out];rfl,HBE.out⟩
  |succ m=>
   have hpos:(0:Int)<((m+1:Nat):Int):=by omega
   have hmem:nx∈R:=by rw [←hfin.out];exact List.mem_append_right _ List.mem_cons_self
   obtain⟨hn0,hn9⟩:=HD.out nx hmem
   obtain⟨hc1,hc2,hc3⟩:=z8W hn0 hn9
   have HIT:=z8 (z7n (dig nx) wr hc1 hc2)
   rw [hc3] at HIT
   have hnx: ¬nx<0:=by omega
   have hst:Hid (ds++z6m st.A (lnM st.A st.L) lens (m+1) nx=(ds++[nx])++z6m st.A (lnM st.A st.L) lens m (neM (lnM st.A st.L nx.toNat) lens st.A 0 (-1))):=z8 (by
    show ds++(nx::z6m st.A (lnM st.A st.L) lens m (neM (if nx<0 then [] else lnM st.A st.L nx.toNat) lens st.A 0 (-1)))=_
    rw [if_neg hnx,List.append_assoc]
    rfl)
   have hsn:Hid (z3G (ds++[nx])=z3G ds++⟨#[dig nx]⟩):=z8 (z9G ds nx)
   have hsz:(z3G ds).size≤1000:=by rw [z5K];omega
   have hs1:(ByteArray.mk #[dig nx]).size=1:=rfl
   have hLN:=z38 gb 1 base st V iv cv nx wr ((HB.out.cell (p:=⟨gb,1,none⟩) hgc).trans ((HB1.out.cell (p:=⟨gb,1,none⟩) hgb).trans HC.out.1)) ((HB.out.cell (p:=⟨gb,2,none⟩) hgc).trans ((HB1.out.cell (p:=⟨gb,2,none⟩) hgb).trans HC.out.2)) ((HG1.out.keep HB.out).tree) hL hA hto
   rw [if_neg hnx] at hLN
   have HLN:=z8 hLN
   have hnl:=z9q st.A st.L nx.toNat hto hL
   clear hLN hmem hc1 hc2 hc3 hnx
   generalize lnM st.A st.L nx.toNat=nms at*
   generalize z3G ds=rs at*
   go_wp2_with (go_at_call 70;refine HIT.out.mono ?_;rintro e w3 ⟨rfl,rfl⟩)
   refine HLN.out.mono ?_
   rintro e w4 ⟨nv,rfl,hn,hB4⟩
   obtain⟨an,kn,rfl⟩:=za hn
   have hB5:=HB.out.trans (hB4.mono hz2)
   have HNE:=z8 (fun N=>z1W gb base lb vb st V iv cv l av vals vv qs qv w3.heap.size w.heap.size nms _ lens _ (w4.drewN N) ((HG1.out.keep hB5).drewN N) (zc (w':=w4.drewN N) hn fun k e=>rfl) hnl (zc (w':=w4.drewN N) (zc HLO.out fun k e=>hB5.block k (HLO.out.lt k e).2) fun k e=>rfl) hll hA)
   have HB5:=z8 hB5
   clear hn hB4 hB5 HLN
   generalize neM nms lens st.A 0 (-1)=nx2 at*
   go_wp2_with fail
   refine(HNE.out 0).mono ?_
   rintro e w5 ⟨rfl,n5,rfl⟩
   have HB6:Hid (Below w1.heap.size w1 ((w4.drewN 0).drewN n5)):=z8 ⟨HB5.out.os,HB5.out.tape,HB5.out.output,HB5.out.size,HB5.out.block⟩
   go_wp2_with fail
   have hk:=hHK.out
   go_roundg (m+1)
   case measure=>omega
   case rel=>exact⟨m,nx2,ds++[nx],rfl,rfl,by rw [hsn.out],by go_num,HB6,by simp;omega,z8 (by rw [←hfin.out,hst.out])⟩
def chM (s a v q:zgS)(st:St):zgS×Int:=
 if grM s a v q st !=0 then(⟨#[]⟩,grM s a v q st) else
 (z3G (z7a st.A (lnM st.A st.L) (rwM st.A (lnM st.A st.L) (rqM q).1 (gvM st.A st.L (rqM q).1 ((vlM v).1.length - 1) (jZ (vlM v).1 (zf (raM a).1 st.E []) st.C []) st.A.length) st.A.length)),0)
theorem zbl (s a v q:zgS)(st:St)(w:World)(h:Calls Tryz.prog 34 #[.string s,.string a,.string v,.string q] w fun e w'=>z2d s a v q st w e w')(hE:st.E.length≤100000)(hA:st.A.length≤100000)(hC:st.C.length≤100000)(hCl: ∀c∈st.C,c.length≤100000)(hvl:(vlM v).1.length≤100000)(hll:(raM a).1.length≤100000)(hls: ∀p∈(raM a).1,p.2.size≤600)(hEs: ∀x∈st.E,x.text.size≤600)(hL:LOk st)
  (hW:grM s a v q st=0→ ∀x∈zf (raM a).1 st.E [],x.text.size≤100000000) (hv2:grM s a v q st=0→1≤(vlM v).1.length) (hto:grM s a v q st=0→Tos st.A st.L) (hA8:grM s a v q st=0→st.A.length≤8)
  (hd:grM s a v q st=0→ ∀x∈z7a st.A (lnM st.A st.L) (rwM st.A (lnM st.A st.L) (rqM q).1 (gvM st.A st.L (rqM q).1 ((vlM v).1.length - 1) (jZ (vlM v).1 (zf (raM a).1 st.E []) st.C []) st.A.length) st.A.length),0≤x∧x≤9):
  Calls Tryz.prog 20 #[.string s,.string a,.string v,.string q] w fun e w'=>z0o (chM s a v q st).1 (chM s a v q st).2 w e w':=by
 have HC:=z8 h
 have hql:(rqM q).1.length≤100000:=by have:=z98 q;omega
 clear h
 go_enter Tryz.func20,Tryz.ntmps20
 go_wp2_with fail
 refine HC.out.mono ?_
 rintro e w1 ⟨x1,x2,x3,x4,x5,x6,x7,rfl,hB1,⟨a1,n1,k1,rfl⟩,⟨a2,n2,k2,rfl⟩,⟨a3,n3,k3,rfl⟩,⟨a4,n4,k4,rfl⟩,⟨a5,n5,k5,rfl⟩,⟨a6,n6,k6,rfl⟩,⟨a7,n7,k7,rfl⟩,hG⟩
 have hco:Hid (chM s a v q st=if grM s a v q st !=0 then(⟨#[]⟩,grM s a v q st) else
  (z3G (z7a st.A (lnM st.A st.L) (rwM st.A (lnM st.A st.L) (rqM q).1 (gvM st.A st.L (rqM q).1 ((vlM v).1.length - 1) (jZ (vlM v).1 (zf (raM a).1 st.E []) st.C []) st.A.length) st.A.length)),0)):=z8 rfl
 generalize grM s a v q st=E at*
 have hB2:=hB1.alloc hB1.size (.cells #[.int .i64 E,.slice a1 n1 k1,.slice a2 n2 k2,.slice a3 n3 k3,.slice a4 n4 k4,.slice a5 n5 k5,.slice a6 n6 k6,.slice a7 n7 k7] 58)
 have hX2:=heap_alloc_new w1 (.cells #[.int .i64 E,.slice a1 n1 k1,.slice a2 n2 k2,.slice a3 n3 k3,.slice a4 n4 k4,.slice a5 n5 k5,.slice a6 n6 k6,.slice a7 n7 k7] 58)
 have HB2:=z8 hB2
 cases hEz:(E !=0)
 case true=>
  have hres:Hid (chM s a v q st=(⟨#[]⟩,E)):=z8 (by rw [hco.out,hEz];rfl)
  clear hG hB1 hX2 hB2
  go_wp2_with fail
  go_quiet (fail)
  go_wp2_with fail
  go_ret2
  exact⟨by rw [hres.out];rfl,⟨HB2.out.os,HB2.out.tape,HB2.out.output,HB2.out.size,HB2.out.block⟩⟩
 have hE0:E=0:=by simpa using hEz
 subst hE0
 obtain⟨V,iv,cv,e1,e2,e3,e4,hT,hl,hvv,hqq⟩:=hG rfl
 have hGd:Gd (w1.alloc (.cells #[.int .i64 0,.slice a1 n1 k1,.slice a2 n2 k2,.slice a3 n3 k3,.slice a4 n4 k4,.slice a5 n5 k5,.slice a6 n6 k6,.slice a7 n7 k7] 58)) w1.heap.size w.heap.size w.heap.size w.heap.size st V iv cv (raM a).1 (.slice a5 n5 k5) (vlM v).1 (.slice a6 n6 k6) (rqM q).1 (.slice a7 n7 k7):=
  ⟨⟨0,by rw [←e1,←e2,←e3,←e4];exact hX2⟩,hT.same fun k _ hk=>zgJ _ _ _ hk,hl.alloc _,hvv.alloc _,hqq.alloc _⟩
 have hGL:=z1m _ _ _ _ st V iv cv (raM a).1 _ (vlM v).1 _ (rqM q).1 _ _ hGd hE hC hCl hvl hll hls hEs (hW rfl) hA (hv2 rfl) hql hL
 have hgl:(gvM st.A st.L (rqM q).1 ((vlM v).1.length - 1) (jZ (vlM v).1 (zf (raM a).1 st.E []) st.C []) st.A.length).length≤100000:=by
  cases st.A.length with
  |zero=>exact zgO _
  |succ r=>rw [z7Q];exact hA
 have hres:Hid (chM s a v q st=(z3G (z7a st.A (lnM st.A st.L) (rwM st.A (lnM st.A st.L) (rqM q).1 (gvM st.A st.L (rqM q).1 ((vlM v).1.length - 1) (jZ (vlM v).1 (zf (raM a).1 st.E []) st.C []) st.A.length) st.A.length)),0)):=z8 (by rw [hco.out];rfl)
 have hd':=hd rfl
 generalize gvM st.A st.L (rqM q).1 ((vlM v).1.length - 1) (jZ (vlM v).1 (zf (raM a).1 st.E []) st.C []) st.A.length=GV at*
 have hrl:=z4c _ _ _ _ st V iv cv (raM a).1 _ (vlM v).1 _ (rqM q).1 _ GV _ hGd hGL hgl hA hL.1 (hto rfl) hql
 have hrn:(rwM st.A (lnM st.A st.L) (rqM q).1 GV st.A.length).length≤100000:=by
  cases st.A.length with
  |zero=>exact zgO _
  |succ r=>rw [zc5];exact hA
 have hA8':=hA8 rfl
 have HRW:=z8 (zcQ _ _ _ _ st V iv cv (raM a).1 _ (vlM v).1 _ (rqM q).1 _ _ _ hGd hrl hrn hA hL.1 (hto rfl) (fun j=>by
  by_cases hj:j<0
  ·rw [z1g hj];omega
  ·obtain⟨k,rfl⟩:=Int.eq_ofNat_of_zero_le (show 0≤j by omega)
   have:=z0H (A:=st.A) (ln:=lnM st.A st.L) (qs:=(rqM q).1) (g:=GV) st.A.length k
   omega) hd')
 clear hco hG hEz hB1 hB2 hT hl hvv hqq e1 e2 e3 e4 hGd hX2 hW hv2 hto hA8 hd hd' hGL hrl
 generalize z3G (z7a st.A (lnM st.A st.L) (rwM st.A (lnM st.A st.L) (rqM q).1 GV st.A.length))=D at*
 go_wp2_with fail
 refine HRW.out.mono ?_
 rintro e w2 ⟨rfl,hB3⟩
 have HB3:=z8 (HB2.out.trans (hB3.mono HB2.out.size))
 clear hB3
 go_wp2_with fail
 go_ret2
 exact⟨by rw [hres.out];rfl,HB3.out⟩
theorem zaO (R:List Int)(t:Nat)(h:t<(z3G R).size)(k:Int)(hk:R[t]?=some k):(z3G R)[t]'h=dig k:=by
 obtain⟨hl,e⟩:=zgF.1 hk
 have h2:t<(R.map dig).toArray.size:=h
 show((R.map dig).toArray)[t]'h2=_
 rw [List.getElem_toArray,List.getElem_map,e]
structure zgp (A:List As)(ln:Nat→List zgS)(qs:List zgS)(LV:List Int)(c:zgS)(K:Nat→Nat):Prop where
 pos:0<c.size
 le:c.size≤1000
 dg: ∀(t:Nat) (h:t<c.size),((c[t]'h).toNat:Int)- 48=(K t:Int)∧(c[t]'h).toNat=K t+48
 ok: ∀t,t<c.size→ ∃x,A[K t]?=some x∧(zb LV x.conds==0)=false∧(t=0→(x.by_.toList==[80,79,76,73,67,89])=true)∧(0<t→x.by_∈ln (K (t - 1)))
 two: ∀t t',t'<t→t<c.size→K t'≠K t
 req: ∃nm∈ln (K (c.size - 1)),nm∈qs
end Go.Proofs.YtkoohcilbpdgeaaGreatDoor
