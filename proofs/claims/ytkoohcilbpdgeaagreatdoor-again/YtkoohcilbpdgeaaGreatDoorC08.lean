import Derived.Deep.DeepCutAuto
import Derived.Deep.RegionWith
import Derived.Test.YtkoohcilbpdgeaaGreatDoorC07
set_option linter.all false
set_option linter.unusedVariables false
set_option linter.unusedSimpArgs false
set_option linter.unnecessarySimpa false
set_option linter.constructorNameAsVariable false
set_option linter.deprecated false
set_option maxRecDepth 100000
set_option maxHeartbeats 6400000
namespace Go.Proofs.YtkoohcilbpdgeaaGreatDoor
open Go Go.RowKit
attribute [local go_sem] wrap64_byte
def z5w (l:List zgS):Nat→Nat→Bool
 |0,_=>false
 |n+1,i=>(plM (l.getD i ⟨#[]⟩) l 0 !=(i:Int))||z5w l n (i+1)
def vlM (s:zgS):List zgS×Bool:=
 if(rnM s).2||decide ((rnM s).1.length<2)||decide (5<(rnM s).1.length)||z5w (rnM s).1 (rnM s).1.length 0 then([],true) else((rnM s).1,false)
def zeS (s:zgS)(w:World)(e:Ending)(w':World):Prop:= ∃a n k,e= .returned (.tuple #[.slice a n k,.bool (vlM s).2])∧Below w.heap.size w w'∧((vlM s).2=false→w'.ownsRow w.heap.size 9 1 (.slice a n k) (vlM s).1.length ((vlM s).1.map Value.string))
theorem z4h (s:zgS)(w:World)(hs:s.size≤600):Calls Tryz.prog 62 #[.string s] w fun e w'=>zeS s w e w':=by
 have HR:=z8 (z2x s w hs)
 have hv:Hid (vlM s=if(rnM s).2||decide ((rnM s).1.length<2)||decide (5<(rnM s).1.length)||z5w (rnM s).1 (rnM s).1.length 0 then([],true) else((rnM s).1,false)):=z8 rfl
 go_enter Tryz.func62,Tryz.ntmps62
 go_wp2_with fail
 refine HR.out.mono ?_
 rintro e w1 ⟨v,rfl,hO1,hB1⟩
 obtain⟨al,kl,rfl⟩:=za hO1
 clear HR
 generalize rnM s=P at*
 obtain⟨l,bd⟩:=P
 simp only at*
 have HO:=z8 hO1
 have HB:=z8 hB1
 have hz1:w.heap.size≤w1.heap.size:=hB1.size
 clear hO1
 have HBA:=z8 (hB1.alloc hz1 (.cells #[] 9))
 clear hB1
 have hlen:l.length≤1000000∨1000000<l.length:=by omega
 cases bd
 case true=>
  have hres:Hid (vlM s=([],true)):=z8 (by rw [hv.out];rfl)
  go_wp2_with fail
  go_ret2
  exact⟨_,_,_,by rw [hres.out];rfl,HBA.out,fun e=>by rw [hres.out] at e;cases e⟩
 by_cases h2:l.length<2
 ·have h2':(l.length:Int)<2:=by omega
  have hres:Hid (vlM s=([],true)):=z8 (by rw [hv.out];simp [h2])
  go_wp2_with fail
  go_ret2
  exact⟨_,_,_,by rw [hres.out];rfl,HBA.out,fun e=>by rw [hres.out] at e;cases e⟩
 by_cases h5:5<l.length
 ·have h2': ¬(l.length:Int)<2:=by omega
  have h5':(5:Int)<l.length:=by omega
  have hres:Hid (vlM s=([],true)):=z8 (by rw [hv.out];simp [h5])
  go_wp2_with fail
  go_ret2
  exact⟨_,_,_,by rw [hres.out];rfl,HBA.out,fun e=>by rw [hres.out] at e;cases e⟩
 have h2': ¬(l.length:Int)<2:=by omega
 have h5': ¬(5:Int)<l.length:=by omega
 have hv2:Hid (vlM s=if z5w l l.length 0 then([],true) else(l,false)):=z8 (by rw [hv.out];simp [h2,h5])
 clear hv hlen
 go_wp2_with fail
 go_loopg [6] (l.length+1) (fun k iv wr=> ∃(i:Nat),k+i=l.length+1∧i≤l.length∧iv= .int .i64 i∧wr=w1∧Hid (z5w l (l.length - i) i=z5w l l.length 0))
 case atStart=>exact⟨0,rfl,zgO _,rfl,rfl,rfl⟩
 case round=>
  obtain⟨i,hk,hil,rfl,rfl,hfin⟩:=hrel
  have hHK:=z8 hk
  clear hk
  by_cases hlt:i<l.length
  ·obtain⟨g,cap,hvv,hb,hg⟩:=HO.out.form (by omega)
   injection hvv with e1 e2 e3
   subst e1 e3
   obtain⟨x,hx⟩: ∃x,l[i]?=some x:=⟨l[i],zgE hlt⟩
   have q0:wr.cell? ⟨g,i,none⟩=some (.string x):=zl HO.out _ _ (by simp [hx])
   have hlt':(i:Int)<l.length:=by omega
   have hst:Hid (z5w l l.length 0=((plM x l 0 !=(i:Int))||z5w l (l.length -(i+1)) (i+1))):=z8 (by
    rw [←hfin.out,show l.length - i=(l.length -(i+1))+1 by omega]
    show((plM (l.getD i ⟨#[]⟩) l 0 !=(i:Int))||z5w l (l.length -(i+1)) (i+1))=_
    rw [show l.getD i ⟨#[]⟩=x by simp [List.getD,hx]])
   have HP:=z8 (jY w.heap.size l _ x wr HO.out (by omega))
   clear hx
   cases hq:(plM x l 0 !=(i:Int))
   ·generalize plM x l 0=z at*
    go_wp2_with fail
    refine HP.out.mono ?_
    rintro e w2 ⟨rfl,rfl⟩
    go_wp2_with fail
    have hk:=hHK.out
    go_roundg (l.length - i)
    case measure=>omega
    case rel=>exact⟨i+1,by omega,by omega,by go_num,rfl,z8 (by rw [hst.out,hq];rfl)⟩
   ·have hres:Hid (vlM s=([],true)):=z8 (by rw [hv2.out,hst.out,hq];rfl)
    generalize plM x l 0=z at*
    go_wp2_with fail
    refine HP.out.mono ?_
    rintro e w2 ⟨rfl,rfl⟩
    go_wp2_with fail
    go_ret2
    exact⟨_,_,_,by rw [hres.out];rfl,HBA.out,fun e=>by rw [hres.out] at e;cases e⟩
  ·have hlt': ¬(i:Int)<l.length:=by omega
   have hres:Hid (vlM s=(l,false)):=z8 (by rw [hv2.out,←hfin.out,show l.length - i=0 by omega];rfl)
   go_wp2_with fail
   go_ret2
   exact⟨_,_,_,by rw [hres.out];rfl,HB.out,fun _=>by rw [hres.out];exact HO.out⟩
def pol:zgS:=⟨#[80,79,76,73,67,89]⟩
def rqM (s:zgS):List zgS×Bool:=
 if s.size=0 then([],false) else if(rnM s).2||decide (4<(rnM s).1.length)||(plM pol (rnM s).1 0 != -1) then([],true) else((rnM s).1,false)
def zeN (s:zgS)(w:World)(e:Ending)(w':World):Prop:= ∃a n k,e= .returned (.tuple #[.slice a n k,.bool (rqM s).2])∧Below w.heap.size w w'∧((rqM s).2=false→w'.ownsRow w.heap.size 9 1 (.slice a n k) (rqM s).1.length ((rqM s).1.map Value.string))
theorem z98 (s:zgS):(rqM s).1.length≤4:=by
 unfold rqM
 split
 ·exact zgO _
 ·split
  ·exact zgO _
  ·rename_i q
   simp only [Bool.or_eq_true,not_or,decide_eq_true_eq] at q
   show(rnM s).1.length≤4
   omega
theorem z63 (s:zgS)(w:World)(hs:s.size≤600):Calls Tryz.prog 63 #[.string s] w fun e w'=>zeN s w e w':=by
 by_cases h0:s.size=0
 ·have e0:s=⟨#[]⟩:=by
   cases s with
   |mk d=>have:d.size=0:=h0;simp [Array.size_eq_zero_iff.1 this]
  subst e0
  have hB:=z8 ((zgR w.heap.size w).alloc (zgH _) (.cells #[] 9))
  have hM:=z8 (World.ownsRow_made (base:=w.heap.size) (e:=9) (size:=1) w #[] 0 (zgH _) (by decide) (by simp))
  go_enter Tryz.func63,Tryz.ntmps63
  go_wp2_with fail
  go_ret2
  exact⟨_,_,_,rfl,hB.out,fun _=>hM.out⟩
 have hne:(s.toList==([]:List UInt8))=false:=by
  rw [zgG]
  cases hq:(s.data.toList==([]:List UInt8)) with
  |false=>rfl
  |true=>simp at hq;exact absurd (show s.size=0 by simp [ByteArray.size,hq]) h0
 have hnl: ¬s.toList=[]:=by simpa using hne
 have HR:=z8 (z2x s w hs)
 have hv:Hid (rqM s=if(rnM s).2||decide (4<(rnM s).1.length)||(plM pol (rnM s).1 0 != -1) then([],true) else((rnM s).1,false)):=z8 (by unfold rqM;rw [if_neg h0])
 go_enter Tryz.func63,Tryz.ntmps63
 go_wp2_with fail
 refine HR.out.mono ?_
 rintro e w1 ⟨v,rfl,hO1,hB1⟩
 obtain⟨al,kl,rfl⟩:=za hO1
 clear HR
 generalize rnM s=P at*
 obtain⟨l,bd⟩:=P
 simp only at*
 have HO:=z8 hO1
 have HB:=z8 hB1
 have hz1:w.heap.size≤w1.heap.size:=hB1.size
 clear hO1
 have HBA:=z8 (hB1.alloc hz1 (.cells #[] 9))
 clear hB1
 cases bd
 case true=>
  have hres:Hid (rqM s=([],true)):=z8 (by rw [hv.out];rfl)
  go_wp2_with fail
  go_ret2
  exact⟨_,_,_,by rw [hres.out];rfl,HBA.out,fun e=>by rw [hres.out] at e;cases e⟩
 by_cases h5:4<l.length
 ·have h5':(4:Int)<l.length:=by omega
  have hres:Hid (rqM s=([],true)):=z8 (by rw [hv.out];simp [h5])
  go_wp2_with fail
  go_ret2
  exact⟨_,_,_,by rw [hres.out];rfl,HBA.out,fun e=>by rw [hres.out] at e;cases e⟩
 have h5': ¬(4:Int)<l.length:=by omega
 have hv2:Hid (rqM s=if plM pol l 0 != -1 then([],true) else(l,false)):=z8 (by rw [hv.out];simp [h5])
 have HP:=z8 (jY _ l _ pol w1 HO.out (by omega))
 unfold pol at HP hv2
 clear hv
 generalize plM ⟨#[80,79,76,73,67,89]⟩ l 0=z at*
 go_wp2_with fail
 refine HP.out.mono ?_
 rintro e w2 ⟨rfl,rfl⟩
 cases hz:(z != -1)
 case true=>
  have hres:Hid (rqM s=([],true)):=z8 (by rw [hv2.out,hz];rfl)
  go_wp2_with fail
  go_ret2
  exact⟨_,_,_,by rw [hres.out];rfl,HBA.out,fun e=>by rw [hres.out] at e;cases e⟩
 case false=>
  have hres:Hid (rqM s=(l,false)):=z8 (by rw [hv2.out,hz];rfl)
  go_wp2_with fail
  go_ret2
  exact⟨_,_,_,by rw [hres.out];rfl,HB.out,fun _=>by rw [hres.out];exact HO.out⟩
def rlM (vals:List zgS)(levels:List Int)(c:Cl):Int:=if c.form==1 then plM c.result vals 0 else if c.form==2 then zb levels c.inner else(vals.length:Int)- 1
theorem z7b (gb n kv:Nat)(av:Option Addr)(w:World)(hg:w.cell? ⟨gb,6,none⟩=some (.slice av n kv))(hn:n≤100000):
  Calls Tryz.prog 67 #[.pointer (some ⟨gb,0,none⟩)] w fun e w'=>e= .returned (.int .i64 ((n:Int)- 1))∧w'=w:=by
 go_enter Tryz.func67,Tryz.ntmps67
 go_wp2_with fail
 go_ret
 exact⟨rfl,rfl⟩
theorem z5t (gb vb lb:Nat)(vals:List zgS)(av:Option Addr)(kv:Nat)(levels:List Int)(lv:Value)(ct cf:Int)(cr:zgS)(ci:Int)(w:World)(hg:w.cell? ⟨gb,6,none⟩=some (.slice av vals.length kv))(hv:w.ownsRow vb 9 1 (.slice av vals.length kv) vals.length (vals.map Value.string))(hvl:vals.length≤100000)
  (hl:w.ownsRow lb 3 1 lv levels.length (levels.map (Value.int .i64))) (hll:levels.length≤100000):
  Calls Tryz.prog 132 #[.pointer (some ⟨gb,0,none⟩),.agg #[.int .i64 ct,.int .i64 cf,.string cr,.int .i64 ci],lv] w fun e w'=>e= .returned (.int .i64 (rlM vals levels ⟨ct,cf,cr,ci⟩))∧Below w.heap.size w w':=by
 obtain⟨al,kl,rfl⟩:=za hl
 have hgl:=zd hg
 have hgn:gb≠w.heap.size:=by omega
 have hBA:=(zgR w.heap.size w).alloc (zgH _) (.cells #[.int .i64 ct,.int .i64 cf,.string cr,.int .i64 ci] 156)
 have hg':(w.alloc (.cells #[.int .i64 ct,.int .i64 cf,.string cr,.int .i64 ci] 156)).cell? ⟨gb,6,none⟩=some (.slice av vals.length kv):=(hBA.cell (p:=⟨gb,6,none⟩) hgl).trans hg
 have HV:=z8 (fun nm n=>jY vb vals (.slice av vals.length kv) nm ((w.alloc (.cells #[.int .i64 ct,.int .i64 cf,.string cr,.int .i64 ci] 156)).drewN n) (zc (hv.alloc (.cells #[.int .i64 ct,.int .i64 cf,.string cr,.int .i64 ci] 156)) fun k e=>rfl) hvl)
 have HL:=z8 (jn lb levels _ ci (w.alloc (.cells #[.int .i64 ct,.int .i64 cf,.string cr,.int .i64 ci] 156)) (hl.alloc _) hll)
 have HB:=z8 hBA
 have HT:=z8 (z7b gb vals.length kv av _ hg' hvl)
 clear hBA hv hl
 cases h1:(cf==1)
 case true=>
  have hres:Hid (rlM vals levels ⟨ct,cf,cr,ci⟩=plM cr vals 0):=z8 (by unfold rlM;rw [h1];rfl)
  go_enter Tryz.func132,Tryz.ntmps132
  go_wp2_with fail
  go_quiet ((go_at_call 66;exact Calls.quiet_of ((HV.out cr _).mono fun e w' ⟨q1,q2⟩=>⟨q1,0,q2⟩)))
  go_wp2_with fail
  go_ret
  exact⟨by rw [hres.out];rfl,⟨HB.out.os,HB.out.tape,HB.out.output,HB.out.size,HB.out.block⟩⟩
 cases h2:(cf==2)
 case true=>
  have hres:Hid (rlM vals levels ⟨ct,cf,cr,ci⟩=zb levels ci):=z8 (by unfold rlM;rw [h1,h2];rfl)
  generalize zb levels ci=z at*
  go_enter Tryz.func132,Tryz.ntmps132
  go_wp2_with fail
  refine HL.out.mono ?_
  rintro e w1 ⟨rfl,rfl⟩
  go_wp2_with fail
  go_ret
  exact⟨by rw [hres.out];rfl,HB.out⟩
 have hres:Hid (rlM vals levels ⟨ct,cf,cr,ci⟩=(vals.length:Int)- 1):=z8 (by unfold rlM;rw [h1,h2];rfl)
 go_enter Tryz.func132,Tryz.ntmps132
 go_wp2_with fail
 refine HT.out.mono ?_
 rintro e w1 ⟨rfl,rfl⟩
 go_wp2_with fail
 go_ret
 exact⟨by rw [hres.out];rfl,HB.out⟩
def jS (vals:List zgS)(W:List Wt)(levels:List Int):List Cl→Int→Int
 |[],h=>h
 |c::cs,h=>jS vals W levels cs (if((wAt W c.test).kind==1&&(wAt W c.test).truth)&&decide (h<rlM vals levels c) then rlM vals levels c else h)
theorem Cl.cells_len (x:Cl):x.cells.length=4:=rfl
theorem z74 (gb vb lb wb cb:Nat)(vals:List zgS)(av:Option Addr)(kv:Nat)(W:List Wt)(wv:Value)(levels:List Int)(lv:Value)(cls:List Cl)(cv:Value)(w:World)(hg:w.cell? ⟨gb,6,none⟩=some (.slice av vals.length kv))(hv:w.ownsRow vb 9 1 (.slice av vals.length kv) vals.length (vals.map Value.string))(hvl:vals.length≤100000)
  (hw:w.ownsRow wb 75 4 wv W.length ((W.map Wt.cells).flatten)) (hwl:W.length≤100000) (hl:w.ownsRow lb 3 1 lv levels.length (levels.map (Value.int .i64))) (hll:levels.length≤100000) (hc:w.ownsRow cb 156 4 cv cls.length ((cls.map Cl.cells).flatten)) (hcl:cls.length≤100000):
  Calls Tryz.prog 88 #[.pointer (some ⟨gb,0,none⟩),cv,wv,lv] w fun e w'=>e= .returned (.int .i64 (jS vals W levels cls 0))∧Below w.heap.size w w':=by
 obtain⟨al,kl,rfl⟩:=za hl
 obtain⟨aw,kw,rfl⟩:=za hw
 obtain⟨ac,kc',rfl⟩:=za hc
 have hgl:=zd hg
 have HX:=z8 (zgI hg (zgI hv (zgI hw (zgI hl hc))))
 clear hg hv hw hl hc
 go_enter Tryz.func88,Tryz.ntmps88
 go_wp2_with fail
 go_loopg [9,10] (cls.length+1) (fun k hv iv wr=> ∃(i:Nat) (h:Int),k+i=cls.length+1∧i≤cls.length∧iv= .int .i64 i∧hv= .int .i64 h∧Hid (Below w.heap.size w wr)∧Hid (jS vals W levels (cls.drop i) h=jS vals W levels cls 0))
 case atStart=>exact⟨0,0,rfl,zgO _,rfl,rfl,z8 (zgR _ _),z8 rfl⟩
 case round=>
  obtain⟨i,h,hk,hil,rfl,rfl,HB,hfin⟩:=hrel
  have hHK:=z8 hk
  clear hk
  by_cases hlt:i<cls.length
  ·obtain⟨hg,hv,hw,hl,hc⟩:=HX.out
   obtain⟨g,cap,hvv,hbb,hgg⟩:=hc.form (by omega)
   injection hvv with e1 e2 e3
   subst e1 e3
   obtain⟨c,hx⟩: ∃c,cls[i]?=some c:=⟨cls[i],zgE hlt⟩
   have hcell: ∀j u,c.cells[j]?=some u→j<4→wr.cell? ⟨g,i*4+j,none⟩=some u:=fun j u hu hj=>by
    rw [HB.out.cell (p:=⟨g,i*4+j,none⟩) hgg]
    exact zl hc _ _ ((zS Cl.cells 4 Cl.cells_len cls i j c hx hj).trans hu)
   have q0:wr.cell? ⟨g,i*4,none⟩=some (.int .i64 c.test):=hcell 0 _ rfl (by omega)
   have hq:=hcell
   have hst:Hid (jS vals W levels (cls.drop i) h=jS vals W levels (cls.drop (i+1)) (if((wAt W c.test).kind==1&&(wAt W c.test).truth)&&decide (h<rlM vals levels c) then rlM vals levels c else h)):=z8 (by
    obtain⟨hl,hx'⟩:=zgF.1 hx
    rw [zgL hl,hx']
    rfl)
   have hlt':(i:Int)<cls.length:=by omega
   have keep: ∀{base e size n:Nat} {v:Value} {xs:List Value},w.ownsRow base e size v n xs→ ∀W',Below w.heap.size w W'→W'.ownsRow base e size v n xs:=fun h W' hB=>zc h fun k e=>hB.block k (h.lt k e).2
   have HWA:=z8 (z0B wb W _ c.test wr (keep hw wr HB.out) hwl)
   generalize hT:wAt W c.test=T at*
   clear hT
   obtain⟨tk,tb,tn,tt⟩:=T
   simp only at*
   have HQ:=z8 hcell
   have HKP:=z8 (fun W' hB=>zgI (keep hv W' hB) (keep hl W' hB))
   have hcg:=z8 (fun W' (hB:Below w.heap.size w W')=>(hB.cell (p:=⟨gb,6,none⟩) hgl).trans hg)
   have hbl:=z8 (fun(W':World) (hB:Below w.heap.size w W') (j:Nat) (u:Value) (hu:c.cells[j]?=some u) (hj:j<4)=>(show W'.cell? ⟨g,i*4+j,none⟩=some u by
    rw [hB.cell (p:=⟨g,i*4+j,none⟩) hgg]
    exact zl hc _ _ ((zS Cl.cells 4 Cl.cells_len cls i j c hx hj).trans hu)))
   clear hcell hq keep hg hv hw hl hc hx HQ
   go_wp2_with fail
   refine HWA.out.mono ?_
   rintro e w1 ⟨rfl,hB1⟩
   have hB2:=HB.out.trans (hB1.mono HB.out.size)
   have hB3:=hB2.alloc hB2.size (.cells #[.int .i64 tk,.bool tb,.int .i64 tn,.string tt] 75)
   have p0:(w1.alloc (.cells #[.int .i64 tk,.bool tb,.int .i64 tn,.string tt] 75)).cell? ⟨g,i*4,none⟩=some (.int .i64 c.test):=hbl.out _ hB3 0 _ rfl (by omega)
   have p1:=hbl.out _ hB3 1 _ rfl (by omega)
   have p2:=hbl.out _ hB3 2 _ rfl (by omega)
   have p3:=hbl.out _ hB3 3 _ rfl (by omega)
   have HRL:=z8 (z5t gb vb lb vals av kv levels _ c.test c.form c.result c.inner _ (hcg.out _ hB3) (HKP.out _ hB3).1 hvl (HKP.out _ hB3).2 hll)
   have HB3:=z8 hB3
   have hz1:w.heap.size≤w1.heap.size:=hB2.size
   clear hB1 hB2 hB3 q0
   go_wp2_with fail
   refine HRL.out.mono ?_
   rintro e w2 ⟨rfl,hB4⟩
   have hbx:=(hB4.block w1.heap.size (by simp)).trans (heap_alloc_new w1 (.cells #[.int .i64 tk,.bool tb,.int .i64 tn,.string tt] 75))
   obtain⟨s0,s1,s2,s3,_,_,_,_⟩:=jt hbx
   have hB5:=HB3.out.trans (hB4.mono (by simp;omega))
   have HIT:=z8 (zaF tk tb tn tt w2)
   have HB5:=z8 hB5
   have hz2:w.heap.size≤w2.heap.size:=hB5.size
   have hst':=hst.out
   generalize rlM vals levels c=z at*
   clear hB4 hB5 hbx p0 p1 p2 p3 hst
   cases htr:(tk==1&&tb)
   case false=>
    rw [htr] at hst' HIT
    have HS:=z8 hst'
    clear hst'
    go_wp2_with fail
    refine HIT.out.mono ?_
    rintro e w3 ⟨rfl,hB6⟩
    have HB6:=z8 (HB5.out.trans (hB6.mono hz2))
    clear hB6
    go_wp2_with fail
    have hk:=hHK.out
    go_roundg (cls.length - i)
    case measure=>omega
    case rel=>exact⟨i+1,h,by omega,by omega,by go_num,rfl,HB6,z8 (by rw [←hfin.out,HS.out];rfl)⟩
   case true=>
    rw [htr] at hst' HIT
    by_cases hz:h<z
    ·have HS:Hid (jS vals W levels (cls.drop i) h=jS vals W levels (cls.drop (i+1)) z):=z8 (by rw [hst'];simp [hz])
     clear hst'
     go_wp2_with fail
     refine HIT.out.mono ?_
     rintro e w3 ⟨rfl,hB6⟩
     have HB6:=z8 (HB5.out.trans (hB6.mono hz2))
     clear hB6
     go_wp2_with fail
     have hk:=hHK.out
     go_roundg (cls.length - i)
     case measure=>omega
     case rel=>exact⟨i+1,z,by omega,by omega,by go_num,rfl,HB6,z8 (by rw [←hfin.out,HS.out])⟩
    ·have HS:Hid (jS vals W levels (cls.drop i) h=jS vals W levels (cls.drop (i+1)) h):=z8 (by rw [hst'];simp [hz])
     clear hst'
     go_wp2_with fail
     refine HIT.out.mono ?_
     rintro e w3 ⟨rfl,hB6⟩
     have HB6:=z8 (HB5.out.trans (hB6.mono hz2))
     clear hB6
     go_wp2_with fail
     have hk:=hHK.out
     go_roundg (cls.length - i)
     case measure=>omega
     case rel=>exact⟨i+1,h,by omega,by omega,by go_num,rfl,HB6,z8 (by rw [←hfin.out,HS.out])⟩
  ·have hlt': ¬(i:Int)<cls.length:=by omega
   have hres:Hid (jS vals W levels cls 0=h):=z8 (by rw [←hfin.out,zgK (by omega)];rfl)
   go_wp2_with fail
   go_ret
   exact⟨by rw [hres.out];rfl,HB.out⟩
def jZ (vals:List zgS)(W:List Wt):List (List Cl)→List Int→List Int
 |[],ls=>ls
 |c::cs,ls=>jZ vals W cs (ls++[jS vals W ls c 0])
theorem z25 (vals:List zgS)(W:List Wt): ∀(xs ys:List (List Cl)) (ls:List Int),jZ vals W (xs++ys) ls=jZ vals W ys (jZ vals W xs ls):=by
 intro xs
 induction xs with
 |nil=>intro ys ls;rfl
 |cons x xs ih=>intro ys ls;exact ih ys _
theorem z0v (vals:List zgS)(W:List Wt): ∀(xs:List (List Cl)) (ls:List Int),(jZ vals W xs ls).length=ls.length+xs.length:=by
 intro xs
 induction xs with
 |nil=>intro ls;rfl
 |cons x xs ih=>intro ls;unfold jZ;rw [ih];simp;omega
theorem z90 (vals:List zgS)(W:List Wt){C:List (List Cl)}{i:Nat}{c:List Cl}(h:C[i]?=some c):
  jZ vals W (C.take (i+1)) []=jZ vals W (C.take i) []++[jS vals W (jZ vals W (C.take i) []) c 0]:=by
 rw [List.take_add_one,h,z25]
 rfl
theorem z31 {w:World}{g:Nat}{a b c d e f h q:Value}{t:TypeId}(hh:w.heap[g]?=some (.cells #[a,b,c,d,e,f,h,q] t)):
  w.cell? ⟨g,0,none⟩=some a∧w.cell? ⟨g,1,none⟩=some b∧w.cell? ⟨g,2,none⟩=some c∧w.cell? ⟨g,3,none⟩=some d∧w.cell? ⟨g,4,none⟩=some e∧w.cell? ⟨g,5,none⟩=some f∧w.cell? ⟨g,6,none⟩=some h∧w.cell? ⟨g,7,none⟩=some q∧(∀o,w.frozen? ⟨g,o,none⟩=false):=by
 simp [World.cell?,World.frozen?,hh]
structure Gd (w:World)(gb base lb vb:Nat)(st:St)(V:Nat→Value)(iv cv:List Value)(l:List (zgS×zgS))(av:Value)(vals:List zgS)(vv:Value)(qs:List zgS)(qv:Value):Prop where
 box: ∃e,w.heap[gb]?=some (.cells #[.int .i64 e,V 3,V 4,V 5,V 6,av,vv,qv] 58)
 tree:TreeV w base st V iv cv
 attrs:w.ownsRow lb 123 2 av l.length ((l.map zA).flatten)
 vals:w.ownsRow vb 9 1 vv vals.length (vals.map Value.string)
 reqs:w.ownsRow vb 9 1 qv qs.length (qs.map Value.string)
theorem Gd.keep {w w':World}{gb base lb vb:Nat}{st:St}{V:Nat→Value}{iv cv:List Value}{l:List (zgS×zgS)}{av:Value}{vals:List zgS}{vv:Value}{qs:List zgS}{qv:Value}(h:Gd w gb base lb vb st V iv cv l av vals vv qs qv)(hB:Below w.heap.size w w'):Gd w' gb base lb vb st V iv cv l av vals vv qs qv:=by
 obtain⟨e,he⟩:=h.box
 exact⟨⟨e,(hB.block gb (jm he)).trans he⟩,h.tree.same fun k _ hk=>hB.block k hk,zc h.attrs fun k e=>hB.block k (h.attrs.lt k e).2,zc h.vals fun k e=>hB.block k (h.vals.lt k e).2,zc h.reqs fun k e=>hB.block k (h.reqs.lt k e).2⟩
theorem Gd.drewN {w:World}{gb base lb vb:Nat}{st:St}{V:Nat→Value}{iv cv:List Value}{l:List (zgS×zgS)}{av:Value}{vals:List zgS}{vv:Value}{qs:List zgS}{qv:Value}(h:Gd w gb base lb vb st V iv cv l av vals vv qs qv)(n:Nat):Gd (w.drewN n) gb base lb vb st V iv cv l av vals vv qs qv:=
 h.keep ⟨rfl,rfl,rfl,zgH _,fun _ _=>rfl⟩
def z3f (ls:List Int)(w:World)(e:Ending)(w':World):Prop:= ∃v,e= .returned v∧w'.ownsRow w.heap.size 3 1 v ls.length (ls.map (Value.int .i64))∧Below w.heap.size w w'
theorem z1s (gb base lb vb:Nat)(st:St)(V:Nat→Value)(iv cv:List Value)(l:List (zgS×zgS))(av:Value)(vals:List zgS)(vv:Value)(qs:List zgS)(qv:Value)(w:World)(h:Gd w gb base lb vb st V iv cv l av vals vv qs qv)(hE:st.E.length≤100000)(hC:st.C.length≤100000)(hCl: ∀c∈st.C,c.length≤100000)(hvl:vals.length≤100000)(hll:l.length≤100000)(hls: ∀p∈l,p.2.size≤600)(hEs: ∀x∈st.E,x.text.size≤600)
  (hW: ∀x∈zf l st.E [],x.text.size≤100000000):
  Calls Tryz.prog 47 #[.pointer (some ⟨gb,0,none⟩)] w fun e w'=>z3f (jZ vals (zf l st.E []) st.C []) w e w':=by
 obtain⟨en,hbx⟩:=h.box
 obtain⟨a3,k3,e3⟩:=za (h.tree.own 3 (by omega) (by omega))
 obtain⟨a4,k4,e4⟩:=za (h.tree.own 4 (by omega) (by omega))
 obtain⟨a5,k5,e5⟩:=za (h.tree.own 5 (by omega) (by omega))
 obtain⟨a6,k6,e6⟩:=za (h.tree.own 6 (by omega) (by omega))
 obtain⟨aa,ka,rfl⟩:=za h.attrs
 obtain⟨a7,k7,rfl⟩:=za h.vals
 obtain⟨a8,k8,rfl⟩:=za h.reqs
 rw [e3,e4,e5,e6] at hbx
 obtain⟨b0,b1,b2,b3,b4,b5,b6,b7,bf⟩:=z31 hbx
 have hgl:=jm hbx
 have HG:=z8 h
 have HE:=z8 (zgI e5 e6)
 have HS:=z8 (zgI hls (zgI hEs hW))
 clear h e3 e4 e5 e6 hbx bf hls hEs hW
 have hWw: ∀W',(∀k,W'.heap[k]?=w.heap[k]?)→Calls Tryz.prog 42 #[.pointer (some ⟨gb,1,none⟩),.slice aa l.length ka] W' fun e w'=>zc0 (zf l st.E []) W' e w':=fun W' hk=>by
  have hc5:W'.cell? ⟨gb,1+2,none⟩=some (V 5):=by
   rw [HE.out.1]
   have q:w.cell? ⟨gb,3,none⟩=_:=b3
   have hk':=hk gb
   unfold World.cell? at q ⊢
   simp only at q ⊢
   rw [hk']
   exact q
  exact z4s base gb 1 lb st.E (V 5) l _ W' hc5 (zc (HG.out.tree.own 5 (by omega) (by omega)) fun k _=>hk k) hE (zc HG.out.attrs fun k _=>hk k) hll HS.out.1 HS.out.2.1 HS.out.2.2
 have HWw:=z8 hWw
 clear hWw
 generalize hWd:zf l st.E []=W at*
 have hWlen:W.length≤100000:=by rw [←hWd,ji];simpa using hE
 clear hWd
 go_enter Tryz.func47,Tryz.ntmps47
 go_upto_region 1 with fail
 go_cut [3] (fun s3 wx=>Hid (wx.ownsRow w.heap.size 75 4 s3 W.length ((W.map Wt.cells).flatten))∧Hid (Below w.heap.size w wx))
 case first=>
  go_region_with (go_at_call 42;go_must (refine(HWw.out w.drew (fun _=>rfl)).mono ?_);rintro e w1 ⟨wv,rfl,ho,hb⟩;(obtain⟨aw,kw,rfl⟩:=za ho);(have HO:=z8 ho);(have HB:=z8 hb);(clear ho hb))
  all_goals (go_wp2_with fail;go_meet;exact⟨z8 HO.out,z8 ⟨HB.out.os,HB.out.tape,HB.out.output,HB.out.size,HB.out.block⟩⟩)
 case rest=>
 obtain⟨HO,HB⟩:=hcut
 obtain⟨aw,kw,rfl⟩:=za HO.out
 have cc: ∀o v,w.cell? ⟨gb,o,none⟩=some v→wc.cell? ⟨gb,o,none⟩=some v:=fun o v q=>(HB.out.cell (p:=⟨gb,o,none⟩) hgl).trans q
 have d4:=cc 4 _ b4
 have hG1:=HG.out.keep HB.out
 have HG1:=z8 hG1
 obtain⟨i0,hi,hz0,hz1,hz2⟩:=info_parts info3
 have hmade:=World.ownsRow_made (base:=wc.heap.size) (e:=3) (size:=1) wc #[] 0 (zgH _) (by decide) (by simp)
 have HM:=z8 hmade
 have HB0:Hid (Below wc.heap.size wc (wc.alloc (.cells #[] 3))):=z8 ((zgR _ _).alloc (zgH _) _)
 have hgc:gb<wc.heap.size:=by have:=HB.out.size;omega
 clear cc hG1 hmade b0 b1 b2 b3 b4 b5 b6 b7
 go_wp2_with fail
 go_loopg [4,5] (st.C.length+1) (fun k tv iv wr=> ∃(i:Nat),k+i=st.C.length+1∧i≤st.C.length∧iv= .int .i64 i∧Hid (wr.ownsRow wc.heap.size 3 1 tv i ((jZ vals W (st.C.take i) []).map (Value.int .i64)))∧Below wc.heap.size wc wr)
 case atStart=>exact⟨0,rfl,zgO _,rfl,z8 HM.out,HB0.out⟩
 case round=>
  obtain⟨i,hk,hiC,rfl,HOW,hbel⟩:=hrel
  have hHK:=z8 hk
  clear hk
  obtain⟨ag,kg,rfl⟩:=za HOW.out
  have d4':wr.cell? ⟨gb,4,none⟩=some (.slice a6 (nOf st 6) k6):=(hbel.cell (p:=⟨gb,4,none⟩) hgc).trans d4
  have hn6:nOf st 6=st.C.length:=rfl
  rw [hn6] at d4'
  have hG2:=HG1.out.keep hbel
  have HG2:=z8 hG2
  have hz0':wc.heap.size≤wr.heap.size:=hbel.size
  have HBL:=z8 hbel
  by_cases hlt:i<st.C.length
  ·obtain⟨c,hx⟩: ∃c,st.C[i]?=some c:=⟨st.C[i],zgE hlt⟩
   have hcl:=HG1.out.tree.cl
   obtain⟨u,hu⟩: ∃u,cv[i]?=some u:=⟨cv[i]'(by omega),zgE (by omega)⟩
   have hrow:wr.ownsRow base 133 1 (.slice a6 st.C.length k6) st.C.length cv:=by
    have q:=hG2.tree.own 6 (by omega) (by omega)
    rw [HE.out.2] at q
    exact q
   obtain⟨g,cap,hvv,hbb,hgg⟩:=hrow.form (by omega)
   injection hvv with e1 e2 e3
   subst e1 e3
   have q0:wr.cell? ⟨g,i,none⟩=some u:=zl hrow _ _ hu
   have hcr:=hG2.tree.clauses i c u hx hu
   obtain⟨ac,kcc,rfl⟩:=za hcr
   have hst:=z8 (z90 vals W hx)
   have hcl5:=hCl c (zgM hx)
   have hul:(jZ vals W (st.C.take i) []).length=i:=by rw [z0v];simp;omega
   have HUL:=z8 hul
   have hlt':(i:Int)<st.C.length:=by omega
   clear hul hx hu hcl hrow hbel
   generalize jZ vals W (st.C.take i) []=U at*
   have hown0:wr.ownsRow wc.heap.size 3 1 (.slice ag i kg) U.length (U.map (Value.int .i64)):=by rw [HUL.out];exact HOW.out
   have hc6:wr.cell? ⟨gb,6,none⟩=some (.slice a7 vals.length k7):=by
    obtain⟨e,he⟩:=hG2.box
    exact(z31 he).2.2.2.2.2.2.1
   have hw0:wr.ownsRow w.heap.size 75 4 (.slice aw W.length kw) W.length ((W.map Wt.cells).flatten):=zc HO.out fun k e=>HBL.out.block k (HO.out.lt k e).2
   have HHI:=z8 (fun(W':World) (hk: ∀k,W'.heap[k]?=wr.heap[k]?)=>z74 gb vb wc.heap.size w.heap.size base vals a7 k7 W _ U (.slice ag i kg) c _ W' ((show W'.cell? ⟨gb,6,none⟩=wr.cell? ⟨gb,6,none⟩ by unfold World.cell?;simp only;rw [hk gb]).trans hc6) (zc hG2.vals fun k _=>hk k) hvl (zc hw0 fun k _=>hk k) hWlen (zc hown0 fun k _=>hk k) (by have:=HUL.out;omega) (zc hcr fun k _=>hk k) hcl5)
   have HOWN:=z8 hown0
   clear hG2 hown0 hc6 hw0 hcr
   generalize hz:jS vals W U c 0=z at*
   clear hz
   go_wp2_with fail
   refine(HHI.out wr (fun _=>rfl)).mono ?_
   rintro e w2 ⟨rfl,hB2⟩
   have hown2:=zc HOWN.out fun k e=>hB2.block k (HOWN.out.lt k e).2
   rw [HUL.out] at hown2
   have HB2:=z8 (HBL.out.trans (hB2.mono hz0'))
   have hw2:wc.heap.size≤w2.heap.size:=HB2.out.size
   clear hB2 HHI
   go_wp2_with (at_builtin;go_must (refine wpList_append_lies _ rfl (.tmp 39) (.tmp 41) 60 rfl wc.heap.size 3 i0 _ 1 8 Tryz.underlying60 hi hz0 hz1 hz2 rfl (by omega) _ i _ rfl (hown2.alloc _) ⟨w2.heap.size,0,none⟩ 1 1 [.int .i64 z] rfl rfl ?news ?one (by omega) ?mm ?bys ?base (w2.heap.size+1) (by simp) ?rest))
   case news=>exact World.news_of_block (heap_alloc_new w2 _)
   case one=>intro u hu;simp at hu;subst hu;rfl
   case mm=>unfold maxLen;omega
   case bys=>omega
   case base=>simp;omega
   case rest=>
    intro gb2 cap2 w3 hown3 hgrow hat hlt2
    have hB3:=z8 (Below.grown (HB2.out.alloc hw2 _) hgrow (by simp;omega) fun k e=>(hown2.lt k e).1)
    have hown4:Hid (w3.ownsRow wc.heap.size 3 1 (.slice (some ⟨gb2,0,none⟩) (i+1) cap2) (i+1) ((jZ vals W (st.C.take (i+1)) []).map (Value.int .i64))):=z8 (by rw [hst.out];simpa using hown3)
    clear hown3 hgrow hat
    go_wp2_with fail
    have hk:=hHK.out
    go_roundg (st.C.length - i)
    case measure=>omega
    case rel=>exact⟨i+1,by omega,by omega,by go_num,hown4,hB3.out⟩
  ·have hlt': ¬(i:Int)<st.C.length:=by omega
   have hiC':i=st.C.length:=by omega
   have hfin:wr.ownsRow w.heap.size 3 1 (.slice ag i kg) (jZ vals W st.C []).length ((jZ vals W st.C []).map (Value.int .i64)):=by
    have hq:=HOW.out
    rw [z0v]
    rw [hiC',List.take_length] at hq
    exact zu (by simpa [hiC'] using hq) HB.out.size
   have HF:=z8 hfin
   have HBE:=z8 (HB.out.trans (hbel.mono HB.out.size))
   clear hfin hiC' hbel hG2
   go_wp2_with fail
   go_ret
   exact⟨_,rfl,HF.out,HBE.out⟩
def vaM (vals:List zgS)(i:Int):zgS:=if i<0 then⟨#[]⟩ else vals.getD i.toNat ⟨#[]⟩
theorem z3Z (gb vb:Nat)(vals:List zgS)(av:Option Addr)(kv:Nat)(i:Int)(w:World)(hg:w.cell? ⟨gb,6,none⟩=some (.slice av vals.length kv))(hv:w.ownsRow vb 9 1 (.slice av vals.length kv) vals.length (vals.map Value.string))(hvl:vals.length≤100000):
  Calls Tryz.prog 37 #[.pointer (some ⟨gb,0,none⟩),.int .i64 i] w fun e w'=>e= .returned (.string (vaM vals i))∧w'=w:=by
 by_cases h0:i<0
 ·have hres:Hid (vaM vals i=⟨#[]⟩):=z8 (by unfold vaM;rw [if_pos h0])
  go_enter Tryz.func37,Tryz.ntmps37
  go_wp2_with fail
  go_ret
  exact⟨by rw [hres.out];rfl,rfl⟩
 ·obtain⟨j,rfl⟩:=Int.eq_ofNat_of_zero_le (show 0≤i by omega)
  by_cases h1:j<vals.length
  ·obtain⟨g,cap,hvv,hb,hgg⟩:=hv.form (by omega)
   injection hvv with e1 e2 e3
   subst e1 e3
   obtain⟨x,hx⟩: ∃x,vals[j]?=some x:=⟨vals[j],zgE h1⟩
   have q0:w.cell? ⟨g,j,none⟩=some (.string x):=zl hv _ _ (by simp [hx])
   have hres:Hid (vaM vals j=x):=z8 (by unfold vaM;rw [if_neg (by omega)];simp [List.getD,hx])
   have h1':(j:Int)<vals.length:=by omega
   clear hx
   go_enter Tryz.func37,Tryz.ntmps37
   go_wp2_with fail
   go_ret
   exact⟨by rw [hres.out];rfl,rfl⟩
  ·have hres:Hid (vaM vals j=⟨#[]⟩):=z8 (by unfold vaM;rw [if_neg (by omega)];simp [List.getElem?_eq_none (Nat.le_of_not_lt h1)])
   have h1': ¬(j:Int)<vals.length:=by omega
   go_enter Tryz.func37,Tryz.ntmps37
   go_wp2_with fail
   go_ret
   exact⟨by rw [hres.out];rfl,rfl⟩
def z0l (vals:List zgS)(c:Cl):Bool:=c.form==1&&plM c.result vals 0== -1
def hoM (vals:List zgS)(C:List (List Cl)):Bool:=C.any fun cls=>cls.any (z0l vals)
theorem z66 (tb o base vb:Nat)(st:St)(V:Nat→Value)(iv cv:List Value)(vals:List zgS)(vv:Value)(w:World)(hc:w.cell? ⟨tb,o+3,none⟩=some (V 6))(ht:TreeV w base st V iv cv)(hv:w.ownsRow vb 9 1 vv vals.length (vals.map Value.string))(hvl:vals.length≤100000)(hC:st.C.length≤100000)(hCl: ∀c∈st.C,c.length≤100000):
  Calls Tryz.prog 64 #[.pointer (some ⟨tb,o,none⟩),vv] w fun e w'=>e= .returned (.bool (hoM vals st.C))∧ ∃n,w'=w.drewN n:=by
 have hrow0:=ht.own 6 (by omega) (by omega)
 obtain⟨a6,k6,e6⟩:=za hrow0
 obtain⟨a7,k7,rfl⟩:=za hv
 have hn6:nOf st 6=st.C.length:=rfl
 have hrow:w.ownsRow base 133 1 (.slice a6 st.C.length k6) st.C.length cv:=by rw [e6] at hrow0;exact hrow0
 rw [e6,hn6] at hc
 have hblt:=zd hc
 have HT:=z8 (zgI ht (zgI hv hrow))
 clear ht hv hrow hrow0 e6 hn6
 go_enter Tryz.func64,Tryz.ntmps64
 go_wp2_with fail
 go_loopg [5] (st.C.length+1) (fun k iv' wr=> ∃(i n:Nat),k+i=st.C.length+1∧i≤st.C.length∧iv'= .int .i64 i∧wr=w.drewN n∧Hid (hoM vals (st.C.drop i)=hoM vals st.C))
 case atStart=>exact⟨0,0,rfl,zgO _,rfl,rfl,z8 rfl⟩
 case round=>
  obtain⟨i,n,hk,hiC,rfl,rfl,hfin⟩:=hrel
  have hHK:=z8 hk
  clear hk
  by_cases hlt:i<st.C.length
  ·obtain⟨ht,hv,hrow⟩:=HT.out
   obtain⟨c,hx⟩: ∃c,st.C[i]?=some c:=⟨st.C[i],zgE hlt⟩
   have hcl:=ht.cl
   obtain⟨u,hu⟩: ∃u,cv[i]?=some u:=⟨cv[i]'(by omega),zgE (by omega)⟩
   obtain⟨g,cap,hvv,hbb,hgg⟩:=hrow.form (by omega)
   injection hvv with e1 e2 e3
   subst e1 e3
   have q0:w.cell? ⟨g,i,none⟩=some u:=zl hrow _ _ hu
   have hcr:=ht.clauses i c u hx hu
   obtain⟨ac,kcc,rfl⟩:=za hcr
   have hcl5:=hCl c (zgM hx)
   have hst:Hid (hoM vals (st.C.drop i)=(c.any (z0l vals)||hoM vals (st.C.drop (i+1)))):=z8 (by
    obtain⟨hl,hx'⟩:=zgF.1 hx
    rw [zgL hl,hx']
    rfl)
   have hlt':(i:Int)<st.C.length:=by omega
   have HCR:=z8 hcr
   clear hx hu hcl ht hv hrow hcr
   obtain⟨gk0,hgk0⟩: ∃gk0,gk0=gk:=⟨_,rfl⟩
   have HGK0:=z8 hgk0
   clear hgk0
   go_wp2_with fail
   go_loopg [7] (c.length+1) (fun k jv wr=> ∃(j m:Nat),k+j=c.length+1∧j≤c.length∧jv= .int .i64 j∧wr=w.drewN m∧Hid ((c.drop j).any (z0l vals)=c.any (z0l vals)))
   case atStart=>exact⟨0,n,rfl,zgO _,rfl,rfl,z8 rfl⟩
   case round=>
    obtain⟨j,m,hkj,hjc,rfl,rfl,hfj⟩:=hrel
    have HKJ:=z8 hkj
    clear hkj
    by_cases hjl:j<c.length
    ·obtain⟨g2,cap2,hv2,hb2,hg2⟩:=HCR.out.form (by omega)
     injection hv2 with e1 e2 e3
     subst e1 e3
     obtain⟨x,hx⟩: ∃x,c[j]?=some x:=⟨c[j],zgE hjl⟩
     have hcell: ∀q u,x.cells[q]?=some u→q<4→w.cell? ⟨g2,j*4+q,none⟩=some u:=fun q u hu hq=>zl HCR.out _ _ ((zS Cl.cells 4 Cl.cells_len c j q x hx hq).trans hu)
     have p1:=hcell 1 _ rfl (by omega)
     have p2:=hcell 2 _ rfl (by omega)
     have hjl':(j:Int)<c.length:=by omega
     have hsj:Hid ((c.drop j).any (z0l vals)=(z0l vals x||(c.drop (j+1)).any (z0l vals))):=z8 (by
      obtain⟨hl,hx'⟩:=zgF.1 hx
      rw [zgL hl,hx']
      rfl)
     have HP:=z8 (fun N=>jY vb vals (.slice a7 vals.length k7) x.result (w.drewN N) (zc HT.out.2.1 fun k e=>rfl) hvl)
     clear hcell hx
     cases hf:(x.form==1)
     ·have hbc:Hid (z0l vals x=false):=z8 (by unfold z0l;rw [hf];rfl)
      go_wp2_with fail
      have hk:=HKJ.out
      go_roundg (c.length - j)
      case measure=>omega
      case rel=>exact⟨j+1,m,by omega,by omega,by go_num,rfl,z8 (by rw [←hfj.out,hsj.out,hbc.out];rfl)⟩
     ·cases hp:(plM x.result vals 0== -1)
      ·have hbc:Hid (z0l vals x=false):=z8 (by unfold z0l;rw [hf,hp];rfl)
       go_wp2_with (go_at_call 66;refine(HP.out m).mono ?_;rintro e w2 ⟨rfl,rfl⟩)
       have hk:=HKJ.out
       go_roundg (c.length - j)
       case measure=>omega
       case rel=>exact⟨j+1,m,by omega,by omega,by go_num,rfl,z8 (by rw [←hfj.out,hsj.out,hbc.out];rfl)⟩
      ·have hbc:Hid (z0l vals x=true):=z8 (by unfold z0l;rw [hf,hp];rfl)
       have hres:Hid (hoM vals st.C=true):=z8 (by rw [←hfin.out,hst.out,←hfj.out,hsj.out,hbc.out];rfl)
       go_wp2_with (go_at_call 66;refine(HP.out m).mono ?_;rintro e w2 ⟨rfl,rfl⟩)
       go_ret
       exact⟨by rw [hres.out];rfl,m,rfl⟩
    ·have hjl': ¬(j:Int)<c.length:=by omega
     have hno:Hid (c.any (z0l vals)=false):=z8 (by rw [←hfj.out,zgK (by omega)];rfl)
     go_wp2_with fail
     have hk:=hHK.out
     have hg0:=HGK0.out
     go_roundg (gk0 - 1)
     case measure=>omega
     case rel=>exact⟨i+1,m,by omega,by omega,by go_num,rfl,z8 (by rw [←hfin.out,hst.out,hno.out];rfl)⟩
  ·have hlt': ¬(i:Int)<st.C.length:=by omega
   have hres:Hid (hoM vals st.C=false):=z8 (by rw [←hfin.out,zgK (by omega)];rfl)
   go_wp2_with fail
   go_ret
   exact⟨by rw [hres.out];rfl,n,rfl⟩
def grM (s a v q:zgS)(st:St):Int:=
 if decide (600<s.size)||decide (100<a.size)||decide (60<v.size)||decide (60<q.size) then 1 else if(ckM s st).1 !=0 then(ckM s st).1 else if(raM a).2||(vlM v).2||(rqM q).2 then 6 else if hoM (vlM v).1 st.C then 7 else 0
def z8J (v:Value):Prop:= ∃a n k,v= .slice a n k
def z2d (s a v q:zgS)(st:St)(w:World)(e:Ending)(w':World):Prop:= ∃x1 x2 x3 x4 x5 x6 x7,e= .returned (.agg #[.int .i64 (grM s a v q st),x1,x2,x3,x4,x5,x6,x7])∧Below w.heap.size w w'∧z8J x1∧z8J x2∧z8J x3∧z8J x4∧z8J x5∧z8J x6∧z8J x7∧
 (grM s a v q st=0→ ∃V iv cv,x1=V 3∧x2=V 4∧x3=V 5∧x4=V 6∧TreeV w' w.heap.size st V iv cv∧w'.ownsRow w.heap.size 123 2 x5 (raM a).1.length (((raM a).1.map zA).flatten)∧w'.ownsRow w.heap.size 9 1 x6 (vlM v).1.length ((vlM v).1.map Value.string)∧w'.ownsRow w.heap.size 9 1 x7 (rqM q).1.length ((rqM q).1.map Value.string))
theorem TreeV.low {w:World}{base base':Nat}{st:St}{V:Nat→Value}{iv cv:List Value}(h:TreeV w base st V iv cv)(hb:base'≤base):TreeV w base' st V iv cv:=
 ⟨fun o h3 h6=>zu (h.own o h3 h6) hb,h.il,h.cl,fun i l v h1 h2=>zu (h.items i l v h1 h2) hb,fun i l v h1 h2=>zu (h.clauses i l v h1 h2) hb⟩
theorem zm:z8J (.slice none 0 0):=⟨none,0,0,rfl⟩
theorem z3x (s a v q:zgS)(st:St)(w:World)(hs:s.size≤maxLen)(ha:a.size≤maxLen)(hv:v.size≤maxLen)(hq:q.size≤maxLen)(h:600<s.size∨100<a.size∨60<v.size∨60<q.size):Calls Tryz.prog 34 #[.string s,.string a,.string v,.string q] w fun e w'=>z2d s a v q st w e w':=by
 unfold maxLen at hs ha hv hq
 have hres:Hid (grM s a v q st=1):=z8 (by unfold grM;rw [if_pos];simp;omega)
 have hB:=z8 fun o:Obj=>(zgR w.heap.size w).alloc (zgH _) o
 have fin: ∀(W':World),Below w.heap.size w W'→z2d s a v q st w (.returned (.agg #[.int .i64 1,.slice none 0 0,.slice none 0 0,.slice none 0 0,.slice none 0 0,.slice none 0 0,.slice none 0 0,.slice none 0 0])) W':=fun W' hb=>⟨_,_,_,_,_,_,_,by rw [hres.out],hb,zm,zm,zm,zm,zm,zm,zm,fun e=>by rw [hres.out] at e;cases e⟩
 have FIN:=z8 fin
 clear fin
 by_cases h1:600<s.size
 ·have h1':(600:Int)<s.size:=by omega
  go_enter Tryz.func34,Tryz.ntmps34
  go_wp2_with fail
  refine bodyPost_ret (v:= .agg #[.int .i64 1,.slice none 0 0,.slice none 0 0,.slice none 0 0,.slice none 0 0,.slice none 0 0,.slice none 0 0,.slice none 0 0]) (by simp [results,Tryz.results34,go_sem]) rfl (FIN.out _ (hB.out _))
 ·have h1': ¬(600:Int)<s.size:=by omega
  by_cases h2:100<a.size
  ·have h2':(100:Int)<a.size:=by omega
   go_enter Tryz.func34,Tryz.ntmps34
   go_wp2_with fail
   refine bodyPost_ret (v:= .agg #[.int .i64 1,.slice none 0 0,.slice none 0 0,.slice none 0 0,.slice none 0 0,.slice none 0 0,.slice none 0 0,.slice none 0 0]) (by simp [results,Tryz.results34,go_sem]) rfl (FIN.out _ (hB.out _))
  ·have h2': ¬(100:Int)<a.size:=by omega
   by_cases h3:60<v.size
   ·have h3':(60:Int)<v.size:=by omega
    go_enter Tryz.func34,Tryz.ntmps34
    go_wp2_with fail
    refine bodyPost_ret (v:= .agg #[.int .i64 1,.slice none 0 0,.slice none 0 0,.slice none 0 0,.slice none 0 0,.slice none 0 0,.slice none 0 0,.slice none 0 0]) (by simp [results,Tryz.results34,go_sem]) rfl (FIN.out _ (hB.out _))
   have h3': ¬(60:Int)<v.size:=by omega
   have h4':(60:Int)<q.size:=by omega
   go_enter Tryz.func34,Tryz.ntmps34
   go_wp2_with fail
   refine bodyPost_ret (v:= .agg #[.int .i64 1,.slice none 0 0,.slice none 0 0,.slice none 0 0,.slice none 0 0,.slice none 0 0,.slice none 0 0,.slice none 0 0]) (by simp [results,Tryz.results34,go_sem]) rfl (FIN.out _ (hB.out _))
theorem z8z {w1:World}{g:Nat}{x0 x1 x2 x3 x4 x5 x6 x7:Value}{t:TypeId}(h:w1.heap[g]?=some (.cells #[x0,x1,x2,x3,x4,x5,x6,x7] t))(a b c d e f k m:Value):((((((((w1.setCell ⟨g,0,none⟩ a).setCell ⟨g,1,none⟩ b).setCell ⟨g,2,none⟩ c).setCell ⟨g,3,none⟩ d).setCell ⟨g,4,none⟩ e).setCell ⟨g,5,none⟩ f).setCell ⟨g,6,none⟩ k).setCell ⟨g,7,none⟩ m).heap[g]?=some (.cells #[a,b,c,d,e,f,k,m] t):=by
 simp [World.setCell,Array.getElem?_modify,h]
theorem z4z {B g:Nat}{w w1:World}(h:Below B w w1)(hg:B≤g)(a b c d e f k m:Value):Below B w ((((((((w1.setCell ⟨g,0,none⟩ a).setCell ⟨g,1,none⟩ b).setCell ⟨g,2,none⟩ c).setCell ⟨g,3,none⟩ d).setCell ⟨g,4,none⟩ e).setCell ⟨g,5,none⟩ f).setCell ⟨g,6,none⟩ k).setCell ⟨g,7,none⟩ m):=
 (((((((h.setCell (p:=⟨g,0,none⟩) hg _).setCell (p:=⟨g,1,none⟩) hg _).setCell (p:=⟨g,2,none⟩) hg _).setCell (p:=⟨g,3,none⟩) hg _).setCell (p:=⟨g,4,none⟩) hg _).setCell (p:=⟨g,5,none⟩) hg _).setCell (p:=⟨g,6,none⟩) hg _).setCell (p:=⟨g,7,none⟩) hg _
theorem zfo {w1:World}{g k:Nat}(a b c d e f x m:Value)(h:k≠g):((((((((w1.setCell ⟨g,0,none⟩ a).setCell ⟨g,1,none⟩ b).setCell ⟨g,2,none⟩ c).setCell ⟨g,3,none⟩ d).setCell ⟨g,4,none⟩ e).setCell ⟨g,5,none⟩ f).setCell ⟨g,6,none⟩ x).setCell ⟨g,7,none⟩ m).heap[k]?=w1.heap[k]?:=by
 simp only [World.setCell,Array.getElem?_modify]
 simp [Ne.symm h]
theorem z1p (s a v q:zgS)(st:St)(w:World)(hs:s.size≤600)(ha:a.size≤100)(hv:v.size≤60)(hq:q.size≤60)(h: ∀W,Calls Tryz.prog 45 #[.string s] W fun e w'=>z2t s W st e w')(hC:st.C.length≤100000)(hCl: ∀c∈st.C,c.length≤100000)(hvl:(vlM v).1.length≤100000):Calls Tryz.prog 34 #[.string s,.string a,.string v,.string q] w fun e w'=>z2d s a v q st w e w':=by
 have hs': ¬(600:Int)<s.size:=by omega
 have ha': ¬(100:Int)<a.size:=by omega
 have hv': ¬(60:Int)<v.size:=by omega
 have hq': ¬(60:Int)<q.size:=by omega
 have hgr:Hid (grM s a v q st=if(ckM s st).1 !=0 then(ckM s st).1 else if(raM a).2||(vlM v).2||(rqM q).2 then 6 else if hoM (vlM v).1 st.C then 7 else 0):=z8 (by unfold grM;rw [if_neg];simp;omega)
 have hB0:=(zgR w.heap.size w).alloc (zgH _) (.cells #[.int .i64 0,.slice none 0 0,.slice none 0 0,.slice none 0 0,.slice none 0 0,.slice none 0 0,.slice none 0 0,.slice none 0 0] 58)
 have hX0:=heap_alloc_new w (.cells #[.int .i64 0,.slice none 0 0,.slice none 0 0,.slice none 0 0,.slice none 0 0,.slice none 0 0,.slice none 0 0,.slice none 0 0] 58)
 have H0:=z8 (zgI hB0 hX0)
 have HC:=z8 (h (w.alloc (.cells #[.int .i64 0,.slice none 0 0,.slice none 0 0,.slice none 0 0,.slice none 0 0,.slice none 0 0,.slice none 0 0,.slice none 0 0] 58)))
 clear hB0 hX0 h
 go_enter Tryz.func34,Tryz.ntmps34
 go_wp2_with fail
 refine HC.out.mono ?_
 rintro e w1 ⟨y1,y2,y3,y4,V,iv,cv,rfl,hB1,⟨a1,n1,k1,rfl⟩,⟨a2,n2,k2,rfl⟩,⟨a3,n3,k3,rfl⟩,⟨a4,n4,k4,rfl⟩,hT⟩
 obtain⟨hB0,hX0⟩:=H0.out
 clear H0 HC
 have hz0:(w.alloc (.cells #[.int .i64 0,.slice none 0 0,.slice none 0 0,.slice none 0 0,.slice none 0 0,.slice none 0 0,.slice none 0 0,.slice none 0 0] 58)).heap.size=w.heap.size+1:=by simp
 have hB01:=hB0.trans (hB1.mono (by omega))
 have hX1:=(hB1.block w.heap.size (by omega)).trans hX0
 have hz1:w.heap.size<w1.heap.size:=by have:=hB1.size;omega
 generalize hE:(ckM s st).1=E at*
 generalize (ckM s st).2=P at*
 rw [hz0] at hT
 have HT:=z8 hT
 have HEE:=z8 hE
 clear hE hT hB1 hB0 hX0 hz0
 have hCB:=hB01.alloc hB01.size (.cells #[.int .i64 E,.int .i64 P,.slice a1 n1 k1,.slice a2 n2 k2,.slice a3 n3 k3,.slice a4 n4 k4] 78)
 have hX2:=(zgJ w1 (.cells #[.int .i64 E,.int .i64 P,.slice a1 n1 k1,.slice a2 n2 k2,.slice a3 n3 k3,.slice a4 n4 k4] 78) _ hz1).trans hX1
 have HX2:=z8 hX2
 have HCB:=z8 hCB
 have HZ1:=z8 hz1
 clear hz1
 cases hEz:(E !=0)
 case true=>
  have hres:Hid (grM s a v q st=E):=z8 (by rw [hgr.out,hEz];rfl)
  obtain⟨b0,b1,b2,b3,b4,b5,b6,b7,bf⟩:=z31 hX2
  have f0:=bf 0
  have f1:=bf 1
  have f2:=bf 2
  have f3:=bf 3
  have f4:=bf 4
  have f5:=bf 5
  have f6:=bf 6
  have f7:=bf 7
  clear hX2 hCB hX1 hB01 bf
  go_wp2_with fail
  obtain⟨z0,z1,z2,z3,z4,z5,z6,z7,_⟩:=z31 (z8z HX2.out (.int .i64 E) (.slice none 0 0) (.slice none 0 0) (.slice none 0 0) (.slice none 0 0) (.slice none 0 0) (.slice none 0 0) (.slice none 0 0))
  refine bodyPost_ret (v:= .agg #[.int .i64 E,.slice none 0 0,.slice none 0 0,.slice none 0 0,.slice none 0 0,.slice none 0 0,.slice none 0 0,.slice none 0 0]) (by simp [results,Tryz.results34,go_sem,z0,z1,z2,z3,z4,z5,z6,z7]) rfl ?_
  exact⟨_,_,_,_,_,_,_,by rw [hres.out],z4z HCB.out (zgH _) _ _ _ _ _ _ _ _,zm,zm,zm,zm,zm,zm,zm,fun e=>by rw [hres.out] at e;rw [e] at hEz;cases hEz⟩
 have hE0:E=0:=by simpa using hEz
 subst hE0
 obtain⟨hv1,hv2,hv3,hv4,hT1⟩:=HT.out rfl
 have hgr2:Hid (grM s a v q st=if(raM a).2||(vlM v).2||(rqM q).2 then 6 else if hoM (vlM v).1 st.C then 7 else 0):=z8 (by rw [hgr.out];rfl)
 have HTV:=z8 (zgI (zgI hv1 (zgI hv2 (zgI hv3 hv4))) hT1)
 have hcb:=heap_alloc_new w1 (.cells #[.int .i64 0,.int .i64 P,.slice a1 n1 k1,.slice a2 n2 k2,.slice a3 n3 k3,.slice a4 n4 k4] 78)
 have HCX:=z8 hcb
 have hzw:(w1.alloc (.cells #[.int .i64 0,.int .i64 P,.slice a1 n1 k1,.slice a2 n2 k2,.slice a3 n3 k3,.slice a4 n4 k4] 78)).heap.size=w1.heap.size+1:=by simp
 have HZW:=z8 hzw
 clear hgr hEz hv1 hv2 hv3 hv4 hT1 HT hX2 hCB hX1 hB01 hcb hzw
 have HRA:=z8 (z2m a (w1.alloc (.cells #[.int .i64 0,.int .i64 P,.slice a1 n1 k1,.slice a2 n2 k2,.slice a3 n3 k3,.slice a4 n4 k4] 78)) (by omega))
 go_wp2_with fail
 refine HRA.out.mono ?_
 rintro e w2 ⟨lv,rfl,hl2,hB2⟩
 obtain⟨al,kl,rfl⟩:=za hl2
 have hB02:=HCB.out.trans (hB2.mono HCB.out.size)
 have hX3:=(hB2.block w.heap.size (jm HX2.out)).trans HX2.out
 have hC3:=(hB2.block w1.heap.size (jm HCX.out)).trans HCX.out
 have hT2:TreeV w2 (w.heap.size+1) st V iv cv:=(HTV.out.2.same fun k _ hk=>zgJ _ _ _ hk).same fun k _ hk=>hB2.block k hk
 have hl2':=zu (base':=w.heap.size+1) hl2 (by have:=HZW.out;have:=HZ1.out;omega)
 have H2:=z8 (zgI hB02 (zgI hX3 (zgI hC3 (zgI hT2 hl2'))))
 have hz2:w.heap.size<w2.heap.size:=by have:=hB2.size;have:=HZW.out;have:=HZ1.out;omega
 have HZ2:=z8 hz2
 clear hB02 hX3 hC3 hT2 hl2 hl2' hB2 hz2 HRA HX2 HCX HCB
 have HRV:=z8 (z4h v w2 (by omega))
 generalize hra:(raM a).2=ba at*
 have HBA:=z8 hra
 clear hra
 go_wp2_with fail
 refine HRV.out.mono ?_
 rintro e w3 ⟨av,nv,kv,rfl,hB3,hv3⟩
 obtain⟨hB02,hX3,hC3,hT2,hl2⟩:=H2.out
 have hB03:=hB02.trans (hB3.mono hB02.size)
 have hX4:=(hB3.block w.heap.size (jm hX3)).trans hX3
 have hC4:=(hB3.block w1.heap.size (jm hC3)).trans hC3
 have hT3:TreeV w3 (w.heap.size+1) st V iv cv:=hT2.same fun k _ hk=>hB3.block k hk
 have hl3:=zc hl2 fun k e=>hB3.block k (hl2.lt k e).2
 have hz3:w.heap.size<w3.heap.size:=by have:=hB3.size;have:=HZ2.out;omega
 have HZ3:=z8 hz3
 have HB3:=z8 hB03
 have HX4:=z8 hX4
 have HC4:=z8 hC4
 have HL3:=z8 (zgI hT3 hl3)
 have HV3:=z8 hv3
 generalize hrv:(vlM v).2=bv at*
 have HBV:=z8 hrv
 clear hB02 hX3 hT2 hl2 hB3 hB03 hC3 hT3 hl3 hz3 H2 HRV hrv hv3 hX4 hC4
 have HRQ:=z8 (z63 q w3 (by omega))
 go_wp2_with fail
 refine HRQ.out.mono ?_
 rintro e w5 ⟨aq,nq,kq,rfl,hB5,hq5⟩
 have hB05:=HB3.out.trans (hB5.mono HB3.out.size)
 have hX4:=(hB5.block w.heap.size (jm HX4.out)).trans HX4.out
 have hC4:=(hB5.block w1.heap.size (jm HC4.out)).trans HC4.out
 have hT5:TreeV w5 (w.heap.size+1) st V iv cv:=HL3.out.1.same fun k _ hk=>hB5.block k hk
 have hl5:=zc HL3.out.2 fun k e=>hB5.block k (HL3.out.2.lt k e).2
 have hv5:=fun e=>zc (HV3.out e) fun k e2=>hB5.block k ((HV3.out e).lt k e2).2
 have hz5:w.heap.size<w5.heap.size:=by have:=hB5.size;have:=HZ3.out;omega
 have HQ5:=z8 hq5
 have hz35:=z8 HZ3.out
 clear HZ3 HB3 HX4 HC4 HL3 HV3
 have HZ3:=z8 hz5
 have HB3:=z8 hB05
 have HX4:=z8 hX4
 have HC4:=z8 hC4
 have HL3:=z8 (zgI hT5 hl5)
 have HV3:=z8 hv5
 generalize hrq:(rqM q).2=bq at*
 have HBQ:=z8 hrq
 clear hB5 hB05 hT5 hl5 hv5 hz5 hq5 hrq HRQ
 cases hbb:(ba||bv||bq)
 case true=>
  have hres:Hid (grM s a v q st=6):=z8 (by rw [hgr2.out,hbb];rfl)
  clear hX4 hC4
  cases ba
  ·cases bv
   ·have hbq:bq=true:=by simpa using hbb
    subst hbq
    clear hbb
    obtain⟨b0,b1,b2,b3,b4,b5,b6,b7,bf⟩:=z31 HX4.out
    have f0:=bf 0
    have f1:=bf 1
    have f2:=bf 2
    have f3:=bf 3
    have f4:=bf 4
    have f5:=bf 5
    have f6:=bf 6
    have f7:=bf 7
    have HBOX:=z8 HX4.out
    clear bf
    go_wp2_with fail
    obtain⟨z0,z1,z2,z3,z4,z5,z6,z7,_⟩:=z31 (z8z HBOX.out (.int .i64 6) (.slice none 0 0) (.slice none 0 0) (.slice none 0 0) (.slice none 0 0) (.slice none 0 0) (.slice none 0 0) (.slice none 0 0))
    refine bodyPost_ret (v:= .agg #[.int .i64 6,.slice none 0 0,.slice none 0 0,.slice none 0 0,.slice none 0 0,.slice none 0 0,.slice none 0 0,.slice none 0 0]) (by simp [results,Tryz.results34,go_sem,z0,z1,z2,z3,z4,z5,z6,z7]) rfl ?_
    exact⟨_,_,_,_,_,_,_,by rw [hres.out],z4z HB3.out (zgH _) _ _ _ _ _ _ _ _,zm,zm,zm,zm,zm,zm,zm,fun e=>by rw [hres.out] at e;cases e⟩
   ·clear hbb
    obtain⟨b0,b1,b2,b3,b4,b5,b6,b7,bf⟩:=z31 HX4.out
    have f0:=bf 0
    have f1:=bf 1
    have f2:=bf 2
    have f3:=bf 3
    have f4:=bf 4
    have f5:=bf 5
    have f6:=bf 6
    have f7:=bf 7
    have HBOX:=z8 HX4.out
    clear bf
    go_wp2_with fail
    obtain⟨z0,z1,z2,z3,z4,z5,z6,z7,_⟩:=z31 (z8z HBOX.out (.int .i64 6) (.slice none 0 0) (.slice none 0 0) (.slice none 0 0) (.slice none 0 0) (.slice none 0 0) (.slice none 0 0) (.slice none 0 0))
    refine bodyPost_ret (v:= .agg #[.int .i64 6,.slice none 0 0,.slice none 0 0,.slice none 0 0,.slice none 0 0,.slice none 0 0,.slice none 0 0,.slice none 0 0]) (by simp [results,Tryz.results34,go_sem,z0,z1,z2,z3,z4,z5,z6,z7]) rfl ?_
    exact⟨_,_,_,_,_,_,_,by rw [hres.out],z4z HB3.out (zgH _) _ _ _ _ _ _ _ _,zm,zm,zm,zm,zm,zm,zm,fun e=>by rw [hres.out] at e;cases e⟩
  ·clear hbb
   obtain⟨b0,b1,b2,b3,b4,b5,b6,b7,bf⟩:=z31 HX4.out
   have f0:=bf 0
   have f1:=bf 1
   have f2:=bf 2
   have f3:=bf 3
   have f4:=bf 4
   have f5:=bf 5
   have f6:=bf 6
   have f7:=bf 7
   have HBOX:=z8 HX4.out
   clear bf
   go_wp2_with fail
   obtain⟨z0,z1,z2,z3,z4,z5,z6,z7,_⟩:=z31 (z8z HBOX.out (.int .i64 6) (.slice none 0 0) (.slice none 0 0) (.slice none 0 0) (.slice none 0 0) (.slice none 0 0) (.slice none 0 0) (.slice none 0 0))
   refine bodyPost_ret (v:= .agg #[.int .i64 6,.slice none 0 0,.slice none 0 0,.slice none 0 0,.slice none 0 0,.slice none 0 0,.slice none 0 0,.slice none 0 0]) (by simp [results,Tryz.results34,go_sem,z0,z1,z2,z3,z4,z5,z6,z7]) rfl ?_
   exact⟨_,_,_,_,_,_,_,by rw [hres.out],z4z HB3.out (zgH _) _ _ _ _ _ _ _ _,zm,zm,zm,zm,zm,zm,zm,fun e=>by rw [hres.out] at e;cases e⟩
 have hba:(ba=false∧bv=false)∧bq=false:=by simpa using hbb
 obtain⟨⟨h1,h2⟩,h3⟩:=hba
 subst h1 h2 h3
 have HQ6:=z8 (HQ5.out rfl)
 have hv4:=HV3.out rfl
 obtain⟨q0,q1,q2,q3,q4,q5,_⟩:=zbZ hC4
 have hq5:w5.cell? ⟨w1.heap.size,2+3,none⟩=some (V 6):=by rw [←HTV.out.1.2.2.2];exact q5
 have HOT:=z8 (z66 w1.heap.size 2 (w.heap.size+1) w2.heap.size st V iv cv (vlM v).1 _ w5 hq5 HL3.out.1 hv4 hvl hC hCl)
 have HV4:=z8 hv4
 clear hv4 hq5 hbb hX4 hC4 q0 q1 q2 q3 q4 q5
 have hgr3:Hid (grM s a v q st=if hoM (vlM v).1 st.C then 7 else 0):=z8 (by rw [hgr2.out];rfl)
 go_wp2_with fail
 refine HOT.out.mono ?_
 rintro e w4 ⟨rfl,n9,rfl⟩
 have hX5:(w5.drewN n9).heap[w.heap.size]?=_:=HX4.out
 have hB05:Below w.heap.size w (w5.drewN n9):=⟨HB3.out.os,HB3.out.tape,HB3.out.output,HB3.out.size,HB3.out.block⟩
 have HB5:=z8 hB05
 have hC5:(w5.drewN n9).heap[w1.heap.size]?=_:=HC4.out
 have hT5:TreeV (w5.drewN n9) (w.heap.size+1) st V iv cv:=HL3.out.1.same fun k _ hk=>rfl
 have hl5:=zc (w':=w5.drewN n9) HL3.out.2 fun k e=>rfl
 have hv5:=zc (w':=w5.drewN n9) HV4.out fun k e=>rfl
 have hq7:=zc (w':=w5.drewN n9) HQ6.out fun k e=>rfl
 have H5:=z8 (zgI hT5 (zgI hl5 (zgI hv5 hq7)))
 clear hT5 hl5 hv5 hq7 hB05 HOT
 generalize hho:hoM (vlM v).1 st.C=ho at*
 clear hho
 cases ho
 case true=>
  have hres:Hid (grM s a v q st=7):=z8 (by rw [hgr3.out];rfl)
  clear hC5
  obtain⟨b0,b1,b2,b3,b4,b5,b6,b7,bf⟩:=z31 hX5
  have f0:=bf 0
  have f1:=bf 1
  have f2:=bf 2
  have f3:=bf 3
  have f4:=bf 4
  have f5:=bf 5
  have f6:=bf 6
  have f7:=bf 7
  have HBOX:=z8 hX5
  clear bf hX5
  go_wp2_with fail
  obtain⟨z0,z1,z2,z3,z4,z5,z6,z7,_⟩:=z31 (z8z HBOX.out (.int .i64 7) (.slice none 0 0) (.slice none 0 0) (.slice none 0 0) (.slice none 0 0) (.slice none 0 0) (.slice none 0 0) (.slice none 0 0))
  refine bodyPost_ret (v:= .agg #[.int .i64 7,.slice none 0 0,.slice none 0 0,.slice none 0 0,.slice none 0 0,.slice none 0 0,.slice none 0 0,.slice none 0 0]) (by simp [results,Tryz.results34,go_sem,z0,z1,z2,z3,z4,z5,z6,z7]) rfl ?_
  exact⟨_,_,_,_,_,_,_,by rw [hres.out],z4z HB5.out (zgH _) _ _ _ _ _ _ _ _,zm,zm,zm,zm,zm,zm,zm,fun e=>by rw [hres.out] at e;cases e⟩
 have hres:Hid (grM s a v q st=0):=z8 (by rw [hgr3.out];rfl)
 obtain⟨b0,b1,b2,b3,b4,b5,b6,b7,bf⟩:=z31 hX5
 obtain⟨q0,q1,q2,q3,q4,q5,_⟩:=zbZ hC5
 have f0:=bf 0
 have f1:=bf 1
 have f2:=bf 2
 have f3:=bf 3
 have f4:=bf 4
 have f5:=bf 5
 have f6:=bf 6
 have f7:=bf 7
 have HX5:=z8 hX5
 clear bf hX5 hC5
 go_wp2_with fail
 obtain⟨z0,z1,z2,z3,z4,z5,z6,z7,_⟩:=z31 (z8z HX5.out (.int .i64 0) (.slice a1 n1 k1) (.slice a2 n2 k2) (.slice a3 n3 k3) (.slice a4 n4 k4) (.slice al (raM a).1.length kl) (.slice av nv kv) (.slice aq nq kq))
 refine bodyPost_ret (v:= .agg #[.int .i64 0,.slice a1 n1 k1,.slice a2 n2 k2,.slice a3 n3 k3,.slice a4 n4 k4,.slice al (raM a).1.length kl,.slice av nv kv,.slice aq nq kq]) (by simp [results,Tryz.results34,go_sem,z0,z1,z2,z3,z4,z5,z6,z7]) rfl ?_
 obtain⟨hT5,hl5,hv5,hq7⟩:=H5.out
 have hv6:=zu (base':=w.heap.size+1) hv5 (by have:=HZ2.out;omega)
 have hq8:=zu (base':=w.heap.size+1) hq7 (by have:=hz35.out;omega)
 refine⟨_,_,_,_,_,_,_,by rw [hres.out],z4z HB5.out (zgH _) _ _ _ _ _ _ _ _,⟨_,_,_,rfl⟩,⟨_,_,_,rfl⟩,⟨_,_,_,rfl⟩,⟨_,_,_,rfl⟩,⟨_,_,_,rfl⟩,⟨_,_,_,rfl⟩,⟨_,_,_,rfl⟩,fun _=>⟨V,iv,cv,HTV.out.1.1,HTV.out.1.2.1,HTV.out.1.2.2.1,HTV.out.1.2.2.2,(hT5.same fun k hk _=>zfo _ _ _ _ _ _ _ _ (by omega)).low (by omega),?_,?_,?_⟩⟩
 ·exact zu (zc hl5 fun k e=>zfo _ _ _ _ _ _ _ _ (by have:=(hl5.lt k e).1;omega)) (by omega)
 ·exact zu (zc hv6 fun k e=>zfo _ _ _ _ _ _ _ _ (by have:=(hv6.lt k e).1;omega)) (by omega)
 ·exact zu (zc hq8 fun k e=>zfo _ _ _ _ _ _ _ _ (by have:=(hq8.lt k e).1;omega)) (by omega)
def coM (s a v:zgS)(k:Int)(st:St):zgS×Int:=
 if grM s a v ⟨#[]⟩ st !=0 then(⟨#[]⟩,grM s a v ⟨#[]⟩ st) else if decide (k<0)||decide ((st.A.length:Int)≤k) then(⟨#[]⟩,8)
 else(vaM (vlM v).1 (zb (jZ (vlM v).1 (zf (raM a).1 st.E []) st.C []) ((st.A.getD k.toNat ⟨⟨#[]⟩,0,0⟩).conds)),0)
theorem As.cells_len (x:As):x.cells.length=3:=rfl
theorem zdo (s a v:zgS)(k:Int)(st:St)(w:World)(h:Calls Tryz.prog 34 #[.string s,.string a,.string v,.string ⟨#[]⟩] w fun e w'=>z2d s a v ⟨#[]⟩ st w e w')(hE:st.E.length≤100000)(hA:st.A.length≤100000)(hC:st.C.length≤100000)(hCl: ∀c∈st.C,c.length≤100000)(hvl:(vlM v).1.length≤100000)(hll:(raM a).1.length≤100000)(hls: ∀p∈(raM a).1,p.2.size≤600)(hEs: ∀x∈st.E,x.text.size≤600)
  (hW:grM s a v ⟨#[]⟩ st=0→ ∀x∈zf (raM a).1 st.E [],x.text.size≤100000000):
  Calls Tryz.prog 26 #[.string s,.int .i64 k,.string a,.string v] w fun e w'=>z0o (coM s a v k st).1 (coM s a v k st).2 w e w':=by
 have HC:=z8 h
 clear h
 go_enter Tryz.func26,Tryz.ntmps26
 go_wp2_with fail
 refine HC.out.mono ?_
 rintro e w1 ⟨x1,x2,x3,x4,x5,x6,x7,rfl,hB1,⟨a1,n1,k1,rfl⟩,⟨a2,n2,k2,rfl⟩,⟨a3,n3,k3,rfl⟩,⟨a4,n4,k4,rfl⟩,⟨a5,n5,k5,rfl⟩,⟨a6,n6,k6,rfl⟩,⟨a7,n7,k7,rfl⟩,hG⟩
 have hco:Hid (coM s a v k st=if grM s a v ⟨#[]⟩ st !=0 then(⟨#[]⟩,grM s a v ⟨#[]⟩ st) else if decide (k<0)||decide ((st.A.length:Int)≤k) then(⟨#[]⟩,8) else(vaM (vlM v).1 (zb (jZ (vlM v).1 (zf (raM a).1 st.E []) st.C []) ((st.A.getD k.toNat ⟨⟨#[]⟩,0,0⟩).conds)),0)):=z8 rfl
 generalize grM s a v ⟨#[]⟩ st=E at*
 have hB2:=hB1.alloc hB1.size (.cells #[.int .i64 E,.slice a1 n1 k1,.slice a2 n2 k2,.slice a3 n3 k3,.slice a4 n4 k4,.slice a5 n5 k5,.slice a6 n6 k6,.slice a7 n7 k7] 58)
 have hX2:=heap_alloc_new w1 (.cells #[.int .i64 E,.slice a1 n1 k1,.slice a2 n2 k2,.slice a3 n3 k3,.slice a4 n4 k4,.slice a5 n5 k5,.slice a6 n6 k6,.slice a7 n7 k7] 58)
 have HB2:=z8 hB2
 cases hEz:(E !=0)
 case true=>
  have hres:Hid (coM s a v k st=(⟨#[]⟩,E)):=z8 (by rw [hco.out,hEz];rfl)
  clear hG hB1 hX2 hB2
  go_wp2_with fail
  go_quiet (fail)
  go_wp2_with fail
  go_ret2
  exact⟨by rw [hres.out];rfl,⟨HB2.out.os,HB2.out.tape,HB2.out.output,HB2.out.size,HB2.out.block⟩⟩
 have hE0:E=0:=by simpa using hEz
 subst hE0
 obtain⟨V,iv,cv,e1,e2,e3,e4,hT,hl,hvv,hqq⟩:=hG rfl
 have hco2:Hid (coM s a v k st=if decide (k<0)||decide ((st.A.length:Int)≤k) then(⟨#[]⟩,8) else(vaM (vlM v).1 (zb (jZ (vlM v).1 (zf (raM a).1 st.E []) st.C []) ((st.A.getD k.toNat ⟨⟨#[]⟩,0,0⟩).conds)),0)):=z8 (by rw [hco.out];rfl)
 have hrowA:=hT.own 3 (by omega) (by omega)
 have hn1:n1=st.A.length:=by
  obtain⟨qa,qk,q⟩:=za hrowA
  rw [←e1] at q
  injection q with _ q _
 subst hn1
 have hn5:n5=(raM a).1.length:=by
  obtain⟨qa,qk,q⟩:=za hl
  injection q with _ q _
 have hn6:n6=(vlM v).1.length:=by
  obtain⟨qa,qk,q⟩:=za hvv
  injection q with _ q _
 have hGd:Gd (w1.alloc (.cells #[.int .i64 0,.slice a1 st.A.length k1,.slice a2 n2 k2,.slice a3 n3 k3,.slice a4 n4 k4,.slice a5 n5 k5,.slice a6 n6 k6,.slice a7 n7 k7] 58)) w1.heap.size w.heap.size w.heap.size w.heap.size st V iv cv (raM a).1 (.slice a5 n5 k5) (vlM v).1 (.slice a6 n6 k6) (rqM ⟨#[]⟩).1 (.slice a7 n7 k7):=
  ⟨⟨0,by rw [←e1,←e2,←e3,←e4];exact hX2⟩,hT.same fun k _ hk=>zgJ _ _ _ hk,hl.alloc _,hvv.alloc _,hqq.alloc _⟩
 have hrowA':(w1.alloc (.cells #[.int .i64 0,.slice a1 st.A.length k1,.slice a2 n2 k2,.slice a3 n3 k3,.slice a4 n4 k4,.slice a5 n5 k5,.slice a6 n6 k6,.slice a7 n7 k7] 58)).ownsRow w.heap.size 84 3 (.slice a1 st.A.length k1) st.A.length ((st.A.map As.cells).flatten):=by
  have q:=hGd.tree.own 3 (by omega) (by omega)
  rw [←e1] at q
  exact q
 have HGD:=z8 hGd
 have HRA:=z8 hrowA'
 have hz1:w.heap.size≤w1.heap.size:=hB1.size
 have HN:=z8 (zgI hn5 hn6)
 clear hco hG hEz hB1 hB2 hT hl hvv hqq e1 e2 e3 e4 hrowA hGd hrowA' hX2 hn5 hn6
 by_cases hk0:k<0
 ·have hres:Hid (coM s a v k st=(⟨#[]⟩,8)):=z8 (by rw [hco2.out];simp [hk0])
  go_wp2_with fail
  go_ret2
  exact⟨by rw [hres.out];rfl,HB2.out⟩
 by_cases hkA:(st.A.length:Int)≤k
 ·have hres:Hid (coM s a v k st=(⟨#[]⟩,8)):=z8 (by rw [hco2.out];simp [hkA])
  go_wp2_with fail
  go_ret2
  exact⟨by rw [hres.out];rfl,HB2.out⟩
 obtain⟨j,rfl⟩:=Int.eq_ofNat_of_zero_le (show 0≤k by omega)
 have hjA:j<st.A.length:=by omega
 obtain⟨x,hx⟩: ∃x,st.A[j]?=some x:=⟨st.A[j],zgE hjA⟩
 have hres:Hid (coM s a v j st=(vaM (vlM v).1 (zb (jZ (vlM v).1 (zf (raM a).1 st.E []) st.C []) x.conds),0)):=z8 (by
  rw [hco2.out]
  have h1: ¬st.A.length≤j:=by omega
  simp [h1,List.getD,hx])
 have HCL:=z8 (z1s w1.heap.size w.heap.size w.heap.size w.heap.size st V iv cv (raM a).1 _ (vlM v).1 _ _ _ _ HGD.out hE hC hCl hvl hll hls hEs (hW rfl))
 have hLl:(jZ (vlM v).1 (zf (raM a).1 st.E []) st.C []).length≤100000:=by rw [z0v];simpa using hC
 generalize jZ (vlM v).1 (zf (raM a).1 st.E []) st.C []=LV at*
 have hkA':(j:Int)<st.A.length:=by omega
 clear hW hco2 hk0 hkA
 go_wp2_with fail
 refine HCL.out.mono ?_
 rintro e w2 ⟨lv,rfl,hlv,hB3⟩
 obtain⟨al,kl,rfl⟩:=za hlv
 have hG2:=HGD.out.keep hB3
 have hA2:=zc HRA.out fun q e=>hB3.block q (HRA.out.lt q e).2
 obtain⟨g,cap,hvx,hbb,hgg⟩:=hA2.form (by omega)
 injection hvx with e1 e2 e3
 subst e1 e3
 have p2:w2.cell? ⟨g,j*3+2,none⟩=some (.int .i64 x.conds):=zl hA2 _ _ (zS As.cells 3 As.cells_len st.A j 2 x hx (by omega))
 have hbx2:=(hB3.block w1.heap.size (by simp)).trans (heap_alloc_new w1 (.cells #[.int .i64 0,.slice (some ⟨g,0,none⟩) st.A.length k1,.slice a2 n2 k2,.slice a3 n3 k3,.slice a4 n4 k4,.slice a5 n5 k5,.slice a6 n6 k6,.slice a7 n7 k7] 58))
 obtain⟨b0,b1,b2,b3,b4,b5,b6,b7,bf⟩:=z31 hbx2
 have HB3:=z8 (HB2.out.trans (hB3.mono HB2.out.size))
 have HLA:=z8 (jn _ LV _ x.conds w2 hlv hLl)
 have hv2:=hG2.vals
 have hv3:w2.ownsRow w.heap.size 9 1 (.slice a6 (vlM v).1.length k6) (vlM v).1.length ((vlM v).1.map Value.string):=by have q:=hv2;rw [HN.out.2] at q;exact q
 have HVA:=z8 (fun i=>z3Z w1.heap.size w.heap.size (vlM v).1 a6 k6 i w2 (by rw [←HN.out.2];exact b6) hv3 hvl)
 clear hG2 hA2 hbx2 bf hB3 hlv hv2 hv3 HCL hx
 generalize zb LV x.conds=lev at*
 go_wp2_with fail
 refine HLA.out.mono ?_
 rintro e w3 ⟨rfl,rfl⟩
 have HVL:=z8 (HVA.out lev)
 generalize vaM (vlM v).1 lev=D at*
 clear HVA HLA
 go_wp2_with fail
 refine HVL.out.mono ?_
 rintro e w4 ⟨rfl,rfl⟩
 go_wp2_with fail
 go_ret2
 exact⟨by rw [hres.out];rfl,HB3.out⟩
def zdX (s:zgS)(lo hi:Nat)(w:World)(e:Ending)(w':World):Prop:= ∃a n k l ok,e= .returned (.tuple #[.slice a n k,.bool ok])∧Below w.heap.size w w'∧w'.ownsRow w.heap.size 9 1 (.slice a n k) l.length (l.map Value.string)∧l.length≤700∧((ok=false∧(rnM s).2=true∧s.size≠0)∨(rnM s=(l,false)∧s.size≠0∧ok=(decide (lo≤l.length)&&decide (l.length≤hi)))∨(s.size=0∧l=[]∧ok=decide (lo=0)))
def zet (s:zgS)(w:World)(e:Ending)(w':World):Prop:= ∃a n k l ok,e= .returned (.tuple #[.slice a n k,.bool ok])∧Below w.heap.size w w'∧w'.ownsRow w.heap.size 9 1 (.slice a n k) l.length (l.map Value.string)∧l.length≤700∧((ok=false∧(rnM s).2=true)∨(rnM s=(l,false)∧ok=(decide (2≤l.length)&&decide (l.length≤5))))
def okN (s:zgS)(P:Nat×Bool×List zgS):List zgS×Bool:=(P.2.2,z29 s P.1 P.2.1)
def z6g (s:zgS)(n p:Nat)(l:List zgS):Nat×Bool×List zgS:=
 let v:=zi s p false
 nmM s n v.1 v.2.1 (l++[v.2.2])
theorem z7P (s:zgS):rnM s=okN s (z6g s (s.size+1) 0 []):=rfl
theorem z5f {s:zgS}{n a:Nat}{d:Bool}{l:List zgS}(h:(pk s a d==44)=false):nmM s n a d l=(a,d,l):=by
 cases n with
 |zero=>rfl
 |succ n=>unfold nmM;rw [h];rfl
theorem zf5 {s:zgS}{n a:Nat}{l:List zgS}(h:(pk s a false==44)=true):nmM s (n+1) a false l=z6g s n (a+1) l:=by
 conv=>lhs;unfold nmM
 rw [h];rfl
theorem z9y {s:zgS}{n p:Nat}{l:List zgS}(h:(zi s p false).2.1=true):(okN s (z6g s n p l)).2=true:=by
 unfold z6g okN
 simp only
 rw [h,z5f rfl]
 rfl
theorem zap:(rnM ⟨#[]⟩).2=true:=by
 rw [z7P]
 refine z9y ?_
 have:zi ⟨#[]⟩ 0 false=(0,true,⟨#[]⟩):=z01 (ju rfl) (.inl rfl)
 rw [this]
theorem z5E (s:zgS)(lo hi:Nat)(w:World)(hs:s.size≤600)(hlo:lo≤100)(hhi:hi≤100):Calls Tryz.prog 102 #[.string s,.int .i64 lo,.int .i64 hi] w fun e w'=>zdX s lo hi w e w':=by
 have hrd0:=zbA hs (heap_alloc_new w (.cells #[.string s,.int .i64 0,.bool false] 94))
 have hB0:=(zgR w.heap.size w).alloc (zgH _) (.cells #[.string s,.int .i64 0,.bool false] 94)
 have hz0:(w.alloc (.cells #[.string s,.int .i64 0,.bool false] 94)).heap.size=w.heap.size+1:=by simp
 have H0:=z8 (zgI hrd0 (zgI hB0 hz0))
 clear hrd0 hB0 hz0
 obtain⟨i0,hii,hz0',hz1,hz2⟩:=info_parts info9
 by_cases h0:s.size=0
 ·have hs0:=z50 h0
  subst hs0
  go_enter Tryz.func102,Tryz.ntmps102
  go_wp2_with fail
  go_loopg [8,10] 1 (fun k lv mv wr=>lv= .slice none 0 0∧mv= .bool false∧wr=(w.alloc (.cells #[.string ⟨#[]⟩,.int .i64 0,.bool false] 94)))
  case atStart=>exact⟨rfl,rfl,rfl⟩
  case round=>
   obtain⟨rfl,rfl,rfl⟩:=hrel
   have q:=z8 ((zgR w.heap.size w).alloc (zgH _) (.cells #[.string ⟨#[]⟩,.int .i64 0,.bool false] 94))
   by_cases hl0:lo=0
   ·subst hl0
    have hh0:(0:Int)≤hi:=by omega
    go_wp2_with fail
    go_ret2
    exact⟨none,0,0,[],true,rfl,⟨q.out.os,q.out.tape,q.out.output,q.out.size,q.out.block⟩,⟨rfl,.inl ⟨rfl,rfl⟩⟩,by simp,.inr (.inr ⟨rfl,rfl,by simp⟩)⟩
   ·have hh0: ¬(lo:Int)≤0:=by omega
    go_wp2_with fail
    go_ret2
    exact⟨none,0,0,[],false,rfl,⟨q.out.os,q.out.tape,q.out.output,q.out.size,q.out.block⟩,⟨rfl,.inl ⟨rfl,rfl⟩⟩,by simp,.inr (.inr ⟨rfl,rfl,by simp [hl0]⟩)⟩
 ·have hne:(s.toList==([]:List UInt8))=false:=by
   rw [zgG]
   cases hq:(s.data.toList==([]:List UInt8)) with
   |false=>rfl
   |true=>simp at hq;exact absurd (show s.size=0 by simp [ByteArray.size,hq]) h0
  have hnl: ¬s.toList=[]:=by simpa using hne
  have hra:=z8 (z7P s)
  generalize hP0:z6g s (s.size+1) 0 []=P0 at*
  have HP0:=z8 hP0
  clear hP0
  go_enter Tryz.func102,Tryz.ntmps102
  go_wp2_with fail
  obtain⟨hrd0,hB0,hz0⟩:=H0.out
  clear H0
  generalize (w.alloc (.cells #[.string s,.int .i64 0,.bool false] 94))=W0 at*
  go_loopg [8,10] (s.size+2) (fun k lv mv wr=> ∃(p:Nat) (d more:Bool) (l:List zgS) (a:Option Addr) (cap n:Nat),lv= .slice a l.length cap∧mv= .bool more∧Hid (wr.ownsRow (w.heap.size+1) 9 1 (.slice a l.length cap) l.length (l.map Value.string))∧Hid (Below w.heap.size w wr)∧w.heap.size<wr.heap.size∧Hid (Rd wr w.heap.size s p d)∧l.length+k≤s.size+2∧s.size+1≤k+p∧p≤s.size∧
   Hid ((more=true∧d=false∧1≤k∧s.size≤n+p∧okN s (z6g s n p l)=okN s P0)∨(more=true∧d=true∧(okN s P0).2=true)∨(more=false∧d=false∧okN s P0=(l,false))))
  case atStart=>
   refine⟨0,false,true,[],none,0,s.size+1,rfl,by simp,z8 ?_,z8 hB0,by omega,z8 hrd0,by simp,by omega,by omega,z8 (.inl ⟨rfl,rfl,by omega,by omega,by rw [HP0.out]⟩)⟩
   exact⟨rfl,.inl ⟨rfl,rfl⟩⟩
  case round=>
   obtain⟨p,d,more,l,a,cap,n,rfl,rfl,HO,HB,hwz,HR,hlk,hkp,hps,HC⟩:=hrel
   cases more
   ·have hfin:d=false∧okN s P0=(l,false):=by
     rcases HC.out with⟨e,_⟩|⟨e,_⟩|⟨_,e1,e2⟩
     ·cases e
     ·cases e
     ·exact⟨e1,e2⟩
    obtain⟨hd,hfin⟩:=hfin
    subst hd
    have hra2:Hid (rnM s=(l,false)):=z8 (by rw [hra.out,hfin])
    obtain⟨c0,c1,c2,f1,f2,_,_⟩:=HR.out
    clear hfin HC
    have hBe:=z8 (fun N=>(show Below w.heap.size w (wr.drewN N) from⟨HB.out.os,HB.out.tape,HB.out.output,HB.out.size,HB.out.block⟩))
    have hOe:=z8 (fun N=>zu (base':=w.heap.size) (zc (w':=wr.drewN N) HO.out fun k e=>rfl) (by omega))
    by_cases h2:lo≤l.length
    ·have h2':(lo:Int)≤l.length:=by omega
     by_cases h5:l.length≤hi
     ·have h5':(l.length:Int)≤hi:=by omega
      go_wp2_with fail
      go_ret2
      exact⟨a,l.length,cap,l,true,by simp,hBe.out 0,hOe.out 0,by omega,.inr (.inl ⟨hra2.out,h0,by simp [h2,h5]⟩)⟩
     ·have h5': ¬(l.length:Int)≤hi:=by omega
      go_wp2_with fail
      go_ret2
      exact⟨a,l.length,cap,l,false,by simp,hBe.out 0,hOe.out 0,by omega,.inr (.inl ⟨hra2.out,h0,by simp [h5]⟩)⟩
    ·have h2': ¬(lo:Int)≤l.length:=by omega
     go_wp2_with fail
     go_ret2
     exact⟨a,l.length,cap,l,false,by simp,hBe.out 0,hOe.out 0,by omega,.inr (.inl ⟨hra2.out,h0,by simp [h2]⟩)⟩
   ·have hNm:=z8 (z0A w.heap.size p s d)
    rw [show z19 s p d=zi s p d from rfl] at hNm
    obtain⟨vn,hvn⟩: ∃vn,zi s p d=vn:=⟨_,rfl⟩
    obtain⟨pn,dn,nm⟩:=vn
    rw [hvn] at hNm
    simp only at hNm
    have HV:=z8 hvn
    clear hvn
    have hpn:pn≤s.size∧p≤pn:=by
     have q:=z3p (p:=zk) (by decide) (m:=8) (d:=d) hps
     have e:=HV.out
     unfold zi at e
     rw [e] at q
     exact⟨q.2,q.1⟩
    go_wp2_with fail
    refine(hNm.out _ HR.out).mono ?_
    rintro e w2 ⟨rfl,hr2,hs12⟩
    clear hNm
    obtain⟨c0,c1,c2,f1,f2,_,_⟩:=id hr2
    have hB2:Below w.heap.size w w2:=⟨hs12.os.trans HB.out.os,hs12.tape.trans HB.out.tape,hs12.output.trans HB.out.output,by have:=hs12.size;have:=HB.out.size;omega,fun k hk=>(hs12.block k (by omega)).trans (HB.out.block k hk)⟩
    cases dn
    case true=>
     have hbad:Hid ((rnM s).2=true):=z8 (by
      rw [hra.out]
      rcases HC.out with⟨_,e1,_,_,e2⟩|⟨_,_,e2⟩|⟨e1,_⟩
      ·subst e1
       rw [←e2]
       exact z9y (by rw [HV.out])
      ·exact e2
      ·cases e1)
     have HB2:=z8 hB2
     clear hB2
     go_wp2_with fail
     go_ret2
     exact⟨none,0,0,[],false,rfl,HB2.out,⟨rfl,.inl ⟨rfl,rfl⟩⟩,by simp,.inl ⟨rfl,hbad.out,h0⟩⟩
    case false=>
    have hdn:d=false:=by
     cases d with
     |false=>rfl
     |true=>
      exfalso
      have q1:=HV.out
      have q2:zi s p true=(p,true,⟨#[]⟩):=z01 (ju rfl) (.inl rfl)
      rw [q2] at q1
      injection q1 with e1 e2
      injection e2 with e2 e3
      cases e2
    subst hdn
    have hcn:1≤gk∧s.size≤n+p∧okN s (z6g s n p l)=okN s P0:=by
     rcases HC.out with⟨_,_,e1,e2,e3⟩|⟨_,e1,_⟩|⟨e1,_⟩
     ·exact⟨e1,e2,e3⟩
     ·cases e1
     ·cases e1
    obtain⟨hg1,hnp,hnx⟩:=hcn
    have hpn1:p+1≤pn:=by
     have q:=HV.out
     unfold zi z05 at q
     simp only at q
     split at q
     ·injection q with _ q;injection q with q _;cases q
     ·rename_i hq
      injection q with q1 _
      have hne:run zk s false 8 p≠p:=fun e=>hq (by simp [e])
      have hge:=(z3c zk (by decide) s false 8 p hps).1
      omega
    have HNX:Hid (okN s (nmM s n pn false (l++[nm]))=okN s P0):=z8 (by
     rw [←hnx]
     unfold z6g
     rw [HV.out])
    have hO2:w2.ownsRow (w.heap.size+1) 9 1 (.slice a l.length cap) l.length (l.map Value.string):=zc HO.out fun k e=>hs12.block k (by have:=(HO.out.lt k e).1;omega)
    have hw2z:w.heap.size<w2.heap.size:=by have:=hs12.size;omega
    have hlen9:l.length≤700:=by omega
    have HK3:=z8 (zgI hO2 hB2)
    clear hO2 hB2 hs12 HC hnx
    go_wp2_with (at_builtin;go_must (refine wpList_append_lies _ rfl (.tmp 24) (.tmp 26) 56 rfl (w.heap.size+1) 9 i0 _ 1 16 Tryz.underlying56 hii hz0' hz1 hz2 rfl (by omega) _ l.length _ rfl (HK3.out.1.alloc _) ⟨w2.heap.size,0,none⟩ 1 1 [.string nm] rfl rfl ?news ?one (by omega) ?mm ?bys ?base (w2.heap.size+1) (by simp) ?rest))
    case news=>exact World.news_of_block (heap_alloc_new w2 _)
    case one=>intro u hu;simp at hu;subst hu;rfl
    case mm=>unfold maxLen;omega
    case bys=>omega
    case base=>first|omega|(simp<;>omega)
    case rest=>
     intro gc cap8 w8 hown8 hgrow hat8 hlt8
     obtain⟨hO3,hB3⟩:=HK3.out
     clear HK3
     have hr8:Rd w8 w.heap.size s pn false:=hr2.other ((hgrow.block _ (by first|omega|(simp<;>omega)) (fun e=>by have:=(hO3.lt _ e.symm).1;omega)).trans (zgJ _ _ _ hw2z))
     have hB8:=z8 (Below.grown (hB3.alloc hB3.size _) hgrow (by first|omega|(simp<;>omega)) fun q e=>by have:=(hO3.lt q e).1;omega)
     have hz8:w.heap.size<w8.heap.size:=by have:=hgrow.size;first|omega|(simp at this;omega)
     have hown9:Hid (w8.ownsRow (w.heap.size+1) 9 1 (.slice (some ⟨gc,0,none⟩) (l++[nm]).length cap8) (l++[nm]).length ((l++[nm]).map Value.string)):=z8 (by simpa using hown8)
     have HR8:=z8 hr8
     clear hown8 hgrow hat8 hO3 hB3 c0 c1 c2 f1 f2
     obtain⟨c0,c1,c2,f1,f2,_,_⟩:=hr8
     by_cases hlt:pn<s.size
     ·have hlt':(pn:Int)<s.size:=by omega
      have hW:=z8 (fun W h=>zN w.heap.size pn s ⟨#[44]⟩ false W h (by decide))
      rw [show(ByteArray.mk #[44]).data.toList=[44] from rfl] at hW
      cases hb1:(pk s pn false==44)
      case true=>
       have hpk44:pk s pn false=((44:UInt8).toNat:Int):=by simpa using hb1
       rw [z10 hpk44] at hW
       clear hpk44
       have HB1:=z8 hb1
       clear hb1
       go_wp2_with fail
       refine(hW.out _ HR8.out).mono ?_
       rintro e w9 ⟨rfl,hr9,hs9⟩
       have hO10:Hid (w9.ownsRow (w.heap.size+1) 9 1 (.slice (some ⟨gc,0,none⟩) (l++[nm]).length cap8) (l++[nm]).length ((l++[nm]).map Value.string)):=z8 (zc hown9.out fun q e=>hs9.block q (by have:=(hown9.out.lt q e).1;omega))
       have hB10:Hid (Below w.heap.size w w9):=z8 ⟨hs9.os.trans hB8.out.os,hs9.tape.trans hB8.out.tape,hs9.output.trans hB8.out.output,by have:=hs9.size;have:=hB8.out.size;omega,fun q hq=>(hs9.block q (by omega)).trans (hB8.out.block q hq)⟩
       have hz10:w.heap.size<w9.heap.size:=by have:=hs9.size;omega
       have hr10:Hid (Rd w9 w.heap.size s (pn+1) false):=z8 hr9
       clear hr9 hs9
       go_wp2_with fail
       obtain⟨n1,hn1⟩: ∃n1,n=n1+1:=⟨n - 1,by omega⟩
       go_roundg (gk - 1)
       case measure=>omega
       case rel=>exact⟨pn+1,false,true,l++[nm],some ⟨gc,0,none⟩,cap8,n1,by simp,by simp [hlt'],hO10,hB10,hz10,hr10,by simp;omega,by omega,by omega,z8 (.inl ⟨rfl,rfl,by omega,by omega,by rw [←HNX.out,hn1,zf5 HB1.out]⟩)⟩
      case false=>
       have hpk44:pk s pn false≠((44:UInt8).toNat:Int):=by simpa using hb1
       rw [je hpk44] at hW
       clear hpk44
       have HB1:=z8 hb1
       clear hb1
       go_wp2_with fail
       refine(hW.out _ HR8.out).mono ?_
       rintro e w9 ⟨rfl,hr9,hs9⟩
       have hO10:Hid (w9.ownsRow (w.heap.size+1) 9 1 (.slice (some ⟨gc,0,none⟩) (l++[nm]).length cap8) (l++[nm]).length ((l++[nm]).map Value.string)):=z8 (zc hown9.out fun q e=>hs9.block q (by have:=(hown9.out.lt q e).1;omega))
       have hB10:Hid (Below w.heap.size w w9):=z8 ⟨hs9.os.trans hB8.out.os,hs9.tape.trans hB8.out.tape,hs9.output.trans hB8.out.output,by have:=hs9.size;have:=hB8.out.size;omega,fun q hq=>(hs9.block q (by omega)).trans (hB8.out.block q hq)⟩
       have hz10:w.heap.size<w9.heap.size:=by have:=hs9.size;omega
       have hr10:Hid (Rd w9 w.heap.size s pn true):=z8 hr9
       clear hr9 hs9
       go_wp2_with fail
       go_roundg (gk - 1)
       case measure=>omega
       case rel=>exact⟨pn,true,true,l++[nm],some ⟨gc,0,none⟩,cap8,n,by simp,by simp [hlt'],hO10,hB10,hz10,hr10,by simp;omega,by omega,by omega,z8 (.inr (.inl ⟨rfl,rfl,by
        rw [←HNX.out,z5f HB1.out]
        simp [okN,z29,hlt]⟩))⟩
     ·have hlt': ¬(pn:Int)<s.size:=by omega
      have hks':pn=s.size:=by omega
      have HKS:=z8 hks'
      clear hks'
      go_wp2_with fail
      go_roundg (gk - 1)
      case measure=>omega
      case rel=>exact⟨pn,false,false,l++[nm],some ⟨gc,0,none⟩,cap8,n,by simp,by simp [hlt'],hown9,hB8,hz8,HR8,by simp;omega,by omega,by omega,z8 (.inr (.inr ⟨rfl,rfl,by
       rw [←HNX.out,z5f (by rw [HKS.out,zbT];rfl)]
       simp [okN,z29,hlt]⟩))⟩
theorem z9a (s:zgS)(w:World)(hs:s.size≤600):Calls Tryz.prog 102 #[.string s,.int .i64 2,.int .i64 5] w fun e w'=>zet s w e w':=
 (z5E s 2 5 w hs (by omega) (by omega)).mono fun e w' ⟨a,n,k,l,ok,h1,h2,h3,h4,h5⟩=>⟨a,n,k,l,ok,h1,h2,h3,h4,by
  rcases h5 with⟨q1,q2,_⟩|⟨q1,_,q2⟩|⟨q1,q2,q3⟩
  ·exact .inl ⟨q1,q2⟩
  ·exact .inr ⟨q1,q2⟩
  ·exact .inl ⟨by rw [q3];rfl,by rw [z50 q1];exact zap⟩⟩
theorem z7i (nm:zgS): ∀(l:List zgS) (i:Nat),(plM nm l i= -1∧ ∀x∈l,(x.toList==nm.toList)=false)∨ ∃(m:Nat) (x:zgS),plM nm l i=((i+m:Nat):Int)∧l[m]?=some x∧(x.toList==nm.toList)=true∧ ∀(k:Nat) (y:zgS),k<m→l[k]?=some y→(y.toList==nm.toList)=false:=by
 intro l
 induction l with
 |nil=>intro i;exact .inl ⟨rfl,fun x h=>by cases h⟩
 |cons y ys ih=>
  intro i
  cases h:(y.toList==nm.toList) with
  |true=>exact .inr ⟨0,y,by simp [plM,h],rfl,h,fun k y hk=>by omega⟩
  |false=>
   rcases ih (i+1) with⟨h1,h2⟩|⟨m,x,h1,h2,h3,h4⟩
   ·refine .inl ⟨by simp [plM,h,h1],fun x hx=> ?_⟩
    rcases List.mem_cons.1 hx with rfl|hx
    ·exact h
    ·exact h2 x hx
   ·refine .inr ⟨m+1,x,by simp only [plM,h,if_false,Bool.false_eq_true];rw [h1];omega,by simpa using h2,h3,fun k z hk hz=> ?_⟩
    cases k with
    |zero=>simp at hz;subst hz;exact h
    |succ k=>exact h4 k z (by omega) (by simpa using hz)
def z8H (l:List zgS)(i:Nat):Nat→Bool
 |0=>true
 |k+1=>z8H l i k&&((l.getD i ⟨#[]⟩).toList !=(l.getD k ⟨#[]⟩).toList)
def z2J (l:List zgS):Nat→Bool
 |0=>true
 |i+1=>z2J l i&&z8H l i i
theorem z7l (l:List zgS)(i:Nat): ∀n,z8H l i n=true↔ ∀k,k<n→((l.getD i ⟨#[]⟩).toList==(l.getD k ⟨#[]⟩).toList)=false:=by
 intro n
 induction n with
 |zero=>simp [z8H]
 |succ n ih=>
  unfold z8H
  rw [Bool.and_eq_true,ih]
  constructor
  ·intro ⟨h1,h2⟩ k hk
   by_cases hkn:k=n
   ·subst hkn;simpa [bne] using h2
   ·exact h1 k (by omega)
  ·intro h
   exact⟨fun k hk=>h k (by omega),by simpa [bne] using h n (by omega)⟩
theorem z9h (l:List zgS): ∀n,z2J l n=true↔ ∀i,i<n→z8H l i i=true:=by
 intro n
 induction n with
 |zero=>simp [z2J]
 |succ n ih=>
  unfold z2J
  rw [Bool.and_eq_true,ih]
  constructor
  ·intro ⟨h1,h2⟩ k hk
   by_cases hkn:k=n
   ·subst hkn;exact h2
   ·exact h1 k (by omega)
  ·intro h
   exact⟨fun k hk=>h k (by omega),h n (by omega)⟩
theorem zbh (l:List zgS): ∀n i,z5w l n i=false↔ ∀j,i≤j→j<i+n→plM (l.getD j ⟨#[]⟩) l 0=(j:Int):=by
 intro n
 induction n with
 |zero=>intro i;simp [z5w];intro j h1 h2;omega
 |succ n ih=>
  intro i
  unfold z5w
  rw [Bool.or_eq_false_iff,ih]
  constructor
  ·intro ⟨h1,h2⟩ j hj1 hj2
   by_cases hji:j=i
   ·subst hji;simpa [bne] using h1
   ·exact h2 j (by omega) (by omega)
  ·intro h
   exact⟨by simpa [bne] using h i (by omega) (by omega),fun j h1 h2=>h j (by omega) (by omega)⟩
theorem zcy (l:List zgS):z5w l l.length 0= !z2J l l.length:=by
 have key:z5w l l.length 0=false↔z2J l l.length=true:=by
  rw [zbh,z9h]
  constructor
  ·intro h i hi
   rw [z7l]
   intro k hk
   have hp:=h i (zgO _) (by omega)
   rcases z7i (l.getD i ⟨#[]⟩) l 0 with⟨h1,_⟩|⟨m,x,h1,h2,h3,h4⟩
   ·rw [h1] at hp;omega
   ·rw [h1] at hp
    have hm:m=i:=by omega
    subst hm
    obtain⟨y,hy⟩: ∃y,l[k]?=some y:=⟨l[k],zgE (by omega)⟩
    have q:=h4 k y hk hy
    rw [show l.getD k ⟨#[]⟩=y by simp [List.getD,hy]]
    rw [Bool.eq_false_iff] at q ⊢
    intro e
    exact q (by rw [beq_iff_eq] at e ⊢;exact e.symm)
  ·intro h j _ hj
   have hr:=(z7l l j j).1 (h j (by omega))
   rcases z7i (l.getD j ⟨#[]⟩) l 0 with⟨_,h2⟩|⟨m,x,h1,h2,h3,h4⟩
   ·have hx:l.getD j ⟨#[]⟩∈l:=by
     rw [show l.getD j ⟨#[]⟩=l[j]'(by omega) by simp [List.getD,show j<l.length by omega]]
     exact List.getElem_mem _
    have:=h2 _ hx
    simp at this
   ·rw [h1]
    have hmj: ¬m<j:=fun hlt=>by
     have q:=hr m hlt
     rw [show l.getD m ⟨#[]⟩=x by simp [List.getD,h2]] at q
     rw [Bool.eq_false_iff] at q
     exact q (by rw [beq_iff_eq] at h3 ⊢;exact h3.symm)
    have hjm: ¬j<m:=fun hlt=>by
     obtain⟨y,hy⟩: ∃y,l[j]?=some y:=⟨l[j],zgE (by omega)⟩
     have q:=h4 j y hlt hy
     rw [show l.getD j ⟨#[]⟩=y by simp [List.getD,hy]] at q
     simp at q
    omega
 cases h1:z5w l l.length 0<;>cases h2:z2J l l.length<;>simp_all
def zeJ (s:zgS)(w:World)(e:Ending)(w':World):Prop:= ∃a n k,e= .returned (.tuple #[.slice a n k,.bool (!(vlM s).2)])∧Below w.heap.size w w'∧((vlM s).2=false→w'.ownsRow w.heap.size 9 1 (.slice a n k) (vlM s).1.length ((vlM s).1.map Value.string))
theorem z8D (s:zgS)(w:World)(hs:s.size≤600):Calls Tryz.prog 101 #[.string s] w fun e w'=>zeJ s w e w':=by
 have HN:=z8 (z9a s w hs)
 go_enter Tryz.func101,Tryz.ntmps101
 go_wp2_with fail
 refine HN.out.mono ?_
 rintro e w1 ⟨a,n,k,l,ok,rfl,hB1,hO1,hll,hok⟩
 have hn:n=l.length:=by
  obtain⟨qa,qk,q⟩:=za hO1
  injection q with _ q _
 subst hn
 have hfin: ∀b,b=(ok&&z2J l l.length)→b=(!(vlM s).2)∧((vlM s).2=false→(vlM s).1=l):=fun b hb=>by
  rcases hok with⟨h1,h2⟩|⟨h1,h2⟩
  ·have hv:vlM s=([],true):=by unfold vlM;rw [h2];rfl
   rw [hv,hb,h1]
   exact⟨rfl,fun e=>by cases e⟩
  ·have hv:vlM s=if decide (l.length<2)||decide (5<l.length)||z5w l l.length 0 then([],true) else(l,false):=by unfold vlM;rw [h1];rfl
   rw [hv,zcy,hb,h2]
   by_cases q1:l.length<2
   ·have: ¬2≤l.length:=by omega
    simp [q1,this]
   ·by_cases q2:5<l.length
    ·have: ¬l.length≤5:=by omega
     simp [q2,this]
    ·have e1:2≤l.length:=by omega
     have e2:l.length≤5:=by omega
     simp only [q1,q2,e1,e2,decide_true,decide_false,Bool.false_or,Bool.true_and]
     cases z2J l l.length<;>simp
 have HF:=z8 hfin
 have HO:=z8 hO1
 have HB:=z8 hB1
 clear hok hfin hO1 hB1 HN
 go_wp2_with fail
 go_loopg [5,6] (l.length+1) (fun g okv iv wr=> ∃(i N:Nat) (okb:Bool),g+i=l.length+1∧i≤l.length∧iv= .int .i64 i∧okv= .bool okb∧wr=w1.drewN N∧Hid (okb=(ok&&z2J l i)))
 case atStart=>exact⟨0,0,ok,rfl,zgO _,rfl,rfl,rfl,z8 (by simp [z2J])⟩
 case round=>
  obtain⟨i,N,okb,hk,hil,rfl,rfl,rfl,hokb⟩:=hrel
  have hHK:=z8 hk
  clear hk
  by_cases hlt:i<l.length
  ·have hlt':(i:Int)<l.length:=by omega
   obtain⟨gr,cap,hvv,hbb,hgg⟩:=HO.out.form (by omega)
   injection hvv with e1 e2 e3
   subst e1 e3
   obtain⟨x,hx⟩: ∃x,l[i]?=some x:=⟨l[i],zgE hlt⟩
   have q0:w1.cell? ⟨gr,i,none⟩=some (.string x):=zl HO.out _ _ (by simp [hx])
   have hxi:Hid (l.getD i ⟨#[]⟩=x):=z8 (by simp [List.getD,hx])
   obtain⟨gk0,hgk0⟩: ∃gk0,gk0=gk:=⟨_,rfl⟩
   have HGK0:=z8 hgk0
   clear hgk0 hx
   go_wp2_with fail
   go_loopg [5,7] (i+1) (fun g okv kv wr2=> ∃(j N2:Nat) (okc:Bool),g+j=i+1∧j≤i∧kv= .int .i64 j∧okv= .bool okc∧wr2=w1.drewN N2∧Hid (okc=(okb&&z8H l i j)))
   case atStart=>exact⟨0,N,okb,rfl,zgO _,rfl,rfl,rfl,z8 (by simp [z8H])⟩
   case round=>
    obtain⟨j,N2,okc,hkj,hji,rfl,rfl,rfl,hokc⟩:=hrel
    have hKJ:=z8 hkj
    clear hkj
    by_cases hjl:j<i
    ·have hjl':(j:Int)<i:=by omega
     obtain⟨y,hy⟩: ∃y,l[j]?=some y:=⟨l[j],zgE (by omega)⟩
     have q1:w1.cell? ⟨gr,j,none⟩=some (.string y):=zl HO.out _ _ (by simp [hy])
     have hyj:Hid (l.getD j ⟨#[]⟩=y):=z8 (by simp [List.getD,hy])
     have hjn:j<l.length:=by omega
     have hjn':(j:Int)<l.length:=by omega
     clear hy
     have hnx:Hid (z8H l i (j+1)=(z8H l i j&&(x.toList !=y.toList))):=z8 (by
      show(z8H l i j&&((l.getD i ⟨#[]⟩).toList !=(l.getD j ⟨#[]⟩).toList))=_
      rw [hxi.out,hyj.out])
     cases okc
     ·go_wp2_with fail
      go_quiet (fail)
      go_wp2_with fail
      have hk:=hKJ.out
      go_roundg (i - j)
      case measure=>omega
      case rel=>exact⟨j+1,_,false,by omega,by omega,by go_num,by simp,rfl,z8 (by rw [hnx.out,←Bool.and_assoc,←hokc.out];rfl)⟩
     ·cases hxy:(x.toList !=y.toList)
      ·go_wp2_with fail
       go_quiet (fail)
       go_wp2_with fail
       have hk:=hKJ.out
       go_roundg (i - j)
       case measure=>omega
       case rel=>exact⟨j+1,_,false,by omega,by omega,by go_num,by first|rfl|exact congrArg Value.bool hxy,rfl,z8 (by rw [hnx.out,←Bool.and_assoc,←hokc.out,hxy];rfl)⟩
      ·go_wp2_with fail
       go_quiet (fail)
       go_wp2_with fail
       have hk:=hKJ.out
       go_roundg (i - j)
       case measure=>omega
       case rel=>exact⟨j+1,_,true,by omega,by omega,by go_num,by first|rfl|exact congrArg Value.bool hxy,rfl,z8 (by rw [hnx.out,←Bool.and_assoc,←hokc.out,hxy];rfl)⟩
    ·have hjl': ¬(j:Int)<i:=by omega
     have hji':j=i:=by omega
     have hst:Hid (okc=(ok&&z2J l (i+1))):=z8 (by
      rw [hokc.out,hji',hokb.out]
      show _=(ok&&(z2J l i&&z8H l i i))
      rw [Bool.and_assoc])
     clear hji'
     go_wp2_with fail
     have hk:=hHK.out
     have hg0:=HGK0.out
     go_roundg (gk0 - 1)
     case measure=>omega
     case rel=>exact⟨i+1,N2,okc,by omega,by omega,by go_num,rfl,rfl,hst⟩
  ·have hlt': ¬(i:Int)<l.length:=by omega
   have hil':i=l.length:=by omega
   have hfi:=z8 (HF.out okb (by rw [hokb.out,hil']))
   clear hil'
   go_wp2_with fail
   go_ret2
   exact⟨a,l.length,k,by rw [←hfi.out.1];rfl,⟨HB.out.os,HB.out.tape,HB.out.output,HB.out.size,HB.out.block⟩,fun e=>by rw [hfi.out.2 e];exact zc HO.out fun k e=>rfl⟩
def SegK (P:Cl→Nat→Nat→Prop):List Cl→Nat→Nat→Prop
 |[],a,e=>a=e
 |c::cs,a,e=> ∃m:Nat,P c a m∧SegK P cs m e
theorem SegK.imp {P Q:Cl→Nat→Nat→Prop}(h: ∀c a e,P c a e→Q c a e): ∀(cs:List Cl) (a e:Nat),SegK P cs a e→SegK Q cs a e:=by
 intro cs
 induction cs with
 |nil=>intro a e;exact id
 |cons c cs ih=>intro a e ⟨m,h1,h2⟩;exact⟨m,h _ _ _ h1,ih _ _ h2⟩
theorem SegK.snoc {P:Cl→Nat→Nat→Prop}: ∀(cs:List Cl) (a e:Nat) (c:Cl) (j:Nat),SegK P cs a e→P c e j→SegK P (cs++[c]) a j:=by
 intro cs
 induction cs with
 |nil=>intro a e c j h hp;have h:a=e:=h;subst h;exact⟨j,hp,rfl⟩
 |cons c' cs ih=>intro a e c j ⟨m,h1,h2⟩ hp;exact⟨m,h1,ih _ _ _ _ h2 hp⟩
def CovC (C:List (List Cl)):Nat→Nat→Nat→Prop
 |0,_,_=>False
 |f+1,a,ci=> ∃cls,C[ci]?=some cls∧SegK (fun c a e=>(c.form=2∧ ∃k:Nat,c.inner=(k:Int)∧CovC C f a k∧e=k+1)∨(c.form≠2∧a=e)) cls a ci
def ClK (C:List (List Cl))(f:Nat)(c:Cl)(a e:Nat):Prop:=(c.form=2∧ ∃k:Nat,c.inner=(k:Int)∧CovC C f a k∧e=k+1)∨(c.form≠2∧a=e)
theorem CovC.up {C:List (List Cl)}: ∀{f a ci:Nat},CovC C f a ci→CovC C (f+1) a ci:=by
 intro f
 induction f with
 |zero=>intro a ci h;exact absurd h id
 |succ f ih=>
  intro a ci ⟨cls,h1,h2⟩
  refine⟨cls,h1,SegK.imp (fun c a e h=> ?_) _ _ _ h2⟩
  rcases h with⟨q1,k,q2,q3,q4⟩|q
  ·exact .inl ⟨q1,k,q2,ih q3,q4⟩
  ·exact .inr q
theorem CovC.le {C:List (List Cl)}{f g a ci:Nat}(h:CovC C f a ci)(hg:f≤g):CovC C g a ci:=by
 induction hg with
 |refl=>exact h
 |step _ ih=>exact ih.up
theorem CovC.ext {C D:List (List Cl)}: ∀{f a ci:Nat},CovC C f a ci→CovC (C++D) f a ci:=by
 intro f
 induction f with
 |zero=>intro a ci h;exact absurd h id
 |succ f ih=>
  intro a ci ⟨cls,h1,h2⟩
  refine⟨cls,?_,SegK.imp (fun c a e h=> ?_) _ _ _ h2⟩
  ·rw [List.getElem?_append_left (by exact(zgF.1 h1).1)];exact h1
  ·rcases h with⟨q1,k,q2,q3,q4⟩|q
   ·exact .inl ⟨q1,k,q2,ih q3,q4⟩
   ·exact .inr q
theorem ClK.le {C:List (List Cl)}{f g:Nat}{c:Cl}{a e:Nat}(h:ClK C f c a e)(hg:f≤g):ClK C g c a e:=by
 rcases h with⟨q1,k,q2,q3,q4⟩|q
 ·exact .inl ⟨q1,k,q2,q3.le hg,q4⟩
 ·exact .inr q
theorem ClK.ext {C D:List (List Cl)}{f:Nat}{c:Cl}{a e:Nat}(h:ClK C f c a e):ClK (C++D) f c a e:=by
 rcases h with⟨q1,k,q2,q3,q4⟩|q
 ·exact .inl ⟨q1,k,q2,q3.ext,q4⟩
 ·exact .inr q
theorem zek (s:zgS): ∀n tag cls st r,MC s n tag cls st=some r→(tag=0→ ∃D,r.2.2.C=st.C++D∧ ∃k:Nat,r.1=(k:Int)∧r.2.2.C.length=k+1∧CovC r.2.2.C n st.C.length k)∧
  (tag=1→ ∃D,r.2.2.C=st.C++D∧ClK r.2.2.C n r.2.1 st.C.length r.2.2.C.length)∧
  (tag=2→ ∀a N,n≤N→SegK (ClK st.C N) cls a st.C.length→ ∃D,r.2.2.C=st.C++D∧ ∃k:Nat,r.1=(k:Int)∧r.2.2.C.length=k+1∧CovC r.2.2.C (N+1) a k):=by
 intro n
 induction n with
 |zero=>intro tag cls st r h;simp [MC] at h
 |succ n ih=>
  intro tag cls st r h
  match tag,h with
  |0,h=>
   refine⟨fun _=> ?_,fun e=>(by simp at e),fun e=>(by simp at e)⟩
   rw [z8h] at h
   obtain⟨q,h1,h2⟩:=zgD.1 h
   obtain⟨D,e1,k1⟩:=(ih _ _ _ _ h1).2.1 rfl
   obtain⟨D2,e2,k,e3,e4,k2⟩:=(ih _ _ _ _ h2).2.2 rfl st.C.length n (zgH _) ⟨_,k1,rfl⟩
   exact⟨D++D2,by rw [e2,e1,List.append_assoc],k,e3,e4,k2⟩
  |2,h=>
   refine⟨fun e=>(by simp at e),fun e=>(by simp at e),fun _ a N hN hseg=> ?_⟩
   rw [z7k] at h
   split at h
   ·split at h
    ·obtain⟨q,h1,h2⟩:=zgD.1 h
     obtain⟨D,e1,k1⟩:=(ih _ _ _ _ h1).2.1 rfl
     have e1:q.2.2.C=st.C++D:=e1
     have k1:ClK q.2.2.C n q.2.1 st.C.length q.2.2.C.length:=k1
     obtain⟨D2,e2,k,e3,e4,k2⟩:=(ih _ _ _ _ h2).2.2 rfl a N (by omega) (SegK.snoc _ _ _ _ _ (SegK.imp (fun c a e h=>by rw [e1];exact h.ext) _ _ _ hseg) (k1.le (by omega)))
     exact⟨D++D2,by rw [e2,e1,List.append_assoc],k,e3,e4,k2⟩
    ·obtain⟨q,h1,h2⟩:=zgD.1 h
     cases h2
     obtain⟨_,rfl⟩:=jy h1
     refine⟨[cls],rfl,st.C.length,rfl,by simp,cls,by simp,SegK.imp (fun c a e h=> ?_) _ _ _ hseg⟩
     exact h.ext
   ·cases h
  |1,h=>
   refine⟨fun e=>(by simp at e),fun _=> ?_,fun e=>(by simp at e)⟩
   rw [zai] at h
   obtain⟨q,h1,h2⟩:=zgD.1 h
   obtain⟨q2,h3,h4⟩:=zgD.1 h2
   have k1:q.2.C=st.C:=(z1z s _ _ _ _ _ h1).2.2.2
   obtain⟨_,rfl⟩:=zj h3
   split at h4
   ·cases h4;exact⟨[],by simpa using k1,.inr ⟨by simp,by rw [←k1]⟩⟩
   ·simp only at h4
    split at h4
    ·obtain⟨v,h7,h8⟩:=zgD.1 h4
     cases h8
     obtain⟨D,e1,k,e2,e3,kk⟩:=(ih _ _ _ _ h7).1 rfl
     have e1:v.2.2.C=q.2.C++D:=e1
     have kk:CovC v.2.2.C n q.2.C.length k:=kk
     refine⟨D,by rw [←k1];exact e1,.inl ⟨rfl,k,e2,by rw [←k1];exact kk.up,e3⟩⟩
    ·cases h4
     exact⟨[],by rw [List.append_nil];exact k1,.inr ⟨by simp,by rw [←k1];rfl⟩⟩
  |t+3,h=>simp [MC] at h
def SegB (P:As→Nat→Nat→Prop):List As→Nat→Nat→Prop
 |[],a,e=>a=e
 |c::cs,a,e=> ∃m:Nat,P c a m∧SegB P cs m e
theorem SegB.imp {P Q:As→Nat→Nat→Prop}(h: ∀c a e,P c a e→Q c a e): ∀(cs:List As) (a e:Nat),SegB P cs a e→SegB Q cs a e:=by
 intro cs
 induction cs with
 |nil=>intro a e;exact id
 |cons c cs ih=>intro a e ⟨m,h1,h2⟩;exact⟨m,h _ _ _ h1,ih _ _ h2⟩
theorem SegB.snoc {P:As→Nat→Nat→Prop}: ∀(cs:List As) (a e:Nat) (c:As) (j:Nat),SegB P cs a e→P c e j→SegB P (cs++[c]) a j:=by
 intro cs
 induction cs with
 |nil=>intro a e c j h hp;have h:a=e:=h;subst h;exact⟨j,hp,rfl⟩
 |cons c' cs ih=>intro a e c j ⟨m,h1,h2⟩ hp;exact⟨m,h1,ih _ _ _ _ h2 hp⟩
def AsK (C:List (List Cl))(f:Nat)(x:As)(a e:Nat):Prop:= ∃k:Nat,x.conds=(k:Int)∧CovC C f a k∧e=k+1
def zci (st:St):Prop:= ∃f,SegB (AsK st.C f) st.A 0 st.C.length
theorem zdP {s:zgS}{n:Nat}{st st':St}(h:MA s n st=some st')(hg:zci st):zci st':=by
 unfold MA at h
 simp only at h
 obtain⟨⟨r1,st1⟩,h1,hM2⟩:=zgD.1 h
 obtain⟨⟨r2,cl2,st2⟩,h2,hM3⟩:=zgD.1 hM2
 obtain⟨f,hg⟩:=hg
 obtain⟨_,k1,_,k2⟩:=z07 s _ _ _ _ _ _ _ _ h1
 have k1:st1.A=st.A:=k1
 have k2:st1.C=st.C:=k2
 obtain⟨_,_,k3,_⟩:=z1i s _ _ _ _ _ h2
 have k3:st2.A=st1.A:=k3
 obtain⟨D,e1,k,e2,e3,kk⟩:=(zek s _ _ _ _ _ h2).1 rfl
 have e1:st2.C=st1.C++D:=e1
 have e2:r2=(k:Int):=e2
 have e3:st2.C.length=k+1:=e3
 have kk:CovC st2.C n st1.C.length k:=kk
 obtain⟨_,rfl⟩:=jl hM3
 refine⟨f+n,?_⟩
 show SegB (AsK st2.C (f+n)) (st2.A++[⟨_,r1,r2⟩]) 0 st2.C.length
 refine SegB.snoc _ _ st.C.length _ _ ?_ ⟨k,e2,by rw [←k2];exact kk.le (by omega),e3⟩
 rw [k3,k1]
 refine SegB.imp (fun x a e ⟨k,q1,q2,q3⟩=>⟨k,q1,?_,q3⟩) _ _ _ hg
 rw [e1,k2]
 exact(q2.le (by omega)).ext
theorem zce (s:zgS): ∀n st st',MR s n st=some st'→zci st→zci st':=by
 intro n
 induction n with
 |zero=>intro st st' h;simp [MR] at h
 |succ n ih=>
  intro st st' h hg
  unfold MR at h
  split at h
  ·obtain⟨u,h1,h2⟩:=zgD.1 h
   exact ih _ _ h2 (zdP h1 hg)
  ·cases h;exact hg
theorem SegK.le {C:List (List Cl)}{f:Nat}: ∀(cs:List Cl) (a e:Nat),SegK (ClK C f) cs a e→(∀a k,CovC C f a k→a≤k)→a≤e:=by
 intro cs
 induction cs with
 |nil=>intro a e h _;exact Nat.le_of_eq h
 |cons c cs ih=>
  intro a e ⟨m,h1,h2⟩ hc
  have:=ih _ _ h2 hc
  rcases h1 with⟨_,k,_,q3,q4⟩|⟨_,q⟩
  ·have:=hc _ _ q3;omega
  ·omega
theorem CovC.a_le {C:List (List Cl)}: ∀{f a k:Nat},CovC C f a k→a≤k:=by
 intro f
 induction f with
 |zero=>intro a k h;exact absurd h id
 |succ f ih=>intro a k ⟨cls,_,h2⟩;exact SegK.le cls a k h2 fun a k h=>ih h
theorem ClK.a_le {C:List (List Cl)}{f:Nat}(c:Cl)(a e:Nat)(h:ClK C f c a e):a≤e:=by
 rcases h with⟨_,k,_,q3,q4⟩|⟨_,q⟩
 ·have:=q3.a_le;omega
 ·omega
theorem zan (l:List (zgS×zgS)){E:List Ex}{i:Nat}{x:Ex}(h:E[i+1]?=some x)(hf:x.form=7)(hl:x.left=(i:Int)):wAt (zf l E []) ((i+1:Nat):Int)=wAt (zf l E []) (i:Int):=by
 have hi:=(zgF.1 h).1
 rw [z9B l h,hl,z3r l E (by omega) (by omega)]
 unfold wOf
 rw [hf]
 rfl
def z3j (b:Nat→Bool):Nat→Nat→Bool
 |0,_=>true
 |n+1,i=>b i&&z3j b n (i+1)
theorem z4P (b:Nat→Bool): ∀n i,z3j b n i=true↔ ∀j,i≤j→j<i+n→b j=true:=by
 intro n
 induction n with
 |zero=>intro i;exact⟨fun _ j h1 h2=>by omega,fun _=>rfl⟩
 |succ n ih=>
  intro i
  unfold z3j
  rw [Bool.and_eq_true,ih]
  constructor
  ·rintro⟨h1,h2⟩ j h3 h4
   by_cases e:j=i
   ·subst e;exact h1
   ·exact h2 j (by omega) (by omega)
  ·intro h
   exact⟨h i (by omega) (by omega),fun j h1 h2=>h j (by omega) (by omega)⟩
def okB (vals:List zgS)(C:List (List Cl))(a e:Nat):Bool:=z3j (fun i=>(C.getD i []).all fun c=> !z0l vals c) (e - a) a
theorem z1o (vals:List zgS)(C:List (List Cl))(a e:Nat):okB vals C a e=true↔ ∀i,a≤i→i<e→((C.getD i []).all fun c=> !z0l vals c)=true:=by
 unfold okB
 rw [z4P]
 exact⟨fun h i h1 h2=>h i h1 (by omega),fun h i h1 h2=>h i h1 (by omega)⟩
theorem z9E (vals:List zgS)(C:List (List Cl))(a:Nat):okB vals C a a=true:=by
 rw [z1o];intro i h1 h2;omega
theorem z6K {X:Nat→Prop}{w:World}{v:Value}{t:zgS}{p:Int}{vs:List Value}(h:NodeX X w v z4g t p vs)(vb:Nat)(vals:List zgS)(vv:Value)(hv:w.ownsRow vb 9 1 vv vals.length (vals.map Value.string))(hvl:vals.length≤100000):
  Calls Tryz.prog 104 #[v,vv] w fun e w'=>e= .returned (.bool (decide (0≤plM t vals 0)))∧Below w.heap.size w w':=by
 obtain⟨g,kv0,rfl,hh,hg,hkv⟩:=z2P h
 obtain⟨c0,c1,c2,c3,cf⟩:=jN hh
 have HP:=z8 (z4D vb vals vv t w hv hvl)
 have hop:(z4g.toList==[110,97,109,101])=true:=by rw [zgG];rfl
 clear h hh hkv cf c2 c3
 go_enter Tryz.func104,Tryz.ntmps104
 go_wp2_with fail
 refine HP.out.mono ?_
 rintro e w1 ⟨rfl,rfl⟩
 go_wp2_with fail
 go_ret
 exact⟨by simp,zgR _ _⟩
theorem jr {X:Nat→Prop}{w:World}{v:Value}{op t:zgS}{p:Int}{vs:List Value}(h:NodeX X w v op t p vs)(vv:Value)(h1:(op.toList==[110,97,109,101])=false)(h2:(op.toList==[97,108,108])=false)(h3:(op.toList==[105,102])=false):
  Calls Tryz.prog 104 #[v,vv] w fun e w'=>e= .returned (.bool true)∧Below w.heap.size w w':=by
 obtain⟨g,kv0,rfl,hh,hg,hkv⟩:=z2P h
 obtain⟨c0,c1,c2,c3,cf⟩:=jN hh
 clear h hh hkv cf c2 c3
 go_enter Tryz.func104,Tryz.ntmps104
 go_wp2_with fail
 go_ret
 exact⟨rfl,zgR _ _⟩
theorem z1d {X:Nat→Prop}{w:World}{v:Value}{op:zgS}{t:zgS}{p:Int}{vs:List Value}(h:NodeX X w v op t p vs)(hop:op=zdu∨op=sIf)(hlen:vs.length≤100000)(vv:Value)(b:Nat→Bool)
  (hk: ∀(i:Nat) (u:Value) (W:World),vs[i]?=some u→Below w.heap.size w W→Calls Tryz.prog 104 #[u,vv] W fun e w'=>e= .returned (.bool (b i))∧Below W.heap.size W w'):
  Calls Tryz.prog 104 #[v,vv] w fun e w'=>e= .returned (.bool (z3j b vs.length 0))∧Below w.heap.size w w':=by
 obtain⟨g,kv0,rfl,hh,hg,hkv⟩:=z2P h
 obtain⟨ak,kk,rfl⟩:=za hkv
 obtain⟨c0,c1,c2,c3,cf⟩:=jN hh
 have HC:=z8 hk
 have HK:=z8 hkv
 have ho1:(op.toList==[110,97,109,101])=false:=by rcases hop with rfl|rfl<;>rw [zgG]<;>rfl
 have ho2:((op.toList==[97,108,108])=true)∨((op.toList==[97,108,108])=false∧(op.toList==[105,102])=true):=by
  rcases hop with rfl|rfl
  ·left;rw [zgG];rfl
  ·right;rw [zgG];exact⟨rfl,rfl⟩
 clear h hh hk hkv cf c1 c2 hop
 go_enter Tryz.func104,Tryz.ntmps104
 rcases ho2 with ho2|⟨ho2,ho3⟩
 all_goals
  go_wp2_with fail
  go_loopg [5] (vs.length+1) (fun k iv wr=> ∃(i:Nat),k+i=vs.length+1∧i≤vs.length∧iv= .int .i64 i∧Hid (Below w.heap.size w wr)∧Hid (z3j b (vs.length - i) i=z3j b vs.length 0))
  case atStart=>exact⟨0,rfl,zgO _,rfl,z8 (zgR _ _),z8 rfl⟩
  case round=>
   obtain⟨i,hk,hil,rfl,HB,hfin⟩:=hrel
   have hHK:=z8 hk
   clear hk
   have d3:wr.cell? ⟨g,3,none⟩=some (.slice ak vs.length kk):=(HB.out.cell (p:=⟨g,3,none⟩) hg).trans c3
   by_cases hlt:i<vs.length
   ·obtain⟨u,hu⟩: ∃u,vs[i]?=some u:=⟨vs[i],zgE hlt⟩
    have hkr:=HK.out
    obtain⟨gr,cap,hvv,hbb,hgg⟩:=hkr.form (by omega)
    injection hvv with e1 e2 e3
    subst e1 e3
    have r0:wr.cell? ⟨gr,i,none⟩=some u:=(HB.out.cell (p:=⟨gr,i,none⟩) hgg).trans (zl hkr _ _ hu)
    have HU:=z8 (HC.out i u wr hu HB.out)
    have hst:Hid (z3j b (vs.length - i) i=(b i&&z3j b (vs.length -(i+1)) (i+1))):=z8 (by
     obtain⟨m,hm⟩: ∃m,vs.length - i=m+1:=⟨vs.length - i - 1,by omega⟩
     rw [hm,show vs.length -(i+1)=m by omega]
     rfl)
    have hlt':(i:Int)<vs.length:=by omega
    clear hkr hu
    cases hbi:b i
    case true=>
     rw [hbi] at HU
     have HS:Hid (z3j b (vs.length -(i+1)) (i+1)=z3j b vs.length 0):=z8 (by rw [←hfin.out,hst.out,hbi];rfl)
     clear hbi hst hfin
     go_wp2_with fail
     refine HU.out.mono ?_
     rintro e w1 ⟨rfl,hB1⟩
     have HB1:=z8 (HB.out.trans (hB1.mono HB.out.size))
     clear hB1
     go_wp2_with fail
     have hk:=hHK.out
     go_roundg (vs.length - i)
     case measure=>omega
     case rel=>exact⟨i+1,by omega,by omega,by go_num,HB1,HS⟩
    case false=>
     rw [hbi] at HU
     have HS:Hid (z3j b vs.length 0=false):=z8 (by rw [←hfin.out,hst.out,hbi];rfl)
     clear hbi hst hfin
     go_wp2_with fail
     refine HU.out.mono ?_
     rintro e w1 ⟨rfl,hB1⟩
     have HB1:=z8 (HB.out.trans (hB1.mono HB.out.size))
     clear hB1
     go_wp2_with fail
     go_ret
     exact⟨by rw [HS.out];rfl,HB1.out⟩
   ·have hlt': ¬(i:Int)<vs.length:=by omega
    have hres:Hid (z3j b vs.length 0=true):=z8 (by rw [←hfin.out,show vs.length - i=0 by omega];rfl)
    go_wp2_with fail
    go_ret
    exact⟨by rw [hres.out];rfl,HB.out⟩
theorem SegK.parts {P:Cl→Nat→Nat→Prop}: ∀(cs:List Cl) (a e:Nat),SegK P cs a e→ ∃A:Nat→Nat,A 0=a∧A cs.length=e∧ ∀i c,cs[i]?=some c→P c (A i) (A (i+1)):=by
 intro cs
 induction cs with
 |nil=>intro a e h;have h:a=e:=h;exact⟨fun _=>a,rfl,h,fun i c hc=>by simp at hc⟩
 |cons x cs ih=>
  intro a e ⟨m,h1,h2⟩
  obtain⟨A,q1,q2,q3⟩:=ih _ _ h2
  refine⟨fun i=>match i with|0=>a|i+1=>A i,rfl,q2,fun i c hc=> ?_⟩
  cases i with
  |zero=>
   have e:x=c:=by simpa using hc
   subst e
   show P x a (A 0)
   rw [q1];exact h1
  |succ i=>exact q3 i c (by simpa using hc)
theorem z5i {X:Nat→Prop}{w:World}{E:List Ex}(hg:jX E){f:Nat}{v:Value}{a i:Nat}(vv:Value)(h:RefEX X w E f v a i):Calls Tryz.prog 104 #[v,vv] w fun e w'=>e= .returned (.bool true)∧Below w.heap.size w w':=by
 cases f with
 |zero=>exact absurd h id
 |succ f=>
  obtain⟨x,hx,h⟩:=h
  rcases h with⟨_,_,p,hn⟩|⟨_,_,p,hn⟩|⟨_,_,ht,p,hn⟩|⟨_,_,p,hn⟩|⟨_,_,p,hn⟩|⟨hf,v1,j,h2,h3,h4,h5⟩|⟨hf,v1,v2,j,k,h2,h3,h4,h5,h6,h7⟩
  ·exact jr hn vv (by rw [zgG];rfl) (by rw [zgG];rfl) (by rw [zgG];rfl)
  ·exact jr hn vv (by rw [zgG];rfl) (by rw [zgG];rfl) (by rw [zgG];rfl)
  ·rcases ht with ht|ht
   ·exact jr hn vv (by rw [zgG,ht];rfl) (by rw [zgG,ht];rfl) (by rw [zgG,ht];rfl)
   ·exact jr hn vv (by rw [zgG,ht];rfl) (by rw [zgG,ht];rfl) (by rw [zgG,ht];rfl)
  ·exact jr hn vv (by rw [zgG];rfl) (by rw [zgG];rfl) (by rw [zgG];rfl)
  ·exact jr hn vv (by rw [zgG];rfl) (by rw [zgG];rfl) (by rw [zgG];rfl)
  ·rcases h4 with⟨_,hn⟩|⟨_,hn⟩
   ·exact jr hn vv (by rw [zgG];rfl) (by rw [zgG];rfl) (by rw [zgG];rfl)
   ·exact jr hn vv (by rw [zgG];rfl) (by rw [zgG];rfl) (by rw [zgG];rfl)
  ·have hs:=(hg x (zgM hx)).2 hf
   exact jr h5 vv (z59 hs _ rfl) (z59 hs _ rfl) (z59 hs _ rfl)
theorem z3l {A:Nat→Nat}{n:Nat}(h: ∀i,i<n→A i≤A (i+1)): ∀i j,i≤j→j≤n→A i≤A j:=by
 intro i j hij
 induction hij with
 |refl=>intro _;exact zgH _
 |step _ ih=>intro hn;exact zgP (ih (by omega)) (h _ (by omega))
theorem z4C {A:Nat→Nat}: ∀(n p:Nat),A 0≤p→p<A n→ ∃i,i<n∧A i≤p∧p<A (i+1):=by
 intro n
 induction n with
 |zero=>intro p h1 h2;omega
 |succ n ih=>
  intro p h1 h2
  by_cases h:p<A n
  ·obtain⟨i,q1,q2,q3⟩:=ih p h1 h
   exact⟨i,by omega,q2,q3⟩
  ·exact⟨n,by omega,by omega,h2⟩
def clB (vals:List zgS)(C:List (List Cl))(cls:List Cl)(A:Nat→Nat)(i:Nat):Bool:=(match cls[i]? with|some c=> !z0l vals c|none=>true)&&okB vals C (A i) (A (i+1))
theorem zcT {vals:List zgS}{C:List (List Cl)}{cls:List Cl}{A:Nat→Nat}{a ci:Nat}(h0:A 0=a)(h1:A cls.length=ci)(hle: ∀i,i<cls.length→A i≤A (i+1))(hc:C[ci]?=some cls):z3j (clB vals C cls A) cls.length 0=okB vals C a (ci+1):=by
 rw [Bool.eq_iff_iff,z4P,z1o]
 constructor
 ·intro h i hi1 hi2
  by_cases e:i=ci
  ·subst e
   simp only [List.getD,hc,Option.getD_some,List.all_eq_true]
   intro c hm
   obtain⟨k,hk,rfl⟩:=List.getElem_of_mem hm
   have q:=h k (by omega) (by omega)
   unfold clB at q
   rw [zgE hk] at q
   simp only [Bool.and_eq_true] at q
   exact q.1
  ·obtain⟨k,q1,q2,q3⟩:=z4C (A:=A) cls.length i (by omega) (by omega)
   have q:=h k (by omega) (by omega)
   unfold clB at q
   rw [Bool.and_eq_true,z1o] at q
   exact q.2 i q2 q3
 ·intro h j _ hj
  have hj:j<cls.length:=by omega
  unfold clB
  rw [Bool.and_eq_true,z1o]
  refine⟨?_,fun i q1 q2=>h i ?_ ?_⟩
  ·have q:=h ci (by have:=z3l hle 0 cls.length (by omega) (by omega);omega) (by omega)
   simp only [List.getD,hc,Option.getD_some,List.all_eq_true] at q
   rw [zgE hj]
   exact q _ (List.getElem_mem hj)
  ·have:=z3l hle 0 j (by omega) (by omega);omega
  ·have:=z3l hle (j+1) cls.length (by omega) (by omega);omega
theorem zaq (b:Nat→Bool):z3j b 1 0=b 0:=by unfold z3j z3j;simp
theorem z7z (b:Nat→Bool):z3j b 2 0=(b 0&&b 1):=by unfold z3j z3j z3j;simp
theorem z9H {X:Nat→Prop}{E:List Ex}{C:List (List Cl)}(hg:jX E)(vals:List zgS)(vb:Nat)(vv:Value)(hvl:vals.length≤100000)(hCl: ∀c∈C,c.length≤100000):
  ∀(f:Nat) (v:Value) (ci a e:Nat) (f2 a2:Nat) (w:World),RefCX X w E C f v ci a e→CovC C f2 a2 ci→w.ownsRow vb 9 1 vv vals.length (vals.map Value.string)→
   Calls Tryz.prog 104 #[v,vv] w fun e w'=>e= .returned (.bool (okB vals C a2 (ci+1)))∧Below w.heap.size w w':=by
 intro f
 induction f with
 |zero=>intro v ci a e f2 a2 w h;exact absurd h id
 |succ f ih=>
  intro v ci a e f2 a2 w ⟨cls,vs,p,h1,h2,h3⟩ hcov hvr
  obtain⟨f3,rfl⟩: ∃f3,f2=f3+1:=by
   cases f2 with
   |zero=>exact absurd hcov id
   |succ k=>exact⟨k,rfl⟩
  obtain⟨cls',k1,k2⟩:=hcov
  have hcc:cls'=cls:=by rw [h1] at k1;exact(Option.some.inj k1).symm
  subst hcc
  obtain⟨A,A0,A1,AP⟩:=SegK.parts _ _ _ k2
  have hlen:=zaB _ _ _ _ h3
  have hle: ∀i,i<cls'.length→A i≤A (i+1):=fun i hi=>ClK.a_le (cls'[i]) _ _ (AP i _ (zgE hi))
  rw [←zcT (vals:=vals) A0 A1 hle h1,←hlen]
  refine z1d h2 (.inl rfl) (by have:=hCl cls' (zgM h1);omega) vv _ fun i u W hu hB=> ?_
  obtain⟨c,a',e',hc,v1,j,x,q1,q2,q3,q4,q5,q6⟩:=zbt _ _ _ _ i u h3 hu
  have hP:=AP i c hc
  have hvW:=zc hvr fun k e=>hB.block k (hvr.lt k e).2
  have hcl:clB vals C cls' A i=(!z0l vals c&&okB vals C (A i) (A (i+1))):=by unfold clB;rw [hc]
  rw [hcl]
  rcases q6 with⟨r1,r2,_⟩|⟨r1,v2,pp,r2,r3,_⟩|⟨r1,v2,ci',r0,r2,r3⟩
  ·have e1:A i=A (i+1):=by rcases hP with⟨q,_⟩|⟨_,q⟩;exact absurd (r1.symm.trans q) (by decide);exact q
   rw [←e1,z9E,show z0l vals c=false by unfold z0l;rw [r1];rfl]
   have:=z1d (r2.keepX (zD hB)) (.inr rfl) (by simp) vv (fun _=>true) fun n u2 W2 hu2 hB2=>by
    have e:v1=u2:=by cases n with|zero=>simpa using hu2|succ n=>simp at hu2
    subst e
    exact z5i hg vv (q1.keepX (zD (hB.trans (hB2.mono hB.size))))
   rw [show [v1].length=1 from rfl,zaq] at this
   exact this
  ·have e1:A i=A (i+1):=by rcases hP with⟨q,_⟩|⟨_,q⟩;exact absurd (r1.symm.trans q) (by decide);exact q
   rw [←e1,z9E]
   have hbd:(!z0l vals c&&true)=decide (0≤plM c.result vals 0):=by
    unfold z0l
    rw [r1]
    rcases z2l c.result vals 0 with q|q
    ·rw [q];rfl
    ·have h1:0≤plM c.result vals 0:=by omega
     have h2:(plM c.result vals 0== -1)=false:=by simp;omega
     rw [h2,decide_eq_true h1];rfl
   rw [hbd]
   have:=z1d (r2.keepX (zD hB)) (.inr rfl) (by simp) vv (fun n=>if n=0 then true else decide (0≤plM c.result vals 0)) fun n u2 W2 hu2 hB2=>by
    have hB3:=hB.trans (hB2.mono hB.size)
    match n,hu2 with
    |0,hu2=>
     have e:v1=u2:=by simpa using hu2
     subst e
     exact z5i hg vv (q1.keepX (zD hB3))
    |1,hu2=>
     have e:v2=u2:=by simpa using hu2
     subst e
     exact z6K (r3.keepX (zD hB3)) vb vals vv (zc hvr fun k e=>hB3.block k (hvr.lt k e).2) hvl
    |n+2,hu2=>simp at hu2
   rw [show [v1,v2].length=2 from rfl,z7z] at this
   simpa using this
  ·rcases hP with⟨_,k,e1,e2,e3⟩|⟨q,_⟩
   ·have hk:k=ci':=by rw [r0] at e1;omega
    subst hk
    rw [e3,show z0l vals c=false by unfold z0l;rw [r1];rfl]
    have:=z1d (r2.keepX (zD hB)) (.inr rfl) (by simp) vv (fun n=>if n=0 then true else okB vals C (A i) (k+1)) fun n u2 W2 hu2 hB2=>by
     have hB3:=hB.trans (hB2.mono hB.size)
     match n,hu2 with
     |0,hu2=>
      have e:v1=u2:=by simpa using hu2
      subst e
      exact z5i hg vv (q1.keepX (zD hB3))
     |1,hu2=>
      have e:v2=u2:=by simpa using hu2
      subst e
      exact ih v2 k _ _ f3 (A i) W2 (r3.keepX (zD hB3)) e2 (zc hvr fun k e=>hB3.block k (hvr.lt k e).2)
     |n+2,hu2=>simp at hu2
    rw [show [v1,v2].length=2 from rfl,z7z] at this
    simpa using this
   ·exact absurd r1 q
theorem z00 {fn:Func}{a b c d f:Tmp}(h:fn.results= #[.tmp a,.tmp b,.tmp c,.tmp d,.tmp f])(tmps:Array Value)(P:Program)(w:World):
  (results fn tmps).run P w= .ok (.tuple #[tmps.getD a undef,tmps.getD b undef,tmps.getD c undef,tmps.getD d undef,tmps.getD f undef]) w:=by
 simp [results,h]
theorem SegB.parts {P:As→Nat→Nat→Prop}: ∀(cs:List As) (a e:Nat),SegB P cs a e→ ∃A:Nat→Nat,A 0=a∧A cs.length=e∧ ∀i c,cs[i]?=some c→P c (A i) (A (i+1)):=by
 intro cs
 induction cs with
 |nil=>intro a e h;have h:a=e:=h;exact⟨fun _=>a,rfl,h,fun i c hc=>by simp at hc⟩
 |cons x cs ih=>
  intro a e ⟨m,h1,h2⟩
  obtain⟨A,q1,q2,q3⟩:=ih _ _ h2
  refine⟨fun i=>match i with|0=>a|i+1=>A i,rfl,q2,fun i c hc=> ?_⟩
  cases i with
  |zero=>
   have e:x=c:=by simpa using hc
   subst e
   show P x a (A 0)
   rw [q1];exact h1
  |succ i=>exact q3 i c (by simpa using hc)
theorem zcC {vals:List zgS}{C:List (List Cl)}{n:Nat}{A:Nat→Nat}(h0:A 0=0)(h1:A n=C.length)(hle: ∀i,i<n→A i≤A (i+1)):z3j (fun i=>okB vals C (A i) (A (i+1))) n 0= !hoM vals C:=by
 have key:(!hoM vals C)=okB vals C 0 C.length:=by
  rw [Bool.eq_iff_iff,z1o]
  unfold hoM
  simp only [Bool.not_eq_true',List.any_eq_false,Bool.not_eq_true]
  constructor
  ·intro h i _ hi
   simp only [List.getD,zgE hi,Option.getD_some,List.all_eq_true]
   intro c hc
   have:=h _ (List.getElem_mem hi)
   have q:=this c hc
   rw [q];rfl
  ·intro h cls hm c hc
   obtain⟨i,hi,rfl⟩:=List.getElem_of_mem hm
   have q:=h i (zgO _) hi
   simp only [List.getD,zgE hi,Option.getD_some,List.all_eq_true] at q
   simpa using q c hc
 rw [key,Bool.eq_iff_iff,z4P,z1o]
 constructor
 ·intro h i _ hi
  obtain⟨k,q1,q2,q3⟩:=z4C (A:=A) n i (by omega) (by omega)
  have q:=h k (by omega) (by omega)
  rw [z1o] at q
  exact q i q2 q3
 ·intro h j _ hj
  rw [z1o]
  intro i q1 q2
  exact h i (zgO _) (by have:=z3l hle (j+1) n (by omega) (by omega);omega)
def zbS (s a v q:zgS)(st:St)(w:World)(e:Ending)(w':World):Prop:= ∃x1 x2 x3 x4,e= .returned (.tuple #[x1,x2,x3,x4,.int .i64 (grM s a v q st)])∧Below w.heap.size w w'∧z8J x1∧z8J x2∧z8J x3∧z8J x4∧
 (grM s a v q st=0→ ∃f ps,w'.ownsRow w.heap.size 91 3 x1 st.A.length (zc7 ps st.A)∧SegA (fun p x a b e g=>AsX (fun k=>k<w.heap.size) w' st.L st.E st.C f p x a b e g) ps st.A 0 0 st.L.length st.E.length∧w'.ownsRow w.heap.size 144 2 x2 (raM a).1.length (((raM a).1.map zA).flatten)∧w'.ownsRow w.heap.size 9 1 x3 (vlM v).1.length ((vlM v).1.map Value.string)∧w'.ownsRow w.heap.size 9 1 x4 (rqM q).1.length ((rqM q).1.map Value.string))
theorem z60 {ls:List Int}{n:Int}(hn:0<n)(h: ∀x∈ls,0≤x∧x<n)(i:Int):0≤zb ls i∧zb ls i<n:=by
 unfold zb
 split
 ·omega
 ·simp only [List.getD]
  cases hq:ls[i.toNat]? with
  |none=>simp;omega
  |some y=>exact h y (zgM hq)
theorem z6R (vals:List zgS)(W:List Wt)(ls:List Int)(hn:0<vals.length)(hls: ∀x∈ls,0≤x∧x<(vals.length:Int)): ∀(cs:List Cl) (h:Int),0≤h→h<vals.length→0≤jS vals W ls cs h∧jS vals W ls cs h<vals.length:=by
 intro cs
 induction cs with
 |nil=>intro h h1 h2;exact⟨h1,h2⟩
 |cons c cs ih=>
  intro h h1 h2
  unfold jS
  have hr:rlM vals ls c<vals.length:=by
   unfold rlM
   split
   ·rcases z2l c.result vals 0 with q|q<;>omega
   ·split
    ·exact(z60 (by omega) hls _).2
    ·omega
  split
  ·rename_i q
   have:h<rlM vals ls c:=by
    simp only [Bool.and_eq_true,decide_eq_true_eq] at q
    exact q.2
   exact ih _ (by omega) hr
  ·exact ih _ h1 h2
theorem z8E (vals:List zgS)(W:List Wt)(hn:0<vals.length): ∀(C:List (List Cl)) (ls:List Int),(∀x∈ls,0≤x∧x<(vals.length:Int))→ ∀x∈jZ vals W C ls,0≤x∧x<(vals.length:Int):=by
 intro C
 induction C with
 |nil=>intro ls h;exact h
 |cons c C ih=>
  intro ls h
  refine ih _ fun x hx=> ?_
  rcases List.mem_append.1 hx with q|q
  ·exact h x q
  ·have e:x=jS vals W ls c 0:=by simpa using q
   rw [e];exact z6R vals W ls hn h c 0 (by omega) (by omega)
theorem z11 {s a v q:zgS}{st:St}(h:grM s a v q st=0):(vlM v).2=false∧(raM a).2=false∧(ckM s st).1=0∧s.size≤600∧a.size≤100∧(rqM q).2=false:=by
 unfold grM at h
 split at h
 ·cases h
 ·rename_i h0
  split at h
  ·rename_i h1;rw [h] at h1;simp at h1
  ·rename_i h1
   split at h
   ·cases h
   ·rename_i h2
    simp only [Bool.or_eq_true,not_or,decide_eq_true_eq] at h0 h2
    exact⟨by simpa using h2.1.2,by simpa using h2.1.1,by simpa using h1,by omega,by omega,by simpa using h2.2⟩
theorem zcj {v:zgS}(h:(vlM v).2=false):2≤(vlM v).1.length:=by
 unfold vlM at h ⊢
 split at h
 ·cases h
 ·rename_i q
  rw [if_neg q]
  simp only [Bool.or_eq_true,not_or,decide_eq_true_eq] at q
  show 2≤(rnM v).1.length
  omega
def z6s (l:List (zgS×zgS))(E:List Ex)(p:Nat):Prop:=(wAt (zf l E []) (p:Int)).text.size≤600*(p+1)
theorem ze0 {X:Nat→Prop}{w:World}{E:List Ex}(l:List (zgS×zgS))(hls: ∀p∈l,p.2.size≤600)(hE: ∀x∈E,x.text.size≤600){f:Nat}{v:Value}{a i:Nat}(h:RefEX X w E f v a i): ∀p,a≤p→p≤i→z6s l E p:=fun p h1 h2=>by
 obtain⟨f',a',hr⟩:=h.rng.sub p h1 h2
 have:=hr.size l hls hE
 unfold z6s
 omega
theorem zg2 {X:Nat→Prop}{w:World}{E:List Ex}(l:List (zgS×zgS))(hls: ∀p∈l,p.2.size≤600)(hE: ∀x∈E,x.text.size≤600){f:Nat}{sub:Value→Nat→Nat→Nat→Prop}(hs: ∀v ci a e,sub v ci a e→ ∀p,a≤p→p<e→z6s l E p):
  ∀(vs:List Value) (cs:List Cl) (a e:Nat),SegC (fun v c a e=>ClX X w E f sub v c a e) vs cs a e→ ∀p,a≤p→p<e→z6s l E p:=by
 intro vs
 induction vs with
 |nil=>
  intro cs a e h p h1 h2
  cases cs with
  |nil=>have h:a=e:=h;omega
  |cons c cs=>exact absurd h id
 |cons u vs ih=>
  intro cs a e h p h1 h2
  cases cs with
  |nil=>exact absurd h id
  |cons c cs=>
   obtain⟨m,⟨v1,i,x,q1,q2,q3,q4,q5,q6⟩,h3⟩:=h
   by_cases hm:m≤p
   ·exact ih cs m e h3 p hm h2
   ·by_cases hi:p≤i
    ·exact ze0 l hls hE q1 p h1 hi
    ·by_cases hi1:p=i+1
     ·subst hi1
      have:=ze0 l hls hE q1 i q1.le (zgH _)
      unfold z6s at this ⊢
      rw [zan l q2 q3 q4]
      omega
     ·rcases q6 with⟨_,_,r⟩|⟨_,_,_,_,_,r⟩|⟨_,v2,ci,_,_,r⟩
      ·omega
      ·omega
      ·exact hs _ _ _ _ r p (by omega) (by omega)
theorem zfY {X:Nat→Prop}{w:World}{E:List Ex}{C:List (List Cl)}(l:List (zgS×zgS))(hls: ∀p∈l,p.2.size≤600)(hE: ∀x∈E,x.text.size≤600): ∀(f:Nat) (v:Value) (ci a e:Nat),RefCX X w E C f v ci a e→ ∀p,a≤p→p<e→z6s l E p:=by
 intro f
 induction f with
 |zero=>intro v ci a e h;exact absurd h id
 |succ f ih=>
  intro v ci a e ⟨cls,vs,p,h1,h2,h3⟩
  exact zg2 l hls hE ih vs cls a e h3
theorem zfT {X:Nat→Prop}{w:World}{L:List Lc}{E:List Ex}{C:List (List Cl)}(l:List (zgS×zgS))(hls: ∀p∈l,p.2.size≤600)(hE: ∀x∈E,x.text.size≤600){f:Nat}: ∀(ps:List PP) (xs:List As) (a b e g:Nat),SegA (fun p x a b e g=>AsX X w L E C f p x a b e g) ps xs a b e g→ ∀p,b≤p→p<g→z6s l E p:=by
 intro ps
 induction ps with
 |nil=>
  intro xs a b e g h p h1 h2
  cases xs with
  |nil=>obtain⟨_,h⟩:=h;omega
  |cons c cs=>exact absurd h id
 |cons u ps ih=>
  intro xs a b e g h p h1 h2
  cases xs with
  |nil=>exact absurd h id
  |cons x xs=>
   obtain⟨m,n,⟨i,ci,_,_,_,_,q⟩,h3⟩:=h
   by_cases hm:n≤p
   ·exact ih xs m n e g h3 p hm h2
   ·exact zfY l hls hE f _ ci b n q p h1 (by omega)
theorem z3L {s a v q:zgS}{n:Nat}{st:St}(hM:MR s n st0=some st)(hE:st.E.length≤100000)(h0:grM s a v q st=0): ∀x∈zf (raM a).1 st.E [],x.text.size≤100000000∧ -999999999≤x.num∧x.num≤999999999:=by
 obtain⟨_,_,hck,hs,ha,_⟩:=z11 h0
 obtain⟨e,w',fr,⟨lv,_,_,_,h⟩,_⟩:=z0d s n st (World.holding Tryz.prog default ⟨#[],#[],[]⟩) hM hs []
 obtain⟨f,ps,_,h⟩:=h hck
 have hz:Sz st:=z8O s hs n st0 st hM ⟨fun x h=>(by cases h),fun x h=>(by cases h),fun x h=>(by cases h),fun x h=>(by cases h)⟩
 have hra:=z2i a (by omega)
 exact z5z (raM a).1 hra.1 hz.1 hE fun p hp=>zfT (raM a).1 hra.1 hz.1 ps st.A 0 0 _ _ h p (zgO _) hp
def z3h (st:St):Prop:= ∀c∈st.C,c.length≤100000
theorem zdV (s:zgS): ∀n tag cls st r,MC s n tag cls st=some r→z3h st→z3h r.2.2:=by
 intro n
 induction n with
 |zero=>intro tag cls st r h;simp [MC] at h
 |succ n ih=>
  intro tag cls st r h hg
  match tag,h with
  |0,h=>
   rw [z8h] at h
   obtain⟨q,h1,h2⟩:=zgD.1 h
   exact ih _ _ _ _ h2 (ih _ _ _ _ h1 hg)
  |2,h=>
   rw [z7k] at h
   split at h
   ·rename_i hlen
    split at h
    ·obtain⟨q,h1,h2⟩:=zgD.1 h
     exact ih _ _ _ _ h2 (ih _ _ _ _ h1 (show z3h (sgn s [59] st) from hg))
    ·obtain⟨q,h1,h2⟩:=zgD.1 h
     cases h2
     obtain⟨_,rfl⟩:=jy h1
     intro c hc
     rcases List.mem_append.1 hc with q|q
     ·exact hg c q
     ·have e:c=cls:=by simpa using q
      rw [e];omega
   ·cases h
  |1,h=>
   rw [zai] at h
   obtain⟨q,h1,h2⟩:=zgD.1 h
   obtain⟨q2,h3,h4⟩:=zgD.1 h2
   have k1:q.2.C=st.C:=(z1z s _ _ _ _ _ h1).2.2.2
   obtain⟨_,rfl⟩:=zj h3
   have hg1:z3h q.2:=by unfold z3h;rw [k1];exact hg
   split at h4
   ·cases h4;exact hg1
   ·simp only at h4
    split at h4
    ·obtain⟨v,h7,h8⟩:=zgD.1 h4
     cases h8
     have kk:=ih _ _ _ _ h7 hg1
     exact kk
    ·cases h4
     exact hg1
  |t+3,h=>simp [MC] at h
theorem zee {s:zgS}{n:Nat}{st st':St}(h:MA s n st=some st')(hg:z3h st):z3h st':=by
 unfold MA at h
 simp only at h
 obtain⟨⟨r1,st1⟩,h1,hM2⟩:=zgD.1 h
 obtain⟨⟨r2,cl2,st2⟩,h2,hM3⟩:=zgD.1 hM2
 obtain⟨_,k1,_,k2⟩:=z07 s _ _ _ _ _ _ _ _ h1
 have k2:st1.C=st.C:=k2
 have hg1:z3h st1:=by unfold z3h;rw [k2];exact hg
 have q:z3h st2:=zdV s _ _ _ _ _ h2 hg1
 obtain⟨_,rfl⟩:=jl hM3
 exact q
theorem z9F (s:zgS): ∀n st st',MR s n st=some st'→z3h st→z3h st':=by
 intro n
 induction n with
 |zero=>intro st st' h;simp [MR] at h
 |succ n ih=>
  intro st st' h hg
  unfold MR at h
  split at h
  ·obtain⟨u,h1,h2⟩:=zgD.1 h
   exact ih _ _ h2 (zee h1 hg)
  ·cases h;exact hg
theorem z3s (v:zgS):(vlM v).1.length≤100000:=by
 unfold vlM
 split
 ·exact zgO _
 ·rename_i q
  simp only [Bool.or_eq_true,not_or,decide_eq_true_eq] at q
  show(rnM v).1.length≤100000
  omega
theorem zgd:zci st0:=⟨0,rfl⟩
def z6a (a b:Int):Int:=if a<b then a else b
def z8L (a b:Int):Int:=if b<a then a else b
def stL (nm:zgS)(g:List Int):List As→Nat→Int→Int
 |[],_,h=>h
 |x::xs,i,h=>stL nm g xs (i+1) (if(x.by_.toList==nm.toList)&&decide (h<zb g i) then zb g i else h)
def stM (A:List As)(qs:List zgS)(top:Nat)(g:List Int)(nm:zgS):Int:=if plM nm qs 0 != -1 then(top:Int) else stL nm g A 0 0
def z43 (ls:List Int)(lev:Int):List Int→Int→Int
 |[],c=>c
 |i::is,c=>z43 ls lev is (if lev≤zb ls i then c+1 else c)
def cdM (ls items:List Int)(k:Int):Nat→Int
 |0=>0
 |n+1=>if k≤z43 ls ((n+1:Nat):Int) items 0 then((n+1:Nat):Int) else cdM ls items k n
def llM (sg:zgS→Int)(top:Nat)(ls:List Int)(x:Lc):Int:=
 if x.form==2 then cdM ls x.items x.count top else if x.form==1 then(if x.text.toList==[38,38] then z6a (zb ls x.left) (zb ls x.right) else z8L (zb ls x.left) (zb ls x.right)) else sg x.text
def jP (sg:zgS→Int)(top:Nat):List Lc→List Int→List Int
 |[],ls=>ls
 |x::xs,ls=>jP sg top xs (ls++[llM sg top ls x])
theorem z3A (sg:zgS→Int)(top:Nat): ∀(xs ys:List Lc) (ls:List Int),jP sg top (xs++ys) ls=jP sg top ys (jP sg top xs ls):=by
 intro xs
 induction xs with
 |nil=>intro ys ls;rfl
 |cons x xs ih=>intro ys ls;exact ih ys _
theorem z1a (sg:zgS→Int)(top:Nat): ∀(xs:List Lc) (ls:List Int),(jP sg top xs ls).length=ls.length+xs.length:=by
 intro xs
 induction xs with
 |nil=>intro ls;rfl
 |cons x xs ih=>intro ls;unfold jP;rw [ih];simp;omega
theorem z6h (sg:zgS→Int)(top:Nat){L:List Lc}{i:Nat}{x:Lc}(h:L[i]?=some x):
  jP sg top (L.take (i+1)) []=jP sg top (L.take i) []++[llM sg top (jP sg top (L.take i) []) x]:=by
 rw [List.take_add_one,h,z3A]
 rfl
def ltM (A:List As)(W ls:List Int):List Int:=A.map fun x=>z6a (zb W x.conds) (zb ls x.to_)
def gvM (A:List As)(L:List Lc)(qs:List zgS)(top:Nat)(W:List Int):Nat→List Int
 |0=>[]
 |r+1=>ltM A W (jP (stM A qs top (gvM A L qs top W r)) top L [])
theorem z2q (i:Int):zb [] i=0:=by unfold zb;split<;>simp
theorem z1j (l:List Int)(i:Nat):zb l (i:Int)=l.getD i 0:=by unfold zb;rw [if_neg (by omega)];simp
theorem z5N (A:List As)(f:As→Int)(i:Nat):zb (A.map f) (i:Int)=match A[i]? with|some x=>f x|none=>0:=by
 rw [z1j]
 simp only [List.getD,List.getElem?_map]
 cases A[i]?<;>rfl
theorem z1T {L a b:Int}:L≤z6a a b↔L≤a∧L≤b:=by unfold z6a;split<;>omega
theorem z6z {L a b:Int}:L≤z8L a b↔L≤a∨L≤b:=by unfold z8L;split<;>omega
theorem z7K (ls:List Int)(lev:Int): ∀(is:List Int) (c:Int),z43 ls lev is c=c+z43 ls lev is 0:=by
 intro is
 induction is with
 |nil=>intro c;simp [z43]
 |cons i is ih=>
  intro c
  unfold z43
  rw [ih,ih (if lev≤zb ls i then 0+1 else 0)]
  split<;>omega
theorem z6k {ls ls':List Int}{k k':Int}(h: ∀i,k≤zb ls i→k'≤zb ls' i): ∀is:List Int,z43 ls k is 0≤z43 ls' k' is 0:=by
 intro is
 induction is with
 |nil=>exact Int.le_refl _
 |cons i is ih=>
  unfold z43
  rw [z7K,z7K ls']
  have:=h i
  split<;>split<;>omega
theorem z9K (ls items:List Int)(k:Int){l:Nat}(hl:1≤l): ∀top:Nat,(l:Int)≤cdM ls items k top↔l≤top∧k≤z43 ls l items 0:=by
 intro top
 induction top with
 |zero=>unfold cdM;constructor<;>intro h<;>omega
 |succ n ih=>
  unfold cdM
  split
  ·rename_i q
   constructor
   ·intro h
    refine⟨by omega,Int.le_trans q (z6k (fun i hi=>by omega) items)⟩
   ·intro h;omega
  ·rename_i q
   rw [ih]
   constructor
   ·intro ⟨h1,h2⟩;exact⟨by omega,h2⟩
   ·intro ⟨h1,h2⟩
    refine⟨?_,h2⟩
    by_cases e:l=n+1
    ·subst e;exact absurd h2 q
    ·omega
theorem z8P (ls items:List Int)(k:Int): ∀top:Nat,0≤cdM ls items k top∧cdM ls items k top≤top:=by
 intro top
 induction top with
 |zero=>exact⟨Int.le_refl _,Int.le_refl _⟩
 |succ n ih=>
  unfold cdM
  split<;>omega
def Thr (k:Nat)(g g':List Int):Prop:= ∀i,(k:Int)≤zb g i→(k:Int)≤zb g' i
theorem z0i {l l':List Int}{i:Nat}:zb (l++l') (i:Int)=if i<l.length then zb l i else zb l' ((i - l.length:Nat):Int):=by
 rw [z1j,z1j,z1j]
 simp only [List.getD]
 split
 ·rename_i h;rw [List.getElem?_append_left h]
 ·rename_i h;rw [List.getElem?_append_right (by omega)]
theorem z1g {l:List Int}{i:Int}(h:i<0):zb l i=0:=by unfold zb;rw [if_pos h]
theorem zbr {k:Nat}(hk:1≤k){l l':List Int}{a b:Int}(hl:l.length=l'.length)(h:Thr k l l')(hab:(k:Int)≤a→(k:Int)≤b):Thr k (l++[a]) (l'++[b]):=by
 intro i hi
 by_cases h0:i<0
 ·rw [z1g h0] at hi;omega
 ·obtain⟨j,rfl⟩:=Int.eq_ofNat_of_zero_le (show 0≤i by omega)
  rw [z0i] at hi ⊢
  rw [←hl]
  split at hi
  ·rename_i q;rw [if_pos q];exact h _ hi
  ·rename_i q
   rw [if_neg q]
   rw [z1j] at hi ⊢
   cases hm:j - l.length with
   |zero=>rw [hm] at hi;exact hab hi
   |succ m=>rw [hm] at hi;simp at hi;omega
theorem zd4 {k:Nat}(hk:1≤k){sg sg':zgS→Int}{top:Nat}(hs: ∀nm,(k:Int)≤sg nm→(k:Int)≤sg' nm){l l':List Int}(h:Thr k l l')(x:Lc):(k:Int)≤llM sg top l x→(k:Int)≤llM sg' top l' x:=by
 unfold llM
 split
 ·rw [z9K _ _ _ hk,z9K _ _ _ hk]
  intro ⟨h1,h2⟩
  exact⟨h1,Int.le_trans h2 (z6k h _)⟩
 ·split
  ·split
   ·rw [z1T,z1T];exact fun⟨a,b⟩=>⟨h _ a,h _ b⟩
   ·rw [z6z,z6z];exact fun q=>q.imp (h _) (h _)
  ·exact hs _
theorem z7o {k:Nat}(hk:1≤k){sg sg':zgS→Int}{top:Nat}(hs: ∀nm,(k:Int)≤sg nm→(k:Int)≤sg' nm): ∀(xs:List Lc) (l l':List Int),l.length=l'.length→Thr k l l'→Thr k (jP sg top xs l) (jP sg' top xs l'):=by
 intro xs
 induction xs with
 |nil=>intro l l' _ h;exact h
 |cons x xs ih=>
  intro l l' hl h
  exact ih _ _ (by simp [hl]) (zbr hk hl h (zd4 hk hs h x))
theorem zc2 (nm:zgS)(g:List Int)(k:Int): ∀(A:List As) (i:Nat) (h:Int),k≤stL nm g A i h↔k≤h∨ ∃j x,A[j]?=some x∧x.by_.toList=nm.toList∧k≤zb g ((i+j:Nat):Int)∧h<zb g ((i+j:Nat):Int):=by
 intro A
 induction A with
 |nil=>intro i h;simp [stL]
 |cons x xs ih=>
  intro i h
  unfold stL
  rw [ih]
  by_cases hb:((x.by_.toList==nm.toList)&&decide (h<zb g i))=true
  ·rw [if_pos hb]
   have hb':x.by_.toList=nm.toList∧h<zb g i:=by simpa using hb
   constructor
   ·rintro(q|⟨j,y,h1,h2,h3,h4⟩)
    ·exact .inr ⟨0,x,rfl,hb'.1,q,hb'.2⟩
    ·exact .inr ⟨j+1,y,by simpa using h1,h2,by rw [show i+(j+1)=i+1+j by omega];exact h3,by rw [show i+(j+1)=i+1+j by omega];omega⟩
   ·rintro(q|⟨j,y,h1,h2,h3,h4⟩)
    ·exact .inl (by omega)
    ·by_cases hle:k≤zb g i
     ·exact .inl hle
     ·cases j with
      |zero=>exact absurd h3 hle
      |succ j=>
       refine .inr ⟨j,y,by simpa using h1,h2,by rw [show i+1+j=i+(j+1) by omega];exact h3,?_⟩
       rw [show i+1+j=i+(j+1) by omega]
       omega
  ·rw [if_neg hb]
   constructor
   ·rintro(q|⟨j,y,h1,h2,h3,h4⟩)
    ·exact .inl q
    ·exact .inr ⟨j+1,y,by simpa using h1,h2,by rw [show i+(j+1)=i+1+j by omega];exact h3,by rw [show i+(j+1)=i+1+j by omega];exact h4⟩
   ·rintro(q|⟨j,y,h1,h2,h3,h4⟩)
    ·exact .inl q
    ·cases j with
     |zero=>
      have e:x=y:=by simpa using h1
      subst e
      exact absurd (by simpa using ⟨h2,h4⟩) hb
     |succ j=>exact .inr ⟨j,y,by simpa using h1,h2,by rw [show i+1+j=i+(j+1) by omega];exact h3,by rw [show i+1+j=i+(j+1) by omega];exact h4⟩
theorem zag (nm:zgS)(g:List Int)(A:List As){k:Int}(hk:1≤k):k≤stL nm g A 0 0↔ ∃(j:Nat) (x:As),A[j]?=some x∧x.by_.toList=nm.toList∧k≤zb g (j:Int):=by
 rw [zc2]
 constructor
 ·rintro(q|⟨j,x,h1,h2,h3,_⟩)
  ·omega
  ·exact⟨j,x,h1,h2,by simpa using h3⟩
 ·rintro⟨j,x,h1,h2,h3⟩
  exact .inr ⟨j,x,h1,h2,by simpa using h3,by simp;omega⟩
theorem z1v {A:List As}{qs:List zgS}{top:Nat}{g:List Int}{nm:zgS}{k:Int}(hk:1≤k):k≤stM A qs top g nm↔(plM nm qs 0≠ -1∧k≤top)∨(plM nm qs 0= -1∧ ∃(j:Nat) (x:As),A[j]?=some x∧x.by_.toList=nm.toList∧k≤zb g (j:Int)):=by
 unfold stM
 by_cases h:plM nm qs 0= -1
 ·rw [if_neg (by simp [h]),zag nm g A hk];simp [h]
 ·rw [if_pos (by simpa using h)];simp [h]
theorem z9m {A:List As}{qs:List zgS}{top k:Nat}(hk:1≤k){g g':List Int}(h:Thr k g g')(nm:zgS):(k:Int)≤stM A qs top g nm→(k:Int)≤stM A qs top g' nm:=by
 rw [z1v (by omega),z1v (by omega)]
 rintro(q|⟨q,j,x,h1,h2,h3⟩)
 ·exact .inl q
 ·exact .inr ⟨q,j,x,h1,h2,h _ h3⟩
theorem zdk {A:List As}{W:List Int}{k:Nat}(hk:1≤k){l l':List Int}(h:Thr k l l'):Thr k (ltM A W l) (ltM A W l'):=by
 intro i hi
 by_cases h0:i<0
 ·rw [z1g h0] at hi;omega
 ·obtain⟨j,rfl⟩:=Int.eq_ofNat_of_zero_le (show 0≤i by omega)
  unfold ltM at hi ⊢
  rw [z5N] at hi ⊢
  cases hq:A[j]? with
  |none=>rw [hq] at hi;simp at hi;omega
  |some x=>
   rw [hq] at hi
   simp only at hi ⊢
   rw [z1T] at hi ⊢
   exact⟨hi.1,h _ hi.2⟩
theorem z5v {A:List As}{L:List Lc}{qs:List zgS}{top:Nat}{W:List Int}{k:Nat}(hk:1≤k){g g':List Int}(h:Thr k g g'):Thr k (ltM A W (jP (stM A qs top g) top L [])) (ltM A W (jP (stM A qs top g') top L [])):=
 zdk hk (z7o hk (z9m hk h) L [] [] rfl (fun i hi=>hi))
theorem zeH {A:List As}{L:List Lc}{qs:List zgS}{top:Nat}{W:List Int}{k:Nat}(hk:1≤k): ∀r,Thr k (gvM A L qs top W r) (gvM A L qs top W (r+1)):=by
 intro r
 induction r with
 |zero=>intro i hi;unfold gvM at hi;rw [z2q] at hi;omega
 |succ r ih=>exact z5v hk ih
theorem zcd {A:List As}{L:List Lc}{qs:List zgS}{top:Nat}{W:List Int}{k:Nat}(hk:1≤k){r r':Nat}(h:r≤r'):Thr k (gvM A L qs top W r) (gvM A L qs top W r'):=by
 induction h with
 |refl=>exact fun i hi=>hi
 |step _ ih=>exact fun i hi=>zeH hk _ i (ih i hi)
theorem zb8 {p q:Nat→Bool}: ∀(l:List Nat) (m:Nat),(∀i,p i=true→q i=true)→m∈l→p m=false→q m=true→l.countP p+1≤l.countP q:=by
 intro l
 induction l with
 |nil=>intro m _ h;cases h
 |cons a l ih=>
  intro m h hm h1 h2
  rw [List.countP_cons,List.countP_cons]
  have hle:l.countP p≤l.countP q:=List.countP_mono_left fun i _=>h i
  rcases List.mem_cons.1 hm with e|e
  ·subst e;simp [h1,h2];omega
  ·have:=ih m h e h1 h2
   have h3:=h a
   cases hpa:p a
   ·simp;cases q a<;>simp<;>omega
   ·simp [h3 hpa];omega
theorem z7Q {A:List As}{L:List Lc}{qs:List zgS}{top:Nat}{W:List Int}(r:Nat):(gvM A L qs top W (r+1)).length=A.length:=by unfold gvM ltM;simp
theorem zg6 {A:List As}{L:List Lc}{qs:List zgS}{top:Nat}{W:List Int}{k r:Nat}{i:Int}(hk:1≤k)(h:(k:Int)≤zb (gvM A L qs top W r) i): ∃j:Nat,i=j∧j<A.length:=by
 by_cases h0:i<0
 ·rw [z1g h0] at h;omega
 ·obtain⟨j,rfl⟩:=Int.eq_ofNat_of_zero_le (show 0≤i by omega)
  refine⟨j,rfl,?_⟩
  cases r with
  |zero=>unfold gvM at h;rw [z2q] at h;omega
  |succ r=>
   rw [z1j] at h
   by_cases hj:j<A.length
   ·exact hj
   ·have e:(gvM A L qs top W (r+1))[j]?=none:=List.getElem?_eq_none (by rw [z7Q];omega)
    simp [List.getD,e] at h
    omega
theorem ze7 {A:List As}{L:List Lc}{qs:List zgS}{top:Nat}{W:List Int}{k:Nat}(hk:1≤k):Thr k (gvM A L qs top W (A.length+1)) (gvM A L qs top W A.length):=by
 have key: ∀m,(∃r,r<m∧Thr k (gvM A L qs top W (r+1)) (gvM A L qs top W r))∨m≤(List.range A.length).countP fun(i:Nat)=>decide ((k:Int)≤zb (gvM A L qs top W m) (i:Int)):=by
  intro m
  induction m with
  |zero=>exact .inr (zgO _)
  |succ m ih=>
   rcases ih with⟨r,h1,h2⟩|h
   ·exact .inl ⟨r,by omega,h2⟩
   ·by_cases hs:Thr k (gvM A L qs top W (m+1)) (gvM A L qs top W m)
    ·exact .inl ⟨m,by omega,hs⟩
    ·refine .inr ?_
     unfold Thr at hs
     simp only [Classical.not_forall] at hs
     obtain⟨i,h1,h2⟩:=hs
     obtain⟨j,rfl,hj⟩:=zg6 hk h1
     have:=zb8 (p:=fun(i:Nat)=>decide ((k:Int)≤zb (gvM A L qs top W m) (i:Int))) (q:=fun(i:Nat)=>decide ((k:Int)≤zb (gvM A L qs top W (m+1)) (i:Int))) (List.range A.length) j (fun i hi=>by simp only [decide_eq_true_eq] at hi ⊢;exact zeH hk m _ hi) (by simpa using hj) (by simpa using h2) (by simpa using h1)
     omega
 have st: ∀r d,Thr k (gvM A L qs top W (r+1)) (gvM A L qs top W r)→Thr k (gvM A L qs top W (r+d+1)) (gvM A L qs top W (r+d)):=by
  intro r d h
  induction d with
  |zero=>exact h
  |succ d ih=>exact z5v hk ih
 rcases key (A.length+1) with⟨r,h1,h2⟩|h
 ·have:=st r (A.length - r) h2
  rw [show r+(A.length - r)=A.length by omega] at this
  exact this
 ·have hle:(List.range A.length).countP (fun(i:Nat)=>decide ((k:Int)≤zb (gvM A L qs top W (A.length+1)) (i:Int)))≤A.length:=by
   have:=List.countP_le_length (p:=fun(i:Nat)=>decide ((k:Int)≤zb (gvM A L qs top W (A.length+1)) (i:Int))) (l:=List.range A.length)
   simpa using this
  omega
theorem z2Q {a b:zgS}(h:a.toList=b.toList):a=b:=by
 rw [zgG,zgG] at h
 cases a;cases b
 congr
 exact Array.toList_inj.1 h
def zfw (x:Int):List Int→Int→Int
 |[],n=>n
 |y::ys,n=>zfw x ys (if x≤y then n+1 else n)
theorem z9e {x:Int}: ∀ys:List Int,(∀y∈ys,¬x≤y)→zfw x ys 0=0:=by
 intro ys
 induction ys with
 |nil=>intro _;rfl
 |cons y ys ih=>
  intro h
  unfold zfw
  rw [if_neg (h y List.mem_cons_self)]
  exact ih fun u hu=>h u (List.mem_cons_of_mem _ hu)
theorem z97 (ls:List Int)(lev:Int): ∀(is:List Int) (c:Int),z43 ls lev is c=zfw lev (is.map (zb ls)) c:=by
 intro is
 induction is with
 |nil=>intro c;rfl
 |cons i is ih=>intro c;unfold z43;rw [ih];rfl
def Lvr (top:Nat)(l:List Int):Prop:= ∀i,0≤zb l i∧zb l i≤top
theorem z7R {top:Nat}{l:List Int}(h: ∀x∈l,0≤x∧x≤top):Lvr top l:=by
 intro i
 unfold zb
 split
 ·omega
 ·simp only [List.getD]
  cases hq:l[i.toNat]? with
  |none=>simp
  |some y=>exact h y (zgM hq)
theorem zeU {sg:zgS→Int}{top:Nat}(hs: ∀nm,0≤sg nm∧sg nm≤top): ∀(xs:List Lc) (l:List Int),(∀x∈l,0≤x∧x≤(top:Int))→ ∀x∈jP sg top xs l,0≤x∧x≤(top:Int):=by
 intro xs
 induction xs with
 |nil=>intro l h;exact h
 |cons c xs ih=>
  intro l h
  refine ih _ fun x hx=> ?_
  rcases List.mem_append.1 hx with q|q
  ·exact h x q
  ·have e:x=llM sg top l c:=by simpa using q
   rw [e]
   have hr:=z7R h
   unfold llM
   split
   ·exact z8P _ _ _ _
   ·split
    ·split
     ·have:=hr c.left;have:=hr c.right;unfold z6a;split<;>omega
     ·have:=hr c.left;have:=hr c.right;unfold z8L;split<;>omega
    ·exact hs _
theorem zcm {sg:zgS→Int}{top:Nat}(hs: ∀nm,0≤sg nm∧sg nm≤top)(L:List Lc):Lvr top (jP sg top L []):=z7R (zeU hs L [] fun x h=>by cases h)
theorem zen {A:List As}{W ls:List Int}{top:Nat}(hW:Lvr top W)(hl:Lvr top ls):Lvr top (ltM A W ls):=by
 refine z7R fun x hx=> ?_
 obtain⟨a,_,rfl⟩:=List.mem_map.1 hx
 have:=hW a.conds;have:=hl a.to_
 unfold z6a;split<;>omega
theorem z24 {A:List As}{qs:List zgS}{top:Nat}{g:List Int}(hg:Lvr top g)(nm:zgS):0≤stM A qs top g nm∧stM A qs top g nm≤top:=by
 unfold stM
 split
 ·omega
 ·refine⟨(zc2 nm g 0 A 0 0).2 (.inl (Int.le_refl _)),?_⟩
  by_cases h:stL nm g A 0 0≤top
  ·exact h
  ·obtain⟨j,x,_,_,h3⟩:=(zag nm g A (k:=(top:Int)+1) (by omega)).1 (by omega)
   have:=hg j;omega
theorem z4x {A:List As}{L:List Lc}{qs:List zgS}{top:Nat}{W:List Int}(hW:Lvr top W): ∀r,Lvr top (gvM A L qs top W r):=by
 intro r
 induction r with
 |zero=>intro i;unfold gvM;rw [z2q];omega
 |succ r ih=>exact zen hW (zcm (z24 ih) L)
end Go.Proofs.YtkoohcilbpdgeaaGreatDoor
