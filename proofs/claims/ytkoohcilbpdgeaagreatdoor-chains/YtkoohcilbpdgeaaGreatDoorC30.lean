import Derived.Deep.DeepCutAuto
import Derived.Deep.RegionWith
import Derived.Test.YtkoohcilbpdgeaaGreatDoorC29
set_option linter.all false
set_option linter.unusedVariables false
set_option linter.unusedSimpArgs false
set_option linter.unnecessarySimpa false
set_option linter.constructorNameAsVariable false
set_option linter.deprecated false
set_option maxRecDepth 100000
set_option maxHeartbeats 6400000
namespace Go.Proofs.YtkoohcilbpdgeaaGreatDoor
open Go Go.RowKit
attribute [local go_sem] wrap64_byte
def rlM (vals:List ByteArray)(levels:List Int)(c:Cl):Int:=if c.form==1 then plM c.result vals 0 else if c.form==2 then typeAtM levels c.inner else(vals.length:Int)- 1
theorem top_any (gb n kv:Nat)(av:Option Addr)(w:World)(hg:w.cell? ⟨gb,6,none⟩=some (.slice av n kv))(hn:n≤100000):
  Calls Tryz.prog 67 #[.pointer (some ⟨gb,0,none⟩)] w fun e w'=>e= .returned (.int .i64 ((n:Int)- 1))∧w'=w:=by
 go_enter Tryz.func67,Tryz.ntmps67
 go_wp2_with fail
 go_ret
 exact⟨rfl,rfl⟩
theorem resultLevel_c (gb vb lb:Nat)(vals:List ByteArray)(av:Option Addr)(kv:Nat)(levels:List Int)(lv:Value)(ct cf:Int)(cr:ByteArray)(ci:Int)(w:World)(hg:w.cell? ⟨gb,6,none⟩=some (.slice av vals.length kv))(hv:w.ownsRow vb 9 1 (.slice av vals.length kv) vals.length (vals.map Value.string))(hvl:vals.length≤100000)
  (hl:w.ownsRow lb 3 1 lv levels.length (levels.map (Value.int .i64))) (hll:levels.length≤100000):
  Calls Tryz.prog 132 #[.pointer (some ⟨gb,0,none⟩),.agg #[.int .i64 ct,.int .i64 cf,.string cr,.int .i64 ci],lv] w fun e w'=>e= .returned (.int .i64 (rlM vals levels ⟨ct,cf,cr,ci⟩))∧Below w.heap.size w w':=by
 obtain⟨al,kl,rfl⟩:=ownsRow_slice hl
 have hgl:=block_lt_of_cell hg
 have hgn:gb≠w.heap.size:=by omega
 have hBA:=(Below.refl w.heap.size w).alloc (Nat.le_refl _) (.cells #[.int .i64 ct,.int .i64 cf,.string cr,.int .i64 ci] 156)
 have hg':(w.alloc (.cells #[.int .i64 ct,.int .i64 cf,.string cr,.int .i64 ci] 156)).cell? ⟨gb,6,none⟩=some (.slice av vals.length kv):=(hBA.cell (p:=⟨gb,6,none⟩) hgl).trans hg
 have HV:=hide (fun nm n=>placeOf_any vb vals (.slice av vals.length kv) nm ((w.alloc (.cells #[.int .i64 ct,.int .i64 cf,.string cr,.int .i64 ci] 156)).drewN n) (ownsRow_same (hv.alloc (.cells #[.int .i64 ct,.int .i64 cf,.string cr,.int .i64 ci] 156)) fun k e=>rfl) hvl)
 have HL:=hide (levelAt_any lb levels _ ci (w.alloc (.cells #[.int .i64 ct,.int .i64 cf,.string cr,.int .i64 ci] 156)) (hl.alloc _) hll)
 have HB:=hide hBA
 have HT:=hide (top_any gb vals.length kv av _ hg' hvl)
 clear hBA hv hl
 cases h1:(cf==1)
 case true=>
  have hres:Hid (rlM vals levels ⟨ct,cf,cr,ci⟩=plM cr vals 0):=hide (by unfold rlM;rw [h1];rfl)
  go_enter Tryz.func132,Tryz.ntmps132
  go_wp2_with fail
  go_quiet ((go_at_call 66;exact Calls.quiet_of ((HV.out cr _).mono fun e w' ⟨q1,q2⟩=>⟨q1,0,q2⟩)))
  go_wp2_with fail
  go_ret
  exact⟨by rw [hres.out];rfl,⟨HB.out.os,HB.out.tape,HB.out.output,HB.out.size,HB.out.block⟩⟩
 cases h2:(cf==2)
 case true=>
  have hres:Hid (rlM vals levels ⟨ct,cf,cr,ci⟩=typeAtM levels ci):=hide (by unfold rlM;rw [h1,h2];rfl)
  generalize typeAtM levels ci=z at*
  go_enter Tryz.func132,Tryz.ntmps132
  go_wp2_with fail
  refine HL.out.mono ?_
  rintro e w1 ⟨rfl,rfl⟩
  go_wp2_with fail
  go_ret
  exact⟨by rw [hres.out];rfl,HB.out⟩
 have hres:Hid (rlM vals levels ⟨ct,cf,cr,ci⟩=(vals.length:Int)- 1):=hide (by unfold rlM;rw [h1,h2];rfl)
 go_enter Tryz.func132,Tryz.ntmps132
 go_wp2_with fail
 refine HT.out.mono ?_
 rintro e w1 ⟨rfl,rfl⟩
 go_wp2_with fail
 go_ret
 exact⟨by rw [hres.out];rfl,HB.out⟩
def highM (vals:List ByteArray)(W:List Wt)(levels:List Int):List Cl→Int→Int
 |[],h=>h
 |c::cs,h=>highM vals W levels cs (if((wAt W c.test).kind==1&&(wAt W c.test).truth)&&decide (h<rlM vals levels c) then rlM vals levels c else h)
theorem Cl.cells_len (x:Cl):x.cells.length=4:=rfl
theorem highest_any (gb vb lb wb cb:Nat)(vals:List ByteArray)(av:Option Addr)(kv:Nat)(W:List Wt)(wv:Value)(levels:List Int)(lv:Value)(cls:List Cl)(cv:Value)(w:World)(hg:w.cell? ⟨gb,6,none⟩=some (.slice av vals.length kv))(hv:w.ownsRow vb 9 1 (.slice av vals.length kv) vals.length (vals.map Value.string))(hvl:vals.length≤100000)
  (hw:w.ownsRow wb 75 4 wv W.length ((W.map Wt.cells).flatten)) (hwl:W.length≤100000) (hl:w.ownsRow lb 3 1 lv levels.length (levels.map (Value.int .i64))) (hll:levels.length≤100000) (hc:w.ownsRow cb 156 4 cv cls.length ((cls.map Cl.cells).flatten)) (hcl:cls.length≤100000):
  Calls Tryz.prog 88 #[.pointer (some ⟨gb,0,none⟩),cv,wv,lv] w fun e w'=>e= .returned (.int .i64 (highM vals W levels cls 0))∧Below w.heap.size w w':=by
 obtain⟨al,kl,rfl⟩:=ownsRow_slice hl
 obtain⟨aw,kw,rfl⟩:=ownsRow_slice hw
 obtain⟨ac,kc',rfl⟩:=ownsRow_slice hc
 have hgl:=block_lt_of_cell hg
 have HX:=hide (And.intro hg (And.intro hv (And.intro hw (And.intro hl hc))))
 clear hg hv hw hl hc
 go_enter Tryz.func88,Tryz.ntmps88
 go_wp2_with fail
 go_loopg [9,10] (cls.length+1) (fun k hv iv wr=> ∃(i:Nat) (h:Int),k+i=cls.length+1∧i≤cls.length∧iv= .int .i64 i∧hv= .int .i64 h∧Hid (Below w.heap.size w wr)∧Hid (highM vals W levels (cls.drop i) h=highM vals W levels cls 0))
 case atStart=>exact⟨0,0,rfl,Nat.zero_le _,rfl,rfl,hide (Below.refl _ _),hide rfl⟩
 case round=>
  obtain⟨i,h,hk,hil,rfl,rfl,HB,hfin⟩:=hrel
  have hHK:=hide hk
  clear hk
  by_cases hlt:i<cls.length
  ·obtain⟨hg,hv,hw,hl,hc⟩:=HX.out
   obtain⟨g,cap,hvv,hbb,hgg⟩:=hc.form (by omega)
   injection hvv with e1 e2 e3
   subst e1 e3
   obtain⟨c,hx⟩: ∃c,cls[i]?=some c:=⟨cls[i],List.getElem?_eq_getElem hlt⟩
   have hcell: ∀j u,c.cells[j]?=some u→j<4→wr.cell? ⟨g,i*4+j,none⟩=some u:=fun j u hu hj=>by
    rw [HB.out.cell (p:=⟨g,i*4+j,none⟩) hgg]
    exact row_cell hc _ _ ((flat_get Cl.cells 4 Cl.cells_len cls i j c hx hj).trans hu)
   have q0:wr.cell? ⟨g,i*4,none⟩=some (.int .i64 c.test):=hcell 0 _ rfl (by omega)
   have hq:=hcell
   have hst:Hid (highM vals W levels (cls.drop i) h=highM vals W levels (cls.drop (i+1)) (if((wAt W c.test).kind==1&&(wAt W c.test).truth)&&decide (h<rlM vals levels c) then rlM vals levels c else h)):=hide (by
    obtain⟨hl,hx'⟩:=List.getElem?_eq_some_iff.1 hx
    rw [List.drop_eq_getElem_cons hl,hx']
    rfl)
   have hlt':(i:Int)<cls.length:=by omega
   have keep: ∀{base e size n:Nat} {v:Value} {xs:List Value},w.ownsRow base e size v n xs→ ∀W',Below w.heap.size w W'→W'.ownsRow base e size v n xs:=fun h W' hB=>ownsRow_same h fun k e=>hB.block k (h.lt k e).2
   have HWA:=hide (worthAt_any wb W _ c.test wr (keep hw wr HB.out) hwl)
   generalize hT:wAt W c.test=T at*
   clear hT
   obtain⟨tk,tb,tn,tt⟩:=T
   simp only at*
   have HQ:=hide hcell
   have HKP:=hide (fun W' hB=>And.intro (keep hv W' hB) (keep hl W' hB))
   have hcg:=hide (fun W' (hB:Below w.heap.size w W')=>(hB.cell (p:=⟨gb,6,none⟩) hgl).trans hg)
   have hbl:=hide (fun(W':World) (hB:Below w.heap.size w W') (j:Nat) (u:Value) (hu:c.cells[j]?=some u) (hj:j<4)=>(show W'.cell? ⟨g,i*4+j,none⟩=some u by
    rw [hB.cell (p:=⟨g,i*4+j,none⟩) hgg]
    exact row_cell hc _ _ ((flat_get Cl.cells 4 Cl.cells_len cls i j c hx hj).trans hu)))
   clear hcell hq keep hg hv hw hl hc hx HQ
   go_wp2_with fail
   refine HWA.out.mono ?_
   rintro e w1 ⟨rfl,hB1⟩
   have hB2:=HB.out.trans (hB1.mono HB.out.size)
   have hB3:=hB2.alloc hB2.size (.cells #[.int .i64 tk,.bool tb,.int .i64 tn,.string tt] 75)
   have p0:(w1.alloc (.cells #[.int .i64 tk,.bool tb,.int .i64 tn,.string tt] 75)).cell? ⟨g,i*4,none⟩=some (.int .i64 c.test):=hbl.out _ hB3 0 _ rfl (by omega)
   have p1:=hbl.out _ hB3 1 _ rfl (by omega)
   have p2:=hbl.out _ hB3 2 _ rfl (by omega)
   have p3:=hbl.out _ hB3 3 _ rfl (by omega)
   have HRL:=hide (resultLevel_c gb vb lb vals av kv levels _ c.test c.form c.result c.inner _ (hcg.out _ hB3) (HKP.out _ hB3).1 hvl (HKP.out _ hB3).2 hll)
   have HB3:=hide hB3
   have hz1:w.heap.size≤w1.heap.size:=hB2.size
   clear hB1 hB2 hB3 q0
   go_wp2_with fail
   refine HRL.out.mono ?_
   rintro e w2 ⟨rfl,hB4⟩
   have hbx:=(hB4.block w1.heap.size (by simp)).trans (heap_alloc_new w1 (.cells #[.int .i64 tk,.bool tb,.int .i64 tn,.string tt] 75))
   obtain⟨s0,s1,s2,s3,_,_,_,_⟩:=boxw hbx
   have hB5:=HB3.out.trans (hB4.mono (by simp;omega))
   have HIT:=hide (isTrue_c tk tb tn tt w2)
   have HB5:=hide hB5
   have hz2:w.heap.size≤w2.heap.size:=hB5.size
   have hst':=hst.out
   generalize rlM vals levels c=z at*
   clear hB4 hB5 hbx p0 p1 p2 p3 hst
   cases htr:(tk==1&&tb)
   case false=>
    rw [htr] at hst' HIT
    have HS:=hide hst'
    clear hst'
    go_wp2_with fail
    refine HIT.out.mono ?_
    rintro e w3 ⟨rfl,hB6⟩
    have HB6:=hide (HB5.out.trans (hB6.mono hz2))
    clear hB6
    go_wp2_with fail
    have hk:=hHK.out
    go_roundg (cls.length - i)
    case measure=>omega
    case rel=>exact⟨i+1,h,by omega,by omega,by go_num,rfl,HB6,hide (by rw [←hfin.out,HS.out];rfl)⟩
   case true=>
    rw [htr] at hst' HIT
    by_cases hz:h<z
    ·have HS:Hid (highM vals W levels (cls.drop i) h=highM vals W levels (cls.drop (i+1)) z):=hide (by rw [hst'];simp [hz])
     clear hst'
     go_wp2_with fail
     refine HIT.out.mono ?_
     rintro e w3 ⟨rfl,hB6⟩
     have HB6:=hide (HB5.out.trans (hB6.mono hz2))
     clear hB6
     go_wp2_with fail
     have hk:=hHK.out
     go_roundg (cls.length - i)
     case measure=>omega
     case rel=>exact⟨i+1,z,by omega,by omega,by go_num,rfl,HB6,hide (by rw [←hfin.out,HS.out])⟩
    ·have HS:Hid (highM vals W levels (cls.drop i) h=highM vals W levels (cls.drop (i+1)) h):=hide (by rw [hst'];simp [hz])
     clear hst'
     go_wp2_with fail
     refine HIT.out.mono ?_
     rintro e w3 ⟨rfl,hB6⟩
     have HB6:=hide (HB5.out.trans (hB6.mono hz2))
     clear hB6
     go_wp2_with fail
     have hk:=hHK.out
     go_roundg (cls.length - i)
     case measure=>omega
     case rel=>exact⟨i+1,h,by omega,by omega,by go_num,rfl,HB6,hide (by rw [←hfin.out,HS.out])⟩
  ·have hlt': ¬(i:Int)<cls.length:=by omega
   have hres:Hid (highM vals W levels cls 0=h):=hide (by rw [←hfin.out,List.drop_of_length_le (by omega)];rfl)
   go_wp2_with fail
   go_ret
   exact⟨by rw [hres.out];rfl,HB.out⟩
def lvsM (vals:List ByteArray)(W:List Wt):List (List Cl)→List Int→List Int
 |[],ls=>ls
 |c::cs,ls=>lvsM vals W cs (ls++[highM vals W ls c 0])
theorem lvsM_append (vals:List ByteArray)(W:List Wt): ∀(xs ys:List (List Cl)) (ls:List Int),lvsM vals W (xs++ys) ls=lvsM vals W ys (lvsM vals W xs ls):=by
 intro xs
 induction xs with
 |nil=>intro ys ls;rfl
 |cons x xs ih=>intro ys ls;exact ih ys _
theorem lvsM_length (vals:List ByteArray)(W:List Wt): ∀(xs:List (List Cl)) (ls:List Int),(lvsM vals W xs ls).length=ls.length+xs.length:=by
 intro xs
 induction xs with
 |nil=>intro ls;rfl
 |cons x xs ih=>intro ls;unfold lvsM;rw [ih];simp;omega
theorem lvsM_step (vals:List ByteArray)(W:List Wt){C:List (List Cl)}{i:Nat}{c:List Cl}(h:C[i]?=some c):
  lvsM vals W (C.take (i+1)) []=lvsM vals W (C.take i) []++[highM vals W (lvsM vals W (C.take i) []) c 0]:=by
 rw [List.take_add_one,h,lvsM_append]
 rfl
theorem box8 {w:World}{g:Nat}{a b c d e f h q:Value}{t:TypeId}(hh:w.heap[g]?=some (.cells #[a,b,c,d,e,f,h,q] t)):
  w.cell? ⟨g,0,none⟩=some a∧w.cell? ⟨g,1,none⟩=some b∧w.cell? ⟨g,2,none⟩=some c∧w.cell? ⟨g,3,none⟩=some d∧w.cell? ⟨g,4,none⟩=some e∧w.cell? ⟨g,5,none⟩=some f∧w.cell? ⟨g,6,none⟩=some h∧w.cell? ⟨g,7,none⟩=some q∧(∀o,w.frozen? ⟨g,o,none⟩=false):=by
 simp [World.cell?,World.frozen?,hh]
structure Gd (w:World)(gb base lb vb:Nat)(st:St)(V:Nat→Value)(iv cv:List Value)(l:List (ByteArray×ByteArray))(av:Value)(vals:List ByteArray)(vv:Value)(qs:List ByteArray)(qv:Value):Prop where
 box: ∃e,w.heap[gb]?=some (.cells #[.int .i64 e,V 3,V 4,V 5,V 6,av,vv,qv] 58)
 tree:TreeV w base st V iv cv
 attrs:w.ownsRow lb 123 2 av l.length ((l.map prCells).flatten)
 vals:w.ownsRow vb 9 1 vv vals.length (vals.map Value.string)
 reqs:w.ownsRow vb 9 1 qv qs.length (qs.map Value.string)
theorem Gd.keep {w w':World}{gb base lb vb:Nat}{st:St}{V:Nat→Value}{iv cv:List Value}{l:List (ByteArray×ByteArray)}{av:Value}{vals:List ByteArray}{vv:Value}{qs:List ByteArray}{qv:Value}(h:Gd w gb base lb vb st V iv cv l av vals vv qs qv)(hB:Below w.heap.size w w'):Gd w' gb base lb vb st V iv cv l av vals vv qs qv:=by
 obtain⟨e,he⟩:=h.box
 exact⟨⟨e,(hB.block gb (lt_of_get he)).trans he⟩,h.tree.same fun k _ hk=>hB.block k hk,ownsRow_same h.attrs fun k e=>hB.block k (h.attrs.lt k e).2,ownsRow_same h.vals fun k e=>hB.block k (h.vals.lt k e).2,ownsRow_same h.reqs fun k e=>hB.block k (h.reqs.lt k e).2⟩
theorem Gd.drewN {w:World}{gb base lb vb:Nat}{st:St}{V:Nat→Value}{iv cv:List Value}{l:List (ByteArray×ByteArray)}{av:Value}{vals:List ByteArray}{vv:Value}{qs:List ByteArray}{qv:Value}(h:Gd w gb base lb vb st V iv cv l av vals vv qs qv)(n:Nat):Gd (w.drewN n) gb base lb vb st V iv cv l av vals vv qs qv:=
 h.keep ⟨rfl,rfl,rfl,Nat.le_refl _,fun _ _=>rfl⟩
def LvPost (ls:List Int)(w:World)(e:Ending)(w':World):Prop:= ∃v,e= .returned v∧w'.ownsRow w.heap.size 3 1 v ls.length (ls.map (Value.int .i64))∧Below w.heap.size w w'
theorem condsLevels_any (gb base lb vb:Nat)(st:St)(V:Nat→Value)(iv cv:List Value)(l:List (ByteArray×ByteArray))(av:Value)(vals:List ByteArray)(vv:Value)(qs:List ByteArray)(qv:Value)(w:World)(h:Gd w gb base lb vb st V iv cv l av vals vv qs qv)(hE:st.E.length≤100000)(hC:st.C.length≤100000)(hCl: ∀c∈st.C,c.length≤100000)(hvl:vals.length≤100000)(hll:l.length≤100000)(hls: ∀p∈l,p.2.size≤600)(hEs: ∀x∈st.E,x.text.size≤600)
  (hW: ∀x∈worthsM l st.E [],x.text.size≤100000000):
  Calls Tryz.prog 47 #[.pointer (some ⟨gb,0,none⟩)] w fun e w'=>LvPost (lvsM vals (worthsM l st.E []) st.C []) w e w':=by
 obtain⟨en,hbx⟩:=h.box
 obtain⟨a3,k3,e3⟩:=ownsRow_slice (h.tree.own 3 (by omega) (by omega))
 obtain⟨a4,k4,e4⟩:=ownsRow_slice (h.tree.own 4 (by omega) (by omega))
 obtain⟨a5,k5,e5⟩:=ownsRow_slice (h.tree.own 5 (by omega) (by omega))
 obtain⟨a6,k6,e6⟩:=ownsRow_slice (h.tree.own 6 (by omega) (by omega))
 obtain⟨aa,ka,rfl⟩:=ownsRow_slice h.attrs
 obtain⟨a7,k7,rfl⟩:=ownsRow_slice h.vals
 obtain⟨a8,k8,rfl⟩:=ownsRow_slice h.reqs
 rw [e3,e4,e5,e6] at hbx
 obtain⟨b0,b1,b2,b3,b4,b5,b6,b7,bf⟩:=box8 hbx
 have hgl:=lt_of_get hbx
 have HG:=hide h
 have HE:=hide (And.intro e5 e6)
 have HS:=hide (And.intro hls (And.intro hEs hW))
 clear h e3 e4 e5 e6 hbx bf hls hEs hW
 have hWw: ∀W',(∀k,W'.heap[k]?=w.heap[k]?)→Calls Tryz.prog 42 #[.pointer (some ⟨gb,1,none⟩),.slice aa l.length ka] W' fun e w'=>WsPost (worthsM l st.E []) W' e w':=fun W' hk=>by
  have hc5:W'.cell? ⟨gb,1+2,none⟩=some (V 5):=by
   rw [HE.out.1]
   have q:w.cell? ⟨gb,3,none⟩=_:=b3
   have hk':=hk gb
   unfold World.cell? at q ⊢
   simp only at q ⊢
   rw [hk']
   exact q
  exact worths_any base gb 1 lb st.E (V 5) l _ W' hc5 (ownsRow_same (HG.out.tree.own 5 (by omega) (by omega)) fun k _=>hk k) hE (ownsRow_same HG.out.attrs fun k _=>hk k) hll HS.out.1 HS.out.2.1 HS.out.2.2
 have HWw:=hide hWw
 clear hWw
 generalize hWd:worthsM l st.E []=W at*
 have hWlen:W.length≤100000:=by rw [←hWd,worthsM_length];simpa using hE
 clear hWd
 go_enter Tryz.func47,Tryz.ntmps47
 go_upto_region 1 with fail
 go_cut [3] (fun s3 wx=>Hid (wx.ownsRow w.heap.size 75 4 s3 W.length ((W.map Wt.cells).flatten))∧Hid (Below w.heap.size w wx))
 case first=>
  go_region_with (go_at_call 42;go_must (refine(HWw.out w.drew (fun _=>rfl)).mono ?_);rintro e w1 ⟨wv,rfl,ho,hb⟩;(obtain⟨aw,kw,rfl⟩:=ownsRow_slice ho);(have HO:=hide ho);(have HB:=hide hb);(clear ho hb))
  all_goals (go_wp2_with fail;go_meet;exact⟨hide HO.out,hide ⟨HB.out.os,HB.out.tape,HB.out.output,HB.out.size,HB.out.block⟩⟩)
 case rest=>
 obtain⟨HO,HB⟩:=hcut
 obtain⟨aw,kw,rfl⟩:=ownsRow_slice HO.out
 have cc: ∀o v,w.cell? ⟨gb,o,none⟩=some v→wc.cell? ⟨gb,o,none⟩=some v:=fun o v q=>(HB.out.cell (p:=⟨gb,o,none⟩) hgl).trans q
 have d4:=cc 4 _ b4
 have hG1:=HG.out.keep HB.out
 have HG1:=hide hG1
 obtain⟨i0,hi,hz0,hz1,hz2⟩:=info_parts info3
 have hmade:=World.ownsRow_made (base:=wc.heap.size) (e:=3) (size:=1) wc #[] 0 (Nat.le_refl _) (by decide) (by simp)
 have HM:=hide hmade
 have HB0:Hid (Below wc.heap.size wc (wc.alloc (.cells #[] 3))):=hide ((Below.refl _ _).alloc (Nat.le_refl _) _)
 have hgc:gb<wc.heap.size:=by have:=HB.out.size;omega
 clear cc hG1 hmade b0 b1 b2 b3 b4 b5 b6 b7
 go_wp2_with fail
 go_loopg [4,5] (st.C.length+1) (fun k tv iv wr=> ∃(i:Nat),k+i=st.C.length+1∧i≤st.C.length∧iv= .int .i64 i∧Hid (wr.ownsRow wc.heap.size 3 1 tv i ((lvsM vals W (st.C.take i) []).map (Value.int .i64)))∧Below wc.heap.size wc wr)
 case atStart=>exact⟨0,rfl,Nat.zero_le _,rfl,hide HM.out,HB0.out⟩
 case round=>
  obtain⟨i,hk,hiC,rfl,HOW,hbel⟩:=hrel
  have hHK:=hide hk
  clear hk
  obtain⟨ag,kg,rfl⟩:=ownsRow_slice HOW.out
  have d4':wr.cell? ⟨gb,4,none⟩=some (.slice a6 (nOf st 6) k6):=(hbel.cell (p:=⟨gb,4,none⟩) hgc).trans d4
  have hn6:nOf st 6=st.C.length:=rfl
  rw [hn6] at d4'
  have hG2:=HG1.out.keep hbel
  have HG2:=hide hG2
  have hz0':wc.heap.size≤wr.heap.size:=hbel.size
  have HBL:=hide hbel
  by_cases hlt:i<st.C.length
  ·obtain⟨c,hx⟩: ∃c,st.C[i]?=some c:=⟨st.C[i],List.getElem?_eq_getElem hlt⟩
   have hcl:=HG1.out.tree.cl
   obtain⟨u,hu⟩: ∃u,cv[i]?=some u:=⟨cv[i]'(by omega),List.getElem?_eq_getElem (by omega)⟩
   have hrow:wr.ownsRow base 133 1 (.slice a6 st.C.length k6) st.C.length cv:=by
    have q:=hG2.tree.own 6 (by omega) (by omega)
    rw [HE.out.2] at q
    exact q
   obtain⟨g,cap,hvv,hbb,hgg⟩:=hrow.form (by omega)
   injection hvv with e1 e2 e3
   subst e1 e3
   have q0:wr.cell? ⟨g,i,none⟩=some u:=row_cell hrow _ _ hu
   have hcr:=hG2.tree.clauses i c u hx hu
   obtain⟨ac,kcc,rfl⟩:=ownsRow_slice hcr
   have hst:=hide (lvsM_step vals W hx)
   have hcl5:=hCl c (List.mem_of_getElem? hx)
   have hul:(lvsM vals W (st.C.take i) []).length=i:=by rw [lvsM_length];simp;omega
   have HUL:=hide hul
   have hlt':(i:Int)<st.C.length:=by omega
   clear hul hx hu hcl hrow hbel
   generalize lvsM vals W (st.C.take i) []=U at*
   have hown0:wr.ownsRow wc.heap.size 3 1 (.slice ag i kg) U.length (U.map (Value.int .i64)):=by rw [HUL.out];exact HOW.out
   have hc6:wr.cell? ⟨gb,6,none⟩=some (.slice a7 vals.length k7):=by
    obtain⟨e,he⟩:=hG2.box
    exact(box8 he).2.2.2.2.2.2.1
   have hw0:wr.ownsRow w.heap.size 75 4 (.slice aw W.length kw) W.length ((W.map Wt.cells).flatten):=ownsRow_same HO.out fun k e=>HBL.out.block k (HO.out.lt k e).2
   have HHI:=hide (fun(W':World) (hk: ∀k,W'.heap[k]?=wr.heap[k]?)=>highest_any gb vb wc.heap.size w.heap.size base vals a7 k7 W _ U (.slice ag i kg) c _ W' ((show W'.cell? ⟨gb,6,none⟩=wr.cell? ⟨gb,6,none⟩ by unfold World.cell?;simp only;rw [hk gb]).trans hc6) (ownsRow_same hG2.vals fun k _=>hk k) hvl (ownsRow_same hw0 fun k _=>hk k) hWlen (ownsRow_same hown0 fun k _=>hk k) (by have:=HUL.out;omega) (ownsRow_same hcr fun k _=>hk k) hcl5)
   have HOWN:=hide hown0
   clear hG2 hown0 hc6 hw0 hcr
   generalize hz:highM vals W U c 0=z at*
   clear hz
   go_wp2_with fail
   refine(HHI.out wr (fun _=>rfl)).mono ?_
   rintro e w2 ⟨rfl,hB2⟩
   have hown2:=ownsRow_same HOWN.out fun k e=>hB2.block k (HOWN.out.lt k e).2
   rw [HUL.out] at hown2
   have HB2:=hide (HBL.out.trans (hB2.mono hz0'))
   have hw2:wc.heap.size≤w2.heap.size:=HB2.out.size
   clear hB2 HHI
   go_wp2_with (at_builtin;go_must (refine wpList_append_lies _ rfl (.tmp 39) (.tmp 41) 60 rfl wc.heap.size 3 i0 _ 1 8 Tryz.underlying60 hi hz0 hz1 hz2 rfl (by omega) _ i _ rfl (hown2.alloc _) ⟨w2.heap.size,0,none⟩ 1 1 [.int .i64 z] rfl rfl ?news ?one (by omega) ?mm ?bys ?base (w2.heap.size+1) (by simp) ?rest))
   case news=>exact World.news_of_block (heap_alloc_new w2 _)
   case one=>intro u hu;simp at hu;subst hu;rfl
   case mm=>unfold maxLen;omega
   case bys=>omega
   case base=>simp;omega
   case rest=>
    intro gb2 cap2 w3 hown3 hgrow hat hlt2
    have hB3:=hide (Below.grown (HB2.out.alloc hw2 _) hgrow (by simp;omega) fun k e=>(hown2.lt k e).1)
    have hown4:Hid (w3.ownsRow wc.heap.size 3 1 (.slice (some ⟨gb2,0,none⟩) (i+1) cap2) (i+1) ((lvsM vals W (st.C.take (i+1)) []).map (Value.int .i64))):=hide (by rw [hst.out];simpa using hown3)
    clear hown3 hgrow hat
    go_wp2_with fail
    have hk:=hHK.out
    go_roundg (st.C.length - i)
    case measure=>omega
    case rel=>exact⟨i+1,by omega,by omega,by go_num,hown4,hB3.out⟩
  ·have hlt': ¬(i:Int)<st.C.length:=by omega
   have hiC':i=st.C.length:=by omega
   have hfin:wr.ownsRow w.heap.size 3 1 (.slice ag i kg) (lvsM vals W st.C []).length ((lvsM vals W st.C []).map (Value.int .i64)):=by
    have hq:=HOW.out
    rw [lvsM_length]
    rw [hiC',List.take_length] at hq
    exact ownsRow_base (by simpa [hiC'] using hq) HB.out.size
   have HF:=hide hfin
   have HBE:=hide (HB.out.trans (hbel.mono HB.out.size))
   clear hfin hiC' hbel hG2
   go_wp2_with fail
   go_ret
   exact⟨_,rfl,HF.out,HBE.out⟩
def vaM (vals:List ByteArray)(i:Int):ByteArray:=if i<0 then⟨#[]⟩ else vals.getD i.toNat ⟨#[]⟩
theorem valueAt_any (gb vb:Nat)(vals:List ByteArray)(av:Option Addr)(kv:Nat)(i:Int)(w:World)(hg:w.cell? ⟨gb,6,none⟩=some (.slice av vals.length kv))(hv:w.ownsRow vb 9 1 (.slice av vals.length kv) vals.length (vals.map Value.string))(hvl:vals.length≤100000):
  Calls Tryz.prog 37 #[.pointer (some ⟨gb,0,none⟩),.int .i64 i] w fun e w'=>e= .returned (.string (vaM vals i))∧w'=w:=by
 by_cases h0:i<0
 ·have hres:Hid (vaM vals i=⟨#[]⟩):=hide (by unfold vaM;rw [if_pos h0])
  go_enter Tryz.func37,Tryz.ntmps37
  go_wp2_with fail
  go_ret
  exact⟨by rw [hres.out];rfl,rfl⟩
 ·obtain⟨j,rfl⟩:=Int.eq_ofNat_of_zero_le (show 0≤i by omega)
  by_cases h1:j<vals.length
  ·obtain⟨g,cap,hvv,hb,hgg⟩:=hv.form (by omega)
   injection hvv with e1 e2 e3
   subst e1 e3
   obtain⟨x,hx⟩: ∃x,vals[j]?=some x:=⟨vals[j],List.getElem?_eq_getElem h1⟩
   have q0:w.cell? ⟨g,j,none⟩=some (.string x):=row_cell hv _ _ (by simp [hx])
   have hres:Hid (vaM vals j=x):=hide (by unfold vaM;rw [if_neg (by omega)];simp [List.getD,hx])
   have h1':(j:Int)<vals.length:=by omega
   clear hx
   go_enter Tryz.func37,Tryz.ntmps37
   go_wp2_with fail
   go_ret
   exact⟨by rw [hres.out];rfl,rfl⟩
  ·have hres:Hid (vaM vals j=⟨#[]⟩):=hide (by unfold vaM;rw [if_neg (by omega)];simp [List.getElem?_eq_none (Nat.le_of_not_lt h1)])
   have h1': ¬(j:Int)<vals.length:=by omega
   go_enter Tryz.func37,Tryz.ntmps37
   go_wp2_with fail
   go_ret
   exact⟨by rw [hres.out];rfl,rfl⟩
end Go.Proofs.YtkoohcilbpdgeaaGreatDoor
