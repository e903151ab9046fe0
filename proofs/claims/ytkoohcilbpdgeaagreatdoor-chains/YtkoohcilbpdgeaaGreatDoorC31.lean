import Derived.Test.YtkoohcilbpdgeaaGreatDoorC30
set_option linter.all false
set_option linter.unusedVariables false
set_option linter.unusedSimpArgs false
set_option linter.unnecessarySimpa false
set_option linter.constructorNameAsVariable false
set_option linter.deprecated false
set_option maxRecDepth 100000
set_option maxHeartbeats 6400000
namespace Go.Proofs.YtkoohcilbpdgeaaGreatDoor
open Go Go.RowKit
attribute [local go_sem] wrap64_byte
def badC (vals:List ByteArray)(c:Cl):Bool:=c.form==1&&plM c.result vals 0== -1
def hoM (vals:List ByteArray)(C:List (List Cl)):Bool:=C.any fun cls=>cls.any (badC vals)
theorem hasOther_any (tb o base vb:Nat)(st:St)(V:Nat→Value)(iv cv:List Value)(vals:List ByteArray)(vv:Value)(w:World)(hc:w.cell? ⟨tb,o+3,none⟩=some (V 6))(ht:TreeV w base st V iv cv)(hv:w.ownsRow vb 9 1 vv vals.length (vals.map Value.string))(hvl:vals.length≤100000)(hC:st.C.length≤100000)(hCl: ∀c∈st.C,c.length≤100000):
  Calls Tryz.prog 64 #[.pointer (some ⟨tb,o,none⟩),vv] w fun e w'=>e= .returned (.bool (hoM vals st.C))∧ ∃n,w'=w.drewN n:=by
 have hrow0:=ht.own 6 (by omega) (by omega)
 obtain⟨a6,k6,e6⟩:=ownsRow_slice hrow0
 obtain⟨a7,k7,rfl⟩:=ownsRow_slice hv
 have hn6:nOf st 6=st.C.length:=rfl
 have hrow:w.ownsRow base 133 1 (.slice a6 st.C.length k6) st.C.length cv:=by rw [e6] at hrow0;exact hrow0
 rw [e6,hn6] at hc
 have hblt:=block_lt_of_cell hc
 have HT:=hide (And.intro ht (And.intro hv hrow))
 clear ht hv hrow hrow0 e6 hn6
 go_enter Tryz.func64,Tryz.ntmps64
 go_wp2_with fail
 go_loopg [5] (st.C.length+1) (fun k iv' wr=> ∃(i n:Nat),k+i=st.C.length+1∧i≤st.C.length∧iv'= .int .i64 i∧wr=w.drewN n∧Hid (hoM vals (st.C.drop i)=hoM vals st.C))
 case atStart=>exact⟨0,0,rfl,Nat.zero_le _,rfl,rfl,hide rfl⟩
 case round=>
  obtain⟨i,n,hk,hiC,rfl,rfl,hfin⟩:=hrel
  have hHK:=hide hk
  clear hk
  by_cases hlt:i<st.C.length
  ·obtain⟨ht,hv,hrow⟩:=HT.out
   obtain⟨c,hx⟩: ∃c,st.C[i]?=some c:=⟨st.C[i],List.getElem?_eq_getElem hlt⟩
   have hcl:=ht.cl
   obtain⟨u,hu⟩: ∃u,cv[i]?=some u:=⟨cv[i]'(by omega),List.getElem?_eq_getElem (by omega)⟩
   obtain⟨g,cap,hvv,hbb,hgg⟩:=hrow.form (by omega)
   injection hvv with e1 e2 e3
   subst e1 e3
   have q0:w.cell? ⟨g,i,none⟩=some u:=row_cell hrow _ _ hu
   have hcr:=ht.clauses i c u hx hu
   obtain⟨ac,kcc,rfl⟩:=ownsRow_slice hcr
   have hcl5:=hCl c (List.mem_of_getElem? hx)
   have hst:Hid (hoM vals (st.C.drop i)=(c.any (badC vals)||hoM vals (st.C.drop (i+1)))):=hide (by
    obtain⟨hl,hx'⟩:=List.getElem?_eq_some_iff.1 hx
    rw [List.drop_eq_getElem_cons hl,hx']
    rfl)
   have hlt':(i:Int)<st.C.length:=by omega
   have HCR:=hide hcr
   clear hx hu hcl ht hv hrow hcr
   obtain⟨gk0,hgk0⟩: ∃gk0,gk0=gk:=⟨_,rfl⟩
   have HGK0:=hide hgk0
   clear hgk0
   go_wp2_with fail
   go_loopg [7] (c.length+1) (fun k jv wr=> ∃(j m:Nat),k+j=c.length+1∧j≤c.length∧jv= .int .i64 j∧wr=w.drewN m∧Hid ((c.drop j).any (badC vals)=c.any (badC vals)))
   case atStart=>exact⟨0,n,rfl,Nat.zero_le _,rfl,rfl,hide rfl⟩
   case round=>
    obtain⟨j,m,hkj,hjc,rfl,rfl,hfj⟩:=hrel
    have HKJ:=hide hkj
    clear hkj
    by_cases hjl:j<c.length
    ·obtain⟨g2,cap2,hv2,hb2,hg2⟩:=HCR.out.form (by omega)
     injection hv2 with e1 e2 e3
     subst e1 e3
     obtain⟨x,hx⟩: ∃x,c[j]?=some x:=⟨c[j],List.getElem?_eq_getElem hjl⟩
     have hcell: ∀q u,x.cells[q]?=some u→q<4→w.cell? ⟨g2,j*4+q,none⟩=some u:=fun q u hu hq=>row_cell HCR.out _ _ ((flat_get Cl.cells 4 Cl.cells_len c j q x hx hq).trans hu)
     have p1:=hcell 1 _ rfl (by omega)
     have p2:=hcell 2 _ rfl (by omega)
     have hjl':(j:Int)<c.length:=by omega
     have hsj:Hid ((c.drop j).any (badC vals)=(badC vals x||(c.drop (j+1)).any (badC vals))):=hide (by
      obtain⟨hl,hx'⟩:=List.getElem?_eq_some_iff.1 hx
      rw [List.drop_eq_getElem_cons hl,hx']
      rfl)
     have HP:=hide (fun N=>placeOf_any vb vals (.slice a7 vals.length k7) x.result (w.drewN N) (ownsRow_same HT.out.2.1 fun k e=>rfl) hvl)
     clear hcell hx
     cases hf:(x.form==1)
     ·have hbc:Hid (badC vals x=false):=hide (by unfold badC;rw [hf];rfl)
      go_wp2_with fail
      have hk:=HKJ.out
      go_roundg (c.length - j)
      case measure=>omega
      case rel=>exact⟨j+1,m,by omega,by omega,by go_num,rfl,hide (by rw [←hfj.out,hsj.out,hbc.out];rfl)⟩
     ·cases hp:(plM x.result vals 0== -1)
      ·have hbc:Hid (badC vals x=false):=hide (by unfold badC;rw [hf,hp];rfl)
       go_wp2_with (go_at_call 66;refine(HP.out m).mono ?_;rintro e w2 ⟨rfl,rfl⟩)
       have hk:=HKJ.out
       go_roundg (c.length - j)
       case measure=>omega
       case rel=>exact⟨j+1,m,by omega,by omega,by go_num,rfl,hide (by rw [←hfj.out,hsj.out,hbc.out];rfl)⟩
      ·have hbc:Hid (badC vals x=true):=hide (by unfold badC;rw [hf,hp];rfl)
       have hres:Hid (hoM vals st.C=true):=hide (by rw [←hfin.out,hst.out,←hfj.out,hsj.out,hbc.out];rfl)
       go_wp2_with (go_at_call 66;refine(HP.out m).mono ?_;rintro e w2 ⟨rfl,rfl⟩)
       go_ret
       exact⟨by rw [hres.out];rfl,m,rfl⟩
    ·have hjl': ¬(j:Int)<c.length:=by omega
     have hno:Hid (c.any (badC vals)=false):=hide (by rw [←hfj.out,List.drop_of_length_le (by omega)];rfl)
     go_wp2_with fail
     have hk:=hHK.out
     have hg0:=HGK0.out
     go_roundg (gk0 - 1)
     case measure=>omega
     case rel=>exact⟨i+1,m,by omega,by omega,by go_num,rfl,hide (by rw [←hfin.out,hst.out,hno.out];rfl)⟩
  ·have hlt': ¬(i:Int)<st.C.length:=by omega
   have hres:Hid (hoM vals st.C=false):=hide (by rw [←hfin.out,List.drop_of_length_le (by omega)];rfl)
   go_wp2_with fail
   go_ret
   exact⟨by rw [hres.out];rfl,n,rfl⟩
def grM (s a v q:ByteArray)(st:St):Int:=
 if decide (600<s.size)||decide (100<a.size)||decide (60<v.size)||decide (60<q.size) then 1 else if(ckM s st).1 !=0 then(ckM s st).1 else if(raM a).2||(vlM v).2||(rqM q).2 then 6 else if hoM (vlM v).1 st.C then 7 else 0
def isSl (v:Value):Prop:= ∃a n k,v= .slice a n k
def GrPost (s a v q:ByteArray)(st:St)(w:World)(e:Ending)(w':World):Prop:= ∃x1 x2 x3 x4 x5 x6 x7,e= .returned (.agg #[.int .i64 (grM s a v q st),x1,x2,x3,x4,x5,x6,x7])∧Below w.heap.size w w'∧isSl x1∧isSl x2∧isSl x3∧isSl x4∧isSl x5∧isSl x6∧isSl x7∧
 (grM s a v q st=0→ ∃V iv cv,x1=V 3∧x2=V 4∧x3=V 5∧x4=V 6∧TreeV w' w.heap.size st V iv cv∧w'.ownsRow w.heap.size 123 2 x5 (raM a).1.length (((raM a).1.map prCells).flatten)∧w'.ownsRow w.heap.size 9 1 x6 (vlM v).1.length ((vlM v).1.map Value.string)∧w'.ownsRow w.heap.size 9 1 x7 (rqM q).1.length ((rqM q).1.map Value.string))
theorem TreeV.low {w:World}{base base':Nat}{st:St}{V:Nat→Value}{iv cv:List Value}(h:TreeV w base st V iv cv)(hb:base'≤base):TreeV w base' st V iv cv:=
 ⟨fun o h3 h6=>ownsRow_base (h.own o h3 h6) hb,h.il,h.cl,fun i l v h1 h2=>ownsRow_base (h.items i l v h1 h2) hb,fun i l v h1 h2=>ownsRow_base (h.clauses i l v h1 h2) hb⟩
theorem isSl_nil:isSl (.slice none 0 0):=⟨none,0,0,rfl⟩
theorem ground_long (s a v q:ByteArray)(st:St)(w:World)(hs:s.size≤maxLen)(ha:a.size≤maxLen)(hv:v.size≤maxLen)(hq:q.size≤maxLen)(h:600<s.size∨100<a.size∨60<v.size∨60<q.size):Calls Tryz.prog 34 #[.string s,.string a,.string v,.string q] w fun e w'=>GrPost s a v q st w e w':=by
 unfold maxLen at hs ha hv hq
 have hres:Hid (grM s a v q st=1):=hide (by unfold grM;rw [if_pos];simp;omega)
 have hB:=hide fun o:Obj=>(Below.refl w.heap.size w).alloc (Nat.le_refl _) o
 have fin: ∀(W':World),Below w.heap.size w W'→GrPost s a v q st w (.returned (.agg #[.int .i64 1,.slice none 0 0,.slice none 0 0,.slice none 0 0,.slice none 0 0,.slice none 0 0,.slice none 0 0,.slice none 0 0])) W':=fun W' hb=>⟨_,_,_,_,_,_,_,by rw [hres.out],hb,isSl_nil,isSl_nil,isSl_nil,isSl_nil,isSl_nil,isSl_nil,isSl_nil,fun e=>by rw [hres.out] at e;cases e⟩
 have FIN:=hide fin
 clear fin
 by_cases h1:600<s.size
 ·have h1':(600:Int)<s.size:=by omega
  go_enter Tryz.func34,Tryz.ntmps34
  go_wp2_with fail
  refine bodyPost_ret (v:= .agg #[.int .i64 1,.slice none 0 0,.slice none 0 0,.slice none 0 0,.slice none 0 0,.slice none 0 0,.slice none 0 0,.slice none 0 0]) (by simp [results,Tryz.results34,go_sem]) rfl (FIN.out _ (hB.out _))
 ·have h1': ¬(600:Int)<s.size:=by omega
  by_cases h2:100<a.size
  ·have h2':(100:Int)<a.size:=by omega
   go_enter Tryz.func34,Tryz.ntmps34
   go_wp2_with fail
   refine bodyPost_ret (v:= .agg #[.int .i64 1,.slice none 0 0,.slice none 0 0,.slice none 0 0,.slice none 0 0,.slice none 0 0,.slice none 0 0,.slice none 0 0]) (by simp [results,Tryz.results34,go_sem]) rfl (FIN.out _ (hB.out _))
  ·have h2': ¬(100:Int)<a.size:=by omega
   by_cases h3:60<v.size
   ·have h3':(60:Int)<v.size:=by omega
    go_enter Tryz.func34,Tryz.ntmps34
    go_wp2_with fail
    refine bodyPost_ret (v:= .agg #[.int .i64 1,.slice none 0 0,.slice none 0 0,.slice none 0 0,.slice none 0 0,.slice none 0 0,.slice none 0 0,.slice none 0 0]) (by simp [results,Tryz.results34,go_sem]) rfl (FIN.out _ (hB.out _))
   have h3': ¬(60:Int)<v.size:=by omega
   have h4':(60:Int)<q.size:=by omega
   go_enter Tryz.func34,Tryz.ntmps34
   go_wp2_with fail
   refine bodyPost_ret (v:= .agg #[.int .i64 1,.slice none 0 0,.slice none 0 0,.slice none 0 0,.slice none 0 0,.slice none 0 0,.slice none 0 0,.slice none 0 0]) (by simp [results,Tryz.results34,go_sem]) rfl (FIN.out _ (hB.out _))
theorem sets8 {w1:World}{g:Nat}{x0 x1 x2 x3 x4 x5 x6 x7:Value}{t:TypeId}(h:w1.heap[g]?=some (.cells #[x0,x1,x2,x3,x4,x5,x6,x7] t))(a b c d e f k m:Value):((((((((w1.setCell ⟨g,0,none⟩ a).setCell ⟨g,1,none⟩ b).setCell ⟨g,2,none⟩ c).setCell ⟨g,3,none⟩ d).setCell ⟨g,4,none⟩ e).setCell ⟨g,5,none⟩ f).setCell ⟨g,6,none⟩ k).setCell ⟨g,7,none⟩ m).heap[g]?=some (.cells #[a,b,c,d,e,f,k,m] t):=by
 simp [World.setCell,Array.getElem?_modify,h]
theorem below8 {B g:Nat}{w w1:World}(h:Below B w w1)(hg:B≤g)(a b c d e f k m:Value):Below B w ((((((((w1.setCell ⟨g,0,none⟩ a).setCell ⟨g,1,none⟩ b).setCell ⟨g,2,none⟩ c).setCell ⟨g,3,none⟩ d).setCell ⟨g,4,none⟩ e).setCell ⟨g,5,none⟩ f).setCell ⟨g,6,none⟩ k).setCell ⟨g,7,none⟩ m):=
 (((((((h.setCell (p:=⟨g,0,none⟩) hg _).setCell (p:=⟨g,1,none⟩) hg _).setCell (p:=⟨g,2,none⟩) hg _).setCell (p:=⟨g,3,none⟩) hg _).setCell (p:=⟨g,4,none⟩) hg _).setCell (p:=⟨g,5,none⟩) hg _).setCell (p:=⟨g,6,none⟩) hg _).setCell (p:=⟨g,7,none⟩) hg _
theorem far8 {w1:World}{g k:Nat}(a b c d e f x m:Value)(h:k≠g):((((((((w1.setCell ⟨g,0,none⟩ a).setCell ⟨g,1,none⟩ b).setCell ⟨g,2,none⟩ c).setCell ⟨g,3,none⟩ d).setCell ⟨g,4,none⟩ e).setCell ⟨g,5,none⟩ f).setCell ⟨g,6,none⟩ x).setCell ⟨g,7,none⟩ m).heap[k]?=w1.heap[k]?:=by
 simp only [World.setCell,Array.getElem?_modify]
 simp [Ne.symm h]
theorem ground_short (s a v q:ByteArray)(st:St)(w:World)(hs:s.size≤600)(ha:a.size≤100)(hv:v.size≤60)(hq:q.size≤60)(h: ∀W,Calls Tryz.prog 45 #[.string s] W fun e w'=>CkPost s W st e w')(hC:st.C.length≤100000)(hCl: ∀c∈st.C,c.length≤100000)(hvl:(vlM v).1.length≤100000):Calls Tryz.prog 34 #[.string s,.string a,.string v,.string q] w fun e w'=>GrPost s a v q st w e w':=by
 have hs': ¬(600:Int)<s.size:=by omega
 have ha': ¬(100:Int)<a.size:=by omega
 have hv': ¬(60:Int)<v.size:=by omega
 have hq': ¬(60:Int)<q.size:=by omega
 have hgr:Hid (grM s a v q st=if(ckM s st).1 !=0 then(ckM s st).1 else if(raM a).2||(vlM v).2||(rqM q).2 then 6 else if hoM (vlM v).1 st.C then 7 else 0):=hide (by unfold grM;rw [if_neg];simp;omega)
 have hB0:=(Below.refl w.heap.size w).alloc (Nat.le_refl _) (.cells #[.int .i64 0,.slice none 0 0,.slice none 0 0,.slice none 0 0,.slice none 0 0,.slice none 0 0,.slice none 0 0,.slice none 0 0] 58)
 have hX0:=heap_alloc_new w (.cells #[.int .i64 0,.slice none 0 0,.slice none 0 0,.slice none 0 0,.slice none 0 0,.slice none 0 0,.slice none 0 0,.slice none 0 0] 58)
 have H0:=hide (And.intro hB0 hX0)
 have HC:=hide (h (w.alloc (.cells #[.int .i64 0,.slice none 0 0,.slice none 0 0,.slice none 0 0,.slice none 0 0,.slice none 0 0,.slice none 0 0,.slice none 0 0] 58)))
 clear hB0 hX0 h
 go_enter Tryz.func34,Tryz.ntmps34
 go_wp2_with fail
 refine HC.out.mono ?_
 rintro e w1 ⟨y1,y2,y3,y4,V,iv,cv,rfl,hB1,⟨a1,n1,k1,rfl⟩,⟨a2,n2,k2,rfl⟩,⟨a3,n3,k3,rfl⟩,⟨a4,n4,k4,rfl⟩,hT⟩
 obtain⟨hB0,hX0⟩:=H0.out
 clear H0 HC
 have hz0:(w.alloc (.cells #[.int .i64 0,.slice none 0 0,.slice none 0 0,.slice none 0 0,.slice none 0 0,.slice none 0 0,.slice none 0 0,.slice none 0 0] 58)).heap.size=w.heap.size+1:=by simp
 have hB01:=hB0.trans (hB1.mono (by omega))
 have hX1:=(hB1.block w.heap.size (by omega)).trans hX0
 have hz1:w.heap.size<w1.heap.size:=by have:=hB1.size;omega
 generalize hE:(ckM s st).1=E at*
 generalize (ckM s st).2=P at*
 rw [hz0] at hT
 have HT:=hide hT
 have HEE:=hide hE
 clear hE hT hB1 hB0 hX0 hz0
 have hCB:=hB01.alloc hB01.size (.cells #[.int .i64 E,.int .i64 P,.slice a1 n1 k1,.slice a2 n2 k2,.slice a3 n3 k3,.slice a4 n4 k4] 78)
 have hX2:=(Below.heap_alloc w1 (.cells #[.int .i64 E,.int .i64 P,.slice a1 n1 k1,.slice a2 n2 k2,.slice a3 n3 k3,.slice a4 n4 k4] 78) _ hz1).trans hX1
 have HX2:=hide hX2
 have HCB:=hide hCB
 have HZ1:=hide hz1
 clear hz1
 cases hEz:(E !=0)
 case true=>
  have hres:Hid (grM s a v q st=E):=hide (by rw [hgr.out,hEz];rfl)
  obtain⟨b0,b1,b2,b3,b4,b5,b6,b7,bf⟩:=box8 hX2
  have f0:=bf 0
  have f1:=bf 1
  have f2:=bf 2
  have f3:=bf 3
  have f4:=bf 4
  have f5:=bf 5
  have f6:=bf 6
  have f7:=bf 7
  clear hX2 hCB hX1 hB01 bf
  go_wp2_with fail
  obtain⟨z0,z1,z2,z3,z4,z5,z6,z7,_⟩:=box8 (sets8 HX2.out (.int .i64 E) (.slice none 0 0) (.slice none 0 0) (.slice none 0 0) (.slice none 0 0) (.slice none 0 0) (.slice none 0 0) (.slice none 0 0))
  refine bodyPost_ret (v:= .agg #[.int .i64 E,.slice none 0 0,.slice none 0 0,.slice none 0 0,.slice none 0 0,.slice none 0 0,.slice none 0 0,.slice none 0 0]) (by simp [results,Tryz.results34,go_sem,z0,z1,z2,z3,z4,z5,z6,z7]) rfl ?_
  exact⟨_,_,_,_,_,_,_,by rw [hres.out],below8 HCB.out (Nat.le_refl _) _ _ _ _ _ _ _ _,isSl_nil,isSl_nil,isSl_nil,isSl_nil,isSl_nil,isSl_nil,isSl_nil,fun e=>by rw [hres.out] at e;rw [e] at hEz;cases hEz⟩
 have hE0:E=0:=by simpa using hEz
 subst hE0
 obtain⟨hv1,hv2,hv3,hv4,hT1⟩:=HT.out rfl
 have hgr2:Hid (grM s a v q st=if(raM a).2||(vlM v).2||(rqM q).2 then 6 else if hoM (vlM v).1 st.C then 7 else 0):=hide (by rw [hgr.out];rfl)
 have HTV:=hide (And.intro (And.intro hv1 (And.intro hv2 (And.intro hv3 hv4))) hT1)
 have hcb:=heap_alloc_new w1 (.cells #[.int .i64 0,.int .i64 P,.slice a1 n1 k1,.slice a2 n2 k2,.slice a3 n3 k3,.slice a4 n4 k4] 78)
 have HCX:=hide hcb
 have hzw:(w1.alloc (.cells #[.int .i64 0,.int .i64 P,.slice a1 n1 k1,.slice a2 n2 k2,.slice a3 n3 k3,.slice a4 n4 k4] 78)).heap.size=w1.heap.size+1:=by simp
 have HZW:=hide hzw
 clear hgr hEz hv1 hv2 hv3 hv4 hT1 HT hX2 hCB hX1 hB01 hcb hzw
 have HRA:=hide (readAttrs_any a (w1.alloc (.cells #[.int .i64 0,.int .i64 P,.slice a1 n1 k1,.slice a2 n2 k2,.slice a3 n3 k3,.slice a4 n4 k4] 78)) (by omega))
 go_wp2_with fail
 refine HRA.out.mono ?_
 rintro e w2 ⟨lv,rfl,hl2,hB2⟩
 obtain⟨al,kl,rfl⟩:=ownsRow_slice hl2
 have hB02:=HCB.out.trans (hB2.mono HCB.out.size)
 have hX3:=(hB2.block w.heap.size (lt_of_get HX2.out)).trans HX2.out
 have hC3:=(hB2.block w1.heap.size (lt_of_get HCX.out)).trans HCX.out
 have hT2:TreeV w2 (w.heap.size+1) st V iv cv:=(HTV.out.2.same fun k _ hk=>Below.heap_alloc _ _ _ hk).same fun k _ hk=>hB2.block k hk
 have hl2':=ownsRow_base (base':=w.heap.size+1) hl2 (by have:=HZW.out;have:=HZ1.out;omega)
 have H2:=hide (And.intro hB02 (And.intro hX3 (And.intro hC3 (And.intro hT2 hl2'))))
 have hz2:w.heap.size<w2.heap.size:=by have:=hB2.size;have:=HZW.out;have:=HZ1.out;omega
 have HZ2:=hide hz2
 clear hB02 hX3 hC3 hT2 hl2 hl2' hB2 hz2 HRA HX2 HCX HCB
 have HRV:=hide (readValues_any v w2 (by omega))
 generalize hra:(raM a).2=ba at*
 have HBA:=hide hra
 clear hra
 go_wp2_with fail
 refine HRV.out.mono ?_
 rintro e w3 ⟨av,nv,kv,rfl,hB3,hv3⟩
 obtain⟨hB02,hX3,hC3,hT2,hl2⟩:=H2.out
 have hB03:=hB02.trans (hB3.mono hB02.size)
 have hX4:=(hB3.block w.heap.size (lt_of_get hX3)).trans hX3
 have hC4:=(hB3.block w1.heap.size (lt_of_get hC3)).trans hC3
 have hT3:TreeV w3 (w.heap.size+1) st V iv cv:=hT2.same fun k _ hk=>hB3.block k hk
 have hl3:=ownsRow_same hl2 fun k e=>hB3.block k (hl2.lt k e).2
 have hz3:w.heap.size<w3.heap.size:=by have:=hB3.size;have:=HZ2.out;omega
 have HZ3:=hide hz3
 have HB3:=hide hB03
 have HX4:=hide hX4
 have HC4:=hide hC4
 have HL3:=hide (And.intro hT3 hl3)
 have HV3:=hide hv3
 generalize hrv:(vlM v).2=bv at*
 have HBV:=hide hrv
 clear hB02 hX3 hT2 hl2 hB3 hB03 hC3 hT3 hl3 hz3 H2 HRV hrv hv3 hX4 hC4
 have HRQ:=hide (readReqs_any q w3 (by omega))
 go_wp2_with fail
 refine HRQ.out.mono ?_
 rintro e w5 ⟨aq,nq,kq,rfl,hB5,hq5⟩
 have hB05:=HB3.out.trans (hB5.mono HB3.out.size)
 have hX4:=(hB5.block w.heap.size (lt_of_get HX4.out)).trans HX4.out
 have hC4:=(hB5.block w1.heap.size (lt_of_get HC4.out)).trans HC4.out
 have hT5:TreeV w5 (w.heap.size+1) st V iv cv:=HL3.out.1.same fun k _ hk=>hB5.block k hk
 have hl5:=ownsRow_same HL3.out.2 fun k e=>hB5.block k (HL3.out.2.lt k e).2
 have hv5:=fun e=>ownsRow_same (HV3.out e) fun k e2=>hB5.block k ((HV3.out e).lt k e2).2
 have hz5:w.heap.size<w5.heap.size:=by have:=hB5.size;have:=HZ3.out;omega
 have HQ5:=hide hq5
 have hz35:=hide HZ3.out
 clear HZ3 HB3 HX4 HC4 HL3 HV3
 have HZ3:=hide hz5
 have HB3:=hide hB05
 have HX4:=hide hX4
 have HC4:=hide hC4
 have HL3:=hide (And.intro hT5 hl5)
 have HV3:=hide hv5
 generalize hrq:(rqM q).2=bq at*
 have HBQ:=hide hrq
 clear hB5 hB05 hT5 hl5 hv5 hz5 hq5 hrq HRQ
 cases hbb:(ba||bv||bq)
 case true=>
  have hres:Hid (grM s a v q st=6):=hide (by rw [hgr2.out,hbb];rfl)
  clear hX4 hC4
  cases ba
  ·cases bv
   ·have hbq:bq=true:=by simpa using hbb
    subst hbq
    clear hbb
    obtain⟨b0,b1,b2,b3,b4,b5,b6,b7,bf⟩:=box8 HX4.out
    have f0:=bf 0
    have f1:=bf 1
    have f2:=bf 2
    have f3:=bf 3
    have f4:=bf 4
    have f5:=bf 5
    have f6:=bf 6
    have f7:=bf 7
    have HBOX:=hide HX4.out
    clear bf
    go_wp2_with fail
    obtain⟨z0,z1,z2,z3,z4,z5,z6,z7,_⟩:=box8 (sets8 HBOX.out (.int .i64 6) (.slice none 0 0) (.slice none 0 0) (.slice none 0 0) (.slice none 0 0) (.slice none 0 0) (.slice none 0 0) (.slice none 0 0))
    refine bodyPost_ret (v:= .agg #[.int .i64 6,.slice none 0 0,.slice none 0 0,.slice none 0 0,.slice none 0 0,.slice none 0 0,.slice none 0 0,.slice none 0 0]) (by simp [results,Tryz.results34,go_sem,z0,z1,z2,z3,z4,z5,z6,z7]) rfl ?_
    exact⟨_,_,_,_,_,_,_,by rw [hres.out],below8 HB3.out (Nat.le_refl _) _ _ _ _ _ _ _ _,isSl_nil,isSl_nil,isSl_nil,isSl_nil,isSl_nil,isSl_nil,isSl_nil,fun e=>by rw [hres.out] at e;cases e⟩
   ·clear hbb
    obtain⟨b0,b1,b2,b3,b4,b5,b6,b7,bf⟩:=box8 HX4.out
    have f0:=bf 0
    have f1:=bf 1
    have f2:=bf 2
    have f3:=bf 3
    have f4:=bf 4
    have f5:=bf 5
    have f6:=bf 6
    have f7:=bf 7
    have HBOX:=hide HX4.out
    clear bf
    go_wp2_with fail
    obtain⟨z0,z1,z2,z3,z4,z5,z6,z7,_⟩:=box8 (sets8 HBOX.out (.int .i64 6) (.slice none 0 0) (.slice none 0 0) (.slice none 0 0) (.slice none 0 0) (.slice none 0 0) (.slice none 0 0) (.slice none 0 0))
    refine bodyPost_ret (v:= .agg #[.int .i64 6,.slice none 0 0,.slice none 0 0,.slice none 0 0,.slice none 0 0,.slice none 0 0,.slice none 0 0,.slice none 0 0]) (by simp [results,Tryz.results34,go_sem,z0,z1,z2,z3,z4,z5,z6,z7]) rfl ?_
    exact⟨_,_,_,_,_,_,_,by rw [hres.out],below8 HB3.out (Nat.le_refl _) _ _ _ _ _ _ _ _,isSl_nil,isSl_nil,isSl_nil,isSl_nil,isSl_nil,isSl_nil,isSl_nil,fun e=>by rw [hres.out] at e;cases e⟩
  ·clear hbb
   obtain⟨b0,b1,b2,b3,b4,b5,b6,b7,bf⟩:=box8 HX4.out
   have f0:=bf 0
   have f1:=bf 1
   have f2:=bf 2
   have f3:=bf 3
   have f4:=bf 4
   have f5:=bf 5
   have f6:=bf 6
   have f7:=bf 7
   have HBOX:=hide HX4.out
   clear bf
   go_wp2_with fail
   obtain⟨z0,z1,z2,z3,z4,z5,z6,z7,_⟩:=box8 (sets8 HBOX.out (.int .i64 6) (.slice none 0 0) (.slice none 0 0) (.slice none 0 0) (.slice none 0 0) (.slice none 0 0) (.slice none 0 0) (.slice none 0 0))
   refine bodyPost_ret (v:= .agg #[.int .i64 6,.slice none 0 0,.slice none 0 0,.slice none 0 0,.slice none 0 0,.slice none 0 0,.slice none 0 0,.slice none 0 0]) (by simp [results,Tryz.results34,go_sem,z0,z1,z2,z3,z4,z5,z6,z7]) rfl ?_
   exact⟨_,_,_,_,_,_,_,by rw [hres.out],below8 HB3.out (Nat.le_refl _) _ _ _ _ _ _ _ _,isSl_nil,isSl_nil,isSl_nil,isSl_nil,isSl_nil,isSl_nil,isSl_nil,fun e=>by rw [hres.out] at e;cases e⟩
 have hba:(ba=false∧bv=false)∧bq=false:=by simpa using hbb
 obtain⟨⟨h1,h2⟩,h3⟩:=hba
 subst h1 h2 h3
 have HQ6:=hide (HQ5.out rfl)
 have hv4:=HV3.out rfl
 obtain⟨q0,q1,q2,q3,q4,q5,_⟩:=box6 hC4
 have hq5:w5.cell? ⟨w1.heap.size,2+3,none⟩=some (V 6):=by rw [←HTV.out.1.2.2.2];exact q5
 have HOT:=hide (hasOther_any w1.heap.size 2 (w.heap.size+1) w2.heap.size st V iv cv (vlM v).1 _ w5 hq5 HL3.out.1 hv4 hvl hC hCl)
 have HV4:=hide hv4
 clear hv4 hq5 hbb hX4 hC4 q0 q1 q2 q3 q4 q5
 have hgr3:Hid (grM s a v q st=if hoM (vlM v).1 st.C then 7 else 0):=hide (by rw [hgr2.out];rfl)
 go_wp2_with fail
 refine HOT.out.mono ?_
 rintro e w4 ⟨rfl,n9,rfl⟩
 have hX5:(w5.drewN n9).heap[w.heap.size]?=_:=HX4.out
 have hB05:Below w.heap.size w (w5.drewN n9):=⟨HB3.out.os,HB3.out.tape,HB3.out.output,HB3.out.size,HB3.out.block⟩
 have HB5:=hide hB05
 have hC5:(w5.drewN n9).heap[w1.heap.size]?=_:=HC4.out
 have hT5:TreeV (w5.drewN n9) (w.heap.size+1) st V iv cv:=HL3.out.1.same fun k _ hk=>rfl
 have hl5:=ownsRow_same (w':=w5.drewN n9) HL3.out.2 fun k e=>rfl
 have hv5:=ownsRow_same (w':=w5.drewN n9) HV4.out fun k e=>rfl
 have hq7:=ownsRow_same (w':=w5.drewN n9) HQ6.out fun k e=>rfl
 have H5:=hide (And.intro hT5 (And.intro hl5 (And.intro hv5 hq7)))
 clear hT5 hl5 hv5 hq7 hB05 HOT
 generalize hho:hoM (vlM v).1 st.C=ho at*
 clear hho
 cases ho
 case true=>
  have hres:Hid (grM s a v q st=7):=hide (by rw [hgr3.out];rfl)
  clear hC5
  obtain⟨b0,b1,b2,b3,b4,b5,b6,b7,bf⟩:=box8 hX5
  have f0:=bf 0
  have f1:=bf 1
  have f2:=bf 2
  have f3:=bf 3
  have f4:=bf 4
  have f5:=bf 5
  have f6:=bf 6
  have f7:=bf 7
  have HBOX:=hide hX5
  clear bf hX5
  go_wp2_with fail
  obtain⟨z0,z1,z2,z3,z4,z5,z6,z7,_⟩:=box8 (sets8 HBOX.out (.int .i64 7) (.slice none 0 0) (.slice none 0 0) (.slice none 0 0) (.slice none 0 0) (.slice none 0 0) (.slice none 0 0) (.slice none 0 0))
  refine bodyPost_ret (v:= .agg #[.int .i64 7,.slice none 0 0,.slice none 0 0,.slice none 0 0,.slice none 0 0,.slice none 0 0,.slice none 0 0,.slice none 0 0]) (by simp [results,Tryz.results34,go_sem,z0,z1,z2,z3,z4,z5,z6,z7]) rfl ?_
  exact⟨_,_,_,_,_,_,_,by rw [hres.out],below8 HB5.out (Nat.le_refl _) _ _ _ _ _ _ _ _,isSl_nil,isSl_nil,isSl_nil,isSl_nil,isSl_nil,isSl_nil,isSl_nil,fun e=>by rw [hres.out] at e;cases e⟩
 have hres:Hid (grM s a v q st=0):=hide (by rw [hgr3.out];rfl)
 obtain⟨b0,b1,b2,b3,b4,b5,b6,b7,bf⟩:=box8 hX5
 obtain⟨q0,q1,q2,q3,q4,q5,_⟩:=box6 hC5
 have f0:=bf 0
 have f1:=bf 1
 have f2:=bf 2
 have f3:=bf 3
 have f4:=bf 4
 have f5:=bf 5
 have f6:=bf 6
 have f7:=bf 7
 have HX5:=hide hX5
 clear bf hX5 hC5
 go_wp2_with fail
 obtain⟨z0,z1,z2,z3,z4,z5,z6,z7,_⟩:=box8 (sets8 HX5.out (.int .i64 0) (.slice a1 n1 k1) (.slice a2 n2 k2) (.slice a3 n3 k3) (.slice a4 n4 k4) (.slice al (raM a).1.length kl) (.slice av nv kv) (.slice aq nq kq))
 refine bodyPost_ret (v:= .agg #[.int .i64 0,.slice a1 n1 k1,.slice a2 n2 k2,.slice a3 n3 k3,.slice a4 n4 k4,.slice al (raM a).1.length kl,.slice av nv kv,.slice aq nq kq]) (by simp [results,Tryz.results34,go_sem,z0,z1,z2,z3,z4,z5,z6,z7]) rfl ?_
 obtain⟨hT5,hl5,hv5,hq7⟩:=H5.out
 have hv6:=ownsRow_base (base':=w.heap.size+1) hv5 (by have:=HZ2.out;omega)
 have hq8:=ownsRow_base (base':=w.heap.size+1) hq7 (by have:=hz35.out;omega)
 refine⟨_,_,_,_,_,_,_,by rw [hres.out],below8 HB5.out (Nat.le_refl _) _ _ _ _ _ _ _ _,⟨_,_,_,rfl⟩,⟨_,_,_,rfl⟩,⟨_,_,_,rfl⟩,⟨_,_,_,rfl⟩,⟨_,_,_,rfl⟩,⟨_,_,_,rfl⟩,⟨_,_,_,rfl⟩,fun _=>⟨V,iv,cv,HTV.out.1.1,HTV.out.1.2.1,HTV.out.1.2.2.1,HTV.out.1.2.2.2,(hT5.same fun k hk _=>far8 _ _ _ _ _ _ _ _ (by omega)).low (by omega),?_,?_,?_⟩⟩
 ·exact ownsRow_base (ownsRow_same hl5 fun k e=>far8 _ _ _ _ _ _ _ _ (by have:=(hl5.lt k e).1;omega)) (by omega)
 ·exact ownsRow_base (ownsRow_same hv6 fun k e=>far8 _ _ _ _ _ _ _ _ (by have:=(hv6.lt k e).1;omega)) (by omega)
 ·exact ownsRow_base (ownsRow_same hq8 fun k e=>far8 _ _ _ _ _ _ _ _ (by have:=(hq8.lt k e).1;omega)) (by omega)
end Go.Proofs.YtkoohcilbpdgeaaGreatDoor
