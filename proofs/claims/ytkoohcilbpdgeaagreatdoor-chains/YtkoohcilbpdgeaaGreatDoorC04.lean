import Derived.Test.YtkoohcilbpdgeaaGreatDoorC03
set_option linter.all false
set_option linter.unusedVariables false
set_option linter.unusedSimpArgs false
set_option linter.unnecessarySimpa false
set_option linter.constructorNameAsVariable false
set_option linter.deprecated false
set_option maxRecDepth 100000
set_option maxHeartbeats 6400000
namespace Go.Proofs.YtkoohcilbpdgeaaGreatDoor
open Go Go.RowKit
attribute [local go_sem] wrap64_byte
def typeIfM (b:Bool)(m:Int):Int:=if b then m else 0
def isCmp (t:ByteArray):Bool:=t.toList==[61,61]||t.toList==[33,61]||t.toList==[60]||t.toList==[60,61]||t.toList==[62]||t.toList==[62,61]
def typeOfPairM (t:ByteArray)(l r:Int):Int:=
 if l !=r then 0
 else if t.toList==[124,124]||t.toList==[38,38] then typeIfM (l==1) 1
 else if isCmp t then typeIfM (l !=1) 1
 else if t.toList==[46] then typeIfM (l==3) 3
 else typeIfM (l==2) 2
def typeOfM (x:Ex)(l r:Int):Int:=
 if x.form==0||x.form==4 then 2
 else if x.form==1||x.form==3 then 3
 else if x.form==2 then 1
 else if x.form==7 then typeIfM (l==1) 1
 else if x.form==5 then if x.text.toList==[33] then typeIfM (l==1) 1 else typeIfM (l==2) 2
 else if x.form==6 then typeOfPairM x.text l r
 else 0
def typeAtM (ts:List Int)(i:Int):Int:=if i<0 then 0 else ts.getD i.toNat 0
theorem typeIf_any (v:Bool)(m:Int)(w:World):Calls Tryz.prog 116 #[.bool v,.int .i64 m] w fun e w'=>e= .returned (.int .i64 (typeIfM v m))∧w'=w:=by
 cases v
 all_goals
  go_enter Tryz.func116,Tryz.ntmps116
  go_wp2_with fail
  go_ret
  exact⟨rfl,rfl⟩
theorem typeOfPair_any (t:ByteArray)(l r:Int)(w:World):Calls Tryz.prog 117 #[.string t,.int .i64 l,.int .i64 r] w fun e w'=>e= .returned (.int .i64 (typeOfPairM t l r))∧w'=w:=by
 cases h0:(l !=r)
 ·cases h1:(t.toList==[124,124])
  case true=>
   go_enter Tryz.func117,Tryz.ntmps117
   go_wp2_with (go_at_call 116;refine(typeIf_any _ _ _).mono ?_;rintro e w1 ⟨rfl,rfl⟩)
   go_ret
   exact⟨by simp [typeOfPairM,isCmp,h0,h1],rfl⟩
  cases h2:(t.toList==[38,38])
  case true=>
   go_enter Tryz.func117,Tryz.ntmps117
   go_wp2_with (go_at_call 116;refine(typeIf_any _ _ _).mono ?_;rintro e w1 ⟨rfl,rfl⟩)
   go_ret
   exact⟨by simp [typeOfPairM,isCmp,h0,h1,h2],rfl⟩
  cases h3:(t.toList==[61,61])
  case true=>
   go_enter Tryz.func117,Tryz.ntmps117
   go_wp2_with (go_at_call 116;refine(typeIf_any _ _ _).mono ?_;rintro e w1 ⟨rfl,rfl⟩)
   go_ret
   exact⟨by simp [typeOfPairM,isCmp,h0,h1,h2,h3],rfl⟩
  cases h4:(t.toList==[33,61])
  case true=>
   go_enter Tryz.func117,Tryz.ntmps117
   go_wp2_with (go_at_call 116;refine(typeIf_any _ _ _).mono ?_;rintro e w1 ⟨rfl,rfl⟩)
   go_ret
   exact⟨by simp [typeOfPairM,isCmp,h0,h1,h2,h3,h4],rfl⟩
  cases h5:(t.toList==[60])
  case true=>
   go_enter Tryz.func117,Tryz.ntmps117
   go_wp2_with (go_at_call 116;refine(typeIf_any _ _ _).mono ?_;rintro e w1 ⟨rfl,rfl⟩)
   go_ret
   exact⟨by simp [typeOfPairM,isCmp,h0,h1,h2,h3,h4,h5],rfl⟩
  cases h6:(t.toList==[60,61])
  case true=>
   go_enter Tryz.func117,Tryz.ntmps117
   go_wp2_with (go_at_call 116;refine(typeIf_any _ _ _).mono ?_;rintro e w1 ⟨rfl,rfl⟩)
   go_ret
   exact⟨by simp [typeOfPairM,isCmp,h0,h1,h2,h3,h4,h5,h6],rfl⟩
  cases h7:(t.toList==[62])
  case true=>
   go_enter Tryz.func117,Tryz.ntmps117
   go_wp2_with (go_at_call 116;refine(typeIf_any _ _ _).mono ?_;rintro e w1 ⟨rfl,rfl⟩)
   go_ret
   exact⟨by simp [typeOfPairM,isCmp,h0,h1,h2,h3,h4,h5,h6,h7],rfl⟩
  cases h8:(t.toList==[62,61])
  case true=>
   go_enter Tryz.func117,Tryz.ntmps117
   go_wp2_with (go_at_call 116;refine(typeIf_any _ _ _).mono ?_;rintro e w1 ⟨rfl,rfl⟩)
   go_ret
   exact⟨by simp [typeOfPairM,isCmp,h0,h1,h2,h3,h4,h5,h6,h7,h8],rfl⟩
  cases h9:(t.toList==[46])
  case true=>
   go_enter Tryz.func117,Tryz.ntmps117
   go_wp2_with (go_at_call 116;refine(typeIf_any _ _ _).mono ?_;rintro e w1 ⟨rfl,rfl⟩)
   go_ret
   exact⟨by simp [typeOfPairM,isCmp,h0,h1,h2,h3,h4,h5,h6,h7,h8,h9],rfl⟩
  go_enter Tryz.func117,Tryz.ntmps117
  go_wp2_with (go_at_call 116;refine(typeIf_any _ _ _).mono ?_;rintro e w1 ⟨rfl,rfl⟩)
  go_ret
  exact⟨by simp [typeOfPairM,isCmp,h0,h1,h2,h3,h4,h5,h6,h7,h8,h9],rfl⟩
 ·go_enter Tryz.func117,Tryz.ntmps117
  go_wp2_with fail
  go_ret
  exact⟨by simp [typeOfPairM,h0],rfl⟩
theorem typeOf_any (x:Ex)(l r:Int)(w:World):Calls Tryz.prog 76 #[.agg #[.int .i64 x.form,.int .i64 x.place,.string x.text,.int .i64 x.left,.int .i64 x.right],.int .i64 l,.int .i64 r] w fun e w'=>e= .returned (.int .i64 (typeOfM x l r))∧Below w.heap.size w w':=by
 have hB:=fun o:Obj=>(Below.refl w.heap.size w).alloc (Nat.le_refl _) o
 have HB:=hide hB
 clear hB
 cases f0:(x.form==0)
 case true=>
  go_enter Tryz.func76,Tryz.ntmps76
  go_wp2_with (go_at_call 116;refine(typeIf_any _ _ _).mono ?_;rintro e w1 ⟨rfl,rfl⟩)
  go_ret
  exact⟨by simp [typeOfM,f0],HB.out _⟩
 cases f4:(x.form==4)
 case true=>
  go_enter Tryz.func76,Tryz.ntmps76
  go_wp2_with (go_at_call 116;refine(typeIf_any _ _ _).mono ?_;rintro e w1 ⟨rfl,rfl⟩)
  go_ret
  exact⟨by simp [typeOfM,f0,f4],HB.out _⟩
 cases f1:(x.form==1)
 case true=>
  go_enter Tryz.func76,Tryz.ntmps76
  go_wp2_with (go_at_call 116;refine(typeIf_any _ _ _).mono ?_;rintro e w1 ⟨rfl,rfl⟩)
  go_ret
  exact⟨by simp [typeOfM,f0,f4,f1],HB.out _⟩
 cases f3:(x.form==3)
 case true=>
  go_enter Tryz.func76,Tryz.ntmps76
  go_wp2_with (go_at_call 116;refine(typeIf_any _ _ _).mono ?_;rintro e w1 ⟨rfl,rfl⟩)
  go_ret
  exact⟨by simp [typeOfM,f0,f4,f1,f3],HB.out _⟩
 cases f2:(x.form==2)
 case true=>
  go_enter Tryz.func76,Tryz.ntmps76
  go_wp2_with (go_at_call 116;refine(typeIf_any _ _ _).mono ?_;rintro e w1 ⟨rfl,rfl⟩)
  go_ret
  exact⟨by simp [typeOfM,f0,f4,f1,f3,f2],HB.out _⟩
 cases f7:(x.form==7)
 case true=>
  go_enter Tryz.func76,Tryz.ntmps76
  go_wp2_with (go_at_call 116;refine(typeIf_any _ _ _).mono ?_;rintro e w1 ⟨rfl,rfl⟩)
  go_ret
  exact⟨by simp [typeOfM,f0,f4,f1,f3,f2,f7],HB.out _⟩
 cases f5:(x.form==5)
 case true=>
  cases ht:(x.text.toList==[33])
  all_goals
   go_enter Tryz.func76,Tryz.ntmps76
   go_wp2_with (go_at_call 116;refine(typeIf_any _ _ _).mono ?_;rintro e w1 ⟨rfl,rfl⟩)
   go_ret
   exact⟨by simp [typeOfM,f0,f4,f1,f3,f2,f7,f5,ht],HB.out _⟩
 cases f6:(x.form==6)
 all_goals
  go_enter Tryz.func76,Tryz.ntmps76
  go_wp2_with (go_at_call 117;refine(typeOfPair_any _ _ _ _).mono ?_;rintro e w1 ⟨rfl,rfl⟩)
  go_ret
  exact⟨by simp [typeOfM,f0,f4,f1,f3,f2,f7,f5,f6],HB.out _⟩
theorem flat_get {α:Type}(f:α→List Value)(k:Nat)(hf: ∀x,(f x).length=k): ∀(l:List α) (i j:Nat) (x:α),l[i]?=some x→j<k→((l.map f).flatten)[i*k+j]?=(f x)[j]?:=by
 intro l
 induction l with
 |nil=>intro i j x h;simp at h
 |cons y ys ih=>
  intro i j x h hj
  simp only [List.map_cons,List.flatten_cons]
  cases i with
  |zero=>
   simp at h
   subst h
   rw [List.getElem?_append_left (by rw [hf];omega)]
   simp
  |succ i=>
   have h':ys[i]?=some x:=by simpa using h
   rw [List.getElem?_append_right (by rw [hf,Nat.succ_mul];omega),hf,show(i+1)*k+j - k=i*k+j by rw [Nat.succ_mul];omega]
   exact ih i j x h' hj
theorem row_cell {w:World}{base e size n g cap:Nat}{xs:List Value}(h:w.ownsRow base e size (.slice (some ⟨g,0,none⟩) n cap) n xs)(p:Nat)(u:Value)(hu:xs[p]?=some u):w.cell? ⟨g,p,none⟩=some u:=by
 have:=h.cells (g:=g) rfl p u hu
 rw [show(⟨g,0,none⟩:Addr).add p=⟨g,p,none⟩ by unfold Addr.add;split<;>simp_all] at this
 exact this
theorem typeAt_any (base:Nat)(ts:List Int)(v:Value)(i:Int)(w:World)(h:w.ownsRow base 3 1 v ts.length (ts.map (Value.int .i64)))(hlen:ts.length≤100000):
  Calls Tryz.prog 75 #[v,.int .i64 i] w fun e w'=>e= .returned (.int .i64 (typeAtM ts i))∧w'=w:=by
 obtain⟨a0,c0,rfl⟩:=ownsRow_slice h
 by_cases h0:i<0
 ·go_enter Tryz.func75,Tryz.ntmps75
  go_wp2_with fail
  go_ret
  exact⟨by simp [typeAtM,h0],rfl⟩
 ·obtain⟨j,rfl⟩:=Int.eq_ofNat_of_zero_le (show 0≤i by omega)
  by_cases h1:j<ts.length
  ·obtain⟨g,cap,hv,hb,hg⟩:=h.form (by omega)
   have hc:=row_cell (hv▸h) j (.int .i64 (ts.getD j 0)) (by simp [h1,List.getD])
   injection hv with e1 e2 e3
   subst e1 e3
   have hfin:Hid (typeAtM ts j=ts.getD j 0):=hide (by unfold typeAtM;rw [if_neg (by omega)];simp)
   generalize ts.getD j 0=z at*
   have h1':(j:Int)<ts.length:=by omega
   go_enter Tryz.func75,Tryz.ntmps75
   go_wp2_with fail
   go_ret
   exact⟨by rw [hfin.out];simp,rfl⟩
  ·have hfin:Hid (typeAtM ts j=0):=hide (by unfold typeAtM;rw [if_neg (by omega)];simp [List.getElem?_eq_none (Nat.le_of_not_lt h1)])
   go_enter Tryz.func75,Tryz.ntmps75
   go_wp2_with fail
   go_ret
   exact⟨by rw [hfin.out];simp,rfl⟩
def tfM:List Ex→List Int→Int
 |[],_=> -1
 |x::xs,ts=>if typeOfM x (typeAtM ts x.left) (typeAtM ts x.right)==0 then x.place else tfM xs (ts++[typeOfM x (typeAtM ts x.left) (typeAtM ts x.right)])
def cfM:List Lc→Int→Int
 |[],f=>f
 |x::xs,f=>if x.form !=2||(decide (1≤x.count)&&decide (x.count≤x.items.length)) then cfM xs f else if f== -1||decide (x.place<f) then cfM xs x.place else cfM xs f
theorem Ex.cells_len (x:Ex):x.cells.length=5:=rfl
theorem tfM_step {E:List Ex}{i:Nat}{x:Ex}(h:E[i]?=some x)(ts:List Int):
  tfM (E.drop i) ts=if typeOfM x (typeAtM ts x.left) (typeAtM ts x.right)==0 then x.place else tfM (E.drop (i+1)) (ts++[typeOfM x (typeAtM ts x.left) (typeAtM ts x.right)]):=by
 obtain⟨hl,hx⟩:=List.getElem?_eq_some_iff.1 h
 rw [List.drop_eq_getElem_cons hl,hx]
 rfl
theorem typeFault_any (base b:Nat)(E:List Ex)(v5:Value)(w:World)(hc:w.cell? ⟨b,5,none⟩=some v5)(how:w.ownsRow base 120 5 v5 E.length ((E.map Ex.cells).flatten))(hlen:E.length≤100000):
  Calls Tryz.prog 40 #[.pointer (some ⟨b,3,none⟩)] w fun e w'=>e= .returned (.int .i64 (tfM E []))∧Below w.heap.size w w':=by
 obtain⟨a5,k5,rfl⟩:=ownsRow_slice how
 have hblt:=block_lt_of_cell hc
 obtain⟨i0,hi,hz0,hz1,hz2⟩:=info_parts info3
 have hmade:=World.ownsRow_made (base:=w.heap.size) (e:=3) (size:=1) w #[] 0 (Nat.le_refl _) (by decide) (by simp)
 have hB0:Below w.heap.size w (w.alloc (.cells #[] 3)):=(Below.refl _ _).alloc (Nat.le_refl _) _
 have HM:=hide hmade
 have HB0:=hide hB0
 have HW:=hide how
 clear hmade hB0 how
 go_enter Tryz.func40,Tryz.ntmps40
 go_wp2_with fail
 go_loopg [3,4] (E.length+1) (fun k tv iv wr=> ∃(i:Nat) (ts:List Int),k+i=E.length+1∧i≤E.length∧iv= .int .i64 i∧ts.length=i∧wr.ownsRow w.heap.size 3 1 tv ts.length (ts.map (Value.int .i64))∧Below w.heap.size w wr∧Hid (tfM (E.drop i) ts=tfM E []))
 case atStart=>exact⟨0,[],rfl,Nat.zero_le _,rfl,rfl,HM.out,HB0.out,rfl⟩
 case round=>
  obtain⟨i,ts,hk,hiE,rfl,hts,hown,hbel,hfin⟩:=hrel
  have hc':wr.cell? ⟨b,5,none⟩=some (.slice a5 E.length k5):=(hbel.cell (p:=⟨b,5,none⟩) hblt).trans hc
  have hHK:=hide hk
  clear hk
  by_cases hlt:i<E.length
  ·obtain⟨g,cap,hv,hb,hg⟩:=HW.out.form (by omega)
   injection hv with e1 e2 e3
   subst e1 e3
   obtain⟨x,hx⟩: ∃x,E[i]?=some x:=⟨E[i],List.getElem?_eq_getElem hlt⟩
   have hcell: ∀j u,x.cells[j]?=some u→j<5→wr.cell? ⟨g,i*5+j,none⟩=some u:=fun j u hu hj=>by
    rw [hbel.cell (p:=⟨g,i*5+j,none⟩) hg]
    exact row_cell HW.out _ _ ((flat_get Ex.cells 5 Ex.cells_len E i j x hx hj).trans hu)
   have q0:wr.cell? ⟨g,i*5,none⟩=some (.int .i64 x.form):=hcell 0 _ rfl (by omega)
   have q1:=hcell 1 _ rfl (by omega)
   have q2:=hcell 2 _ rfl (by omega)
   have q3:=hcell 3 _ rfl (by omega)
   have q4:=hcell 4 _ rfl (by omega)
   have hlt':(i:Int)<E.length:=by omega
   have hst:=hide ((tfM_step hx ts).symm.trans hfin.out)
   clear hcell hfin hx
   have HOWN:=hide hown
   have hsz:=hide hbel.size
   have hB1:=hide (hbel.alloc hbel.size (.cells #[.int .i64 x.form,.int .i64 x.place,.string x.text,.int .i64 x.left,.int .i64 x.right] 120))
   have hown1:=hide (hown.alloc (.cells #[.int .i64 x.form,.int .i64 x.place,.string x.text,.int .i64 x.left,.int .i64 x.right] 120))
   clear hown hbel
   go_wp2_with fail
   refine(typeAt_any w.heap.size ts _ _ _ hown1.out (by omega)).mono ?_
   rintro e w1 ⟨rfl,rfl⟩
   go_wp2_with fail
   refine(typeAt_any w.heap.size ts _ _ _ hown1.out (by omega)).mono ?_
   rintro e w1 ⟨rfl,rfl⟩
   go_wp2_with fail
   refine(typeOf_any x _ _ _).mono ?_
   rintro e w2 ⟨rfl,hb2⟩
   have hbx:w2.heap[wr.heap.size]?=some (.cells #[.int .i64 x.form,.int .i64 x.place,.string x.text,.int .i64 x.left,.int .i64 x.right] 120):=(hb2.block wr.heap.size (by simp)).trans (heap_alloc_new wr _)
   have hs2:=hb2.size
   have hown2:w2.ownsRow w.heap.size 3 1 _ ts.length (ts.map (Value.int .i64)):=ownsRow_same hown1.out fun k e=>hb2.block k (hown1.out.lt k e).2
   have hB2:=hide (hB1.out.trans (hb2.mono (by simp;have:=hsz.out;omega)))
   have r1:w2.cell? ⟨wr.heap.size,1,none⟩=some (.int .i64 x.place):=by simp [World.cell?,hbx]
   clear hb2 hbx q0 q1 q2 q3 q4
   have hst':=hst.out
   clear hst
   generalize typeOfM x (typeAtM ts x.left) (typeAtM ts x.right)=o at*
   cases ho:(o==0)
   ·rw [ho,if_neg (by decide)] at hst'
    have hst:=hide hst'
    clear hst'
    have hw2:w.heap.size≤w2.heap.size:=hB2.out.size
    go_wp2_with (at_builtin;go_must (refine wpList_append_lies _ rfl (.tmp 42) (.tmp 44) 60 rfl w.heap.size 3 i0 _ 1 8 Tryz.underlying60 hi hz0 hz1 hz2 rfl (by omega) _ ts.length _ rfl (hown2.alloc _) ⟨w2.heap.size,0,none⟩ 1 1 [.int .i64 o] rfl rfl ?news ?one (by omega) ?mm ?bys ?base (w2.heap.size+1) (by simp) ?rest))
    case news=>exact World.news_of_block (heap_alloc_new w2 _)
    case one=>intro u hu;simp at hu;subst hu;rfl
    case mm=>unfold maxLen;omega
    case bys=>omega
    case base=>simp;omega
    case rest=>
     intro gb cap w3 hown3 hgrow hat hlt2
     have hB3:=hide (Below.grown (hB2.out.alloc hw2 _) hgrow (by simp;omega) fun k e=>(hown2.lt k e).1)
     clear hgrow hat
     go_wp2_with fail
     have hk:=hHK.out
     go_roundg (E.length - i)
     case measure=>omega
     case rel=>exact⟨i+1,ts++[o],by omega,by omega,by go_num,by simp [hts],by simpa [hts] using hown3,hB3.out,hst⟩
   ·rw [ho,if_pos rfl] at hst'
    have hst:=hide hst'
    clear hst'
    go_wp2_with fail
    go_ret
    exact⟨by rw [←hst.out];simp,hB2.out⟩
  ·have hz:Hid (tfM E []= -1):=hide (by rw [←hfin.out,List.drop_of_length_le (by omega)];rfl)
   go_wp2_with fail
   go_ret
   exact⟨by rw [hz.out];simp,hbel⟩
theorem zip_eq (f:Lc→Value→List Value): ∀(L:List Lc) (iv:List Value),List.zipWith f L iv=(L.zip iv).map fun p=>f p.1 p.2:=by
 intro L
 induction L with
 |nil=>intro iv;rfl
 |cons x xs ih=>
  intro iv
  cases iv with
  |nil=>rfl
  |cons v vs=>simp [ih vs]
theorem zip_get (L:List Lc)(iv:List Value): ∀(i j:Nat) (x:Lc) (v:Value),L[i]?=some x→iv[i]?=some v→j<7→((List.zipWith Lc.cells L iv).flatten)[i*7+j]?=(x.cells v)[j]?:=by
 intro i j x v h1 h2 hj
 rw [zip_eq]
 exact flat_get (fun p:Lc×Value=>p.1.cells p.2) 7 (fun _=>rfl) (L.zip iv) i j (x,v) (by rw [List.getElem?_zip_eq_some];exact⟨h1,h2⟩) hj
theorem cfM_step {L:List Lc}{i:Nat}{x:Lc}(h:L[i]?=some x)(f:Int):
  cfM (L.drop i) f=if x.form !=2||(decide (1≤x.count)&&decide (x.count≤x.items.length)) then cfM (L.drop (i+1)) f else if f== -1||decide (x.place<f) then cfM (L.drop (i+1)) x.place else cfM (L.drop (i+1)) f:=by
 obtain⟨hl,hx⟩:=List.getElem?_eq_some_iff.1 h
 rw [List.drop_eq_getElem_cons hl,hx]
 rfl
theorem countFault_any (base b:Nat)(L:List Lc)(v4:Value)(ivs:List Value)(w:World)(hc:w.cell? ⟨b,4,none⟩=some v4)(how:w.ownsRow base 160 7 v4 L.length ((List.zipWith Lc.cells L ivs).flatten))(hil:ivs.length=L.length)
  (hits: ∀(i:Nat) (l:Lc) (v:Value),L[i]?=some l→ivs[i]?=some v→w.ownsRow base 3 1 v l.items.length (l.items.map (Value.int .i64))) (hlen:L.length≤100000):
  Calls Tryz.prog 85 #[.pointer (some ⟨b,3,none⟩)] w fun e w'=>e= .returned (.int .i64 (cfM L (-1)))∧Below w.heap.size w w':=by
 obtain⟨a5,k5,rfl⟩:=ownsRow_slice how
 have hblt:=block_lt_of_cell hc
 have HW:=hide how
 have HI:=hide hits
 clear how hits
 go_enter Tryz.func85,Tryz.ntmps85
 go_wp2_with fail
 go_loopg [3,4] (L.length+1) (fun k fv iv wr=> ∃(i:Nat) (f:Int),k+i=L.length+1∧i≤L.length∧iv= .int .i64 i∧fv= .int .i64 f∧Below w.heap.size w wr∧Hid (cfM (L.drop i) f=cfM L (-1)))
 case atStart=>exact⟨0,-1,rfl,Nat.zero_le _,rfl,rfl,Below.refl _ _,rfl⟩
 case round=>
  obtain⟨i,f,hk,hiE,rfl,rfl,hbel,hfin⟩:=hrel
  have hc':wr.cell? ⟨b,4,none⟩=some (.slice a5 L.length k5):=(hbel.cell (p:=⟨b,4,none⟩) hblt).trans hc
  have hHK:=hide hk
  clear hk
  by_cases hlt:i<L.length
  ·obtain⟨g,cap,hv,hb,hg⟩:=HW.out.form (by omega)
   injection hv with e1 e2 e3
   subst e1 e3
   obtain⟨x,hx⟩: ∃x,L[i]?=some x:=⟨L[i],List.getElem?_eq_getElem hlt⟩
   obtain⟨u,hu⟩: ∃u,ivs[i]?=some u:=⟨ivs[i]'(by omega),List.getElem?_eq_getElem (by omega)⟩
   obtain⟨a6,k6,rfl⟩:=ownsRow_slice (HI.out i x u hx hu)
   have hcell: ∀j z,(x.cells (.slice a6 x.items.length k6))[j]?=some z→j<7→wr.cell? ⟨g,i*7+j,none⟩=some z:=fun j z hz hj=>by
    rw [hbel.cell (p:=⟨g,i*7+j,none⟩) hg]
    exact row_cell HW.out _ _ ((zip_get L ivs i j x _ hx hu hj).trans hz)
   have q0:wr.cell? ⟨g,i*7,none⟩=some (.int .i64 x.form):=hcell 0 _ rfl (by omega)
   have q1:=hcell 1 _ rfl (by omega)
   have q2:=hcell 2 _ rfl (by omega)
   have q3:=hcell 3 _ rfl (by omega)
   have q4:=hcell 4 _ rfl (by omega)
   have q5:=hcell 5 _ rfl (by omega)
   have q6:=hcell 6 _ rfl (by omega)
   have hlt':(i:Int)<L.length:=by omega
   have hst:=hide ((cfM_step hx f).symm.trans hfin.out)
   have hB1:=hide (hbel.alloc hbel.size (.cells #[.int .i64 x.form,.string x.text,.int .i64 x.left,.int .i64 x.right,.int .i64 x.place,.int .i64 x.count,.slice a6 x.items.length k6] 160))
   clear hcell hfin hx hu hbel
   have hk:=hHK
   cases hf:(x.form !=2)
   ·by_cases h1:1≤x.count
    ·by_cases h2:x.count≤x.items.length
     ·have hst':Hid (cfM (L.drop (i+1)) f=cfM L (-1)):=hide (by have:=hst.out;rw [if_pos (by simp [h1,h2])] at this;exact this)
      go_wp2_with fail
      go_roundg (L.length - i)
      case measure=>have:=hk.out;omega
      case rel=>exact⟨i+1,f,by have:=hk.out;omega,by omega,by go_num,rfl,hB1.out,hst'⟩
     ·cases hm:(f== -1)
      ·by_cases hp:x.place<f
       ·have hst':Hid (cfM (L.drop (i+1)) x.place=cfM L (-1)):=hide (by have:=hst.out;rw [if_neg (by simp [hf,h2]),if_pos (by simp [hp])] at this;exact this)
        go_wp2_with fail
        go_roundg (L.length - i)
        case measure=>have:=hk.out;omega
        case rel=>exact⟨i+1,x.place,by have:=hk.out;omega,by omega,by go_num,rfl,hB1.out,hst'⟩
       ·have hst':Hid (cfM (L.drop (i+1)) f=cfM L (-1)):=hide (by have:=hst.out;rw [if_neg (by simp [hf,h2]),if_neg (by simp [hp,hm])] at this;exact this)
        go_wp2_with fail
        go_roundg (L.length - i)
        case measure=>have:=hk.out;omega
        case rel=>exact⟨i+1,f,by have:=hk.out;omega,by omega,by go_num,rfl,hB1.out,hst'⟩
      ·have hst':Hid (cfM (L.drop (i+1)) x.place=cfM L (-1)):=hide (by have:=hst.out;rw [if_neg (by simp [hf,h2]),if_pos (by simp [hm])] at this;exact this)
       go_wp2_with fail
       go_roundg (L.length - i)
       case measure=>have:=hk.out;omega
       case rel=>exact⟨i+1,x.place,by have:=hk.out;omega,by omega,by go_num,rfl,hB1.out,hst'⟩
    ·cases hm:(f== -1)
     ·by_cases hp:x.place<f
      ·have hst':Hid (cfM (L.drop (i+1)) x.place=cfM L (-1)):=hide (by have:=hst.out;rw [if_neg (by simp [hf,h1]),if_pos (by simp [hp])] at this;exact this)
       go_wp2_with fail
       go_roundg (L.length - i)
       case measure=>have:=hk.out;omega
       case rel=>exact⟨i+1,x.place,by have:=hk.out;omega,by omega,by go_num,rfl,hB1.out,hst'⟩
      ·have hst':Hid (cfM (L.drop (i+1)) f=cfM L (-1)):=hide (by have:=hst.out;rw [if_neg (by simp [hf,h1]),if_neg (by simp [hp,hm])] at this;exact this)
       go_wp2_with fail
       go_roundg (L.length - i)
       case measure=>have:=hk.out;omega
       case rel=>exact⟨i+1,f,by have:=hk.out;omega,by omega,by go_num,rfl,hB1.out,hst'⟩
     ·have hst':Hid (cfM (L.drop (i+1)) x.place=cfM L (-1)):=hide (by have:=hst.out;rw [if_neg (by simp [hf,h1]),if_pos (by simp [hm])] at this;exact this)
      go_wp2_with fail
      go_roundg (L.length - i)
      case measure=>have:=hk.out;omega
      case rel=>exact⟨i+1,x.place,by have:=hk.out;omega,by omega,by go_num,rfl,hB1.out,hst'⟩
   ·have hst':Hid (cfM (L.drop (i+1)) f=cfM L (-1)):=hide (by have:=hst.out;rw [if_pos (by rw [hf];rfl)] at this;exact this)
    go_wp2_with fail
    go_roundg (L.length - i)
    case measure=>have:=hk.out;omega
    case rel=>exact⟨i+1,f,by have:=hk.out;omega,by omega,by go_num,rfl,hB1.out,hst'⟩
  ·have hz:Hid (cfM L (-1)=f):=hide (by rw [←hfin.out,List.drop_of_length_le (by omega)];rfl)
   go_wp2_with fail
   go_ret
   exact⟨by rw [hz.out];simp,hbel⟩
def ckM (s:ByteArray)(st:St):Int×Int:=
 if 600<s.size then(1,0)
 else if st.bad then(2,st.at_)
 else if 8<st.A.length then(3,0)
 else if cfM st.L (-1) != -1 then(4,cfM st.L (-1))
 else if tfM st.E [] != -1 then(5,tfM st.E [])
 else(0,0)
def CkPost (s:ByteArray)(w:World)(st:St)(e:Ending)(w':World):Prop:= ∃a b c d V iv cv,e= .returned (.agg #[.int .i64 (ckM s st).1,.int .i64 (ckM s st).2,a,b,c,d])∧Below w.heap.size w w'∧
 (∃a1 n1 c1,a= .slice a1 n1 c1)∧(∃a1 n1 c1,b= .slice a1 n1 c1)∧(∃a1 n1 c1,c= .slice a1 n1 c1)∧(∃a1 n1 c1,d= .slice a1 n1 c1)∧
 ((ckM s st).1=0→a=V 3∧b=V 4∧c=V 5∧d=V 6∧TreeV w' w.heap.size st V iv cv)
theorem sets6 {w w1:World}(h:Below w.heap.size w w1)(a b c d e f:Value):Below w.heap.size w ((((((w1.setCell ⟨w.heap.size,0,none⟩ a).setCell ⟨w.heap.size,1,none⟩ b).setCell ⟨w.heap.size,2,none⟩ c).setCell ⟨w.heap.size,3,none⟩ d).setCell ⟨w.heap.size,4,none⟩ e).setCell ⟨w.heap.size,5,none⟩ f):=
 (((((h.setCell (Nat.le_refl _) _).setCell (Nat.le_refl _) _).setCell (Nat.le_refl _) _).setCell (Nat.le_refl _) _).setCell (Nat.le_refl _) _).setCell (Nat.le_refl _) _
theorem box6 {w:World}{g:Nat}{a b c d e f:Value}{t:TypeId}(hh:w.heap[g]?=some (.cells #[a,b,c,d,e,f] t)):
  w.cell? ⟨g,0,none⟩=some a∧w.cell? ⟨g,1,none⟩=some b∧w.cell? ⟨g,2,none⟩=some c∧w.cell? ⟨g,3,none⟩=some d∧w.cell? ⟨g,4,none⟩=some e∧w.cell? ⟨g,5,none⟩=some f∧(∀o,w.frozen? ⟨g,o,none⟩=false):=by
 simp [World.cell?,World.frozen?,hh]
theorem sets6_box {w1:World}{g:Nat}{x0 x1 x2 x3 x4 x5:Value}{t:TypeId}(h:w1.heap[g]?=some (.cells #[x0,x1,x2,x3,x4,x5] t))(a b c d e f:Value):((((((w1.setCell ⟨g,0,none⟩ a).setCell ⟨g,1,none⟩ b).setCell ⟨g,2,none⟩ c).setCell ⟨g,3,none⟩ d).setCell ⟨g,4,none⟩ e).setCell ⟨g,5,none⟩ f).heap[g]?=some (.cells #[a,b,c,d,e,f] t):=by
 simp [World.setCell,Array.getElem?_modify,h]
theorem sets6_far {w1:World}{g k:Nat}(a b c d e f:Value)(h:k≠g):((((((w1.setCell ⟨g,0,none⟩ a).setCell ⟨g,1,none⟩ b).setCell ⟨g,2,none⟩ c).setCell ⟨g,3,none⟩ d).setCell ⟨g,4,none⟩ e).setCell ⟨g,5,none⟩ f).heap[k]?=w1.heap[k]?:=by
 simp only [World.setCell,Array.getElem?_modify]
 simp [Ne.symm h]
theorem checkSet_long (s:ByteArray)(st:St)(w:World)(hs:600<s.size)(hmax:s.size≤maxLen):
  Calls Tryz.prog 45 #[.string s] w fun e w'=>CkPost s w st e w':=by
 unfold maxLen at hmax
 have hck:Hid (ckM s st=(1,0)):=hide (by unfold ckM;rw [if_pos hs])
 have hB:=fun o:Obj=>(Below.refl w.heap.size w).alloc (Nat.le_refl _) o
 have HB:=hide hB
 clear hB
 have hs':(600:Int)<s.size:=by omega
 go_enter Tryz.func45,Tryz.ntmps45
 go_wp2_with fail
 refine bodyPost_ret (v:= .agg #[.int .i64 1,.int .i64 0,.slice none 0 0,.slice none 0 0,.slice none 0 0,.slice none 0 0]) ?_ rfl ⟨.slice none 0 0,.slice none 0 0,.slice none 0 0,.slice none 0 0,fun _=> .nilFunc,[],[],?_,?_,⟨_,_,_,rfl⟩,⟨_,_,_,rfl⟩,⟨_,_,_,rfl⟩,⟨_,_,_,rfl⟩,fun h=> ?_⟩
 ·simp [results,Tryz.results45,go_sem]
 ·rw [hck.out]
 ·exact HB.out _
 ·rw [hck.out] at h;cases h
theorem checkSet_short (s:ByteArray)(n:Nat)(st:St)(w:World)(hM:MR s n st0=some st)(hs:s.size≤600)(hE:st.E.length≤100000)(hL:st.L.length≤100000)(hA:st.A.length≤100000):
  Calls Tryz.prog 45 #[.string s] w fun e w'=>CkPost s w st e w':=by
 have HM:=hide hM
 clear hM
 have hs': ¬(600:Int)<s.size:=by omega
 have hbx:(w.alloc (.cells #[.int .i64 0,.int .i64 0,.slice none 0 0,.slice none 0 0,.slice none 0 0,.slice none 0 0] 78)).heap[w.heap.size]?=some (.cells #[.int .i64 0,.int .i64 0,.slice none 0 0,.slice none 0 0,.slice none 0 0,.slice none 0 0] 78):=heap_alloc_new w _
 have hB0:=(Below.refl w.heap.size w).alloc (Nat.le_refl _) (.cells #[.int .i64 0,.int .i64 0,.slice none 0 0,.slice none 0 0,.slice none 0 0,.slice none 0 0] 78)
 have HB0:=hide hB0
 have HBX:=hide hbx
 clear hB0 hbx
 go_enter Tryz.func45,Tryz.ntmps45
 go_wp2_with fail
 refine(readSet_any s n st _ HM.out hs).mono ?_
 rintro e w1 ⟨V,iv,cv,rfl,hT,hB1⟩
 obtain⟨a3,k3,e3⟩: ∃a k,V 3= .slice a st.A.length k:=ownsRow_slice (hT.own 3 (by omega) (by omega))
 obtain⟨a4,k4,e4⟩: ∃a k,V 4= .slice a st.L.length k:=ownsRow_slice (hT.own 4 (by omega) (by omega))
 obtain⟨a5,k5,e5⟩: ∃a k,V 5= .slice a st.E.length k:=ownsRow_slice (hT.own 5 (by omega) (by omega))
 obtain⟨a6,k6,e6⟩: ∃a k,V 6= .slice a st.C.length k:=ownsRow_slice (hT.own 6 (by omega) (by omega))
 have HE:=hide (And.intro e3 (And.intro e4 (And.intro e5 e6)))
 simp only [e3,e4,e5,e6]
 have hB1:Below (w.heap.size+1) (w.alloc (.cells #[.int .i64 0,.int .i64 0,.slice none 0 0,.slice none 0 0,.slice none 0 0,.slice none 0 0] 78)) w1:=by
  have h:=hB1
  simp only [World.alloc,Array.size_push] at h ⊢
  exact h
 have hT:TreeV w1 (w.heap.size+1) st V iv cv:=by
  have h:=hT
  simp only [World.alloc,Array.size_push] at h
  exact h
 have hbx1:=(hB1.block w.heap.size (by omega)).trans HBX.out
 have HB1:=hide (HB0.out.trans (hB1.mono (by omega)))
 have hlt1:w.heap.size<w1.heap.size:=(Array.getElem?_eq_some_iff.1 hbx1).1
 have hT2:=hT.same (w':=w1.alloc (.cells #[.string s,.int .i64 st.at_,.bool st.bad,.slice a3 st.A.length k3,.slice a4 st.L.length k4,.slice a5 st.E.length k5,.slice a6 st.C.length k6] 66)) fun k _ hk=>Below.heap_alloc _ _ _ hk
 obtain⟨b0,b1,b2,b3,b4,b5,bf⟩:=box6 hbx1
 have HB2:=hide (HB1.out.alloc (Nat.le_of_lt hlt1) (.cells #[.string s,.int .i64 st.at_,.bool st.bad,.slice a3 st.A.length k3,.slice a4 st.L.length k4,.slice a5 st.E.length k5,.slice a6 st.C.length k6] 66))
 have HT:=hide hT2
 have hnew:w1.heap.size≠w.heap.size:=by omega
 have HBX1:=hide hbx1
 have HCK:=hide (show ckM s st=_ from rfl)
 clear hT hT2 hB1 hbx1 e3 e4 e5 e6
 cases hbad:st.bad
 ·by_cases hmany:8<st.A.length
  ·have hck:Hid (ckM s st=(3,0)):=hide (by unfold ckM;rw [if_neg (by omega),hbad,if_neg (by decide),if_pos hmany])
   clear HCK
   go_wp2_with fail
   refine bodyPost_ret (v:= .agg #[.int .i64 3,.int .i64 0,.slice none 0 0,.slice none 0 0,.slice none 0 0,.slice none 0 0]) ?_ rfl ⟨.slice none 0 0,.slice none 0 0,.slice none 0 0,.slice none 0 0,fun _=> .nilFunc,[],[],?_,?_,⟨_,_,_,rfl⟩,⟨_,_,_,rfl⟩,⟨_,_,_,rfl⟩,⟨_,_,_,rfl⟩,fun h=> ?_⟩
   ·have hz:=box6 ((Below.heap_alloc _ (.cells #[.string s,.int .i64 st.at_,.bool false,.slice a3 st.A.length k3,.slice a4 st.L.length k4,.slice a5 st.E.length k5,.slice a6 st.C.length k6] 66) w.heap.size (by simp [World.setCell];omega)).trans (sets6_box HBX1.out (.int .i64 3) (.int .i64 0) (.slice none 0 0) (.slice none 0 0) (.slice none 0 0) (.slice none 0 0)))
    obtain⟨z0,z1,z2,z3,z4,z5,_⟩:=hz
    simp [results,Tryz.results45,go_sem,z0,z1,z2,z3,z4,z5]
   ·rw [hck.out]
   ·exact(sets6 HB1.out _ _ _ _ _ _).alloc (by simp [World.setCell];omega) _
   ·rw [hck.out] at h;cases h
  ·have hbr:(w1.alloc (.cells #[.string s,.int .i64 st.at_,.bool false,.slice a3 st.A.length k3,.slice a4 st.L.length k4,.slice a5 st.E.length k5,.slice a6 st.C.length k6] 66)).heap[w1.heap.size]?=some (.cells #[.string s,.int .i64 st.at_,.bool false,.slice a3 st.A.length k3,.slice a4 st.L.length k4,.slice a5 st.E.length k5,.slice a6 st.C.length k6] 66):=heap_alloc_new w1 _
   rw [hbad] at HB2 HT
   have hcnt:=countFault_any (w.heap.size+1) w1.heap.size st.L (V 4) iv _ (by rw [HE.out.2.1];exact(box7 hbr).2.2.2.2.1) (HT.out.own 4 (by omega) (by omega)) HT.out.il HT.out.items hL
   have HCN:=hide hcnt
   have HBR:=hide hbr
   clear hcnt hbr
   go_wp2_with fail
   refine HCN.out.mono ?_
   rintro e w2 ⟨rfl,hB3⟩
   have hB3:Below (w1.heap.size+1) (w1.alloc (.cells #[.string s,.int .i64 st.at_,.bool false,.slice a3 st.A.length k3,.slice a4 st.L.length k4,.slice a5 st.E.length k5,.slice a6 st.C.length k6] 66)) w2:=by
    have h:=hB3
    simp only [World.alloc,Array.size_push] at h ⊢
    exact h
   have hbx2:w2.heap[w.heap.size]?=some (.cells #[.int .i64 0,.int .i64 0,.slice none 0 0,.slice none 0 0,.slice none 0 0,.slice none 0 0] 78):=by
    rw [hB3.block w.heap.size (by omega),Below.heap_alloc _ _ _ hlt1]
    exact HBX1.out
   have hbr2:=(hB3.block w1.heap.size (by omega)).trans HBR.out
   have HB3:=hide (HB2.out.trans (hB3.mono (by omega)))
   have HT3:=hide (HT.out.same (w':=w2) fun k _ hk=>hB3.block k (by simpa using hk))
   have hlt2:w1.heap.size<w2.heap.size:=(Array.getElem?_eq_some_iff.1 hbr2).1
   clear b0 b1 b2 b3 b4 b5 bf hB3 HB1 HB2 HT HCN HBX HB0 HM
   obtain⟨b0,b1,b2,b3,b4,b5,bf⟩:=box6 hbx2
   obtain⟨r0,r1,r2,r3,r4,r5,r6,rf⟩:=box7 hbr2
   cases hc:(cfM st.L (-1) != -1)
   ·have hty:=typeFault_any (w.heap.size+1) w1.heap.size st.E (V 5) w2 (by rw [HE.out.2.2.1];exact r5) (HT3.out.own 5 (by omega) (by omega)) hE
    have HTY:=hide hty
    have HR2:=hide hbr2
    have HX2:=hide hbx2
    clear hty hbr2 hbx2
    go_wp2_with fail
    refine HTY.out.mono ?_
    rintro e w3 ⟨rfl,hB4⟩
    have HB4:=hide (HB3.out.trans (hB4.mono (by omega)))
    have HT4:=hide (HT3.out.same (w':=w3) fun k _ hk=>hB4.block k hk)
    have hbx3:=(hB4.block w.heap.size (by omega)).trans HX2.out
    have hbr3:=(hB4.block w1.heap.size (by omega)).trans HR2.out
    clear b0 b1 b2 b3 b4 b5 bf r0 r1 r2 r3 r4 r5 r6 rf hB4 HTY HB3 HT3
    obtain⟨b0,b1,b2,b3,b4,b5,bf⟩:=box6 hbx3
    obtain⟨r0,r1,r2,r3,r4,r5,r6,rf⟩:=box7 hbr3
    clear hbx3 hbr3
    cases ht:(tfM st.E [] != -1)
    ·have hck:Hid (ckM s st=(0,0)):=hide (by unfold ckM;rw [if_neg (by omega),hbad,if_neg (by decide),if_neg hmany,hc,if_neg (by decide),ht,if_neg (by decide)])
     clear HCK
     go_wp2_with fail
     refine bodyPost_ret (v:= .agg #[.int .i64 0,.int .i64 0,.slice a3 st.A.length k3,.slice a4 st.L.length k4,.slice a5 st.E.length k5,.slice a6 st.C.length k6]) ?_ rfl ⟨_,_,_,_,V,iv,cv,?_,?_,⟨_,_,_,rfl⟩,⟨_,_,_,rfl⟩,⟨_,_,_,rfl⟩,⟨_,_,_,rfl⟩,fun _=>⟨HE.out.1.symm,HE.out.2.1.symm,HE.out.2.2.1.symm,HE.out.2.2.2.symm,?_⟩⟩
     ·simp [results,Tryz.results45,go_sem,b0,b1,b2,b3,b4,b5]
     ·rw [hck.out]
     ·exact sets6 HB4.out _ _ _ _ _ _
     ·refine⟨fun o h3 h6=>ownsRow_base ?_ (Nat.le_succ _),HT4.out.il,HT4.out.cl,fun i l v h1 h2=>ownsRow_base ?_ (Nat.le_succ _),fun i l v h1 h2=>ownsRow_base ?_ (Nat.le_succ _)⟩
      ·exact ownsRow_same (HT4.out.own o h3 h6) fun k e=>sets6_far _ _ _ _ _ _ (by have:=((HT4.out.own o h3 h6).lt k e).1;omega)
      ·exact ownsRow_same (HT4.out.items i l v h1 h2) fun k e=>sets6_far _ _ _ _ _ _ (by have:=((HT4.out.items i l v h1 h2).lt k e).1;omega)
      ·exact ownsRow_same (HT4.out.clauses i l v h1 h2) fun k e=>sets6_far _ _ _ _ _ _ (by have:=((HT4.out.clauses i l v h1 h2).lt k e).1;omega)
    ·have hck:Hid (ckM s st=(5,tfM st.E [])):=hide (by unfold ckM;rw [if_neg (by omega),hbad,if_neg (by decide),if_neg hmany,hc,if_neg (by decide),ht,if_pos rfl])
     clear HCK
     go_wp2_with fail
     refine bodyPost_ret (v:= .agg #[.int .i64 5,.int .i64 (tfM st.E []),.slice none 0 0,.slice none 0 0,.slice none 0 0,.slice none 0 0]) ?_ rfl ⟨.slice none 0 0,.slice none 0 0,.slice none 0 0,.slice none 0 0,fun _=> .nilFunc,[],[],?_,?_,⟨_,_,_,rfl⟩,⟨_,_,_,rfl⟩,⟨_,_,_,rfl⟩,⟨_,_,_,rfl⟩,fun h=> ?_⟩
     ·simp [results,Tryz.results45,go_sem,b0,b1,b2,b3,b4,b5,hnew]
     ·rw [hck.out]
     ·exact sets6 HB4.out _ _ _ _ _ _
     ·rw [hck.out] at h;cases h
   ·have hck:Hid (ckM s st=(4,cfM st.L (-1))):=hide (by unfold ckM;rw [if_neg (by omega),hbad,if_neg (by decide),if_neg hmany,hc,if_pos rfl])
    clear HCK
    go_wp2_with fail
    refine bodyPost_ret (v:= .agg #[.int .i64 4,.int .i64 (cfM st.L (-1)),.slice none 0 0,.slice none 0 0,.slice none 0 0,.slice none 0 0]) ?_ rfl ⟨.slice none 0 0,.slice none 0 0,.slice none 0 0,.slice none 0 0,fun _=> .nilFunc,[],[],?_,?_,⟨_,_,_,rfl⟩,⟨_,_,_,rfl⟩,⟨_,_,_,rfl⟩,⟨_,_,_,rfl⟩,fun h=> ?_⟩
    ·simp [results,Tryz.results45,go_sem,b0,b1,b2,b3,b4,b5,hnew]
    ·rw [hck.out]
    ·exact sets6 HB3.out _ _ _ _ _ _
    ·rw [hck.out] at h;cases h
 ·have hck:Hid (ckM s st=(2,(st.at_:Int))):=hide (by unfold ckM;rw [if_neg (by omega),hbad,if_pos rfl])
  clear HCK
  go_wp2_with fail
  refine bodyPost_ret (v:= .agg #[.int .i64 2,.int .i64 st.at_,.slice none 0 0,.slice none 0 0,.slice none 0 0,.slice none 0 0]) ?_ rfl ⟨.slice none 0 0,.slice none 0 0,.slice none 0 0,.slice none 0 0,fun _=> .nilFunc,[],[],?_,?_,⟨_,_,_,rfl⟩,⟨_,_,_,rfl⟩,⟨_,_,_,rfl⟩,⟨_,_,_,rfl⟩,fun h=> ?_⟩
  ·have hz:=box6 ((Below.heap_alloc _ (.cells #[.string s,.int .i64 st.at_,.bool true,.slice a3 st.A.length k3,.slice a4 st.L.length k4,.slice a5 st.E.length k5,.slice a6 st.C.length k6] 66) w.heap.size (by simp [World.setCell];omega)).trans (sets6_box HBX1.out (.int .i64 2) (.int .i64 st.at_) (.slice none 0 0) (.slice none 0 0) (.slice none 0 0) (.slice none 0 0)))
   obtain⟨z0,z1,z2,z3,z4,z5,_⟩:=hz
   simp [results,Tryz.results45,go_sem,z0,z1,z2,z3,z4,z5]
  ·rw [hck.out]
  ·exact(sets6 HB1.out _ _ _ _ _ _).alloc (by simp [World.setCell];omega) _
  ·rw [hck.out] at h;cases h
theorem check_of (s:ByteArray)(st:St)(w:World)(h:Calls Tryz.prog 45 #[.string s] w fun e w'=>CkPost s w st e w'):
  Calls Tryz.prog 25 #[.string s] w fun e w'=>e= .returned (.tuple #[.int .i64 (ckM s st).1,.int .i64 (ckM s st).2])∧Below w.heap.size w w':=by
 have H:=hide h
 clear h
 go_enter Tryz.func25,Tryz.ntmps25
 go_wp2_with fail
 refine H.out.mono ?_
 rintro e w1 ⟨a,b,c,d,V,iv,cv,rfl,hB,⟨a1,n1,k1,rfl⟩,⟨a2,n2,k2,rfl⟩,⟨a3,n3,k3,rfl⟩,⟨a4,n4,k4,rfl⟩,_⟩
 have HB:=hide (hB.alloc hB.size (.cells #[.int .i64 (ckM s st).1,.int .i64 (ckM s st).2,.slice a1 n1 k1,.slice a2 n2 k2,.slice a3 n3 k3,.slice a4 n4 k4] 78))
 clear hB
 go_wp2_with fail
 go_quiet (fail)
 go_wp2_with fail
 go_ret2
 exact⟨by simp,⟨HB.out.os,HB.out.tape,HB.out.output,HB.out.size,HB.out.block⟩⟩
end Go.Proofs.YtkoohcilbpdgeaaGreatDoor
