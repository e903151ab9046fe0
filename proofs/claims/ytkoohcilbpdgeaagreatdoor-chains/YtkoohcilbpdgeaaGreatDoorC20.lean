import Derived.Test.YtkoohcilbpdgeaaGreatDoorC19
set_option linter.all false
set_option linter.unusedVariables false
set_option linter.unusedSimpArgs false
set_option linter.unnecessarySimpa false
set_option linter.constructorNameAsVariable false
set_option linter.deprecated false
set_option maxRecDepth 100000
set_option maxHeartbeats 6400000
namespace Go.Proofs.YtkoohcilbpdgeaaGreatDoor
open Go Go.RowKit
attribute [local go_sem] wrap64_byte
theorem itoa_pos {n:Int}(h:0≤n):Lib.itoa n=Lib.decDigits n.toNat:=by unfold Lib.itoa;rw [if_neg (by omega)]
theorem itoa_neg {n:Int}(h:n<0):Lib.itoa n=45::Lib.itoa (-n):=by
 rw [itoa_pos (show 0≤ -n by omega)]
 unfold Lib.itoa
 rw [if_pos h,show n.natAbs=(-n).toNat by omega]
theorem dec_small {u:Nat}(h:u<10):Lib.decDigits u=[UInt8.ofNat (48+u)]:=by rw [Lib.decDigits,dif_pos h]
theorem dec_big {u:Nat}(h: ¬u<10):Lib.decDigits u=Lib.decDigits (u/10)++[UInt8.ofNat (48+u%10)]:=by rw [Lib.decDigits,dif_neg h]
theorem dec_len: ∀(k u:Nat),u<10^(k+1)→(Lib.decDigits u).length≤k+1:=by
 intro k
 induction k with
 |zero=>intro u h;rw [dec_small (by simpa using h)];simp
 |succ k ih=>
  intro u h
  by_cases hu:u<10
  ·rw [dec_small hu];simp
  ·rw [dec_big hu]
   have:=ih (u/10) (by rw [Nat.div_lt_iff_lt_mul (by omega)];rw [Nat.pow_succ] at h;exact h)
   simp;omega
def WrPost (t:ByteArray)(w:World)(e:Ending)(w':World):Prop:=e= .returned (.string t)∧Below w.heap.size w w'
theorem conv_digit (w:World)(u:Nat):Sem.run Tryz.prog (convert 142 9 (.slice (some ⟨w.heap.size,0,none⟩) 1 1)) (w.alloc (.cells #[.int .u8 (48+(u:Int)%10)] 5))= .ok (.string ⟨#[UInt8.ofNat (48+u%10)]⟩) (w.alloc (.cells #[.int .u8 (48+(u:Int)%10)] 5)):=by
 rw [conv1 _ _ (48+(u:Int)%10) ((cell_of_row _ _ 0 _ _ _ (heap_alloc_new w _)).trans rfl)]
 rw [show(48+(u:Int)%10).toNat=48+u%10 by omega]
theorem written_pos: ∀(k u:Nat) (w:World),u<10^(k+1)→k≤8→Calls Tryz.prog 56 #[.int .i64 (u:Int)] w fun e w'=>WrPost ⟨(Lib.decDigits u).toArray⟩ w e w':=by
 have small: ∀(u:Nat) (w:World),u<10→Calls Tryz.prog 56 #[.int .i64 (u:Int)] w fun e w'=>WrPost ⟨(Lib.decDigits u).toArray⟩ w e w':=by
  intro u w hu
  have hcv:=conv_digit w u
  have hd:Hid (Lib.decDigits u=[UInt8.ofNat (48+u%10)]):=hide (by rw [dec_small hu,Nat.mod_eq_of_lt hu])
  have hu':(u:Int)<10:=by omega
  have hB:=hide ((Below.refl w.heap.size w).alloc (Nat.le_refl _) (.cells #[.int .u8 (48+(u:Int)%10)] 5))
  go_enter Tryz.func56,Tryz.ntmps56
  go_wp2_with fail
  go_ret
  exact⟨by rw [hd.out];simp,hB.out⟩
 intro k
 induction k with
 |zero=>intro u w hu _;exact small u w (by simpa using hu)
 |succ k ih=>
  intro u w hu hk
  by_cases h10:u<10
  ·exact small u w h10
  ·have hcv:=conv_digit w u
   have hd:Hid ((⟨(Lib.decDigits u).toArray⟩:ByteArray)=⟨(Lib.decDigits (u/10)).toArray⟩++⟨#[UInt8.ofNat (48+u%10)]⟩):=hide (by
    rw [dec_big h10]
    apply ByteArray.ext
    rw [ByteArray.data_append]
    simp)
   have h10': ¬(u:Int)<10:=by omega
   have hB:=hide ((Below.refl w.heap.size w).alloc (Nat.le_refl _) (.cells #[.int .u8 (48+(u:Int)%10)] 5))
   have hlt:u/10<10^(k+1):=by rw [Nat.div_lt_iff_lt_mul (by omega)];rw [Nat.pow_succ] at hu;exact hu
   have hu9:u<10000000000:=by
    have h9: ∀k,k+1≤8→10^(k+1+1)≤10000000000:=by
     intro k hk
     exact Nat.pow_le_pow_right (by omega) (show k+1+1≤10 by omega)
    exact Nat.lt_of_lt_of_le hu (h9 k hk)
   have HC:=hide (show Calls Tryz.prog 56 #[.int .i64 ((u:Int)/10)] (w.alloc (.cells #[.int .u8 (48+(u:Int)%10)] 5)) (fun e w'=>WrPost ⟨(Lib.decDigits (u/10)).toArray⟩ (w.alloc (.cells #[.int .u8 (48+(u:Int)%10)] 5)) e w') from ih (u/10) (w.alloc (.cells #[.int .u8 (48+(u:Int)%10)] 5)) hlt (by omega))
   have hlen:=dec_len k (u/10) hlt
   have hsz:(⟨(Lib.decDigits (u/10)).toArray⟩:ByteArray).size≤1000000000:=by
    show(Lib.decDigits (u/10)).toArray.size≤1000000000
    simp;omega
   generalize (⟨(Lib.decDigits (u/10)).toArray⟩:ByteArray)=D at*
   obtain⟨dg,hdg⟩: ∃dg:ByteArray,dg=⟨#[UInt8.ofNat (48+u%10)]⟩:=⟨_,rfl⟩
   rw [←hdg] at hcv hd
   have hdz:dg.size≤1000000000:=by rw [hdg];show 1≤1000000000;omega
   clear hdg
   clear hlen hlt
   go_enter Tryz.func56,Tryz.ntmps56
   go_wp2_with fail
   refine HC.out.mono ?_
   rintro e w1 ⟨rfl,hB1⟩
   go_wp2_with fail
   go_ret
   exact⟨by rw [hd.out];rfl,hB.out.trans (hB1.mono (by simp))⟩
theorem written_any (n:Int)(w:World)(h: -999999999≤n∧n≤999999999):Calls Tryz.prog 56 #[.int .i64 n] w fun e w'=>WrPost ⟨(Lib.itoa n).toArray⟩ w e w':=by
 have pos: ∀(u:Nat) (w:World),u≤999999999→Calls Tryz.prog 56 #[.int .i64 (u:Int)] w fun e w'=>WrPost ⟨(Lib.itoa u).toArray⟩ w e w':=fun u w hu=>by
  rw [itoa_pos (by omega)]
  exact written_pos 8 u w (by omega) (Nat.le_refl _)
 by_cases h0:0≤n
 ·obtain⟨u,rfl⟩:=Int.eq_ofNat_of_zero_le h0
  exact pos u w (by omega)
 ·obtain⟨u,hu⟩:=Int.eq_ofNat_of_zero_le (show 0≤ -n by omega)
  have HC:=hide (pos u w (by omega))
  have hd:Hid ((⟨(Lib.itoa n).toArray⟩:ByteArray)=⟨#[45]⟩++⟨(Lib.itoa u).toArray⟩):=hide (by
   rw [itoa_neg (by omega),hu]
   apply ByteArray.ext
   rw [ByteArray.data_append]
   simp)
  have hsz:(⟨(Lib.itoa u).toArray⟩:ByteArray).size≤1000000000:=by
   rw [itoa_pos (by omega)]
   have:=dec_len 8 u (by omega)
   show(Lib.decDigits u).toArray.size≤1000000000
   simp;omega
  have hn:n= -(u:Int):=by omega
  generalize (⟨(Lib.itoa u).toArray⟩:ByteArray)=D at*
  have hlt:n<0:=by omega
  have hneg:Hid (-n=(u:Int)):=hide hu
  clear hn hu h0
  go_enter Tryz.func56,Tryz.ntmps56
  go_wp2_with fail
  rw [hneg.out]
  refine HC.out.mono ?_
  rintro e w1 ⟨rfl,hB1⟩
  go_wp2_with fail
  go_ret
  exact⟨by rw [hd.out];rfl,hB1⟩
def prM (x:Wt):ByteArray:=
 if x.kind==1 then(if x.truth then⟨#[116,114,117,101]⟩ else⟨#[102,97,108,115,101]⟩)
 else if x.kind==2 then⟨(Lib.itoa x.num).toArray⟩ else if x.kind==3 then(⟨#[34]⟩++x.text)++⟨#[34]⟩ else⟨#[101,114,114,111,114]⟩
theorem printed_c (xk:Int)(xb:Bool)(xn:Int)(xt:ByteArray)(w:World)(ht:Tab w)(hn: -999999999≤xn∧xn≤999999999)(hsz:xt.size≤900000000):
  Calls Tryz.prog 44 #[.agg #[.int .i64 xk,.bool xb,.int .i64 xn,.string xt]] w fun e w'=>WrPost (prM ⟨xk,xb,xn,xt⟩) w e w':=by
 have hB:=(Below.refl w.heap.size w).alloc (Nat.le_refl _) (.cells #[.int .i64 xk,.bool xb,.int .i64 xn,.string xt] 75)
 have HT:=hide (ht.below hB)
 have HB:=hide hB
 clear hB ht
 cases h1:(xk==1)
 case true=>
  cases xb
  case true=>
   have hres:Hid (prM ⟨xk,true,xn,xt⟩=⟨#[116,114,117,101]⟩):=hide (by unfold prM;rw [h1];rfl)
   go_enter Tryz.func44,Tryz.ntmps44
   go_wp2_with fail
   go_ret
   exact⟨by rw [hres.out];rfl,HB.out⟩
  case false=>
   have hres:Hid (prM ⟨xk,false,xn,xt⟩=⟨#[102,97,108,115,101]⟩):=hide (by unfold prM;rw [h1];rfl)
   go_enter Tryz.func44,Tryz.ntmps44
   go_wp2_with fail
   go_ret
   exact⟨by rw [hres.out];rfl,HB.out⟩
 cases h2:(xk==2)
 case true=>
  have hres:Hid (prM ⟨xk,xb,xn,xt⟩=⟨(Lib.itoa xn).toArray⟩):=hide (by unfold prM;rw [h1,h2];rfl)
  have HC:=hide (fmt10_any xn (by omega) (by omega) _ HT.out)
  go_enter Tryz.func44,Tryz.ntmps44
  go_wp2_with fail
  refine HC.out.mono ?_
  rintro e w1 ⟨rfl,hB1⟩
  generalize (⟨(Lib.itoa xn).toArray⟩:ByteArray)=D at*
  go_wp2_with fail
  go_ret
  exact⟨by rw [hres.out];rfl,HB.out.trans (hB1.mono (by simp))⟩
 cases h3:(xk==3)
 case true=>
  have hres:Hid (prM ⟨xk,xb,xn,xt⟩=(⟨#[34]⟩++xt)++⟨#[34]⟩):=hide (by unfold prM;rw [h1,h2,h3];rfl)
  go_enter Tryz.func44,Tryz.ntmps44
  go_wp2_with fail
  go_ret
  exact⟨by rw [hres.out];rfl,HB.out⟩
 have hres:Hid (prM ⟨xk,xb,xn,xt⟩=⟨#[101,114,114,111,114]⟩):=hide (by unfold prM;rw [h1,h2,h3];rfl)
 go_enter Tryz.func44,Tryz.ntmps44
 go_wp2_with fail
 go_ret
 exact⟨by rw [hres.out];rfl,HB.out⟩
theorem printed_any (x:Wt)(w:World)(ht:Tab w)(hn: -999999999≤x.num∧x.num≤999999999)(hsz:x.text.size≤900000000):
  Calls Tryz.prog 44 #[.agg #[.int .i64 x.kind,.bool x.truth,.int .i64 x.num,.string x.text]] w fun e w'=>WrPost (prM x) w e w':=printed_c x.kind x.truth x.num x.text w ht hn hsz
def st1 (s:ByteArray):St:={st0 with at_:=skip s 0 false}
def RePost (s:ByteArray)(w:World)(r:Int)(st':St)(e:Ending)(w':World):Prop:= ∃V iv cv,e= .returned (.tuple #[.agg #[.string s,.int .i64 st'.at_,.bool (eofM s st'.at_ st'.bad),V 3,V 4,V 5,V 6],.int .i64 r])∧TreeV w' w.heap.size st' V iv cv∧Below w.heap.size w w'
theorem rd_start {w:World}{b:Nat}{s:ByteArray}(hs:s.size≤600)
  (h:w.heap[b]?=some (.cells #[.string s,.int .i64 0,.bool false,.slice none 0 0,.slice none 0 0,.slice none 0 0,.slice none 0 0] 66)):Rd w b s 0 false:=by
 obtain⟨q0,q1,q2,_,_,_,_,qf⟩:=box7 h
 exact⟨q0,q1,q2,qf _,qf _,Nat.zero_le _,hs⟩
theorem TreeV.re {w:World}{base:Nat}{st:St}{V:Nat→Value}{iv cv:List Value}(a:Nat)(d:Bool)(h:TreeV w base {at_:=a,bad:=d,A:=st.A,L:=st.L,E:=st.E,C:=st.C} V iv cv):TreeV w base st V iv cv:=⟨h.own,h.il,h.cl,h.items,h.clauses⟩
theorem readExpr_any (s:ByteArray)(n:Nat)(r:Int)(st':St)(w:World)(hM:M s n 0 0 (st1 s)=some (r,st'))(hs:s.size≤600):
  Calls Tryz.prog 39 #[.string s] w fun e w'=>RePost s w r st' e w':=by
 have HM:=hide hM
 clear hM
 have hg0:((w.alloc (.cells zero7 66)).alloc (.cells #[.string s,.int .i64 0,.bool false,.slice none 0 0,.slice none 0 0,.slice none 0 0,.slice none 0 0] 66)).heap[w.heap.size+1]?=some (.cells #[.string s,.int .i64 0,.bool false,.slice none 0 0,.slice none 0 0,.slice none 0 0,.slice none 0 0] 66):=by
  have h:=heap_alloc_new (w.alloc (.cells zero7 66)) (.cells #[.string s,.int .i64 0,.bool false,.slice none 0 0,.slice none 0 0,.slice none 0 0,.slice none 0 0] 66)
  simp only [World.alloc,Array.size_push] at h
  exact h
 have hI0:Inv (fun k=>k≤w.heap.size) ((w.alloc (.cells zero7 66)).alloc (.cells #[.string s,.int .i64 0,.bool false,.slice none 0 0,.slice none 0 0,.slice none 0 0,.slice none 0 0] 66)) (w.heap.size+1) s st0:=inv_start hs (by omega) hg0
 have hb0:((w.alloc (.cells zero7 66)).alloc (.cells #[.string s,.int .i64 0,.bool false,.slice none 0 0,.slice none 0 0,.slice none 0 0,.slice none 0 0] 66)).heap[w.heap.size]?=some (.cells zero7 66):=by
  rw [Below.heap_alloc _ _ _ (by simp)]
  exact heap_alloc_new w _
 have hF0:Fr (fun k=>k<w.heap.size) w ((w.alloc (.cells zero7 66)).alloc (.cells #[.string s,.int .i64 0,.bool false,.slice none 0 0,.slice none 0 0,.slice none 0 0,.slice none 0 0] 66)):=
  ((Fr.refl _ w).alloc (fun k h=>h) _).alloc (fun k h=>by have h:k<w.heap.size:=h;simp;omega) _
 unfold zero7 at hI0 hb0 hF0
 have HH:=hide (And.intro hI0 (And.intro hb0 hF0))
 clear hI0 hb0 hF0 hg0
 go_enter Tryz.func39,Tryz.ntmps39
 go_wp2_with fail
 obtain⟨hI0,hb0,hF0⟩:=HH.out
 clear HH
 generalize ((w.alloc (.cells #[.string ⟨#[]⟩,.int .i64 0,.bool false,.slice none 0 0,.slice none 0 0,.slice none 0 0,.slice none 0 0] 66)).alloc (.cells #[.string s,.int .i64 0,.bool false,.slice none 0 0,.slice none 0 0,.slice none 0 0,.slice none 0 0] 66))=W0 at*
 refine(blanks_any _ _ _ _ _ hI0.rd).mono ?_
 rintro e w1 ⟨rfl,hr1,hs1⟩
 have hI1:Inv (fun k=>k≤w.heap.size) w1 (w.heap.size+1) s (st1 s):=hI0.sc hr1 hs1
 have hF1:=hs1.fr (X:=fun k=>k≤w.heap.size) (by omega)
 clear hr1 hs1
 go_wp2_with fail
 refine((all_E s n).1 _ _ _ w1 r st' HM.out hI1 (fun j h=>by have:=hI1.lt;have h:j≤w.heap.size:=h;omega)).mono ?_
 rintro e w2 ⟨rfl,hI2,hF2⟩
 have hF3:=hF1.trans hF2
 clear hI1 hF1 hF2 hI0
 go_wp2_with fail
 refine(eof_any _ _ _ _ _ hI2.rd).mono ?_
 rintro e w3 ⟨rfl,hr3,hs3⟩
 have hI3:Inv (fun k=>k≤w.heap.size) w3 (w.heap.size+1) s {st' with at_:=st'.at_,bad:=eofM s st'.at_ st'.bad}:=hI2.sc hr3 hs3
 have hf:=hF3.trans (hs3.fr (X:=fun k=>k≤w.heap.size) (by omega))
 clear hs3 hF3 hI2
 obtain⟨c0,c1,c2,f1,f2,hle,hsz⟩:=id hr3
 obtain⟨V,iv,cv,g⟩:=hI3
 have q3:=g.rows.cell 3 (by omega) (by omega)
 have q4:=g.rows.cell 4 (by omega) (by omega)
 have q5:=g.rows.cell 5 (by omega) (by omega)
 have q6:=g.rows.cell 6 (by omega) (by omega)
 obtain⟨a3,k3,e3⟩:=ownsRow_slice (g.rows.own 3 (by omega) (by omega))
 obtain⟨a4,k4,e4⟩:=ownsRow_slice (g.rows.own 4 (by omega) (by omega))
 obtain⟨a5,k5,e5⟩:=ownsRow_slice (g.rows.own 5 (by omega) (by omega))
 obtain⟨a6,k6,e6⟩:=ownsRow_slice (g.rows.own 6 (by omega) (by omega))
 rw [e3] at q3
 rw [e4] at q4
 rw [e5] at q5
 rw [e6] at q6
 obtain⟨b0,b1,b2,b3,b4,b5,b6,bf⟩:=box7 ((hf.block w.heap.size (Nat.le_refl _)).trans hb0)
 have hFw:=hF0.trans (hf.mono fun k (h:k<w.heap.size)=>Nat.le_of_lt h)
 have HE:=hide (And.intro e3 (And.intro e4 (And.intro e5 e6)))
 have HG:=hide (And.intro g hFw)
 clear e3 e4 e5 e6 g hf hFw hF0 HM hr3
 generalize hbd:eofM s st'.at_ st'.bad=bd at*
 have HBD:=hide hbd
 clear hbd
 go_wp2_with fail
 refine bodyPost_ret (v:= .tuple #[.agg #[.string s,.int .i64 st'.at_,.bool bd,.slice a3 (nOf {at_:=st'.at_,bad:=bd,A:=st'.A,L:=st'.L,E:=st'.E,C:=st'.C} 3) k3,.slice a4 (nOf {at_:=st'.at_,bad:=bd,A:=st'.A,L:=st'.L,E:=st'.E,C:=st'.C} 4) k4,.slice a5 (nOf {at_:=st'.at_,bad:=bd,A:=st'.A,L:=st'.L,E:=st'.E,C:=st'.C} 5) k5,.slice a6 (nOf {at_:=st'.at_,bad:=bd,A:=st'.A,L:=st'.L,E:=st'.E,C:=st'.C} 6) k6],.int .i64 r]) ?_ rfl ⟨V,iv,cv,?_,?_,?_⟩
 ·simp [results,Tryz.results39,go_sem,b0,b1,b2,b3,b4,b5,b6]
 ·rw [HE.out.1,HE.out.2.1,HE.out.2.2.1,HE.out.2.2.2,HBD.out]
 ·exact TreeV.re (st:=st') st'.at_ bd (HG.out.1.tree (by omega) fun k hk=>by
   simp only [World.setCell,Array.getElem?_modify]
   repeat rw [if_neg (by omega)])
 ·have hFw:=HG.out.2
  exact((((((Below.setCell ⟨hFw.os,hFw.tape,hFw.output,hFw.size,hFw.block⟩ (Nat.le_refl _) _).setCell (Nat.le_refl _) _).setCell (Nat.le_refl _) _).setCell (Nat.le_refl _) _).setCell (Nat.le_refl _) _).setCell (Nat.le_refl _) _).setCell (Nat.le_refl _) _
def WoPost (t:ByteArray)(k:Int)(w:World)(e:Ending)(w':World):Prop:=e= .returned (.tuple #[.string t,.int .i64 k])∧Below w.heap.size w w'
theorem worth_long (s a:ByteArray)(w:World)(hs:s.size≤maxLen)(ha:a.size≤maxLen)(h:600<s.size∨100<a.size):Calls Tryz.prog 21 #[.string s,.string a] w fun e w'=>WoPost ⟨#[]⟩ 1 w e w':=by
 unfold maxLen at hs ha
 by_cases h1:600<s.size
 ·have h1':(600:Int)<s.size:=by omega
  go_enter Tryz.func21,Tryz.ntmps21
  go_wp2_with fail
  go_ret2
  exact⟨rfl,Below.refl _ _⟩
 ·have h1': ¬(600:Int)<s.size:=by omega
  have h2':(100:Int)<a.size:=by omega
  go_enter Tryz.func21,Tryz.ntmps21
  go_wp2_with fail
  go_ret2
  exact⟨rfl,Below.refl _ _⟩
def woM (s a:ByteArray)(r:Int)(st:St):ByteArray×Int:=
 if eofM s st.at_ st.bad then(⟨#[]⟩,2) else if tfM st.E [] != -1 then(⟨#[]⟩,5) else if(raM a).2 then(⟨#[]⟩,6) else(prM (wAt (worthsM (raM a).1 st.E []) r),0)
theorem worth_short (s a:ByteArray)(n:Nat)(r:Int)(st:St)(w:World)(hM:M s n 0 0 (st1 s)=some (r,st))(hs:s.size≤600)(ha:a.size≤100)(hlen:st.E.length≤100000)
  (hll:(raM a).1.length≤100000) (hls: ∀p∈(raM a).1,p.2.size≤600) (hE: ∀x∈st.E,x.text.size≤600) (hW: ∀x∈worthsM (raM a).1 st.E [],x.text.size≤100000000∧ -999999999≤x.num∧x.num≤999999999) (ht:Tab w):
  Calls Tryz.prog 21 #[.string s,.string a] w fun e w'=>WoPost (woM s a r st).1 (woM s a r st).2 w e w':=by
 have HR:=hide (readExpr_any s n r st w hM hs)
 have HW:=hide (And.intro hE hW)
 have hs': ¬(600:Int)<s.size:=by omega
 have ha': ¬(100:Int)<a.size:=by omega
 have HT:=hide ht
 clear hM hE hW ht
 go_enter Tryz.func21,Tryz.ntmps21
 go_wp2_with fail
 refine HR.out.mono ?_
 rintro e w1 ⟨V,iv,cv,rfl,hT1,hB1⟩
 have hown:=hT1.own 5 (by omega) (by omega)
 obtain⟨a3,k3,e3⟩:=ownsRow_slice (hT1.own 3 (by omega) (by omega))
 obtain⟨a4,k4,e4⟩:=ownsRow_slice (hT1.own 4 (by omega) (by omega))
 obtain⟨a5,k5,e5⟩:=ownsRow_slice hown
 obtain⟨a6,k6,e6⟩:=ownsRow_slice (hT1.own 6 (by omega) (by omega))
 have hown:w1.ownsRow w.heap.size 120 5 (V 5) st.E.length ((st.E.map Ex.cells).flatten):=hown
 rw [e5] at hown
 rw [e3,e4,e5,e6]
 generalize nOf st 3=n3 at*
 generalize nOf st 4=n4 at*
 generalize hn5:nOf st 5=n5 at*
 generalize nOf st 6=n6 at*
 have hn5':Hid (n5=st.E.length):=hide hn5.symm
 clear hn5 e3 e4 e5 e6 hT1 HR
 have hB1':=hB1
 cases hen:eofM s st.at_ st.bad
 case true=>
  have hres:Hid (woM s a r st=(⟨#[]⟩,2)):=hide (by unfold woM;rw [hen];rfl)
  have HB:=hide (hB1.alloc hB1.size (.cells #[.string s,.int .i64 st.at_,.bool true,.slice a3 n3 k3,.slice a4 n4 k4,.slice a5 n5 k5,.slice a6 n6 k6] 66))
  clear hB1 hB1'
  go_wp2_with fail
  go_ret2
  exact⟨by rw [hres.out];rfl,HB.out⟩
 have hB2:=hB1.alloc hB1.size (.cells #[.string s,.int .i64 st.at_,.bool false,.slice a3 n3 k3,.slice a4 n4 k4,.slice a5 n5 k5,.slice a6 n6 k6] 66)
 have hbx:=heap_alloc_new w1 (.cells #[.string s,.int .i64 st.at_,.bool false,.slice a3 n3 k3,.slice a4 n4 k4,.slice a5 n5 k5,.slice a6 n6 k6] 66)
 have hown2:=hown.alloc (.cells #[.string s,.int .i64 st.at_,.bool false,.slice a3 n3 k3,.slice a4 n4 k4,.slice a5 n5 k5,.slice a6 n6 k6] 66)
 rw [←hn5'.out] at hown2
 have hz1:w.heap.size≤w1.heap.size:=hB1.size
 have HX:=hide (And.intro hB2 (And.intro hbx hown2))
 clear hB2 hbx hown2 hown hB1 hB1'
 go_wp2_with fail
 obtain⟨hB2,hbx,hown2⟩:=HX.out
 clear HX
 have hzz:(w1.alloc (.cells #[.string s,.int .i64 st.at_,.bool false,.slice a3 n3 k3,.slice a4 n4 k4,.slice a5 n5 k5,.slice a6 n6 k6] 66)).heap.size=w1.heap.size+1:=by simp
 generalize (w1.alloc (.cells #[.string s,.int .i64 st.at_,.bool false,.slice a3 n3 k3,.slice a4 n4 k4,.slice a5 n5 k5,.slice a6 n6 k6] 66))=W2 at*
 obtain⟨b0,b1,b2,b3,b4,b5,b6,bf⟩:=box7 hbx
 have hown3:W2.ownsRow w.heap.size 120 5 (.slice a5 n5 k5) st.E.length ((st.E.map Ex.cells).flatten):=by rw [←hn5'.out];exact hown2
 refine(typeFault_any w.heap.size w1.heap.size st.E _ W2 b5 hown3 hlen).mono ?_
 rintro e w3 ⟨rfl,hB3⟩
 cases htf:(tfM st.E [] != -1)
 case true=>
  have hres:Hid (woM s a r st=(⟨#[]⟩,5)):=hide (by unfold woM;rw [hen,htf];rfl)
  have HB:=hide (hB2.trans (hB3.mono (by omega)))
  clear hB3 hB2
  go_wp2_with fail
  go_ret2
  exact⟨by rw [hres.out];rfl,HB.out⟩
 have hB23:=hB2.trans (hB3.mono (by omega))
 have hbx3:=(hB3.block w1.heap.size (by omega)).trans hbx
 have hown4:=ownsRow_same hown3 fun k e=>hB3.block k (hown3.lt k e).2
 have hz3:w1.heap.size<w3.heap.size:=by have:=hB3.size;omega
 have HX:=hide (And.intro hB23 (And.intro hbx3 hown4))
 clear hB2 hB3 hbx hown3 hown2 hB23 hbx3 hown4 b0 b1 b2 b3 b4 b5 b6 bf
 have HR6:Hid ((raM a).2=true→woM s a r st=(⟨#[]⟩,6)):=hide (fun h=>by unfold woM;rw [hen,htf,h];rfl)
 have HR0:Hid ((raM a).2=false→woM s a r st=(prM (wAt (worthsM (raM a).1 st.E []) r),0)):=hide (fun h=>by unfold woM;rw [hen,htf,h];rfl)
 generalize tfM st.E []=tf at*
 go_wp2_with fail
 refine(readAttrs_any a w3 (by omega)).mono ?_
 rintro e w4 ⟨lv,rfl,hl4,hB4⟩
 obtain⟨hB23,hbx3,hown4⟩:=HX.out
 clear HX
 obtain⟨al,kl,rfl⟩:=ownsRow_slice hl4
 cases hra:(raM a).2
 case true=>
  have hres:Hid (woM s a r st=(⟨#[]⟩,6)):=hide (HR6.out hra)
  have HB:=hide (hB23.trans (hB4.mono (by omega)))
  clear hB4 hB23
  go_wp2_with fail
  go_ret2
  exact⟨by rw [hres.out];rfl,HB.out⟩
 have hres:Hid (woM s a r st=(prM (wAt (worthsM (raM a).1 st.E []) r),0)):=hide (HR0.out hra)
 clear HR6 HR0
 have hB24:=hB23.trans (hB4.mono (by omega))
 have hbx4:=(hB4.block w1.heap.size (by omega)).trans hbx3
 have hown5:=ownsRow_same hown4 fun k e=>hB4.block k (hown4.lt k e).2
 have hz4:w1.heap.size<w4.heap.size:=by have:=hB4.size;omega
 have HX:=hide (And.intro hB24 (And.intro hbx4 hown5))
 have HL:=hide hl4
 clear hB4 hB23 hbx3 hown4 hB24 hbx4 hown5 hl4
 go_wp2_with fail
 obtain⟨hB24,hbx4,hown5⟩:=HX.out
 clear HX
 obtain⟨b0,b1,b2,b3,b4,b5,b6,bf⟩:=box7 hbx4
 refine(worths_any w.heap.size w1.heap.size 3 w3.heap.size st.E _ (raM a).1 _ w4 b5 hown5 hlen HL.out hll hls HW.out.1 (fun x hx=>(HW.out.2 x hx).1)).mono ?_
 rintro e w5 ⟨wv,rfl,hw5,hB5⟩
 have hB25:=hB24.trans (hB5.mono (by omega))
 have hwl:(worthsM (raM a).1 st.E []).length≤100000:=by rw [worthsM_length];simpa using hlen
 have hbnd:(wAt (worthsM (raM a).1 st.E []) r).text.size≤100000000∧ -999999999≤(wAt (worthsM (raM a).1 st.E []) r).num∧(wAt (worthsM (raM a).1 st.E []) r).num≤999999999:=by
  rcases wAt_mem (worthsM (raM a).1 st.E []) r with q|q
  ·rw [q];decide
  ·exact HW.out.2 _ q
 have HWA:=hide (worthAt_any w5.heap.size (worthsM (raM a).1 st.E []) wv r w5)
 obtain⟨aw,kw,hwv⟩:=ownsRow_slice hw5
 have HW5:=hide (worthAt_any w4.heap.size (worthsM (raM a).1 st.E []) wv r w5 hw5 hwl)
 clear HWA
 generalize (worthsM (raM a).1 st.E [])=WW at*
 subst hwv
 have HX:=hide hB25
 clear hB25 hB24 hB5 hw5 hbx4 hown5 b0 b1 b2 b3 b4 b5 b6 bf
 go_wp2_with fail
 refine HW5.out.mono ?_
 rintro e w6 ⟨rfl,hB6⟩
 generalize wAt WW r=O at*
 have hz5:w.heap.size≤w5.heap.size:=HX.out.size
 have hz6:w5.heap.size≤w6.heap.size:=hB6.size
 have hB26:=HX.out.trans (hB6.mono hz5)
 have hB7:=hB26.alloc (by omega) (.cells #[.int .i64 O.kind,.bool O.truth,.int .i64 O.num,.string O.text] 75)
 have HC:=hide (printed_any O _ (HT.out.below hB7) hbnd.2 (by omega))
 have HB7:=hide hB7
 clear hB7 hB26 hB6
 go_wp2_with fail
 refine HC.out.mono ?_
 rintro e w7 ⟨rfl,hB8⟩
 have HB8:=hide (HB7.out.trans (hB8.mono (by simp;omega)))
 generalize prM O=D at*
 clear hB8
 go_wp2_with fail
 go_ret2
 exact⟨by rw [hres.out];rfl,HB8.out⟩
theorem worth_bad (s a:ByteArray)(n:Nat)(r:Int)(st:St)(w:World)(hM:M s n 0 0 (st1 s)=some (r,st))(hs:s.size≤600)(ha:a.size≤100)(hb:st.bad=true):Calls Tryz.prog 21 #[.string s,.string a] w fun e w'=>WoPost ⟨#[]⟩ 2 w e w':=by
 have HR:=hide (readExpr_any s n r st w hM hs)
 have hs': ¬(600:Int)<s.size:=by omega
 have ha': ¬(100:Int)<a.size:=by omega
 have hen:Hid (eofM s st.at_ st.bad=true):=hide (by unfold eofM;rw [hb];rfl)
 clear hM hb
 go_enter Tryz.func21,Tryz.ntmps21
 go_wp2_with fail
 refine HR.out.mono ?_
 rintro e w1 ⟨V,iv,cv,rfl,hT1,hB1⟩
 obtain⟨a3,k3,e3⟩:=ownsRow_slice (hT1.own 3 (by omega) (by omega))
 obtain⟨a4,k4,e4⟩:=ownsRow_slice (hT1.own 4 (by omega) (by omega))
 obtain⟨a5,k5,e5⟩:=ownsRow_slice (hT1.own 5 (by omega) (by omega))
 obtain⟨a6,k6,e6⟩:=ownsRow_slice (hT1.own 6 (by omega) (by omega))
 rw [e3,e4,e5,e6,hen.out]
 generalize nOf st 3=n3 at*
 generalize nOf st 4=n4 at*
 generalize nOf st 5=n5 at*
 generalize nOf st 6=n6 at*
 have HB:=hide (hB1.alloc hB1.size (.cells #[.string s,.int .i64 st.at_,.bool true,.slice a3 n3 k3,.slice a4 n4 k4,.slice a5 n5 k5,.slice a6 n6 k6] 66))
 clear e3 e4 e5 e6 hT1 hB1 HR
 go_wp2_with fail
 go_ret2
 exact⟨rfl,HB.out⟩
end Go.Proofs.YtkoohcilbpdgeaaGreatDoor
