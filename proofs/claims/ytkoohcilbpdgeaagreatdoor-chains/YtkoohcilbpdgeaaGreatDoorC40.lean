import Derived.Test.YtkoohcilbpdgeaaGreatDoorC39
set_option linter.all false
set_option linter.unusedVariables false
set_option linter.unusedSimpArgs false
set_option linter.unnecessarySimpa false
set_option linter.constructorNameAsVariable false
set_option linter.deprecated false
set_option maxRecDepth 100000
set_option maxHeartbeats 6400000
namespace Go.Proofs.YtkoohcilbpdgeaaGreatDoor
open Go Go.RowKit
attribute [local go_sem] wrap64_byte
def r0M (top:Int):List ByteArray→List (ByteArray×Int)→List (ByteArray×Int)
 |[],s=>s
 |q::qs,s=>r0M top qs (rsM s q top).1
theorem r0_len (top:Int): ∀(qs:List ByteArray) (s:List (ByteArray×Int)),(r0M top qs s).length≤s.length+qs.length:=by
 intro qs
 induction qs with
 |nil=>intro s;exact Nat.le_refl _
 |cons q qs ih=>intro s;have:=ih (rsM s q top).1;have:=rsM_len s q top;simp;unfold r0M;omega
theorem plM_cons (nm q:ByteArray)(qs:List ByteArray)(i:Nat):(plM nm (q::qs) i≠ -1)↔(nm=q∨plM nm qs 0≠ -1):=by
 have gen: ∀(l:List ByteArray) (i j:Nat),plM nm l i= -1↔plM nm l j= -1:=by
  intro l
  induction l with
  |nil=>intro i j;simp [plM]
  |cons x l ih=>
   intro i j
   unfold plM
   split
   ·constructor<;>intro h<;>omega
   ·exact ih _ _
 have e1:plM nm (q::qs) i=if q.toList==nm.toList then(i:Int) else plM nm qs (i+1):=rfl
 rw [e1]
 split
 ·rename_i h
  have e:q=nm:=toList_inj (by simpa using h)
  constructor
  ·intro _;exact .inl e.symm
  ·intro _;omega
 ·rename_i h
  have e:nm≠q:=fun e=>h (by simp [e])
  rw [Ne,gen qs (i+1) 0]
  simp [e]
theorem r0_at {top:Nat}: ∀(qs:List ByteArray) (s:List (ByteArray×Int)),(∀nm,atM s nm≤top)→ ∀nm,(plM nm qs 0≠ -1→atM (r0M top qs s) nm=top)∧(plM nm qs 0= -1→atM (r0M top qs s) nm=atM s nm):=by
 intro qs
 induction qs with
 |nil=>intro s _ nm;exact⟨fun h=>absurd rfl h,fun _=>rfl⟩
 |cons q qs ih=>
  intro s hs nm
  have h1: ∀m,atM (rsM s q top).1 m=if m=q then(top:Int) else atM s m:=fun m=>by
   rw [rsM_at _ _ _ _ (by omega)]
   have:=hs q
   split
   ·split<;>omega
   ·rfl
  have h2: ∀m,atM (rsM s q top).1 m≤top:=fun m=>by rw [h1];have:=hs m;split<;>omega
  obtain⟨r1,r2⟩:=ih _ h2 nm
  have hc:=plM_cons nm q qs 0
  refine⟨fun h=> ?_,fun h=> ?_⟩
  ·show atM (r0M top qs (rsM s q top).1) nm=top
   by_cases hq:plM nm qs 0= -1
   ·rw [r2 hq,h1]
    rcases hc.1 h with e|e
    ·rw [if_pos e]
    ·exact absurd hq e
   ·exact r1 hq
  ·show atM (r0M top qs (rsM s q top).1) nm=atM s nm
   have hn: ¬(nm=q∨plM nm qs 0≠ -1):=fun e=>(hc.2 e) h
   have hq:plM nm qs 0= -1:=by
    by_cases e:plM nm qs 0= -1
    ·exact e
    ·exact absurd (.inr e) hn
   rw [r2 hq,h1,if_neg fun e=>hn (.inl e)]
theorem r0_std (A:List As)(L:List Lc)(qs:List ByteArray)(top:Nat)(W:List Int)(hW:Lvr top W):Std A L qs top W (r0M top qs []):=by
 have h:=r0_at (top:=top) qs [] (fun nm=>by show(0:Int)≤top;omega)
 refine⟨fun nm=> ?_,fun nm hq=>(h nm).1 hq,fun nm=> ?_⟩
 ·by_cases hq:plM nm qs 0= -1
  ·rw [(h nm).2 hq];show(0:Int)≤0∧(0:Int)≤top;omega
  ·rw [(h nm).1 hq];omega
 ·by_cases hq:plM nm qs 0= -1
  ·rw [(h nm).2 hq];exact(stM_rng (gv_rng hW _) nm).1
  ·rw [(h nm).1 hq];unfold stM;rw [if_pos (by simpa using hq)];exact Int.le_refl _
def SnPost (st:St)(al:List (ByteArray×ByteArray))(vals qs:List ByteArray)(w:World)(e:Ending)(w':World):Prop:= ∃sl v,e= .returned v∧Sds w' w.heap.size v sl∧(∀nm,atM sl nm=stM st.A qs (vals.length - 1) (gvM st.A st.L qs (vals.length - 1) (lvsM vals (worthsM al st.E []) st.C []) st.A.length) nm)∧sl.length≤1000∧Below w.heap.size w w'
theorem stands_any {X:Nat→Prop}(st:St)(f:Nat)(ps:List PP)(lb ab vb:Nat)(lv av:Value)(al:List (ByteArray×ByteArray))(vals qs:List ByteArray)(vv:Value)(qv:Value)(w:World)
  (hl:w.ownsRow lb 91 3 lv st.A.length (rowA ps st.A)) (hseg:SegA (fun p x a b e g=>AsX X w st.L st.E st.C f p x a b e g) ps st.A 0 0 st.L.length st.E.length) (ha:w.ownsRow ab 144 2 av al.length ((al.map prCells).flatten)) (hv:w.ownsRow vb 9 1 vv vals.length (vals.map Value.string)) (hq:w.ownsRow vb 9 1 qv qs.length (qs.map Value.string))
  (hg:GoodE st.E) (hcov:CovA st) (hA:st.A.length≤8) (hCl: ∀c∈st.C,c.length≤100000) (hvl:vals.length≤5) (hv2:1≤vals.length) (hql:qs.length≤4) (hll:al.length≤100000) (hls: ∀p∈al,p.2.size≤600) (hEs: ∀x∈st.E,x.text.size≤600)
  (hW: ∀x∈worthsM al st.E [],x.text.size≤100000000∧ -999999999≤x.num∧x.num≤999999999) (hcnt: ∀x∈st.L,x.form=2→1≤x.count) (hit: ∀x∈st.L,x.items.length≤100000):
  Calls Tryz.prog 59 #[lv,av,vv,qv] w fun e w'=>SnPost st al vals qs w e w':=by
 have hWr:Lvr (vals.length - 1) (lvsM vals (worthsM al st.E []) st.C []):=rng_of fun x hx=>by
  have:=lvsM_range vals (worthsM al st.E []) (by omega) st.C [] (fun x h=>by cases h) x hx
  omega
 obtain⟨fk,hcv⟩:=hcov
 obtain⟨AA,A0,A1,AP⟩:=SegB.parts _ _ _ hcv
 obtain⟨a0,k0,rfl⟩:=ownsRow_slice hl
 obtain⟨a1,k1,rfl⟩:=ownsRow_slice ha
 obtain⟨a2,k2,rfl⟩:=ownsRow_slice hv
 obtain⟨a3,k3,rfl⟩:=ownsRow_slice hq
 have hCX:=hide fun(v:Value) (ci a e f2 a2':Nat) (W:World)=>cond_CX (X:=X) hg al (.slice a1 al.length k1) ab hll hls hEs hW vals vb a2 k2 (by omega) hCl f v ci a e f2 a2' W
 have hSL:=hide fun(sl:List (ByteArray×Int)) (sv:Value) (hsl:sl.length≤100000) (hr: ∀nm,0≤atM sl nm∧atM sl nm≤(((vals.length - 1):Nat):Int))=>standR_LX (X:=X) (L:=st.L) hcnt hit w.heap.size sl sv hsl (vals.length - 1) hr f
 have hstd0:=hide (r0_std st.A st.L qs (vals.length - 1) (lvsM vals (worthsM al st.E []) st.C []) hWr)
 have HWR:=hide hWr
 have HR:=hide (And.intro hl (And.intro ha (And.intro hv hq)))
 have HS:=hide hseg
 have hpl:=hide (SegA.len _ _ _ _ _ _ hseg)
 have HAP:=hide AP
 clear hl ha hv hq hseg hg hCl hls hEs hW hcnt hit A0 A1 AP hcv hWr
 generalize hLV:(lvsM vals (worthsM al st.E []) st.C [])=LV at*
 have HLV:=hide hLV
 clear hLV
 go_enter Tryz.func59,Tryz.ntmps59
 go_wp2_with fail
 go_loopg [9,10] (qs.length+1) (fun k sv iv wr=> ∃(i:Nat) (sl:List (ByteArray×Int)),k+i=qs.length+1∧i≤qs.length∧iv= .int .i64 i∧Hid (Sds wr w.heap.size sv sl)∧Hid (Below w.heap.size w wr)∧sl.length≤i∧Hid (r0M (((vals.length - 1):Nat):Int) (qs.drop i) sl=r0M (((vals.length - 1):Nat):Int) qs []))
 case atStart=>exact⟨0,[],rfl,Nat.zero_le _,rfl,hide (World.ownsRow_nil _ _ _ _),hide (Below.refl _ _),Nat.le_refl _,hide rfl⟩
 case round=>
  obtain⟨i,sl,hk,hiq,rfl,HSD,HB,hsl,hfin⟩:=hrel
  have hHK:=hide hk
  clear hk
  obtain⟨ag,kg,rfl⟩:=HSD.out.slice
  have hz0:w.heap.size≤wr.heap.size:=HB.out.size
  by_cases hlt:i<qs.length
  ·obtain⟨g,cap,hvv,hbb,hgg⟩:=HR.out.2.2.2.form (by omega)
   injection hvv with e1 e2 e3
   subst e1 e3
   obtain⟨x,hx⟩: ∃x,qs[i]?=some x:=⟨qs[i],List.getElem?_eq_getElem hlt⟩
   have q0:wr.cell? ⟨g,i,none⟩=some (.string x):=(HB.out.cell (p:=⟨g,i,none⟩) hgg).trans (row_cell HR.out.2.2.2 _ _ (by simp [hx]))
   have hst:Hid (r0M (((vals.length - 1):Nat):Int) (qs.drop i) sl=r0M (((vals.length - 1):Nat):Int) (qs.drop (i+1)) (rsM sl x (((vals.length - 1):Nat):Int)).1):=hide (by
    obtain⟨hl,hx'⟩:=List.getElem?_eq_some_iff.1 hx
    rw [List.drop_eq_getElem_cons hl,hx']
    rfl)
   have hlt':(i:Int)<qs.length:=by omega
   have hRA:=raised_any w.heap.size sl _ x (((vals.length - 1):Nat):Int) wr HSD.out hz0 (by omega)
   rw [show((((vals.length - 1):Nat)):Int)=(vals.length:Int)- 1 by omega] at hRA
   have HRA:=hide hRA
   clear hx hRA
   go_wp2_with fail
   refine HRA.out.mono ?_
   rintro e w2 ⟨v2,rfl,hs2,hB2⟩
   obtain⟨b2,c2,rfl⟩:=hs2.slice
   have HS2:=hide hs2
   have HB2:=hide (HB.out.trans hB2)
   have hl2:=rsM_len sl x ((vals.length:Int)- 1)
   clear hs2 hB2 HRA
   go_wp2_with fail
   have hk:=hHK.out
   go_roundg (qs.length - i)
   case measure=>omega
   case rel=>exact⟨i+1,(rsM sl x ((vals.length:Int)- 1)).1,by omega,by omega,by go_num,HS2,HB2,by omega,hide (by rw [←hfin.out,hst.out];congr 3;omega)⟩
  ·have hlt': ¬(i:Int)<qs.length:=by omega
   have hr0:sl=r0M (((vals.length - 1):Nat):Int) qs []:=by rw [←hfin.out,List.drop_of_length_le (by omega)];rfl
   have hstd:Hid (Std st.A st.L qs (vals.length - 1) LV sl):=hide (by rw [hr0];exact hstd0.out)
   have hlk:=lack_bound (top:=(vals.length - 1)) (s:=sl) (fun nm=>(hstd.out.rng nm).1) st.A
   have hlk2:lackM (vals.length - 1) sl st.A≤32:=Nat.le_trans hlk (Nat.le_trans (Nat.mul_le_mul hA (show vals.length - 1≤4 by omega)) (by omega))
   clear hr0 hfin hstd0 hlk
   go_wp2_with fail
   go_loopg [9,11] 40 (fun k sv mv wr=> ∃(sl:List (ByteArray×Int)) (more:Bool),mv= .bool more∧Hid (Sds wr w.heap.size sv sl)∧Hid (Below w.heap.size w wr)∧Hid (Std st.A st.L qs (vals.length - 1) LV sl)∧sl.length+8*k≤400∧1≤k∧Hid ((more=true∧lackM (vals.length - 1) sl st.A+2≤k)∨(more=false∧ ∀a∈st.A,gives st.L (vals.length - 1) LV sl a≤atM sl a.by_)))
   case atStart=>exact⟨sl,true,rfl,HSD,HB,hstd,by omega,by omega,hide (.inl ⟨rfl,by omega⟩)⟩
   case round=>
    obtain⟨sl,more,rfl,HSD,HB,hstd,hlen,hk1,HC⟩:=hrel
    obtain⟨ag,kg,rfl⟩:=HSD.out.slice
    cases more
    case false=>
     have hfin: ∀a∈st.A,gives st.L (vals.length - 1) LV sl a≤atM sl a.by_:=by
      rcases HC.out with⟨e,_⟩|⟨_,h⟩
      ·cases e
      ·exact h
     have hres:=hide (std_final HWR.out hstd.out hfin)
     clear hfin
     go_wp2_with fail
     go_ret
     exact⟨sl,_,rfl,HSD.out,by rw [HLV.out];exact hres.out,by omega,HB.out⟩
    case true=>
     have hlack:lackM (vals.length - 1) sl st.A+2≤gk:=by
      rcases HC.out with⟨_,h⟩|⟨e,_⟩
      ·exact h
      ·cases e
     have HLK:=hide hlack
     have HLEN:=hide hlen
     obtain⟨gk0,hgk0⟩: ∃gk0,gk0=gk:=⟨_,rfl⟩
     have HGK0:=hide hgk0
     clear hgk0 hlack HC hlk2
     have hl400:sl.length≤400:=by omega
     go_wp2_with fail
     go_loopg [9,11,12] (st.A.length+1) (fun k sv mv iv wr2=> ∃(i:Nat) (s2:List (ByteArray×Int)) (m2:Bool),k+i=st.A.length+1∧i≤st.A.length∧iv= .int .i64 i∧mv= .bool m2∧Hid (Sds wr2 w.heap.size sv s2)∧Hid (Below w.heap.size w wr2)∧Hid (Std st.A st.L qs (vals.length - 1) LV s2)∧s2.length≤sl.length+i∧Hid (swM st.L (vals.length - 1) LV (st.A.drop i) s2 m2=swM st.L (vals.length - 1) LV st.A sl false))
     case atStart=>exact⟨0,sl,false,rfl,Nat.zero_le _,rfl,rfl,HSD,HB,hstd,by omega,hide rfl⟩
     case round=>
      obtain⟨i,s2,m2,hki,hiA,rfl,rfl,HS2,HB2,hstd2,hl2,hfin⟩:=hrel
      have hHKI:=hide hki
      clear hki
      obtain⟨b2,c2,rfl⟩:=HS2.out.slice
      have hz2:w.heap.size≤wr.heap.size:=HB2.out.size
      by_cases hlt:i<st.A.length
      ·obtain⟨g,cap,hvx,hbb,hgl⟩:=HR.out.1.form (by omega)
       injection hvx with e1 e2 e3
       subst e1 e3
       obtain⟨pp,hpp⟩: ∃pp,ps[i]?=some pp:=⟨ps[i]'(by have:=hpl.out;omega),List.getElem?_eq_getElem _⟩
       obtain⟨x,a',b',e',g',hx,li,ci,r1,r2,r3,r4,r5⟩:=SegA.get _ _ _ _ _ _ i pp HS.out hpp
       have c0:w.cell? ⟨g,i*3,none⟩=some (.string x.by_):=row_cell HR.out.1 _ _ ((rowA_get hpp hx (j:=0) (by omega)).trans rfl)
       have c1:w.cell? ⟨g,i*3+1,none⟩=some (.pointer pp.1):=row_cell HR.out.1 _ _ ((rowA_get hpp hx (by omega)).trans rfl)
       have c2':w.cell? ⟨g,i*3+2,none⟩=some (.pointer pp.2):=row_cell HR.out.1 _ _ ((rowA_get hpp hx (by omega)).trans rfl)
       have q2:wr.cell? ⟨g,i*3+2,none⟩=some (.pointer pp.2):=(HB2.out.cell (p:=⟨g,i*3+2,none⟩) hgl).trans c2'
       obtain⟨kx,z1,z2,z3⟩:=HAP.out i x hx
       have hkc:kx=ci:=by rw [r2] at z1;omega
       subst hkc
       have keepR: ∀{base e size n:Nat} {v:Value} {xs:List Value},w.ownsRow base e size v n xs→wr.ownsRow base e size v n xs:=fun h=>ownsRow_same h fun k e=>HB2.out.block k (h.lt k e).2
       have HCC:=hide (hCX.out (.pointer pp.2) kx b' g' fk (AA i) wr (r5.keepX (below_same HB2.out)) z2 (keepR HR.out.2.1) (keepR HR.out.2.2.1))
       have hxm:=List.mem_of_getElem? hx
       have hgv:Hid (gives st.L (vals.length - 1) LV s2 x=lowM (typeAtM LV kx) (typeAtM (lcsM (atM s2) (vals.length - 1) st.L []) li)):=hide (by unfold gives;rw [r1,r2])
       have hstd5:Hid (Std st.A st.L qs (vals.length - 1) LV (rsM s2 x.by_ (gives st.L (vals.length - 1) LV s2 x)).1):=hide (std_step HWR.out hstd2.out hxm)
       have hlen5:=rsM_len s2 x.by_ (gives st.L (vals.length - 1) LV s2 x)
       have hst:Hid (swM st.L (vals.length - 1) LV (st.A.drop i) s2 m2=swM st.L (vals.length - 1) LV (st.A.drop (i+1)) (rsM s2 x.by_ (gives st.L (vals.length - 1) LV s2 x)).1 (m2||(rsM s2 x.by_ (gives st.L (vals.length - 1) LV s2 x)).2)):=hide (by
        obtain⟨hl,hx'⟩:=List.getElem?_eq_some_iff.1 hx
        rw [List.drop_eq_getElem_cons hl,hx']
        rfl)
       have HLL:=hide (fun W hW hS=>hSL.out s2 (.slice b2 s2.length c2) (by omega) hstd2.out.rng (.pointer pp.1) a' li W hW hS)
       have HR4:=hide r4
       have hlt':(i:Int)<st.A.length:=by omega
       clear hx hpp z1 z2 z3 r1 r2 r3 r4 r5 hxm keepR
       generalize hcd:typeAtM LV kx=cx at*
       clear hcd
       go_wp2_with fail
       refine HCC.out.mono ?_
       rintro e w3 ⟨rfl,hB3⟩
       have HS3:=hide (HS2.out.same fun k e=>hB3.block k (World.ownsRow.lt HS2.out k e).2)
       have HB3:=hide (HB2.out.trans (hB3.mono hz2))
       have hz3:w.heap.size≤w3.heap.size:=HB3.out.size
       have q1:w3.cell? ⟨g,i*3+1,none⟩=some (.pointer pp.1):=(HB3.out.cell (p:=⟨g,i*3+1,none⟩) hgl).trans c1
       have HL3:=hide (HLL.out w3 (HR4.out.keepX (below_same HB3.out)) HS3.out)
       clear hB3 HLL HCC q2
       generalize typeAtM (lcsM (atM s2) (vals.length - 1) st.L []) li=ly at*
       go_wp2_with fail
       refine HL3.out.mono ?_
       rintro e w4 ⟨rfl,hB4⟩
       clear HL3
       by_cases hyx:ly<cx
       ·have hz:Hid (gives st.L (vals.length - 1) LV s2 x=ly):=hide (by rw [hgv.out,←low_sym,if_pos hyx])
        have HRA:=hide (raised_any w.heap.size s2 _ x.by_ (gives st.L (vals.length - 1) LV s2 x) w4 (HS3.out.same fun k e=>hB4.block k (World.ownsRow.lt HS3.out k e).2) (Nat.le_trans hz3 hB4.size) (by omega))
        rw [hz.out] at HRA
        have HB4:=hide (HB3.out.trans (hB4.mono hz3))
        have c5:w4.cell? ⟨g,i*3,none⟩=some (.string x.by_):=(HB4.out.cell (p:=⟨g,i*3,none⟩) hgl).trans c0
        clear hB4
        go_wp2_with fail
        refine HRA.out.mono ?_
        rintro e w5 ⟨v5,rfl,hs5,hB5⟩
        obtain⟨b5,k5,rfl⟩:=hs5.slice
        have HS5:=hide hs5
        have HB5:=hide (HB4.out.trans hB5)
        clear hs5 hB5 HRA
        cases hup:(rsM s2 x.by_ (gives st.L (vals.length - 1) LV s2 x)).2
        all_goals rw [hz.out] at hup
        all_goals rw [hup]
        all_goals cases m2
        all_goals go_wp2_with fail
        all_goals have hk:=hHKI.out
        all_goals go_roundg (st.A.length - i)
        all_goals first|omega|skip
        all_goals exact⟨i+1,(rsM s2 x.by_ (gives st.L (vals.length - 1) LV s2 x)).1,_,by omega,by omega,by go_num,rfl,by rw [hz.out];exact HS5,HB5,hstd5,by omega,hide (by rw [←hfin.out,hst.out,hz.out,hup];rfl)⟩
       ·have hz:Hid (gives st.L (vals.length - 1) LV s2 x=cx):=hide (by rw [hgv.out,←low_sym,if_neg hyx])
        have HRA:=hide (raised_any w.heap.size s2 _ x.by_ (gives st.L (vals.length - 1) LV s2 x) w4 (HS3.out.same fun k e=>hB4.block k (World.ownsRow.lt HS3.out k e).2) (Nat.le_trans hz3 hB4.size) (by omega))
        rw [hz.out] at HRA
        have HB4:=hide (HB3.out.trans (hB4.mono hz3))
        have c5:w4.cell? ⟨g,i*3,none⟩=some (.string x.by_):=(HB4.out.cell (p:=⟨g,i*3,none⟩) hgl).trans c0
        clear hB4
        go_wp2_with fail
        refine HRA.out.mono ?_
        rintro e w5 ⟨v5,rfl,hs5,hB5⟩
        obtain⟨b5,k5,rfl⟩:=hs5.slice
        have HS5:=hide hs5
        have HB5:=hide (HB4.out.trans hB5)
        clear hs5 hB5 HRA
        cases hup:(rsM s2 x.by_ (gives st.L (vals.length - 1) LV s2 x)).2
        all_goals rw [hz.out] at hup
        all_goals rw [hup]
        all_goals cases m2
        all_goals go_wp2_with fail
        all_goals have hk:=hHKI.out
        all_goals go_roundg (st.A.length - i)
        all_goals first|omega|skip
        all_goals exact⟨i+1,(rsM s2 x.by_ (gives st.L (vals.length - 1) LV s2 x)).1,_,by omega,by omega,by go_num,rfl,by rw [hz.out];exact HS5,HB5,hstd5,by omega,hide (by rw [←hfin.out,hst.out,hz.out,hup];rfl)⟩
      ·have hlt': ¬(i:Int)<st.A.length:=by omega
       have hsw:(s2,m2)=swM st.L (vals.length - 1) LV st.A sl false:=by rw [←hfin.out,List.drop_of_length_le (by omega)];rfl
       have hs2e:s2=(swM st.L (vals.length - 1) LV st.A sl false).1:=by rw [←hsw]
       have hm2e:m2=(swM st.L (vals.length - 1) LV st.A sl false).2:=by rw [←hsw]
       have hlk:=sw_lack (A:=st.A) (L:=st.L) HWR.out st.A sl false (fun a h=>h) hstd.out.rng
       have hstl:=sw_still (L:=st.L) HWR.out st.A sl false hstd.out.rng
       have HC2:Hid ((m2=true∧lackM (vals.length - 1) s2 st.A+2≤gk0 - 1)∨(m2=false∧ ∀a∈st.A,gives st.L (vals.length - 1) LV s2 a≤atM s2 a.by_)):=hide (by
        have hg0:=HGK0.out
        have hL:=HLK.out
        cases hm:m2
        ·right
         rw [←hm2e,←hs2e] at hstl
         obtain⟨t1,t2⟩:=hstl hm
         refine⟨rfl,fun a ha=> ?_⟩
         have e2: ∀s',atM s'=atM sl→gives st.L (vals.length - 1) LV s' a=gives st.L (vals.length - 1) LV sl a:=fun s' hs=>by unfold gives;rw [hs]
         rw [e2 _ t1,t1]
         exact t2 a ha
        ·left
         rw [←hm2e,←hs2e] at hlk
         rcases hlk.2 hm with q|q
         ·cases q
         ·exact⟨rfl,by omega⟩)
       clear hsw hs2e hm2e hlk hstl hfin
       go_wp2_with fail
       have hg0:=HGK0.out
       have hL:=HLK.out
       have hN:=HLEN.out
       go_roundg (gk0 - 1)
       case measure=>omega
       case rel=>exact⟨s2,m2,rfl,HS2,HB2,hstd2,by omega,by omega,HC2⟩
end Go.Proofs.YtkoohcilbpdgeaaGreatDoor
