import Derived.Test.YtkoohcilbpdgeaaGreatDoorC44
set_option linter.all false
set_option linter.unusedVariables false
set_option linter.unusedSimpArgs false
set_option linter.unnecessarySimpa false
set_option linter.constructorNameAsVariable false
set_option linter.deprecated false
set_option maxRecDepth 100000
set_option maxHeartbeats 6400000
namespace Go.Proofs.YtkoohcilbpdgeaaGreatDoor
open Go Go.RowKit
attribute [local go_sem] wrap64_byte
theorem named_node {X:Nat→Prop}{w:World}{v:Value}{op tx:ByteArray}{p:Int}{vs:List Value}(h:NodeX X w v op tx p vs)(hlen:vs.length≤100000)(nm:ByteArray)(bs:List Bool)(hbs:bs.length=vs.length)(hop:(op.toList==[110,97,109,101])=false)
  (hsub: ∀(i:Nat) (u:Value) (b:Bool),vs[i]?=some u→bs[i]?=some b→(∃g,u= .pointer (some ⟨g,0,none⟩))∧ ∀W,Below w.heap.size w W→Calls Tryz.prog 61 #[u,.string nm] W fun e w'=>e= .returned (.bool b)∧ ∃n,w'=W.drewN n):
  Calls Tryz.prog 61 #[v,.string nm] w fun e w'=>e= .returned (.bool (bs.any id))∧ ∃n,w'=w.drewN n:=by
 obtain⟨g,kv0,rfl,hh,hg,hkv⟩:=node_at h
 obtain⟨ak,kk,rfl⟩:=ownsRow_slice hkv
 obtain⟨c0,c1,c2,c3,cf⟩:=box4' hh
 have HC:=hide hsub
 have HK:=hide hkv
 clear h hh hsub hkv cf c1 c2
 go_enter Tryz.func61,Tryz.ntmps61
 go_wp2_with fail
 go_loopg [5] (vs.length+1) (fun k iv wr=> ∃(i m:Nat),k+i=vs.length+1∧i≤vs.length∧iv= .int .i64 i∧wr=w.drewN m∧Hid ((bs.drop i).any id=bs.any id))
 case atStart=>exact⟨0,0,rfl,Nat.zero_le _,rfl,rfl,hide rfl⟩
 case round=>
  obtain⟨i,m,hki,hil,rfl,rfl,hfin⟩:=hrel
  have hHK:=hide hki
  clear hki
  by_cases hlt:i<vs.length
  ·obtain⟨u,hu⟩: ∃u,vs[i]?=some u:=⟨vs[i],List.getElem?_eq_getElem hlt⟩
   obtain⟨b,hb⟩: ∃b,bs[i]?=some b:=⟨bs[i]'(by omega),List.getElem?_eq_getElem (by omega)⟩
   have hkr:=HK.out
   obtain⟨gr,cap,hvv,hbb,hgg⟩:=hkr.form (by omega)
   injection hvv with e1 e2 e3
   subst e1 e3
   have r0:w.cell? ⟨gr,i,none⟩=some u:=row_cell hkr _ _ hu
   obtain⟨⟨gu,rfl⟩,hcall⟩:=HC.out i u b hu hb
   have HCA:=hide (hcall (w.drewN m) ⟨rfl,rfl,rfl,Nat.le_refl _,fun _ _=>rfl⟩)
   have hst:Hid ((bs.drop i).any id=(b||(bs.drop (i+1)).any id)):=hide (by
    obtain⟨hl,hx'⟩:=List.getElem?_eq_some_iff.1 hb
    rw [List.drop_eq_getElem_cons hl,hx']
    rfl)
   have hlt':(i:Int)<vs.length:=by omega
   clear hu hb hkr hcall
   cases b
   ·go_wp2_with fail
    refine HCA.out.mono ?_
    rintro e w2 ⟨rfl,n2,rfl⟩
    clear HCA
    go_wp2_with fail
    have hk:=hHK.out
    go_roundg (vs.length - i)
    case measure=>omega
    case rel=>exact⟨i+1,_,by omega,by omega,by go_num,rfl,hide (by rw [←hfin.out,hst.out];rfl)⟩
   ·have hres:Hid (bs.any id=true):=hide (by rw [←hfin.out,hst.out];rfl)
    go_wp2_with fail
    refine HCA.out.mono ?_
    rintro e w2 ⟨rfl,n2,rfl⟩
    clear HCA
    go_wp2_with fail
    go_ret
    exact⟨by rw [hres.out];rfl,_,rfl⟩
  ·have hlt': ¬(i:Int)<vs.length:=by omega
   have hres:Hid (bs.any id=false):=hide (by rw [←hfin.out,List.drop_of_length_le (by omega)];rfl)
   go_wp2_with fail
   go_ret
   exact⟨by rw [hres.out];rfl,m,rfl⟩
theorem named_name {X:Nat→Prop}{w:World}{v:Value}{tx:ByteArray}{p:Int}{vs:List Value}(h:NodeX X w v sName tx p vs)(nm:ByteArray):
  Calls Tryz.prog 61 #[v,.string nm] w fun e w'=>e= .returned (.bool (tx.toList==nm.toList))∧ ∃n,w'=w.drewN n:=by
 obtain⟨g,kv0,rfl,hh,hg,hkv⟩:=node_at h
 obtain⟨c0,c1,c2,c3,cf⟩:=box4' hh
 unfold sName at c0
 clear h hh hkv cf c2 c3
 go_enter Tryz.func61,Tryz.ntmps61
 go_wp2_with fail
 go_ret
 exact⟨rfl,0,rfl⟩
theorem nms_split {L:List Lc}{a m e:Nat}(h1:a≤m)(h2:m≤e)(nm:ByteArray):nm∈nmsR L a e↔nm∈nmsR L a m∨nm∈nmsR L m e:=by
 rw [nmsR_mem,nmsR_mem,nmsR_mem]
 constructor
 ·rintro⟨j,x,q1,q2,q3⟩
  by_cases h:j<m
  ·exact .inl ⟨j,x,q1,h,q3⟩
  ·exact .inr ⟨j,x,by omega,q2,q3⟩
 ·rintro(⟨j,x,q1,q2,q3⟩|⟨j,x,q1,q2,q3⟩)
  ·exact⟨j,x,q1,by omega,q3⟩
  ·exact⟨j,x,by omega,q2,q3⟩
theorem nms_skip {L:List Lc}{i:Nat}{x:Lc}(hx:L[i]?=some x)(hf:x.form≠0)(nm:ByteArray):nm∉nmsR L i (i+1):=by
 rw [nmsR_mem]
 rintro⟨j,y,q1,q2,q3,q4,_⟩
 have e:j=i:=by omega
 rw [e,hx] at q3
 injection q3 with e
 exact hf (e▸q4)
theorem named_LX {X:Nat→Prop}{L:List Lc}(hit: ∀x∈L,x.items.length≤100000)(nm:ByteArray):
  ∀(f:Nat) (v:Value) (a i:Nat) (w:World),RefLX X w L f v a i→ ∃b,(b=true↔nm∈nmsR L a (i+1))∧ ∀W,Below w.heap.size w W→Calls Tryz.prog 61 #[v,.string nm] W fun e w'=>e= .returned (.bool b)∧ ∃n,w'=W.drewN n:=by
 intro f
 induction f with
 |zero=>intro v a i w h;exact absurd h id
 |succ f ih=>
  intro v a i w ⟨x,hx,h⟩
  rcases h with⟨h1,h2,p,h3⟩|⟨h1,v1,v2,j,k,p,h2,h3,h4,h8,h5,h6,h7⟩|⟨h1,vs,c,h2,h3,h4,h5,h6⟩
  ·refine⟨x.text.toList==nm.toList,?_,fun W hB=>named_name (h3.keepX (below_same hB)) nm⟩
   rw [nmsR_mem]
   constructor
   ·intro h
    exact⟨i,x,by omega,by omega,hx,h1,toList_inj (by simpa using h)⟩
   ·rintro⟨j,y,q1,q2,q3,q4,q5⟩
    have e:j=i:=by omega
    rw [e,hx] at q3
    injection q3 with e
    rw [e,q5];simp
  ·have hj:=refL_le h6
   have hk:=refL_le h7
   obtain⟨b1,e1,c1⟩:=ih v1 a j w h6
   obtain⟨b2,e2,c2⟩:=ih v2 (j+1) k w h7
   refine⟨[b1,b2].any id,?_,fun W hB=>named_node (h5.keepX (below_same hB)) (by simp) nm [b1,b2] rfl ?_ ?_⟩
   ·rw [nms_split (a:=a) (m:=j+1) (e:=i+1) (by omega) (by omega),nms_split (a:=j+1) (m:=k+1) (e:=i+1) (by omega) (by omega),←e1,←e2]
    have:=nms_skip hx (by rw [h1];omega) nm
    rw [h2] at this ⊢
    simp [this]
   ·rcases h8 with e|e<;>rw [e,ByteArray.toList_eq]<;>decide
   ·intro n u b hu hb
    match n,hu,hb with
    |0,hu,hb=>
     have q1:v1=u:=by simpa using hu
     have q2:b1=b:=by simpa using hb
     subst q1 q2
     exact⟨refL_ptr h6,fun W' hB'=>c1 W' (hB.trans (hB'.mono hB.size))⟩
    |1,hu,hb=>
     have q1:v2=u:=by simpa using hu
     have q2:b2=b:=by simpa using hb
     subst q1 q2
     exact⟨refL_ptr h7,fun W' hB'=>c2 W' (hB.trans (hB'.mono hB.size))⟩
    |n+2,hu,hb=>simp at hu
  ·have hlen:=SegV.length _ _ _ _ h6
   have hxm:=List.mem_of_getElem? hx
   have gen: ∀(vs:List Value) (is:List Int) (a e:Nat),SegV (fun v a i=>RefLX X w L f v a i) vs is a e→a≤e∧ ∃bs:List Bool,bs.length=vs.length∧(bs.any id=true↔nm∈nmsR L a e)∧ ∀(n:Nat) (u:Value) (b:Bool),vs[n]?=some u→bs[n]?=some b→(∃g,u= .pointer (some ⟨g,0,none⟩))∧ ∀W,Below w.heap.size w W→Calls Tryz.prog 61 #[u,.string nm] W fun e w'=>e= .returned (.bool b)∧ ∃n,w'=W.drewN n:=by
    intro vs
    induction vs with
    |nil=>
     intro is a e h
     cases is with
     |nil=>
      have h:a=e:=h
      subst h
      refine⟨Nat.le_refl _,[],rfl,?_,fun n u b h=>by simp at h⟩
      rw [nmsR_mem]
      constructor
      ·intro h;simp at h
      ·rintro⟨j,y,q1,q2,_⟩;omega
     |cons i is=>exact absurd h id
    |cons u vs ih2=>
     intro is a e h
     cases is with
     |nil=>exact absurd h id
     |cons it is=>
      obtain⟨j,q1,q2,q3⟩:=h
      have hle:=refL_le q2
      obtain⟨r1,bs,r2,r3,r4⟩:=ih2 is _ _ q3
      obtain⟨b,e1,c1⟩:=ih u a j w q2
      refine⟨by omega,b::bs,by simp [r2],?_,fun n u' b' hu hb=> ?_⟩
      ·rw [nms_split (a:=a) (m:=j+1) (e:=e) (by omega) r1,←e1,←r3]
       simp
      ·cases n with
       |zero=>
        have z1:u=u':=by simpa using hu
        have z2:b=b':=by simpa using hb
        subst z1 z2
        exact⟨refL_ptr q2,c1⟩
       |succ n=>exact r4 n u' b' (by simpa using hu) (by simpa using hb)
   obtain⟨r1,bs,r2,r3,r4⟩:=gen _ _ _ _ h6
   refine⟨bs.any id,?_,fun W hB=>named_node (h5.keepX (below_same hB)) (by rw [hlen];exact hit x hxm) nm bs r2 (by unfold sOf;rw [ByteArray.toList_eq];decide) fun n u b hu hb=>⟨(r4 n u b hu hb).1,fun W' hB'=>(r4 n u b hu hb).2 W' (hB.trans (hB'.mono hB.size))⟩⟩
   rw [nms_split (a:=a) (m:=i) (e:=i+1) r1 (by omega),r3]
   have:=nms_skip hx (by rw [h1];omega) nm
   simp [this]
theorem judge_err (s a v q:ByteArray)(st:St)(w:World)(h:Calls Tryz.prog 57 #[.string s,.string a,.string v,.string q,.bool true] w fun e w'=>AkPost s a v q st w e w')(E:Int)(hE:grM s a v q st=E)(hn:(E !=0)=true):
  Calls Tryz.prog 33 #[.string s,.string a,.string v,.string q,.string ⟨#[]⟩,.int .i64 E] w fun e w'=>e= .returned (.bool true)∧Below w.heap.size w w':=by
 have HC:=hide h
 have HE:=hide hE
 clear h hE
 go_enter Tryz.func33,Tryz.ntmps33
 go_wp2_with fail
 refine HC.out.mono ?_
 rintro e w1 ⟨x1,x2,x3,x4,rfl,hB1,⟨a1,n1,k1,rfl⟩,⟨a2,n2,k2,rfl⟩,⟨a3,n3,k3,rfl⟩,⟨a4,n4,k4,rfl⟩,hQ⟩
 rw [HE.out] at*
 have HB1:=hide hB1
 clear hB1 hQ HC HE
 go_wp2_with fail
 go_ret
 exact⟨by simp,HB1.out⟩
structure Jd (st:St)(f:Nat)(ps:List PP)(X:Nat→Prop)(w:World)(lb ab vb:Nat)(lv av vv qv:Value)(al:List (ByteArray×ByteArray))(vals qs:List ByteArray):Prop where
 l:w.ownsRow lb 91 3 lv st.A.length (rowA ps st.A)
 seg:SegA (fun p x a b e g=>AsX X w st.L st.E st.C f p x a b e g) ps st.A 0 0 st.L.length st.E.length
 a:w.ownsRow ab 144 2 av al.length ((al.map prCells).flatten)
 v:w.ownsRow vb 9 1 vv vals.length (vals.map Value.string)
 q:w.ownsRow vb 9 1 qv qs.length (qs.map Value.string)
theorem Jd.at_ {st:St}{f:Nat}{ps:List PP}{X:Nat→Prop}{w:World}{lb ab vb g k0:Nat}{av:Value}{a2:Option Addr}{k2:Nat}{qv:Value}{al:List (ByteArray×ByteArray)}{vals qs:List ByteArray}(h:Jd st f ps X w lb ab vb (.slice (some ⟨g,0,none⟩) st.A.length k0) av (.slice a2 vals.length k2) qv al vals qs)
  (hg:GoodE st.E) (hcov:CovA st) (hCl: ∀c∈st.C,c.length≤100000) (hvl:vals.length≤100000) (hll:al.length≤100000) (hls: ∀p∈al,p.2.size≤600) (hEs: ∀x∈st.E,x.text.size≤600) (hit: ∀x∈st.L,x.items.length≤100000)
  (hW: ∀x∈worthsM al st.E [],x.text.size≤100000000∧ -999999999≤x.num∧x.num≤999999999) {i:Nat} {x:As} (hx:st.A[i]?=some x): ∃(p1 p2:Option Addr),w.cell? ⟨g,i*3,none⟩=some (.string x.by_)∧w.cell? ⟨g,i*3+1,none⟩=some (.pointer p1)∧w.cell? ⟨g,i*3+2,none⟩=some (.pointer p2)∧
   (∀W,Below w.heap.size w W→Calls Tryz.prog 58 #[.pointer p2,av,.slice a2 vals.length k2] W fun e w'=>e= .returned (.int .i64 (typeAtM (lvsM vals (worthsM al st.E []) st.C []) x.conds))∧Below W.heap.size W w')∧
   (∀nm,∃b,(b=true↔nm∈lnM st.A st.L i)∧ ∀W,Below w.heap.size w W→Calls Tryz.prog 61 #[.pointer p1,.string nm] W fun e w'=>e= .returned (.bool b)∧ ∃n,w'=W.drewN n):=by
 have hpl:=SegA.len _ _ _ _ _ _ h.seg
 have hi:=(List.getElem?_eq_some_iff.1 hx).1
 obtain⟨pp,hpp⟩: ∃pp,ps[i]?=some pp:=⟨ps[i]'(by omega),List.getElem?_eq_getElem _⟩
 obtain⟨a',t,z1,z2,z3,z4,z5⟩:=(segA_tos ps st.A 0 0 _ _ h.seg).2 i x pp hx hpp
 obtain⟨y,a1,b1,e1,g1,hy,li,ci,r1,r2,r3,r4,r5⟩:=SegA.get _ _ _ _ _ _ i pp h.seg hpp
 have hxy:x=y:=by rw [hx] at hy;injection hy
 subst hxy
 obtain⟨fk,hcv⟩:=hcov
 obtain⟨AA,_,_,AP⟩:=SegB.parts _ _ _ hcv
 obtain⟨kx,y1,y2,_⟩:=AP i x hx
 have hkc:kx=ci:=by rw [r2] at y1;omega
 subst hkc
 refine⟨pp.1,pp.2,row_cell h.l _ _ ((rowA_get hpp hx (j:=0) (by omega)).trans rfl),row_cell h.l _ _ ((rowA_get hpp hx (by omega)).trans rfl),row_cell h.l _ _ ((rowA_get hpp hx (by omega)).trans rfl),fun W hB=> ?_,fun nm=> ?_⟩
 ·rw [r2]
  exact cond_CX hg al av ab hll hls hEs hW vals vb a2 k2 hvl hCl f _ kx b1 g1 fk (AA i) W (r5.keepX (below_same hB)) y2 (ownsRow_same h.a fun k e=>hB.block k (h.a.lt k e).2) (ownsRow_same h.v fun k e=>hB.block k (h.v.lt k e).2)
 ·obtain⟨b,q1,q2⟩:=named_LX hit nm f _ a' t w z5
  refine⟨b,?_,q2⟩
  rw [lnM_mem hx z1 z2]
  exact q1
theorem judge_none (s a v q:ByteArray)(st:St)(w:World)(h:Calls Tryz.prog 57 #[.string s,.string a,.string v,.string q,.bool true] w fun e w'=>AkPost s a v q st w e w')(hg:GoodE st.E)(hcov:CovA st)(hCl: ∀c∈st.C,c.length≤100000)(hll:(raM a).1.length≤100000)(hls: ∀p∈(raM a).1,p.2.size≤600)(hEs: ∀x∈st.E,x.text.size≤600)(hit: ∀x∈st.L,x.items.length≤100000)
  (hW: ∀x∈worthsM (raM a).1 st.E [],x.text.size≤100000000∧ -999999999≤x.num∧x.num≤999999999) (hcnt: ∀x∈st.L,x.form=2→1≤x.count) (h0:grM s a v q st=0) (hst:stM st.A (rqM q).1 ((vlM v).1.length - 1) (gvM st.A st.L (rqM q).1 ((vlM v).1.length - 1) (lvsM (vlM v).1 (worthsM (raM a).1 st.E []) st.C []) st.A.length) pol=0):
  Calls Tryz.prog 33 #[.string s,.string a,.string v,.string q,.string ⟨#[]⟩,.int .i64 0] w fun e w'=>e= .returned (.bool true)∧Below w.heap.size w w':=by
 have HST:=hide hst
 clear hst
 have HC:=hide h
 have hzz:=grM_zero h0
 obtain⟨hvz,_,hck,_,_,_⟩:=hzz
 have hv2:=vlM_two hvz
 have hA8:=(ckM_zero hck).2.2.1
 have HG:=hide (And.intro hg (And.intro hcov (And.intro hCl (And.intro hls (And.intro hEs (And.intro hit (And.intro hW hcnt)))))))
 have H0:=hide h0
 clear h h0 hg hcov hCl hls hEs hit hW hcnt hck
 go_enter Tryz.func33,Tryz.ntmps33
 go_wp2_with fail
 refine HC.out.mono ?_
 rintro e w1 ⟨x1,x2,x3,x4,rfl,hB1,⟨a1,n1,k1,rfl⟩,⟨a2,n2,k2,rfl⟩,⟨a3,n3,k3,rfl⟩,⟨a4,n4,k4,rfl⟩,hQ⟩
 have HB1:=hide hB1
 obtain⟨f,ps,how,hseg,hO2,hO3,hO4⟩:=hQ H0.out
 rw [H0.out]
 have HSN:Hid _:=hide (by
  obtain⟨hg,hcov,hCl,hls,hEs,hit,hW,hcnt⟩:=HG.out
  exact stands_any st f ps _ _ _ _ _ (raM a).1 (vlM v).1 (rqM q).1 _ _ w1 how hseg hO2 hO3 hO4 hg hcov hA8 hCl vlM_five (by omega) (rqM_len q) hll hls hEs hW hcnt hit)
 have hn1:n1=st.A.length:=by
  obtain⟨qa,qk,q⟩:=ownsRow_slc how
  injection q
 have hn3:n3=(vlM v).1.length:=by
  obtain⟨qa,qk,q⟩:=ownsRow_slice hO3
  injection q with _ q _
 have hn4:n4=(rqM q).1.length:=by
  obtain⟨qa,qk,q⟩:=ownsRow_slice hO4
  injection q with _ q _
 subst hn1 hn3 hn4
 have HJ:Hid (Jd st f ps (fun k=>k<w.heap.size) w1 w.heap.size w.heap.size w.heap.size (.slice a1 st.A.length k1) (.slice a2 n2 k2) (.slice a3 (vlM v).1.length k3) (.slice a4 (rqM q).1.length k4) (raM a).1 (vlM v).1 (rqM q).1):=hide ⟨how,hseg,hO2,hO3,hO4⟩
 clear how hseg hO2 hO3 hO4 hQ HC hB1
 go_wp2_with fail
 refine HSN.out.mono ?_
 rintro e w2 ⟨sl,v5,rfl,hsd,hat,hsl,hB2⟩
 obtain⟨b5,k5,rfl⟩:=hsd.slice
 have hat5:=hat pol
 have HAT:=hide (fun N=>atR_any _ sl _ pol (w2.drewN N) (hsd.same fun k e=>rfl) (by omega))
 have HB2:=hide hB2
 have hz2:w1.heap.size≤w2.heap.size:=hB2.size
 have hzw:w.heap.size≤w1.heap.size:=HB1.out.size
 rw [hat5] at HAT
 unfold pol at HAT HST
 clear hat hat5 hsd hB2 HSN hsl
 generalize stM st.A (rqM q).1 ((vlM v).1.length - 1) (gvM st.A st.L (rqM q).1 ((vlM v).1.length - 1) (lvsM (vlM v).1 (worthsM (raM a).1 st.E []) st.C []) st.A.length) ⟨#[80,79,76,73,67,89]⟩=lev at*
 go_wp2_with fail
 refine(HAT.out 0).mono ?_
 rintro e w3 ⟨rfl,rfl⟩
 clear HAT
 have hlev:=HST.out
 subst hlev
 have HBE:=hide (HB1.out.trans (HB2.out.mono hzw))
 clear HB2 HST HJ HG
 go_wp2_with fail
 go_loopg [20,21] 1 (fun k bv iv wr=>bv= .string ⟨#[]⟩∧iv= .int .i64 0∧Hid (Below w.heap.size w wr))
 case atStart=>exact⟨rfl,rfl,hide ⟨HBE.out.os,HBE.out.tape,HBE.out.output,HBE.out.size,HBE.out.block⟩⟩
 case round=>
  obtain⟨rfl,rfl,HB⟩:=hrel
  go_wp2_with fail
  go_ret
  exact⟨rfl,HB.out⟩
theorem digs_get (R:List Int)(t:Nat)(h:t<(digs R).size)(k:Int)(hk:R[t]?=some k):(digs R)[t]'h=dig k:=by
 obtain⟨hl,e⟩:=List.getElem?_eq_some_iff.1 hk
 have h2:t<(R.map dig).toArray.size:=h
 show((R.map dig).toArray)[t]'h2=_
 rw [List.getElem_toArray,List.getElem_map,e]
structure RowJ (A:List As)(ln:Nat→List ByteArray)(qs:List ByteArray)(LV:List Int)(c:ByteArray)(K:Nat→Nat):Prop where
 pos:0<c.size
 le:c.size≤1000
 dg: ∀(t:Nat) (h:t<c.size),((c[t]'h).toNat:Int)- 48=(K t:Int)∧(c[t]'h).toNat=K t+48
 ok: ∀t,t<c.size→ ∃x,A[K t]?=some x∧(typeAtM LV x.conds==0)=false∧(t=0→(x.by_.toList==[80,79,76,73,67,89])=true)∧(0<t→x.by_∈ln (K (t - 1)))
 two: ∀t t',t'<t→t<c.size→K t'≠K t
 req: ∃nm∈ln (K (c.size - 1)),nm∈qs
theorem judge_row (s a v q:ByteArray)(st:St)(w:World)(h:Calls Tryz.prog 57 #[.string s,.string a,.string v,.string q,.bool true] w fun e w'=>AkPost s a v q st w e w')(hg:GoodE st.E)(hcov:CovA st)(hCl: ∀c∈st.C,c.length≤100000)(hll:(raM a).1.length≤100000)(hls: ∀p∈(raM a).1,p.2.size≤600)(hEs: ∀x∈st.E,x.text.size≤600)(hit: ∀x∈st.L,x.items.length≤100000)
  (hW: ∀x∈worthsM (raM a).1 st.E [],x.text.size≤100000000∧ -999999999≤x.num∧x.num≤999999999) (hcnt: ∀x∈st.L,x.form=2→1≤x.count) (h0:grM s a v q st=0) (hst:0<stM st.A (rqM q).1 ((vlM v).1.length - 1) (gvM st.A st.L (rqM q).1 ((vlM v).1.length - 1) (lvsM (vlM v).1 (worthsM (raM a).1 st.E []) st.C []) st.A.length) pol) (c:ByteArray) (K:Nat→Nat) (hR:RowJ st.A (lnM st.A st.L) (rqM q).1 (lvsM (vlM v).1 (worthsM (raM a).1 st.E []) st.C []) c K):
  Calls Tryz.prog 33 #[.string s,.string a,.string v,.string q,.string c,.int .i64 0] w fun e w'=>e= .returned (.bool true)∧Below w.heap.size w w':=by
 have HST:=hide hst
 have HRW:=hide hR
 have hcp:=hR.pos
 have hcl:=hR.le
 have hce:(c.toList==([]:List UInt8))=false:=by
  rw [ByteArray.toList_eq]
  cases hq:(c.data.toList==([]:List UInt8)) with
  |false=>rfl
  |true=>simp at hq;exact absurd (show c.size=0 by simp [ByteArray.size,hq]) (by omega)
 have hcn: ¬c.toList=[]:=by simpa using hce
 clear hst hR
 have HC:=hide h
 have hzz:=grM_zero h0
 obtain⟨hvz,_,hck,_,_,_⟩:=hzz
 have hv2:=vlM_two hvz
 have hA8:=(ckM_zero hck).2.2.1
 have HG:=hide (And.intro hg (And.intro hcov (And.intro hCl (And.intro hls (And.intro hEs (And.intro hit (And.intro hW hcnt)))))))
 have H0:=hide h0
 clear h h0 hg hcov hCl hls hEs hit hW hcnt hck
 go_enter Tryz.func33,Tryz.ntmps33
 go_wp2_with fail
 refine HC.out.mono ?_
 rintro e w1 ⟨x1,x2,x3,x4,rfl,hB1,⟨a1,n1,k1,rfl⟩,⟨a2,n2,k2,rfl⟩,⟨a3,n3,k3,rfl⟩,⟨a4,n4,k4,rfl⟩,hQ⟩
 have HB1:=hide hB1
 obtain⟨f,ps,how,hseg,hO2,hO3,hO4⟩:=hQ H0.out
 rw [H0.out]
 have HSN:Hid _:=hide (by
  obtain⟨hg,hcov,hCl,hls,hEs,hit,hW,hcnt⟩:=HG.out
  exact stands_any st f ps _ _ _ _ _ (raM a).1 (vlM v).1 (rqM q).1 _ _ w1 how hseg hO2 hO3 hO4 hg hcov hA8 hCl vlM_five (by omega) (rqM_len q) hll hls hEs hW hcnt hit)
 have hn1:n1=st.A.length:=by
  obtain⟨qa,qk,q⟩:=ownsRow_slc how
  injection q
 have hn3:n3=(vlM v).1.length:=by
  obtain⟨qa,qk,q⟩:=ownsRow_slice hO3
  injection q with _ q _
 have hn4:n4=(rqM q).1.length:=by
  obtain⟨qa,qk,q⟩:=ownsRow_slice hO4
  injection q with _ q _
 subst hn1 hn3 hn4
 have HJ:Hid (Jd st f ps (fun k=>k<w.heap.size) w1 w.heap.size w.heap.size w.heap.size (.slice a1 st.A.length k1) (.slice a2 n2 k2) (.slice a3 (vlM v).1.length k3) (.slice a4 (rqM q).1.length k4) (raM a).1 (vlM v).1 (rqM q).1):=hide ⟨how,hseg,hO2,hO3,hO4⟩
 clear how hseg hO2 hO3 hO4 hQ HC hB1
 go_wp2_with fail
 refine HSN.out.mono ?_
 rintro e w2 ⟨sl,v5,rfl,hsd,hat,hsl,hB2⟩
 obtain⟨b5,k5,rfl⟩:=hsd.slice
 have hat5:=hat pol
 have HAT:=hide (fun N=>atR_any _ sl _ pol (w2.drewN N) (hsd.same fun k e=>rfl) (by omega))
 have HB2:=hide hB2
 have hz2:w1.heap.size≤w2.heap.size:=hB2.size
 have hzw:w.heap.size≤w1.heap.size:=HB1.out.size
 rw [hat5] at HAT
 unfold pol at HAT HST
 clear hat hat5 hsd hB2 HSN hsl
 generalize stM st.A (rqM q).1 ((vlM v).1.length - 1) (gvM st.A st.L (rqM q).1 ((vlM v).1.length - 1) (lvsM (vlM v).1 (worthsM (raM a).1 st.E []) st.C []) st.A.length) ⟨#[80,79,76,73,67,89]⟩=lev at*
 go_wp2_with fail
 refine(HAT.out 0).mono ?_
 rintro e w3 ⟨rfl,rfl⟩
 clear HAT
 have hlev:=HST.out
 have hlz:(lev==0)=false:=by
  cases hq:(lev==0) with
  |false=>rfl
  |true=>simp at hq;omega
 have hlz': ¬lev=0:=by omega
 have hAp:0<st.A.length:=by
  obtain⟨x0,hx0,_⟩:=HRW.out.ok 0 hcp
  have:=(List.getElem?_eq_some_iff.1 hx0).1
  omega
 obtain⟨g,cap,hvx,hbb,hgl⟩:=HJ.out.l.form hAp
 injection hvx with u1 u2 u3
 subst u1 u3
 have HAT:Hid _:=hide fun(i:Nat) (x:As) (hx:st.A[i]?=some x)=>(by
  obtain⟨hg,hcov,hCl,hls,hEs,hit,hW,hcnt⟩:=HG.out
  exact HJ.out.at_ hg hcov hCl (vlM_len v) hll hls hEs hit hW hx)
 have HQ:=hide HJ.out.q
 clear hlev HST HJ HG
 generalize lvsM (vlM v).1 (worthsM (raM a).1 st.E []) st.C []=LV at*
 have HB3:Hid (Below w1.heap.size w1 (w2.drewN 0)):=hide ⟨HB2.out.os,HB2.out.tape,HB2.out.output,HB2.out.size,HB2.out.block⟩
 go_wp2_with fail
 go_loopg [20,21] (c.size+1) (fun n bv iv wr=> ∃(i:Nat) (B:ByteArray),n+i=c.size+1∧i≤c.size∧bv= .string B∧iv= .int .i64 i∧Hid (Below w1.heap.size w1 wr)∧Hid ((i=0∧B=⟨#[]⟩)∨(0<i∧B=c.extract (i - 1) i)))
 case atStart=>exact⟨0,⟨#[]⟩,rfl,Nat.zero_le _,rfl,rfl,HB3,hide (.inl ⟨rfl,rfl⟩)⟩
 case round=>
  obtain⟨i,B,hk,hil,rfl,rfl,HB,HBY⟩:=hrel
  have hHK:=hide hk
  clear hk
  by_cases hlt:i<c.size
  ·have hlt':(i:Int)<c.size:=by omega
   obtain⟨hd1,hd2⟩:=HRW.out.dg i hlt
   obtain⟨x,hx,hxw,hx0,hxn⟩:=HRW.out.ok i hlt
   have hkA:=(List.getElem?_eq_some_iff.1 hx).1
   have hkA':((K i:Nat):Int)<st.A.length:=by omega
   obtain⟨p1,p2,y0,y1,y2,yc,yn⟩:=HAT.out (K i) x hx
   obtain⟨gk0,hgk0⟩: ∃gk0,gk0=gk:=⟨_,rfl⟩
   have HGK0:=hide hgk0
   have HYC:=hide yc
   have HXX:=hide (And.intro hxw (And.intro hx0 hxn))
   clear hgk0 yc yn hxw hx0 hxn hx hd2
   go_wp2_with fail
   go_loopg [23] (i+1) (fun n jv wr2=> ∃(j m:Nat),n+j=i+1∧j≤i∧jv= .int .i64 j∧wr2=wr.drewN m)
   case atStart=>exact⟨0,0,rfl,Nat.zero_le _,rfl,rfl⟩
   case round=>
    obtain⟨j,m,hkj,hji,rfl,rfl⟩:=hrel
    have hHKJ:=hide hkj
    clear hkj
    by_cases hjl:j<i
    ·have hjl':(j:Int)<i:=by omega
     have hjc:(j:Int)<c.size:=by omega
     have hjc':j<c.size:=by omega
     have hne: ¬((c[j]'hjc').toNat:Int)=((c[i]'hlt).toNat:Int):=by
      have e1:=(HRW.out.dg j hjc').2
      have e2:=(HRW.out.dg i hlt).2
      have:=HRW.out.two i j hjl hlt
      omega
     go_wp2_with fail
     go_quiet (fail)
     go_wp2_with fail
     have hk:=hHKJ.out
     go_roundg (i - j)
     case measure=>omega
     case rel=>exact⟨j+1,_,by omega,by omega,by go_num,rfl⟩
    ·have hjl': ¬(j:Int)<i:=by omega
     have z0:wr.cell? ⟨g,K i*3,none⟩=some (.string x.by_):=(HB.out.cell (p:=⟨g,K i*3,none⟩) hgl).trans y0
     have z2:wr.cell? ⟨g,K i*3+2,none⟩=some (.pointer p2):=(HB.out.cell (p:=⟨g,K i*3+2,none⟩) hgl).trans y2
     have HYW:=hide (HYC.out (wr.drewN m) ⟨HB.out.os,HB.out.tape,HB.out.output,HB.out.size,HB.out.block⟩)
     obtain⟨hxw,hx0,hxn⟩:=HXX.out
     generalize typeAtM LV x.conds=cx at*
     have hxw': ¬cx=0:=by simpa using hxw
     have hz3:w1.heap.size≤wr.heap.size:=HB.out.size
     clear y1 y2 HXX HYC
     go_wp2_with fail
     refine HYW.out.mono ?_
     rintro e w4 ⟨rfl,hB4⟩
     have hB4:Below wr.heap.size wr w4:=⟨hB4.os,hB4.tape,hB4.output,hB4.size,hB4.block⟩
     have hB5:=HB.out.trans (hB4.mono hz3)
     have HB5:=hide hB5
     have v0:w4.cell? ⟨g,K i*3,none⟩=some (.string x.by_):=(hB5.cell (p:=⟨g,K i*3,none⟩) hgl).trans y0
     clear hB4 hB5 HYW z0 z2
     by_cases hi0:i=0
     ·have hxb:=hx0 hi0
      have hi0': ¬(0:Int)<(i:Int):=by omega
      have HI0:=hide hi0
      clear hi0 hx0 hxn
      go_wp2_with fail
      have hk:=hHK.out
      have hg0:=HGK0.out
      go_roundg (gk0 - 1)
      case measure=>omega
      case rel=>exact⟨i+1,c.extract i (i+1),by omega,by omega,rfl,by go_num,HB5,hide (.inr ⟨by omega,rfl⟩)⟩
     ·have hi0':(0:Int)<(i:Int):=by omega
      have hxb:=hxn (by omega)
      obtain⟨xp,hxp,_⟩:=HRW.out.ok (i - 1) (by omega)
      obtain⟨r1,r2,w0,t1,t2,_,tn⟩:=HAT.out (K (i - 1)) xp hxp
      obtain⟨b,hb,hcall⟩:=tn x.by_
      have hbt:b=true:=hb.2 hxb
      subst hbt
      have hkp:=(List.getElem?_eq_some_iff.1 hxp).1
      have hkp':((K (i - 1):Nat):Int)<st.A.length:=by omega
      obtain⟨hp1,_⟩:=HRW.out.dg (i - 1) (by omega)
      have hip:(i:Int)- 1<c.size:=by omega
      have s1:w4.cell? ⟨g,K (i - 1)*3+1,none⟩=some (.pointer r1):=(HB5.out.cell (p:=⟨g,K (i - 1)*3+1,none⟩) hgl).trans t1
      have HCN:=hide (fun N=>hcall (w4.drewN N) ⟨HB5.out.os,HB5.out.tape,HB5.out.output,HB5.out.size,HB5.out.block⟩)
      have HI0:=hide hi0
      clear hcall tn hb hxp hxn t1 t2 w0 hi0 hx0 hxb
      go_wp2_with fail
      go_quiet ((go_at_call 61;exact Calls.quiet_of (HCN.out _)))
      go_wp2_with fail
      have hk:=hHK.out
      have hg0:=HGK0.out
      go_roundg (gk0 - 1)
      case measure=>omega
      case rel=>exact⟨i+1,c.extract i (i+1),by omega,by omega,rfl,by go_num,hide ⟨HB5.out.os,HB5.out.tape,HB5.out.output,HB5.out.size,HB5.out.block⟩,hide (.inr ⟨by omega,rfl⟩)⟩
  ·have hlt': ¬(i:Int)<c.size:=by omega
   have hic:i=c.size:=by omega
   have hB:B=c.extract (c.size - 1) c.size:=by
    rcases HBY.out with⟨e,_⟩|⟨_,e⟩
    ·omega
    ·rw [e,hic]
   have hBs:B.size=1:=by rw [hB,ByteArray.size_extract];omega
   have hBe:(B.toList==([]:List UInt8))=false:=by
    rw [ByteArray.toList_eq]
    cases hq:(B.data.toList==([]:List UInt8)) with
    |false=>rfl
    |true=>simp at hq;exact absurd (show B.size=0 by simp [ByteArray.size,hq]) (by omega)
   have hBn: ¬B.toList=[]:=by simpa using hBe
   have hB0: ∀h0:0<B.size,(((B[0]'h0).toNat:Int)- 48)=(K (c.size - 1):Int):=fun h0=>by
    have e:B[0]'h0=c[c.size - 1]'(by omega):=by
     subst hB
     rw [ByteArray.getElem_extract]
     simp
    rw [e]
    exact(HRW.out.dg (c.size - 1) (by omega)).1
   obtain⟨x,hx,_⟩:=HRW.out.ok (c.size - 1) (by omega)
   obtain⟨p1,p2,_,y1,_,_,yn⟩:=HAT.out (K (c.size - 1)) x hx
   have hkA:=(List.getElem?_eq_some_iff.1 hx).1
   obtain⟨kl,hkl⟩: ∃kl,kl=K (c.size - 1):=⟨_,rfl⟩
   rw [←hkl] at hB0 y1 yn hkA
   have hkA':((kl:Nat):Int)<st.A.length:=by omega
   have z1:wr.cell? ⟨g,kl*3+1,none⟩=some (.pointer p1):=(HB.out.cell (p:=⟨g,kl*3+1,none⟩) hgl).trans y1
   have HRQ:Hid (∃nm∈lnM st.A st.L kl,nm∈(rqM q).1):=hide (by rw [hkl];exact HRW.out.req)
   have HYN:=hide yn
   have hB1':(0:Int)<B.size:=by omega
   have hq4:=rqM_len q
   clear hic hB HBY hx hkl yn y1 HAT HRW hHK
   go_wp2_with fail
   go_loopg [27] ((rqM q).1.length+1) (fun n jv wr2=> ∃(j m:Nat),n+j=(rqM q).1.length+1∧j≤(rqM q).1.length∧jv= .int .i64 j∧wr2=wr.drewN m∧Hid (∀(t:Nat) (nm:ByteArray),t<j→(rqM q).1[t]?=some nm→nm∉lnM st.A st.L kl))
   case atStart=>exact⟨0,0,rfl,Nat.zero_le _,rfl,rfl,hide fun t nm ht=>by omega⟩
   case round=>
    obtain⟨j,m,hkj,hjl,rfl,rfl,HNO⟩:=hrel
    have hHKJ:=hide hkj
    clear hkj
    by_cases hjq:j<(rqM q).1.length
    ·obtain⟨gq,cq,hvq,hbq,hgq⟩:=HQ.out.form (by omega)
     injection hvq with u1 u2 u3
     subst u1 u3
     obtain⟨nm,hnm⟩: ∃nm,(rqM q).1[j]?=some nm:=⟨(rqM q).1[j],List.getElem?_eq_getElem hjq⟩
     have q0:wr.cell? ⟨gq,j,none⟩=some (.string nm):=(HB.out.cell (p:=⟨gq,j,none⟩) hgq).trans (row_cell HQ.out _ _ (by rw [List.getElem?_map,hnm];rfl))
     obtain⟨b,hb,hcall⟩:=HYN.out nm
     have HCN:=hide (fun N=>hcall (wr.drewN N) ⟨HB.out.os,HB.out.tape,HB.out.output,HB.out.size,HB.out.block⟩)
     have hjq':(j:Int)<(rqM q).1.length:=by omega
     have HNM:=hide (And.intro hnm hb)
     clear hcall hnm hb
     cases b
     ·go_wp2_with fail
      refine(HCN.out _).mono ?_
      rintro e w5 ⟨rfl,n5,rfl⟩
      go_wp2_with fail
      have hk:=hHKJ.out
      go_roundg ((rqM q).1.length - j)
      case measure=>omega
      case rel=>
       refine⟨j+1,_,by omega,by omega,by go_num,rfl,hide fun t nm' ht hnm' hin=> ?_⟩
       by_cases e:t=j
       ·subst e
        rw [HNM.out.1] at hnm'
        injection hnm' with e
        have:=HNM.out.2.2 (e▸hin)
        cases this
       ·exact HNO.out t nm' (by omega) hnm' hin
     ·have HBE:=hide (HB1.out.trans (HB.out.mono hzw))
      go_wp2_with fail
      refine(HCN.out _).mono ?_
      rintro e w5 ⟨rfl,n5,rfl⟩
      go_wp2_with fail
      go_ret
      exact⟨rfl,⟨HBE.out.os,HBE.out.tape,HBE.out.output,HBE.out.size,HBE.out.block⟩⟩
    ·exfalso
     obtain⟨nm,h1,h2⟩:=HRQ.out
     obtain⟨t,ht⟩:=List.mem_iff_getElem?.1 h2
     exact HNO.out t nm (by have:=(List.getElem?_eq_some_iff.1 ht).1;omega) ht h1
end Go.Proofs.YtkoohcilbpdgeaaGreatDoor
