import Derived.Test.YtkoohcilbpdgeaaGreatDoorC03
set_option linter.all false
set_option linter.unusedVariables false
set_option linter.unusedSimpArgs false
set_option linter.unnecessarySimpa false
set_option linter.constructorNameAsVariable false
set_option linter.deprecated false
set_option maxRecDepth 100000
set_option maxHeartbeats 6400000
namespace Go.Proofs.YtkoohcilbpdgeaaGreatDoor
open Go Go.RowKit
attribute [local go_sem] wrap64_byte
theorem zbq {b g0 Ws:Nat}{w4 w6:World}{kv kv' v:Value}{L F:List Lc}{f f4:Nat}{vs:List Value}{its:List Int}{a e i:Nat}
  (h:SegV (fun v a i=>RefLX (KX b g0 kv) w4 L f v a i) vs its a e) (hn:RefLX (Out b Ws) w4 (L++F) f4 v e i) (hgW:g0<Ws) (hkW: ∀k,kv.ownBlock=some k→k<Ws)
  (hs:z1M (fun k=>KX b g0 kv k∨w4.heap.size≤k) w4 w6) (hk: ∀k,KX b g0 kv' k→KX b g0 kv k∨w4.heap.size≤k):
  SegV (fun v a i=>RefLX (KX b g0 kv') w6 (L++F) (f+f4) v a i) (vs++[v]) (its++[(i:Int)]) a (i+1):=by
 refine SegV.snoc _ _ _ e v i (SegV.imp (fun u c j q=> ?_) _ _ _ _ h) ?_
 ·exact((((q.more F).ups f4).cap).keepX hs).mono hk
 ·have hsub: ∀k,KX b g0 kv k→Out b Ws k:=fun k e=>by
   rcases e with e|e|e
   ·exact .inl e
   ·exact .inr (by omega)
   ·exact .inr (hkW k e)
  have h1:=((hn.ups f).cap).mono (X':=fun k=>KX b g0 kv k∨w4.heap.size≤k) (fun k e=>e.imp (hsub k) id)
  rw [Nat.add_comm f f4]
  exact(h1.keepX hs).mono hk
theorem zah {b g0:Nat}{kv:Value}{w w':World}(h:Rf b w w'):z1M (KX b g0 kv) w w':=h.sameX (.inl rfl)
def zbE (s:zgS)(at0 k:Int)(r:Int)(st':St)(g:Nat)(more:Bool)(its:List Int)(q:Nat)(sv:St):Prop:=
 if more then((ML s g 0 0 0 0 [] sv).bind fun r'=>ML s g 13 0 at0 k (its++[r'.1]) r'.2)=some (r,st') else(q=sv.at_∧z2H (sgn s [41] sv) ⟨2,⟨#[]⟩,-1,-1,at0,k,its⟩=some (r,st'))
theorem zck (s:zgS)(n:Nat)(b:Nat)(st:St)(w:World)(p:Nat)(r:Int)(st':St)(hM:ML s (n+1) 3 0 0 0 [] st=some (r,st'))(hR:Rd w b s p st.bad)(hp:skip s p st.bad=st.at_)
  (h1:zg (pkS s st)=true) (h4:(pkS s st==40)=false) (ih: ∀m,m≤n→zbX s ⟨#[124,124]⟩ 0 m):
  Calls Tryz.prog 164 #[.pointer (some ⟨b,0,none⟩)] w fun e w'=>z6f b s st st' r w e w':=by
 rw [z9z] at hM
 obtain⟨hbd,hat⟩:st.bad=false∧st.at_<s.size:=jT (s:=s) (a:=st.at_) (d:=st.bad) (fun e=>by unfold pkS at h1;rw [e] at h1;revert h1;decide)
 obtain⟨c,hc⟩: ∃c:UInt8,jg s st.at_ st.bad=(c.toNat:Int)∧pkS s st=(c.toNat:Int)∧48≤c.toNat∧c.toNat≤57:=by
  refine⟨s[st.at_],?_,?_,?_⟩
  ·unfold jg;simp [hbd,hat,pk]
  ·unfold pkS;simp [hbd,hat,pk]
  ·have h:=h1
   unfold pkS pk zg at h
   simp [hbd,hat] at h
   omega
 have hbl:=zK b p s st.bad w hR
 rw [hp] at hbl
 have HBL:=z8 hbl
 have t1:zg (c.toNat:Int)=true:=by rw [←hc.2.1];exact h1
 have hcv:=hc.1
 have hc40:((c.toNat:Int)==40)=false:=by rw [←hc.2.1];exact h4
 have HMh:=z8 hM
 have HC:=z8 hc
 have HBD:=z8 hbd
 have IH:=z8 ih
 have hcl:=c.toNat_lt
 clear hM hbl hp h1 h4 hc hbd ih
 go_enter Tryz.func164,Tryz.ntmps164
 go_wp2_with fail
 refine HBL.out.mono ?_
 rintro e w1 ⟨rfl,hR1,hs1⟩
 obtain⟨c0,c1,c2,f1,f2,_,_⟩:=id hR1
 have hb1:b<w1.heap.size:=zd hR1.c0
 have hRa:Rd (w1.alloc (.cells #[.string ⟨#[]⟩,.string ⟨#[]⟩,.int .i64 st.at_,.slice none 0 0] 138)) b s st.at_ st.bad:=hR1.other (zgJ _ _ _ hb1)
 have hga:=heap_alloc_new w1 (.cells #[.string ⟨#[]⟩,.string ⟨#[]⟩,.int .i64 st.at_,.slice none 0 0] 138)
 have hFa:Rf b w (w1.alloc (.cells #[.string ⟨#[]⟩,.string ⟨#[]⟩,.int .i64 st.at_,.slice none 0 0] 138)):=hs1.rf.alloc _
 have hz1:w.heap.size=w1.heap.size:=hs1.size.symm
 have HA:=z8 (zgI hRa (zgI hga (zgI hFa hz1)))
 clear hRa hga hFa hz1 hs1 hR
 go_wp2_with fail
 refine(zQ b st.at_ s st.bad _ HA.out.1).mono ?_
 rintro e w2 ⟨rfl,n2,rfl⟩
 rw [hcv]
 go_wp2_with fail
 refine(jG _ _ (by omega)).mono ?_
 rintro e w2 ⟨rfl,rfl⟩
 rw [t1]
 have hnb:w1.heap.size≠b:=by omega
 have hnb2:w1.heap.size+1≠b:=by omega
 have hblk: ∀(o q:Obj) (v:Value),((((w1.alloc o).drewN n2).setCell ⟨w1.heap.size,0,none⟩ v).alloc q).heap[b]?=w1.heap[b]?:=fun o q v=>by
  rw [zgJ _ _ _ (by simp [World.drewN,World.setCell];omega),zgQ _ _ _ _ (by simp;omega)]
  exact zgJ _ _ _ hb1
 have hcz: ∀(o q:Obj) (v:Value),((((w1.alloc o).drewN n2).setCell ⟨w1.heap.size,0,none⟩ v).alloc q).cell? ⟨b,1,none⟩=some (.int .i64 st.at_):=fun o q v=>(World.cell?_of_block (w:=w1) (hblk o q v)).trans c1
 have hfz: ∀(o q:Obj) (v:Value),((((w1.alloc o).drewN n2).setCell ⟨w1.heap.size,0,none⟩ v).alloc q).frozen? ⟨b,1,none⟩=false:=fun o q v=>(World.frozen?_of_block (w:=w1) (hblk o q v)).trans f1
 have hconv: ∀(o:Obj) (v:Value),Sem.run Tryz.prog (convert 142 9 (.slice (some ⟨w1.heap.size+1,0,none⟩) 1 1)) ((((w1.alloc o).drewN n2).setCell ⟨w1.heap.size,0,none⟩ v).alloc (.cells #[.int .u8 c.toNat] 5))= .ok (.string ⟨#[c]⟩) ((((w1.alloc o).drewN n2).setCell ⟨w1.heap.size,0,none⟩ v).alloc (.cells #[.int .u8 c.toNat] 5)):=fun o v=>by
  have h:=heap_alloc_new (((w1.alloc o).drewN n2).setCell ⟨w1.heap.size,0,none⟩ v) (.cells #[.int .u8 c.toNat] 5)
  rw [show(((w1.alloc o).drewN n2).setCell ⟨w1.heap.size,0,none⟩ v).heap.size=w1.heap.size+1 by simp [World.drewN,World.setCell]] at h
  rw [zeB _ _ c.toNat ((cell_of_row _ _ 0 _ _ _ h).trans rfl)]
  simp
 clear hblk
 go_wp2_with fail
 have hR2:Rd ((((((w1.alloc (.cells #[.string ⟨#[]⟩,.string ⟨#[]⟩,.int .i64 st.at_,.slice none 0 0] 138)).drewN n2).setCell ⟨w1.heap.size,0,none⟩ (.string ⟨#[111,102]⟩)).setCell ⟨w1.heap.size,1,none⟩ (.string ⟨#[c]⟩)).setCell ⟨b,1,none⟩ (.int .i64 (st.at_+1))).alloc (.cells #[.int .u8 c.toNat] 5)) b s (st.at_+1) false:=by
  have h1:=((HA.out.1.drewN n2).other (w':=((w1.alloc (.cells #[.string ⟨#[]⟩,.string ⟨#[]⟩,.int .i64 st.at_,.slice none 0 0] 138)).drewN n2).setCell ⟨w1.heap.size,0,none⟩ (.string ⟨#[111,102]⟩)) (zgQ _ _ _ _ (by simp;omega)))
  have h2:=h1.other (w':=(((w1.alloc (.cells #[.string ⟨#[]⟩,.string ⟨#[]⟩,.int .i64 st.at_,.slice none 0 0] 138)).drewN n2).setCell ⟨w1.heap.size,0,none⟩ (.string ⟨#[111,102]⟩)).setCell ⟨w1.heap.size,1,none⟩ (.string ⟨#[c]⟩)) (zgQ _ _ _ _ (by simp;omega))
  have h3:=h2.setAt' (st.at_+1) (st.at_+1) (by omega) hat
  rw [HBD.out] at h3
  exact h3.other (zgJ _ _ _ (by simp [World.drewN,World.setCell];omega))
 have hG2:Gr b w1.heap.size ((((((w1.alloc (.cells #[.string ⟨#[]⟩,.string ⟨#[]⟩,.int .i64 st.at_,.slice none 0 0] 138)).drewN n2).setCell ⟨w1.heap.size,0,none⟩ (.string ⟨#[111,102]⟩)).setCell ⟨w1.heap.size,1,none⟩ (.string ⟨#[c]⟩)).setCell ⟨b,1,none⟩ (.int .i64 (st.at_+1))).alloc (.cells #[.int .u8 c.toNat] 5)) sOf ⟨#[c]⟩ st.at_ (.slice none 0 0) []:=by
  have h2:=zcS (z7y HA.out.2.1 (.string ⟨#[111,102]⟩)) (.string ⟨#[c]⟩)
  refine⟨hnb,by simp [World.drewN,World.setCell];omega,?_,World.ownsRow_nil _ _ _ _,by simp [Value.ownBlock]⟩
  rw [zgJ _ _ _ (by simp [World.drewN,World.setCell]),zgQ _ _ _ _ (by simpa using hnb)]
  exact h2
 have hF2:Rf b w ((((((w1.alloc (.cells #[.string ⟨#[]⟩,.string ⟨#[]⟩,.int .i64 st.at_,.slice none 0 0] 138)).drewN n2).setCell ⟨w1.heap.size,0,none⟩ (.string ⟨#[111,102]⟩)).setCell ⟨w1.heap.size,1,none⟩ (.string ⟨#[c]⟩)).setCell ⟨b,1,none⟩ (.int .i64 (st.at_+1))).alloc (.cells #[.int .u8 c.toNat] 5)):=by
  have hz:=HA.out.2.2.2
  exact((((HA.out.2.2.1.drewN n2).setCell (a:=⟨w1.heap.size,0,none⟩) (by rw [hz];exact zgH _) _).setCell (a:=⟨w1.heap.size,1,none⟩) (by rw [hz];exact zgH _) _).setB 1 _).alloc _
 have hzz:w.heap.size≤w1.heap.size:=Nat.le_of_eq HA.out.2.2.2
 clear hcz hfz hconv HA c0 c1 c2 f1 f2 hR1 HBL
 generalize ((((((w1.alloc (.cells #[.string ⟨#[]⟩,.string ⟨#[]⟩,.int .i64 st.at_,.slice none 0 0] 138)).drewN n2).setCell ⟨w1.heap.size,0,none⟩ (.string ⟨#[111,102]⟩)).setCell ⟨w1.heap.size,1,none⟩ (.string ⟨#[c]⟩)).setCell ⟨b,1,none⟩ (.int .i64 (st.at_+1))).alloc (.cells #[.int .u8 c.toNat] 5))=W0 at*
 refine(zN b (st.at_+1) s _ false _ hR2 (by decide)).mono ?_
 rintro e w3 ⟨rfl,hR3,hs3⟩
 have HG3:=z8 (hG2.rf hs3.rf)
 have hF3:=hF2.trans hs3.rf
 generalize w1.heap.size=g0 at*
 clear hG2 hF2 hs3
 obtain⟨i0,hi,hz0,hz1,hz2⟩:=info_parts info89
 go_wp2_with fail
 go_loopg [5,6] n (fun g mv _ wr=>g≤n∧ ∃(more:Bool) (kv:Value) (vs:List Value) (its:List Int) (q:Nat) (sv:St),mv= .bool more∧Rd wr b s q sv.bad∧Hid (skip s q sv.bad=sv.at_)∧Hid (Gr b g0 wr sOf ⟨#[c]⟩ st.at_ kv vs)∧Rf b w wr∧Hid (vs.length=its.length)∧Hid (ExtL st sv)∧Hid (sv.bad=false→ ∃f,SegV (fun v a i=>RefLX (KX b g0 kv) wr sv.L f v a i) vs its st.L.length sv.L.length)∧Hid (zbE s st.at_ (pkS s st - 48) r st' g more its q sv))
 case atStart=>
  have hb0:=HBD.out
  refine⟨zgH _,true,_,[],[],(zt s false [45,111,102,40] (st.at_+1)).1,sgn s [45,111,102,40] {st with at_:=st.at_+1},rfl,?_,?_,HG3,hF3,rfl,z8 ⟨⟨[],by simp [sgn,St.put]⟩,rfl,rfl,rfl⟩,z8 fun _=>⟨0,rfl⟩,?_⟩
  ·show Rd w3 b s _ (jo s st.bad [45,111,102,40] (st.at_+1)).2
   rw [hb0]
   exact hR3
  ·show skip s _ (jo s st.bad [45,111,102,40] (st.at_+1)).2=(jo s st.bad [45,111,102,40] (st.at_+1)).1
   rw [hb0]
   rfl
  ·show zbE _ _ _ _ _ _ _ _ _ _
   unfold zbE
   rw [if_pos rfl]
   exact HMh.out
 case round=>
  obtain⟨hgn,more,kv,vs,its,q,sv,rfl,hRq,hq,hG,hF,hlen,hX,ht,hto⟩:=hrel
  have hto':=hto.out
  clear hto HG3
  unfold zbE at hto'
  cases more with
  |false=>
   rw [if_neg (by decide)] at hto'
   obtain⟨rfl,hadd⟩:=hto'
   obtain⟨hl,h6⟩:=zJ hadd
   cases h6
   clear hadd
   go_wp2_with fail
   refine(zN b sv.at_ s _ sv.bad _ hRq (by decide)).mono ?_
   rintro e w9 ⟨rfl,hR9,hs9⟩
   go_wp2_with fail
   go_ret
   refine⟨_,_,rfl,hR9,hF.trans hs9.rf,rfl,fun hb=> ?_⟩
   have hb2:sv.bad=false:=by
    cases hq:sv.bad with
    |false=>rfl
    |true=>
     have h2:=(z0b (s:=s) (c:=41) (cs:=[]) hq).1
     rw [h2] at hb
     cases hb
   obtain⟨f,hseg⟩:=ht.out hb2
   have hsz:(sgn s [41] sv).L=sv.L:=rfl
   refine⟨f+1,sv.L.length,rfl,by simp [hsz],⟨2,⟨#[]⟩,-1,-1,st.at_,pkS s st - 48,its⟩,by simp [hsz],?_⟩
   have hh:=HC.out
   refine .inr (.inr ⟨rfl,vs,c,by rw [hh.2.1],hh.2.2.1,hh.2.2.2,(hG.out.rf hs9.rf).node hzz,SegV.imp (fun v a i q=> ?_) _ _ _ _ hseg⟩)
   exact((q.more _).keepX (zah hs9.rf)).mono fun k e=>e.imp id fun e=> .inl (by omega)
  |true=>
   rw [if_pos rfl] at hto'
   obtain⟨⟨r1,st1⟩,hm1,hm2⟩:=zgD.1 hto'
   simp only at hm2
   obtain⟨c0,c1,c2,f1,f2,hle,hsz⟩:=id hRq
   obtain⟨bd,HBQ⟩: ∃bd,Hid (sv.bad=bd):=⟨_,rfl⟩
   rw [HBQ.out] at c2
   cases bd with
   |true=>
    have k1:=z4v s _ _ _ _ _ _ _ _ hm1 (by omega) HBQ.out
    have k2:=z4v s _ _ _ _ _ _ _ _ hm2 (by omega) k1.1
    have hb':Hid (st'.bad=true):=z8 k2.1
    have hat':Hid (st'.at_=q):=z8 (by
     have h:=hq.out
     rw [HBQ.out,jJ] at h
     rw [h]
     exact k2.2.trans k1.2)
    have hRq':Rd wr b s q true:=by rw [←HBQ.out];exact hRq
    clear hto' hm1 hm2 k1 k2 hRq
    go_wp2_with fail
    refine(zN b q s _ true _ hRq' (by decide)).mono ?_
    rintro e w9 ⟨rfl,hR9,hs9⟩
    rw [z45] at hR9
    go_wp2_with fail
    go_ret
    refine⟨_,q,rfl,?_,hF.trans hs9.rf,?_,fun hb=> ?_⟩
    ·rw [hb'.out];exact hR9
    ·rw [hb'.out,jJ,hat'.out]
    ·rw [hb'.out] at hb;cases hb
   |false=>
    cases gk with
    |zero=>exact absurd hm1 (by simp [ML])
    |succ g=>
     rw [z2U] at hm2
     have hil:(its++[r1]).length<100000:=by
      by_cases hx:(its++[r1]).length<100000
      ·exact hx
      ·rw [if_neg hx] at hm2;cases hm2
     rw [if_pos hil] at hm2
     simp at hil
     have hvl:vs.length<99999:=by have:=hlen.out;omega
     have HX1:=z8 (z07 s _ _ _ _ _ _ _ _ hm1)
     have HM1:=z8 hm1
     have HM2:=z8 hm2
     clear hto' hm1 hm2
     go_wp2_with fail
     refine(IH.out (g+1) hgn b sv _ _ r1 st1 HM1.out hRq hq.out).mono ?_
     rintro e w4 ⟨ao4,p4,rfl,hR4,hF4,hp4,ht4⟩
     have hG4:=hG.out.rf hF4
     obtain⟨a5,k5,rfl⟩:=jD hG4.own
     obtain⟨z1,z2⟩:=hG4.cell
     have how:=hG4.own
     have hglt:=hG4.lt
     have HT4:=z8 ht4
     have HP4:=z8 hp4
     have HG4:=z8 hG4
     clear ht4 hp4 hG4
     go_wp2_with (at_builtin;go_must (refine wpList_append_lies _ rfl (.tmp 71) (.tmp 73) 136 rfl (g0+1) 89 i0 _ 1 8 Tryz.underlying136 hi hz0 hz1 hz2 rfl (by omega) _ vs.length vs rfl (how.alloc _) ⟨w4.heap.size,0,none⟩ 1 1 [.pointer ao4] rfl rfl ?news ?one (by omega) ?mm ?bys ?base (w4.heap.size+1) (by simp) ?rest))
     case news=>exact World.news_of_block (heap_alloc_new w4 _)
     case one=>intro u hu;simp at hu;subst hu;rfl
     case mm=>unfold maxLen;omega
     case bys=>omega
     case base=>simp;omega
     case rest=>
      intro gb cap w5 hown hgrow hat2 hlt2
      have hpush:=HG4.out.push hown hgrow hat2
      obtain⟨hG6,hsame,hkx,hb6,hrf6,y1,y2⟩:=hpush
      have hR6:=hR4.other hb6
      have hF6:=hrf6 w (hF.trans hF4) hzz
      have HG6:=z8 hG6
      have HSM:=z8 (zgI hsame hkx)
      have hsg:=jH b p4 s 44 st1.bad _ hR6
      rw [HP4.out] at hsg
      have HSG:=z8 hsg
      clear hG6 hsame hkx hb6 hrf6 hown hgrow hat2 hlt2 hsg how z1 z2
      go_wp2_with fail
      have hseg:Hid (st1.bad=false→ ∃(f:Nat) (i:Nat),r1=(i:Int)∧SegV (fun v a i=>RefLX (KX b g0 (.slice (some ⟨gb,0,none⟩) (vs.length+1) cap)) (w5.setCell ⟨g0,3,none⟩ (.slice (some ⟨gb,0,none⟩) (vs.length+1) cap)) st1.L f v a i) (vs++[.pointer ao4]) (its++[r1]) st.L.length st1.L.length):=z8 fun hb=>by
       obtain⟨f4,i4,e4,l4,t4⟩:=HT4.out hb
       obtain⟨f0,t0⟩:=ht.out HBQ.out
       obtain⟨⟨F,hFE⟩,_,_,_⟩:=HX1.out
       have hFE:st1.L=sv.L++F:=hFE
       rw [hFE] at t4
       have hp:=zbq (SegV.imp (fun v a i q=>q.keepX (zah hF4)) _ _ _ _ t0) t4 hG.out.lt (fun k e=>(hG.out.own.lt k e).2) HSM.out.1 HSM.out.2
       refine⟨f0+f4,i4,e4,?_⟩
       rw [←l4,hFE,e4]
       exact hp
      have hX6:=z8 (hX.out.trans HX1.out)
      have hLN:Hid ((vs++[Value.pointer ao4]).length=(its++[r1]).length):=z8 (by have:=hlen.out;simp;omega)
      clear HSM HT4 HX1 ht hX hlen hG HG4 y1 y2
      refine HSG.out.mono ?_
      rintro e w7 ⟨rfl,hR7,hs7⟩
      have HG7:=z8 (HG6.out.rf hs7.rf)
      have hF7:=hF6.trans hs7.rf
      have hm2:=HM2.out
      clear HM2 HM1 HG6
      cases hc:(pkS s st1==44)
      ·rw [hc,if_neg (by decide)] at hm2
       have hcc:(pk s st1.at_ st1.bad==((44:UInt8).toNat:Int))=false:=hc
       rw [hcc]
       have HM2:=z8 hm2
       clear hm2 hc
       go_wp2_with fail
       go_roundg g
       case measure=>omega
       case rel=>
        refine⟨by omega,false,_,_,_,st1.at_,st1,rfl,hR7,?_,HG7,hF7,hLN,hX6,z8 fun hb=> ?_,?_⟩
        ·have hi:=jp s p4 st1.bad hR4.le
         rw [HP4.out] at hi
         exact hi
        ·obtain⟨f,i,e,q⟩:=hseg.out hb
         exact⟨f,SegV.imp (fun v a i q=>q.keepX (zah hs7.rf)) _ _ _ _ q⟩
        ·show zbE _ _ _ _ _ _ _ _ _ _
         unfold zbE
         rw [if_neg (by decide)]
         exact⟨rfl,HM2.out⟩
      ·rw [hc,if_pos rfl] at hm2
       have hcc:(pk s st1.at_ st1.bad==((44:UInt8).toNat:Int))=true:=hc
       rw [hcc]
       have HM2:=z8 hm2
       clear hm2 hc
       go_wp2_with fail
       refine(zN b st1.at_ s _ st1.bad _ hR7 (by decide)).mono ?_
       rintro e w8 ⟨rfl,hR8,hs8⟩
       go_wp2_with fail
       go_roundg g
       case measure=>omega
       case rel=>
        refine⟨by omega,true,_,_,_,_,sgn s [44] st1,rfl,hR8,rfl,z8 (HG7.out.rf hs8.rf),hF7.trans hs8.rf,hLN,hX6,z8 fun hb=> ?_,?_⟩
        ·have hb2:st1.bad=false:=by
          cases hq:st1.bad with
          |false=>rfl
          |true=>
           have h2:=(z0b (s:=s) (c:=44) (cs:=[]) hq).1
           rw [h2] at hb
           cases hb
         obtain⟨f,i,e,q⟩:=hseg.out hb2
         exact⟨f,SegV.imp (fun v a i q=>(q.keepX (zah hs7.rf)).keepX (zah hs8.rf)) _ _ _ _ q⟩
        ·show zbE _ _ _ _ _ _ _ _ _ _
         unfold zbE
         rw [if_pos rfl]
         exact HM2.out
theorem z9J (s:zgS)(n:Nat)(ih: ∀m,m≤n→zbX s ⟨#[124,124]⟩ 0 m):zfR s (n+1):=by
 intro b st w p r st' hM hR hp
 cases h4:(pkS s st==40)
 ·cases h1:zg (pkS s st)
  ·exact z9L s n b st w p r st' hM hR hp h1 h4
  ·rw [z6l,h4,if_neg (by decide),h1,if_pos rfl] at hM
   cases n with
   |zero=>simp [ML] at hM
   |succ m=>exact zck s m b st w p r st' hM hR hp h1 h4 fun k hk=>ih k (by omega)
 ·exact z83 s n b st w p r st' hM hR hp h4 (ih n (zgH _))
theorem ze9 (s:zgS): ∀n,zbX s ⟨#[124,124]⟩ 0 n∧zbX s ⟨#[38,38]⟩ 1 n∧zfR s n:=by
 intro n
 induction n using Nat.strongRecOn with
 |_ n ih=>
  cases n with
  |zero=>exact⟨fun b st w p r st' h=>by simp [ML] at h,fun b st w p r st' h=>by simp [ML] at h,fun b st w p r st' h=>by simp [ML] at h⟩
  |succ n=>exact⟨zfZ s n fun m h=>(ih m (by omega)).2.1,zfy s n fun m h=>(ih m (by omega)).2.2,z9J s n fun m h=>(ih m (by omega)).1⟩
def NM (s:zgS)(st:St):Prop:=(pk s st.at_ st.bad==45)=true→zz s st.at_ st.bad=true
theorem NM.of_eq {s:zgS}{st st':St}(h:NM s st)(h1:st'.at_=st.at_)(h2:st'.bad=st.bad):NM s st':=by
 unfold NM
 rw [h1,h2]
 exact h
theorem z8e {s:zgS}{st:St}(h:(zr s st.at_ st.bad).size==0):NM s st:=by
 intro h45
 cases ha:zz s st.at_ st.bad with
 |true=>rfl
 |false=>
  have h1:pk s st.at_ st.bad=45:=by simpa using h45
  unfold zr at h
  rw [ha,h1] at h
  exact absurd h (by decide)
theorem zgu (s:zgS): ∀n tag l st r,M s n tag l st=some r→((tag=0∨tag=1∨tag=2∨tag=3∨tag=4∨tag=14)→NM s r.2)∧((tag=10∨tag=11)→NM s st→NM s r.2):=by
 intro n
 induction n with
 |zero=>intro tag l st r h;simp [M] at h
 |succ n ih=>
  intro tag l st r h
  match tag,h with
  |0,h=>
   rw [M_0] at h
   obtain⟨q,h1,h2⟩:=zgD.1 h
   exact⟨fun _=>(ih _ _ _ _ h2).2 (.inl rfl) ((ih _ _ _ _ h1).1 (by omega)),by omega⟩
  |1,h=>
   rw [M_1] at h
   obtain⟨q,h1,h2⟩:=zgD.1 h
   exact⟨fun _=>(ih _ _ _ _ h2).2 (.inr rfl) ((ih _ _ _ _ h1).1 (by omega)),by omega⟩
  |4,h=>
   rw [M_4] at h
   obtain⟨q,h1,h2⟩:=zgD.1 h
   exact⟨fun _=>(ih _ _ _ _ h2).1 (by omega),by omega⟩
  |10,h=>
   rw [z71] at h
   refine⟨by omega,fun _ hn=> ?_⟩
   split at h
   ·obtain⟨q,h1,h2⟩:=zgD.1 h
    obtain⟨q2,h3,h4⟩:=zgD.1 h2
    have k:=zZ h3
    exact(ih _ _ _ _ h4).2 (.inl rfl) (((ih _ _ _ _ h1).1 (by omega)).of_eq k.2 k.1)
   ·cases h;exact hn
  |11,h=>
   rw [z7h] at h
   refine⟨by omega,fun _ hn=> ?_⟩
   split at h
   ·obtain⟨q,h1,h2⟩:=zgD.1 h
    obtain⟨q2,h3,h4⟩:=zgD.1 h2
    have k:=zZ h3
    exact(ih _ _ _ _ h4).2 (.inr rfl) (((ih _ _ _ _ h1).1 (by omega)).of_eq k.2 k.1)
   ·cases h;exact hn
  |14,h=>
   rw [z6x] at h
   refine⟨fun _=> ?_,by omega⟩
   simp only at h
   split at h
   ·rename_i hz;cases h;exact z8e hz
   ·obtain⟨q,h1,h2⟩:=zgD.1 h
    obtain⟨q2,h3,h4⟩:=zgD.1 h2
    exact(ih _ _ _ _ h4).1 (by omega)
  |2,h=>
   rw [M_2] at h
   refine⟨fun _=> ?_,by omega⟩
   split at h
   ·exact(ih _ _ _ _ h).1 (by omega)
   ·obtain⟨q,h1,h2⟩:=zgD.1 h
    have k:=zZ h2
    exact((ih _ _ _ _ h1).1 (by omega)).of_eq k.2 k.1
  |3,h=>
   rw [M_3] at h
   refine⟨fun _=> ?_,by omega⟩
   obtain⟨q,h1,h2⟩:=zgD.1 h
   simp only at h2
   split at h2
   ·rename_i hz
    cases h2
    have k:=(ih _ _ _ _ h1).1 (by omega)
    unfold ze at hz ⊢
    split
    ·rename_i e;rw [if_pos e] at hz;exact absurd hz (by simp [ByteArray.size])
    ·rename_i e
     rw [if_neg e] at hz
     split
     ·rename_i e;rw [if_pos e] at hz;exact absurd hz (by simp [ByteArray.size])
     ·rename_i e
      rw [if_neg e] at hz
      split
      ·rename_i e
       rw [if_pos e] at hz
       unfold zx at hz
       simp only at hz
       split at hz<;>exact absurd hz (by simp [ByteArray.size])
      ·rename_i e
       rw [if_neg e] at hz
       split
       ·rename_i e
        rw [if_pos e] at hz
        unfold zx at hz
        simp only at hz
        split at hz<;>exact absurd hz (by simp [ByteArray.size])
       ·exact k
   ·obtain⟨q2,h3,h4⟩:=zgD.1 h2
    have k:=zZ h4
    exact((ih _ _ _ _ h3).1 (by omega)).of_eq k.2 k.1
  |5,h=>exact⟨by omega,by omega⟩
  |6,h=>exact⟨by omega,by omega⟩
  |7,h=>exact⟨by omega,by omega⟩
  |15,h=>exact⟨by omega,by omega⟩
  |8,h=>simp [M] at h
  |9,h=>simp [M] at h
  |12,h=>simp [M] at h
  |13,h=>simp [M] at h
  |t+16,h=>simp [M] at h
def zb4 (s:zgS)(n:Nat)(u:St):Option (Int×zgS×Int×St):=
 if pkS s u==123 then(MC s n 0 [] (sgn s [123] u)).bind fun v=>some (2,⟨#[]⟩,v.1,sgn s [125] v.2.2)
 else some (1,(zw s u.at_ u.bad).2.2,-1,u.put3 (zw s u.at_ u.bad))
theorem z6v (s:zgS)(n:Nat)(cls0:List Cl)(st:St):MC s (n+1) 1 cls0 st=
  ((M s n 0 0 st).bind fun r=>(jQ r.2 ⟨7,st.at_,⟨#[]⟩,r.1,-1⟩).bind fun q=>
   if !zz s q.2.at_ q.2.bad then some (0,⟨q.1,0,⟨#[]⟩,-1⟩,q.2)
   else(zb4 s n (sgn s [45,62] q.2)).bind fun x=>some (0,⟨q.1,x.1,x.2.1,x.2.2.1⟩,x.2.2.2)):=by
 rw [zai]
 congr
 funext r
 congr
 funext q
 split
 ·rfl
 ·unfold zb4
  simp only
  split
  ·cases MC s n 0 [] (sgn s [123] (sgn s [45,62] q.2))<;>rfl
  ·rfl
def ExtC (st st':St):Prop:=(∃F,st'.E=st.E++F)∧(∃G,st'.C=st.C++G)∧st'.A=st.A∧st'.L=st.L
theorem ExtC.refl (st:St):ExtC st st:=⟨⟨[],by simp⟩,⟨[],by simp⟩,rfl,rfl⟩
theorem ExtC.trans {a b c:St}(h:ExtC a b)(k:ExtC b c):ExtC a c:=by
 obtain⟨⟨F,h1⟩,⟨F',h1'⟩,h3,h4⟩:=h
 obtain⟨⟨G,k1⟩,⟨G',k1'⟩,k3,k4⟩:=k
 exact⟨⟨F++G,by rw [k1,h1,List.append_assoc]⟩,⟨F'++G',by rw [k1',h1',List.append_assoc]⟩,k3.trans h3,k4.trans h4⟩
theorem ExtE.c {a b:St}(h:ExtE a b):ExtC a b:=by
 obtain⟨⟨F,h1⟩,h2,h3,h4⟩:=h
 exact⟨⟨F,h1⟩,⟨[],by simp [h4]⟩,h2,h3⟩
theorem zat {st:St}{x:List Cl}{r:Int×St}(h:z8I st x=some r):ExtC st r.2:=by
 obtain⟨_,rfl⟩:=jy h
 exact⟨⟨[],by simp⟩,⟨[x],rfl⟩,rfl,rfl⟩
theorem z7w {s:zgS}{n:Nat}(ih: ∀tag cls st r,MC s n tag cls st=some r→ExtC st r.2.2){u:St}{x:Int×zgS×Int×St}(h:zb4 s n u=some x):ExtC u x.2.2.2:=by
 unfold zb4 at h
 split at h
 ·obtain⟨v,h1,h2⟩:=zgD.1 h
  cases h2
  have k:=ih _ _ _ _ h1
  exact k
 ·cases h;exact ExtC.refl u
theorem z1i (s:zgS): ∀n tag cls st r,MC s n tag cls st=some r→ExtC st r.2.2:=by
 intro n
 induction n with
 |zero=>intro tag cls st r h;simp [MC] at h
 |succ n ih=>
  intro tag cls st r h
  match tag,h with
  |0,h=>
   rw [z8h] at h
   obtain⟨q,h1,h2⟩:=zgD.1 h
   exact(ih _ _ _ _ h1).trans (ih _ _ _ _ h2)
  |2,h=>
   rw [z7k] at h
   split at h
   ·split at h
    ·obtain⟨q,h1,h2⟩:=zgD.1 h
     have k:=ih _ _ _ _ h1
     exact ExtC.trans k (ih _ _ _ _ h2)
    ·obtain⟨q,h1,h2⟩:=zgD.1 h
     cases h2
     exact zat h1
   ·cases h
  |1,h=>
   rw [z6v] at h
   obtain⟨q,h1,h2⟩:=zgD.1 h
   obtain⟨q2,h3,h4⟩:=zgD.1 h2
   have k:=(z1z s _ _ _ _ _ h1).c.trans (z0s h3).c
   split at h4
   ·cases h4;exact k
   ·obtain⟨x,h5,h6⟩:=zgD.1 h4
    cases h6
    have k2:=z7w ih h5
    exact k.trans k2
  |t+3,h=>simp [MC] at h
theorem z8R {st:St}{x:List Cl}{r:Int×St}(h:z8I st x=some r):r.2.bad=st.bad∧r.2.at_=st.at_:=by
 obtain⟨_,rfl⟩:=jy h
 exact⟨rfl,rfl⟩
theorem z67 (s:zgS): ∀n tag cls st r,MC s n tag cls st=some r→st.bad=true→zfr st r.2.2:=by
 intro n
 induction n with
 |zero=>intro tag cls st r h;simp [MC] at h
 |succ n ih=>
  intro tag cls st r h hb
  have hpk:=z2I (s:=s) hb
  match tag,h with
  |0,h=>
   rw [z8h] at h
   obtain⟨q,h1,h2⟩:=zgD.1 h
   have k1:=ih _ _ _ _ h1 hb
   have k2:=ih _ _ _ _ h2 k1.1
   exact⟨k2.1,k2.2.trans k1.2⟩
  |2,h=>
   rw [z7k] at h
   split at h
   ·rw [if_neg (by rw [hpk];decide)] at h
    obtain⟨q,h1,h2⟩:=zgD.1 h
    cases h2
    have k:=z8R h1
    exact⟨k.1.trans hb,k.2⟩
   ·cases h
  |1,h=>
   rw [z6v] at h
   obtain⟨q,h1,h2⟩:=zgD.1 h
   obtain⟨q2,h3,h4⟩:=zgD.1 h2
   have k:=zeR s _ _ _ _ _ h1 hb
   have k2:=zZ h3
   have hb2:q2.2.bad=true:=k2.1.trans k.1
   rw [if_pos (by simp [zz,pk,hb2])] at h4
   cases h4
   exact⟨hb2,k2.2.trans k.2⟩
  |t+3,h=>simp [MC] at h
def SegC (P:Value→Cl→Nat→Nat→Prop):List Value→List Cl→Nat→Nat→Prop
 |[],[],a,e=>a=e
 |v::vs,c::cs,a,e=> ∃m:Nat,P v c a m∧SegC P vs cs m e
 |_,_,_,_=>False
theorem SegC.imp {P Q:Value→Cl→Nat→Nat→Prop}(h: ∀v c a i,P v c a i→Q v c a i): ∀(vs:List Value) (cs:List Cl) (a e:Nat),SegC P vs cs a e→SegC Q vs cs a e:=by
 intro vs
 induction vs with
 |nil=>intro cs a e;cases cs<;>exact id
 |cons v vs ih=>
  intro cs a e
  cases cs with
  |nil=>exact id
  |cons i cs=>intro ⟨j,h2,h3⟩;exact⟨j,h _ _ _ _ h2,ih cs _ _ h3⟩
theorem SegC.snoc {P:Value→Cl→Nat→Nat→Prop}: ∀(vs:List Value) (cs:List Cl) (a e:Nat) (v:Value) (c:Cl) (j:Nat),SegC P vs cs a e→P v c e j→SegC P (vs++[v]) (cs++[c]) a j:=by
 intro vs
 induction vs with
 |nil=>
  intro cs a e v c j h hp
  cases cs with
  |nil=>have h:a=e:=h;subst h;exact⟨j,hp,rfl⟩
  |cons i cs=>exact absurd h id
 |cons u vs ih=>
  intro cs a e v c j h hp
  cases cs with
  |nil=>exact absurd h id
  |cons i cs=>
   obtain⟨q,h2,h3⟩:=h
   exact⟨q,h2,ih cs _ _ v c j h3 hp⟩
def ClX (X:Nat→Prop)(w:World)(E:List Ex)(f:Nat)(sub:Value→Nat→Nat→Nat→Prop)(v:Value)(c:Cl)(a e:Nat):Prop:=
 ∃(v1:Value) (i:Nat) (x:Ex),RefEX X w E f v1 a i∧E[i+1]?=some x∧x.form=7∧x.left=(i:Int)∧c.test=((i+1:Nat):Int)∧
  ((c.form=0∧NodeX X w v sIf ⟨#[]⟩ x.place [v1]∧e=i+2)∨
   (c.form=1∧ ∃(v2:Value) (p:Int),NodeX X w v sIf ⟨#[]⟩ x.place [v1,v2]∧NodeX X w v2 z4g c.result p []∧e=i+2)∨
   (c.form=2∧ ∃(v2:Value) (ci:Nat),c.inner=(ci:Int)∧NodeX X w v sIf ⟨#[]⟩ x.place [v1,v2]∧sub v2 ci (i+2) e))
def RefCX (X:Nat→Prop)(w:World)(E:List Ex)(C:List (List Cl)):Nat→Value→Nat→Nat→Nat→Prop
 |0,_,_,_,_=>False
 |f+1,v,ci,a,e=> ∃(cls:List Cl) (vs:List Value) (p:Int),C[ci]?=some cls∧NodeX X w v zdu ⟨#[]⟩ p vs∧SegC (fun v c a e=>ClX X w E f (fun v ci a e=>RefCX X w E C f v ci a e) v c a e) vs cls a e
theorem ClX.keepX {X:Nat→Prop}{w w':World}{E:List Ex}{f:Nat}{sub sub':Value→Nat→Nat→Nat→Prop}(hr:z1M X w w')(hs: ∀v ci a e,sub v ci a e→sub' v ci a e){v:Value}{c:Cl}{a e:Nat}:ClX X w E f sub v c a e→ClX X w' E f sub' v c a e:=by
 intro ⟨v1,i,x,h1,h2,h3,h4,h5,h6⟩
 refine⟨v1,i,x,h1.keepX hr,h2,h3,h4,h5,?_⟩
 rcases h6 with⟨q1,q2,q3⟩|⟨q1,v2,p,q2,q3,q4⟩|⟨q1,v2,ci,q2,q3,q4⟩
 ·exact .inl ⟨q1,q2.keepX hr,q3⟩
 ·exact .inr (.inl ⟨q1,v2,p,q2.keepX hr,q3.keepX hr,q4⟩)
 ·exact .inr (.inr ⟨q1,v2,ci,q2,q3.keepX hr,hs _ _ _ _ q4⟩)
theorem RefCX.keepX {X:Nat→Prop}{w w':World}{E:List Ex}{C:List (List Cl)}(hr:z1M X w w'): ∀{f:Nat} {v:Value} {ci a e:Nat},RefCX X w E C f v ci a e→RefCX X w' E C f v ci a e:=by
 intro f
 induction f with
 |zero=>intro v ci a e h;exact absurd h id
 |succ f ih=>
  intro v ci a e ⟨cls,vs,p,h1,h2,h3⟩
  exact⟨cls,vs,p,h1,h2.keepX hr,SegC.imp (fun _ _ _ _ q=>ClX.keepX hr (fun _ _ _ _=>ih) q) _ _ _ _ h3⟩
theorem ClX.mono {X X':Nat→Prop}{w:World}{E:List Ex}{f:Nat}{sub sub':Value→Nat→Nat→Nat→Prop}(hX: ∀k,X' k→X k)(hs: ∀v ci a e,sub v ci a e→sub' v ci a e){v:Value}{c:Cl}{a e:Nat}:ClX X w E f sub v c a e→ClX X' w E f sub' v c a e:=by
 intro ⟨v1,i,x,h1,h2,h3,h4,h5,h6⟩
 refine⟨v1,i,x,h1.mono hX,h2,h3,h4,h5,?_⟩
 rcases h6 with⟨q1,q2,q3⟩|⟨q1,v2,p,q2,q3,q4⟩|⟨q1,v2,ci,q2,q3,q4⟩
 ·exact .inl ⟨q1,q2.mono hX,q3⟩
 ·exact .inr (.inl ⟨q1,v2,p,q2.mono hX,q3.mono hX,q4⟩)
 ·exact .inr (.inr ⟨q1,v2,ci,q2,q3.mono hX,hs _ _ _ _ q4⟩)
theorem RefCX.mono {X X':Nat→Prop}{w:World}{E:List Ex}{C:List (List Cl)}(hX: ∀k,X' k→X k): ∀{f:Nat} {v:Value} {ci a e:Nat},RefCX X w E C f v ci a e→RefCX X' w E C f v ci a e:=by
 intro f
 induction f with
 |zero=>intro v ci a e h;exact absurd h id
 |succ f ih=>
  intro v ci a e ⟨cls,vs,p,h1,h2,h3⟩
  exact⟨cls,vs,p,h1,h2.mono hX,SegC.imp (fun _ _ _ _ q=>ClX.mono hX (fun _ _ _ _=>ih) q) _ _ _ _ h3⟩
theorem ClX.cap {X:Nat→Prop}{w:World}{E:List Ex}{f:Nat}{sub sub':Value→Nat→Nat→Nat→Prop}(hs: ∀v ci a e,sub v ci a e→sub' v ci a e){v:Value}{c:Cl}{a e:Nat}:ClX X w E f sub v c a e→ClX (fun k=>X k∨w.heap.size≤k) w E f sub' v c a e:=by
 intro ⟨v1,i,x,h1,h2,h3,h4,h5,h6⟩
 refine⟨v1,i,x,h1.cap,h2,h3,h4,h5,?_⟩
 rcases h6 with⟨q1,q2,q3⟩|⟨q1,v2,p,q2,q3,q4⟩|⟨q1,v2,ci,q2,q3,q4⟩
 ·exact .inl ⟨q1,q2.cap,q3⟩
 ·exact .inr (.inl ⟨q1,v2,p,q2.cap,q3.cap,q4⟩)
 ·exact .inr (.inr ⟨q1,v2,ci,q2,q3.cap,hs _ _ _ _ q4⟩)
theorem RefCX.cap {X:Nat→Prop}{w:World}{E:List Ex}{C:List (List Cl)}: ∀{f:Nat} {v:Value} {ci a e:Nat},RefCX X w E C f v ci a e→RefCX (fun k=>X k∨w.heap.size≤k) w E C f v ci a e:=by
 intro f
 induction f with
 |zero=>intro v ci a e h;exact absurd h id
 |succ f ih=>
  intro v ci a e ⟨cls,vs,p,h1,h2,h3⟩
  exact⟨cls,vs,p,h1,h2.cap,SegC.imp (fun _ _ _ _ q=>ClX.cap (fun _ _ _ _=>ih) q) _ _ _ _ h3⟩
theorem ClX.more {X:Nat→Prop}{w:World}{E:List Ex}{f:Nat}{sub sub':Value→Nat→Nat→Nat→Prop}(F:List Ex)(hs: ∀v ci a e,sub v ci a e→sub' v ci a e){v:Value}{c:Cl}{a e:Nat}:ClX X w E f sub v c a e→ClX X w (E++F) f sub' v c a e:=by
 intro ⟨v1,i,x,h1,h2,h3,h4,h5,h6⟩
 refine⟨v1,i,x,h1.more F,by rw [List.getElem?_append_left (zgF.1 h2).1];exact h2,h3,h4,h5,?_⟩
 rcases h6 with⟨q1,q2,q3⟩|⟨q1,v2,p,q2,q3,q4⟩|⟨q1,v2,ci,q2,q3,q4⟩
 ·exact .inl ⟨q1,q2,q3⟩
 ·exact .inr (.inl ⟨q1,v2,p,q2,q3,q4⟩)
 ·exact .inr (.inr ⟨q1,v2,ci,q2,q3,hs _ _ _ _ q4⟩)
theorem RefCX.more {X:Nat→Prop}{w:World}{E:List Ex}{C:List (List Cl)}(F:List Ex)(G:List (List Cl)): ∀{f:Nat} {v:Value} {ci a e:Nat},RefCX X w E C f v ci a e→RefCX X w (E++F) (C++G) f v ci a e:=by
 intro f
 induction f with
 |zero=>intro v ci a e h;exact absurd h id
 |succ f ih=>
  intro v ci a e ⟨cls,vs,p,h1,h2,h3⟩
  exact⟨cls,vs,p,by rw [List.getElem?_append_left (zgF.1 h1).1];exact h1,h2,SegC.imp (fun _ _ _ _ q=>ClX.more F (fun _ _ _ _=>ih) q) _ _ _ _ h3⟩
theorem ClX.up {X:Nat→Prop}{w:World}{E:List Ex}{f:Nat}{sub sub':Value→Nat→Nat→Nat→Prop}(hs: ∀v ci a e,sub v ci a e→sub' v ci a e){v:Value}{c:Cl}{a e:Nat}:ClX X w E f sub v c a e→ClX X w E (f+1) sub' v c a e:=by
 intro ⟨v1,i,x,h1,h2,h3,h4,h5,h6⟩
 refine⟨v1,i,x,h1.up,h2,h3,h4,h5,?_⟩
 rcases h6 with⟨q1,q2,q3⟩|⟨q1,v2,p,q2,q3,q4⟩|⟨q1,v2,ci,q2,q3,q4⟩
 ·exact .inl ⟨q1,q2,q3⟩
 ·exact .inr (.inl ⟨q1,v2,p,q2,q3,q4⟩)
 ·exact .inr (.inr ⟨q1,v2,ci,q2,q3,hs _ _ _ _ q4⟩)
theorem RefCX.up {X:Nat→Prop}{w:World}{E:List Ex}{C:List (List Cl)}: ∀{f:Nat} {v:Value} {ci a e:Nat},RefCX X w E C f v ci a e→RefCX X w E C (f+1) v ci a e:=by
 intro f
 induction f with
 |zero=>intro v ci a e h;exact absurd h id
 |succ f ih=>
  intro v ci a e ⟨cls,vs,p,h1,h2,h3⟩
  exact⟨cls,vs,p,h1,h2,SegC.imp (fun _ _ _ _ q=>ClX.up (fun _ _ _ _=>ih) q) _ _ _ _ h3⟩
theorem RefCX.ups {X:Nat→Prop}{w:World}{E:List Ex}{C:List (List Cl)}{f:Nat}(g:Nat){v:Value}{ci a e:Nat}(h:RefCX X w E C f v ci a e):RefCX X w E C (f+g) v ci a e:=by
 induction g with
 |zero=>exact h
 |succ g ih=>exact ih.up
def ClF (X:Nat→Prop)(w:World)(E:List Ex)(C:List (List Cl))(f:Nat)(v:Value)(c:Cl)(a e:Nat):Prop:=ClX X w E f (fun v ci a e=>RefCX X w E C f v ci a e) v c a e
theorem ClF.keepX {X:Nat→Prop}{w w':World}{E:List Ex}{C:List (List Cl)}(hr:z1M X w w'){f:Nat}{v:Value}{c:Cl}{a e:Nat}(h:ClF X w E C f v c a e):ClF X w' E C f v c a e:=ClX.keepX hr (fun _ _ _ _ q=>q.keepX hr) h
theorem ClF.mono {X X':Nat→Prop}{w:World}{E:List Ex}{C:List (List Cl)}(hr: ∀k,X' k→X k){f:Nat}{v:Value}{c:Cl}{a e:Nat}(h:ClF X w E C f v c a e):ClF X' w E C f v c a e:=ClX.mono hr (fun _ _ _ _ q=>q.mono hr) h
theorem ClF.cap {X:Nat→Prop}{w:World}{E:List Ex}{C:List (List Cl)}{f:Nat}{v:Value}{c:Cl}{a e:Nat}(h:ClF X w E C f v c a e):ClF (fun k=>X k∨w.heap.size≤k) w E C f v c a e:=ClX.cap (fun _ _ _ _ q=>q.cap) h
theorem ClF.more {X:Nat→Prop}{w:World}{E:List Ex}{C:List (List Cl)}(F:List Ex)(G:List (List Cl)){f:Nat}{v:Value}{c:Cl}{a e:Nat}(h:ClF X w E C f v c a e):ClF X w (E++F) (C++G) f v c a e:=ClX.more F (fun _ _ _ _ q=>q.more F G) h
theorem ClF.up {X:Nat→Prop}{w:World}{E:List Ex}{C:List (List Cl)}{f:Nat}{v:Value}{c:Cl}{a e:Nat}(h:ClF X w E C f v c a e):ClF X w E C (f+1) v c a e:=ClX.up (fun _ _ _ _ q=>q.up) h
theorem ClF.ups {X:Nat→Prop}{w:World}{E:List Ex}{C:List (List Cl)}{f:Nat}(g:Nat){v:Value}{c:Cl}{a e:Nat}(h:ClF X w E C f v c a e):ClF X w E C (f+g) v c a e:=by
 induction g with
 |zero=>exact h
 |succ g ih=>exact ih.up
def zdM (b:Nat)(s:zgS)(st st':St)(r:Int)(w:World)(e:Ending)(w':World):Prop:= ∃(ao:Option Addr) (p':Nat),e= .returned (.pointer ao)∧Rd w' b s p' st'.bad∧Rf b w w'∧skip s p' st'.bad=st'.at_∧
 (st'.bad=false→ ∃(f ci:Nat),r=(ci:Int)∧ci+1=st'.C.length∧RefCX (Out b w.heap.size) w' st'.E st'.C f (.pointer ao) ci st.E.length st'.E.length)
def zfp (s:zgS)(n:Nat):Prop:= ∀(b:Nat) (st:St) (w:World) (p:Nat) (r:Int) (cl:Cl) (st':St),MC s n 0 [] st=some (r,cl,st')→Rd w b s p st.bad→skip s p st.bad=st.at_→
 Calls Tryz.prog 137 #[.pointer (some ⟨b,0,none⟩)] w fun e w'=>zdM b s st st' r w e w'
def zf3 (b:Nat)(s:zgS)(st:St)(x:Int×zgS×Int×St)(w:World)(e:Ending)(w':World):Prop:= ∃(ao:Option Addr) (p':Nat),e= .returned (.pointer ao)∧Rd w' b s p' x.2.2.2.bad∧Rf b w w'∧skip s p' x.2.2.2.bad=x.2.2.2.at_∧
 (x.2.2.2.bad=false→(x.1=1∧x.2.2.2.E=st.E∧ ∃p,NodeX (Out b w.heap.size) w' (.pointer ao) z4g x.2.1 p [])∨
  (x.1=2∧ ∃(f ci:Nat),x.2.2.1=(ci:Int)∧RefCX (Out b w.heap.size) w' x.2.2.2.E x.2.2.2.C f (.pointer ao) ci st.E.length x.2.2.2.E.length))
def zgC (s:zgS)(n:Nat):Prop:= ∀(b:Nat) (st:St) (w:World) (p:Nat) (x:Int×zgS×Int×St),zb4 s n st=some x→Rd w b s p st.bad→skip s p st.bad=st.at_→
 Calls Tryz.prog 165 #[.pointer (some ⟨b,0,none⟩)] w fun e w'=>zf3 b s st x w e w'
theorem z77 (s:zgS)(n:Nat)(ih:zfp s n):zgC s n:=by
 intro b st w p x hM hR hp
 unfold zb4 at hM
 have hsg:=jH b p s 123 st.bad w hR
 rw [hp] at hsg
 have HSG:=z8 hsg
 have hle:=hR.le
 clear hsg hp hR
 cases hc:(pkS s st==123)
 ·obtain⟨⟨qp,qd,qt⟩,hqn⟩: ∃q,z19 s st.at_ st.bad=q:=⟨_,rfl⟩
  rw [hc,if_neg (by decide),z2E,hqn] at hM
  have hM:=Option.some.inj hM
  subst hM
  have HQN:=z8 hqn
  clear hqn
  have hcc:(pk s st.at_ st.bad==((123:UInt8).toNat:Int))=false:=hc
  go_enter Tryz.func165,Tryz.ntmps165
  go_wp2_with fail
  refine HSG.out.mono ?_
  rintro e w1 ⟨rfl,hR1,hs1⟩
  rw [hcc]
  obtain⟨c0,c1,c2,f1,f2,_,_⟩:=id hR1
  have hb1:b<w1.heap.size:=zd hR1.c0
  have hnb:w1.heap.size≠b:=by omega
  have hRa:Rd (w1.alloc (.cells #[.string ⟨#[110,97,109,101]⟩,.string ⟨#[]⟩,.int .i64 st.at_,.slice none 0 0] 138)) b s st.at_ st.bad:=hR1.other (zgJ _ _ _ hb1)
  have hga:=heap_alloc_new w1 (.cells #[.string ⟨#[110,97,109,101]⟩,.string ⟨#[]⟩,.int .i64 st.at_,.slice none 0 0] 138)
  have hFa:Rf b w (w1.alloc (.cells #[.string ⟨#[110,97,109,101]⟩,.string ⟨#[]⟩,.int .i64 st.at_,.slice none 0 0] 138)):=hs1.rf.alloc _
  have hz1:w.heap.size=w1.heap.size:=hs1.size.symm
  have HA:=z8 (zgI hRa (zgI hga (zgI hFa hz1)))
  clear hRa hga hFa hz1 hs1
  go_wp2_with fail
  have hnr:=z0A b st.at_ s st.bad _ HA.out.1
  rw [HQN.out] at hnr
  refine hnr.mono ?_
  rintro e w3 ⟨rfl,hR3,hs3⟩
  clear hnr
  have hg3:w3.heap[w1.heap.size]?=some (.cells #[.string ⟨#[110,97,109,101]⟩,.string ⟨#[]⟩,.int .i64 st.at_,.slice none 0 0] 138):=(hs3.block w1.heap.size (by omega)).trans HA.out.2.1
  have hF3:Rf b w w3:=HA.out.2.2.1.trans hs3.rf
  obtain⟨y0,y1,y2,y3,yf⟩:=jN hg3
  have hge:w.heap.size≤w1.heap.size:=Nat.le_of_eq HA.out.2.2.2
  clear HA HSG hs3 c0 c1 c2 f1 f2 hR1
  have hR3:Rd w3 b s qp qd:=hR3
  have hR4:=hR3.other (w':=w3.setCell ⟨w1.heap.size,1,none⟩ (.string qt)) (zgQ _ _ _ _ (by simp;omega))
  have hg4:=zcS hg3 (.string qt)
  have hF4:=hF3.setCell (a:=⟨w1.heap.size,1,none⟩) hge (.string qt)
  have HF:=z8 (zgI hR4 (zgI hg4 hF4))
  clear hF3 hF4 hR3 hR4 hg3 hg4
  go_wp2_with fail
  go_ret
  refine⟨_,qp,rfl,HF.out.1,HF.out.2.2,rfl,fun hb=> .inl ⟨rfl,rfl,st.at_,?_⟩⟩
  have hnode:Node b w.heap.size (w3.setCell ⟨w1.heap.size,1,none⟩ (.string qt)) (.pointer (some ⟨w1.heap.size,0,none⟩)) z4g qt st.at_ []:=⟨w1.heap.size,_,rfl,hnb,hge,HF.out.2.1,World.ownsRow_nil _ _ _ _,by simp [Value.ownBlock]⟩
  exact hnode.x
 ·rw [hc,if_pos rfl] at hM
  obtain⟨⟨r2,cl2,st2⟩,hm2,hm3⟩:=zgD.1 hM
  have hm3:=Option.some.inj hm3
  subst hm3
  have hcc:(pk s st.at_ st.bad==((123:UInt8).toNat:Int))=true:=hc
  have HM2:=z8 hm2
  clear hM hm2
  go_enter Tryz.func165,Tryz.ntmps165
  go_wp2_with fail
  refine HSG.out.mono ?_
  rintro e w1 ⟨rfl,hR1,hs1⟩
  rw [hcc]
  go_wp2_with fail
  refine(zN b st.at_ s _ st.bad _ hR1 (by decide)).mono ?_
  rintro e w3 ⟨rfl,hR3,hs3⟩
  have hz3:w3.heap.size=w.heap.size:=hs3.size.trans hs1.size
  go_wp2_with fail
  refine(ih b (sgn s [123] st) _ _ r2 cl2 st2 HM2.out hR3 rfl).mono ?_
  rintro e w4 ⟨ao4,p4,rfl,hR4,hF4,hp4,ht4⟩
  rw [hz3] at ht4
  have HT4:=z8 ht4
  have hb4:=zK b p4 s st2.bad w4 hR4
  rw [hp4] at hb4
  have HB4:=z8 hb4
  clear ht4 hb4
  go_wp2_with fail
  refine HB4.out.mono ?_
  rintro e w5 ⟨rfl,hR5,hs5⟩
  go_wp2_with fail
  refine(zN b st2.at_ s _ st2.bad _ hR5 (by decide)).mono ?_
  rintro e w6 ⟨rfl,hR6,hs6⟩
  go_wp2_with fail
  go_ret
  refine⟨ao4,_,rfl,hR6,(((hs1.rf.trans hs3.rf).trans hF4).trans hs5.rf).trans hs6.rf,rfl,fun hb=> .inr ⟨rfl,?_⟩⟩
  have hb2:st2.bad=false:=by
   cases hq:st2.bad with
   |false=>rfl
   |true=>
    have h2:=(z0b (s:=s) (c:=125) (cs:=[]) hq).1
    rw [h2] at hb
    cases hb
  obtain⟨f,ci,q1,q2,q3⟩:=HT4.out hb2
  exact⟨f,ci,q1,(q3.keepX (hs5.rf.sameX (.inl rfl))).keepX (hs6.rf.sameX (.inl rfl))⟩
structure Tr (T:(Nat→Prop)→World→Prop):Prop where
 cap: ∀X w,T X w→T (fun k=>X k∨w.heap.size≤k) w
 keep: ∀X w w',z1M X w w'→T X w→T X w'
 mono: ∀X X' w,(∀k,X' k→X k)→T X w→T X' w
theorem trE (E:List Ex)(f:Nat)(v:Value)(a i:Nat):Tr fun X w=>RefEX X w E f v a i:=⟨fun _ _ h=>h.cap,fun _ _ _ hs h=>h.keepX hs,fun _ _ _ hs h=>h.mono hs⟩
theorem trC (E:List Ex)(C:List (List Cl))(f:Nat)(v:Value)(ci a i:Nat):Tr fun X w=>RefCX X w E C f v ci a i:=⟨fun _ _ h=>h.cap,fun _ _ _ hs h=>h.keepX hs,fun _ _ _ hs h=>h.mono hs⟩
theorem trN (v:Value)(op tx:zgS)(a:Int)(kids:List Value):Tr fun X w=>NodeX X w v op tx a kids:=⟨fun _ _ h=>h.cap,fun _ _ _ hs h=>h.keepX hs,fun _ _ _ hs h=>h.mono hs⟩
theorem trS (E:List Ex)(C:List (List Cl))(f:Nat)(vs:List Value)(cls:List Cl)(a i:Nat):Tr fun X w=>SegC (fun v c a e=>ClF X w E C f v c a e) vs cls a i:=⟨fun _ _ h=>SegC.imp (fun _ _ _ _ q=>q.cap) _ _ _ _ h,fun _ _ _ hs h=>SegC.imp (fun _ _ _ _ q=>q.keepX hs) _ _ _ _ h,fun _ _ _ hs h=>SegC.imp (fun _ _ _ _ q=>q.mono hs) _ _ _ _ h⟩
theorem trF (E:List Ex)(C:List (List Cl))(f:Nat)(v:Value)(c:Cl)(a i:Nat):Tr fun X w=>ClF X w E C f v c a i:=⟨fun _ _ h=>h.cap,fun _ _ _ hs h=>h.keepX hs,fun _ _ _ hs h=>h.mono hs⟩
theorem Tr.old {T:(Nat→Prop)→World→Prop}(t:Tr T){b g:Nat}{kv kv':Value}{w4 w6:World}(h:T (KX b g kv) w4)(hs:z1M (fun k=>KX b g kv k∨w4.heap.size≤k) w4 w6∧ ∀k,KX b g kv' k→KX b g kv k∨w4.heap.size≤k):T (KX b g kv') w6:=
 t.mono _ _ _ hs.2 (t.keep _ _ _ hs.1 (t.cap _ _ h))
theorem Tr.new {T:(Nat→Prop)→World→Prop}(t:Tr T){b g Ws:Nat}{kv kv':Value}{w4 w6:World}(h:T (Out b Ws) w4)(hg:g<Ws)(hk: ∀k,kv.ownBlock=some k→k<Ws)(hs:z1M (fun k=>KX b g kv k∨w4.heap.size≤k) w4 w6∧ ∀k,KX b g kv' k→KX b g kv k∨w4.heap.size≤k):T (KX b g kv') w6:=by
 refine t.mono _ _ _ hs.2 (t.keep _ _ _ hs.1 (t.mono (fun k=>Out b Ws k∨w4.heap.size≤k) _ _ (fun k e=>e.imp (fun e=> ?_) id) (t.cap _ _ h)))
 rcases e with e|e|e
 ·exact .inl e
 ·exact .inr (by omega)
 ·exact .inr (hk k e)
theorem Tr.rf {T:(Nat→Prop)→World→Prop}(t:Tr T){b:Nat}{X:Nat→Prop}{w w':World}(h:T X w)(hX:X b)(hr:Rf b w w'):T X w':=t.keep _ _ _ (hr.sameX hX) h
theorem z5y {b g:Nat}{kv:Value}: ∀k,Out b g k→KX b g kv k:=fun k e=>e.imp id fun e=> .inl (by omega)
def z8K (s:zgS)(r:Int)(cl:Cl)(st':St)(g:Nat)(more:Bool)(cls:List Cl)(q:Nat)(sv:St):Prop:=
 if more then((MC s g 1 [] sv).bind fun x=>MC s g 2 (cls++[x.2.1]) x.2.2)=some (r,cl,st') else(q=sv.at_∧((z8I sv cls).bind fun x=>some (x.1,(⟨0,0,⟨#[]⟩,0⟩:Cl),x.2))=some (r,cl,st'))
theorem zbn {s:zgS}{st:St}(h:NM s st):zz s st.at_ st.bad=(pk s st.at_ st.bad==45):=by
 cases hq:(pk s st.at_ st.bad==45) with
 |true=>exact h hq
 |false=>unfold zz;rw [hq];rfl
theorem z7e (s:zgS)(n:Nat)(ihe: ∀m,OKR s 0 0 m)(ih: ∀m,m<n→zfp s m):zfp s (n+1):=by
 intro b st w p r cl st' hM hR hp
 rw [z8h] at hM
 have HMh:=z8 hM
 have IH:=z8 (zgI ihe ih)
 have HP:=z8 hp
 clear hM hp ihe ih
 obtain⟨c0,c1,c2,f1,f2,_,_⟩:=id hR
 have hb1:b<w.heap.size:=zd hR.c0
 have hRa:Rd (w.alloc (.cells #[.string ⟨#[97,108,108]⟩,.string ⟨#[]⟩,.int .i64 p,.slice none 0 0] 138)) b s p st.bad:=hR.other (zgJ _ _ _ hb1)
 have hGa:Gr b w.heap.size (w.alloc (.cells #[.string ⟨#[97,108,108]⟩,.string ⟨#[]⟩,.int .i64 p,.slice none 0 0] 138)) zdu ⟨#[]⟩ p (.slice none 0 0) []:=⟨by omega,by simp;omega,heap_alloc_new w _,World.ownsRow_nil _ _ _ _,by simp [Value.ownBlock]⟩
 have hFa:Rf b w (w.alloc (.cells #[.string ⟨#[97,108,108]⟩,.string ⟨#[]⟩,.int .i64 p,.slice none 0 0] 138)):=(Rf.refl b w).alloc _
 have HA:=z8 (zgI hRa (zgI hGa hFa))
 clear hRa hGa hFa
 obtain⟨i0,hi,hz0,hz1,hz2⟩:=info_parts info89
 go_enter Tryz.func137,Tryz.ntmps137
 go_wp2_with fail
 go_loopg [4,5,6,7,8] n (fun g mv _ _ _ _ wr=>g≤n∧ ∃(more:Bool) (kv:Value) (vs:List Value) (cls:List Cl) (q:Nat) (sv:St),mv= .bool more∧Rd wr b s q sv.bad∧Hid (skip s q sv.bad=sv.at_)∧Hid (Gr b w.heap.size wr zdu ⟨#[]⟩ p kv vs)∧Rf b w wr∧Hid (vs.length=cls.length)∧Hid (ExtC st sv)∧Hid (sv.bad=false→ ∃f,SegC (fun v c a i=>ClF (KX b w.heap.size kv) wr sv.E sv.C f v c a i) vs cls st.E.length sv.E.length)∧Hid (z8K s r cl st' g more cls q sv))
 case atStart=>
  refine⟨zgH _,true,_,[],[],p,st,rfl,HA.out.1,HP,z8 HA.out.2.1,HA.out.2.2,rfl,z8 (ExtC.refl st),z8 fun _=>⟨0,rfl⟩,?_⟩
  show z8K _ _ _ _ _ _ _ _ _
  unfold z8K
  rw [if_pos rfl]
  exact HMh.out
 case round=>
  obtain⟨hgn,more,kv,vs,cls,q,sv,rfl,hRq,hq,hG,hF,hlen,hX,ht,hto⟩:=hrel
  have hto':=hto.out
  clear hto HA HMh c0 c1 c2 f1 f2 hR HP
  unfold z8K at hto'
  cases more with
  |false=>
   rw [if_neg (by decide)] at hto'
   obtain⟨rfl,hadd⟩:=hto'
   obtain⟨⟨r9,st9⟩,hadd2,h9⟩:=zgD.1 hadd
   have h9:=Option.some.inj h9
   simp only [Prod.mk.injEq] at h9
   obtain⟨rfl,rfl,rfl⟩:=h9
   obtain⟨hl,h6⟩:=jy hadd2
   cases h6
   clear hadd hadd2
   have hidem:Hid (skip s sv.at_ sv.bad=sv.at_):=z8 hq.out
   go_wp2_with fail
   go_ret
   refine⟨_,sv.at_,rfl,hRq,hF,hidem.out,fun hb=> ?_⟩
   obtain⟨f,hseg⟩:=ht.out hb
   refine⟨f+1,sv.C.length,rfl,by simp,cls,vs,p,by simp,hG.out.node (zgH _),?_⟩
   have h2:=(trS sv.E sv.C f vs cls _ _).mono _ _ _ (z5y (kv:=kv)) hseg
   have h3:=SegC.imp (fun _ _ _ _ q=>ClF.more [] [cls] q) _ _ _ _ h2
   rw [List.append_nil] at h3
   exact h3
  |true=>
   rw [if_pos rfl] at hto'
   obtain⟨⟨r1,cl1,stX⟩,hm1,hm2⟩:=zgD.1 hto'
   simp only at hm2
   obtain⟨c0,c1,c2,f1,f2,hle,hsz⟩:=id hRq
   obtain⟨bd,HBQ⟩: ∃bd,Hid (sv.bad=bd):=⟨_,rfl⟩
   rw [HBQ.out] at c2
   cases bd with
   |true=>
    have k1:=z67 s _ _ _ _ _ hm1 HBQ.out
    have k2:=z67 s _ _ _ _ _ hm2 k1.1
    have hb':Hid (st'.bad=true):=z8 k2.1
    have hat':Hid (st'.at_=q):=z8 (by
     have h:=hq.out
     rw [HBQ.out,jJ] at h
     rw [h]
     exact k2.2.trans k1.2)
    have hRq':Rd wr b s q true:=by rw [←HBQ.out];exact hRq
    clear hto' hm1 hm2 k1 k2 hRq
    go_wp2_with fail
    go_ret
    refine⟨_,q,rfl,?_,hF,?_,fun hb=> ?_⟩
    ·rw [hb'.out];exact hRq'
    ·rw [hb'.out,jJ,hat'.out]
    ·rw [hb'.out] at hb;cases hb
   |false=>
    cases gk with
    |zero=>exact absurd hm1 (by simp [MC])
    |succ g=>
     rw [z7k] at hm2
     rw [z6v] at hm1
     obtain⟨⟨l1,st1⟩,h1,h2⟩:=zgD.1 hm1
     obtain⟨⟨q2,st2⟩,h3,h4⟩:=zgD.1 h2
     have hil:(cls++[cl1]).length<100000:=by
      by_cases hx:(cls++[cl1]).length<100000
      ·exact hx
      ·rw [if_neg hx] at hm2;cases hm2
     rw [if_pos hil] at hm2
     simp at hil
     have hvl:vs.length<99999:=by have:=hlen.out;omega
     simp only at h3 h4
     have hnm:NM s st2:=((zgu s _ _ _ _ _ h1).1 (.inl rfl)).of_eq (zZ h3).2 (zZ h3).1
     rw [zbn hnm] at h4
     have HX1:=z8 (z1i s (g+1) 1 [] sv (r1,cl1,stX) (by rw [z6v];exact hm1))
     obtain⟨hl3,h33⟩:=zj h3
     have e1:q2=(st1.E.length:Int):=congrArg Prod.fst h33
     have e2:st2={st1 with E:=st1.E++[⟨7,sv.at_,⟨#[]⟩,l1,-1⟩]}:=congrArg Prod.snd h33
     have HE:=z8 (zgI e1 e2)
     have hbt:st2.bad=st1.bad:=by rw [e2]
     have hatt:st2.at_=st1.at_:=by rw [e2]
     have HEQ:=z8 (zgI hbt hatt)
     have HXE:=z8 (z1z s _ _ _ _ _ h1)
     have HM1:=z8 h1
     have HM4:=z8 h4
     have HM2:=z8 hm2
     clear hto' hm1 hm2 h1 h2 h3 h4 hnm h33 e1 e2 hbt hatt
     have hbl:=zK b q s sv.bad wr hRq
     rw [hq.out] at hbl
     have HBL:=z8 hbl
     clear hbl c0 c1 f1 f2
     go_wp2_with fail
     refine HBL.out.mono ?_
     rintro e w1 ⟨rfl,hR1,hs1⟩
     have HZ1:Hid (w1.heap.size=wr.heap.size):=z8 hs1.size
     have hb2:b<w1.heap.size:=zd hR1.c0
     obtain⟨c0,c1,c2,f1,f2,_,_⟩:=id hR1
     have hRa:Rd (w1.alloc (.cells #[.string ⟨#[105,102]⟩,.string ⟨#[]⟩,.int .i64 sv.at_,.slice none 0 0] 138)) b s sv.at_ sv.bad:=hR1.other (zgJ _ _ _ hb2)
     have hGa:Gr b w1.heap.size (w1.alloc (.cells #[.string ⟨#[105,102]⟩,.string ⟨#[]⟩,.int .i64 sv.at_,.slice none 0 0] 138)) sIf ⟨#[]⟩ sv.at_ (.slice none 0 0) []:=⟨by omega,by simp;omega,heap_alloc_new w1 _,World.ownsRow_nil _ _ _ _,by simp [Value.ownBlock]⟩
     have hFa:Rf b wr (w1.alloc (.cells #[.string ⟨#[105,102]⟩,.string ⟨#[]⟩,.int .i64 sv.at_,.slice none 0 0] 138)):=hs1.rf.alloc _
     have hza:(w1.alloc (.cells #[.string ⟨#[105,102]⟩,.string ⟨#[]⟩,.int .i64 sv.at_,.slice none 0 0] 138)).heap.size=w1.heap.size+1:=by simp
     have HA:=z8 (zgI hRa (zgI hGa (zgI hFa hza)))
     clear hRa hGa hFa hza
     go_wp2_with fail
     have HA':=HA.out
     generalize (w1.alloc (.cells #[.string ⟨#[105,102]⟩,.string ⟨#[]⟩,.int .i64 sv.at_,.slice none 0 0] 138))=W0 at*
     refine(IH.out.1 g b sv W0 sv.at_ l1 st1 HM1.out HA'.1 (by have h:=jp s q sv.bad hle;rw [hq.out] at h;exact h)).mono ?_
     rintro e w4 ⟨ao4,p4,rfl,hR4,hF4,hp4,ht4⟩
     have hG4:=HA'.2.1.rf hF4
     have hF04:=HA'.2.2.1.trans hF4
     have HZA:=z8 HA'.2.2.2
     have HT4:=z8 ht4
     have HP4:=z8 hp4
     have HG4:=z8 hG4
     obtain⟨z1,z2⟩:=hG4.cell
     have hglt:=hG4.lt
     clear ht4 hp4 hG4 HA HA' HBL hs1 c0 c1 c2 f1 f2 hR1
     go_wp2_with (at_builtin;go_must (refine wpList_append_lies _ rfl (.tmp 37) (.tmp 39) 136 rfl (w1.heap.size+1) 89 i0 _ 1 8 Tryz.underlying136 hi hz0 hz1 hz2 rfl (by omega) (.slice none 0 0) 0 [] rfl (World.ownsRow_nil _ _ _ _) ⟨w4.heap.size,0,none⟩ 1 1 [.pointer ao4] rfl rfl ?news ?one (by omega) ?mm ?bys ?base (w4.heap.size+1) (by simp) ?rest))
     case news=>exact World.news_of_block (heap_alloc_new w4 _)
     case one=>intro u hu;simp at hu;subst hu;rfl
     case mm=>unfold maxLen;omega
     case bys=>omega
     case base=>simp;omega
     case rest=>
      intro gb cap w5 hown hgrow hat2 hlt2
      obtain⟨hG6,hsame,hkx,hb6,hrf6,y1,y2⟩:=HG4.out.push (v:= .pointer ao4) (gb:=gb) (cap:=cap) hown hgrow hat2
      have hR6:=hR4.other hb6
      have hF6:=hrf6 wr hF04 (by have:=HZ1.out;omega)
      have hsg:=jH b p4 s 45 st1.bad _ hR6
      rw [HP4.out] at hsg
      have HSG:=z8 hsg
      have HT6:Hid (st1.bad=false→ ∃(f i:Nat),l1=(i:Int)∧i+1=st1.E.length∧RefEX (KX b w1.heap.size (.slice (some ⟨gb,0,none⟩) 1 cap)) (w5.setCell ⟨w1.heap.size,3,none⟩ (.slice (some ⟨gb,0,none⟩) 1 cap)) st1.E f (.pointer ao4) sv.E.length i):=z8 fun hb=>by
       obtain⟨f4,i4,e4,l4,t4⟩:=HT4.out hb
       exact⟨f4,i4,e4,l4,(trE _ _ _ _ _).new t4.x (g:=w1.heap.size) (kv:= .slice none 0 0) (by have:=HZA.out;omega) (fun k e=>by simp [Value.ownBlock] at e) ⟨hsame,hkx⟩⟩
      have HG6:=z8 hG6
      have hidem:Hid (skip s st1.at_ st1.bad=st1.at_):=z8 (by have h:=jp s p4 st1.bad hR4.le;rw [HP4.out] at h;exact h)
      clear hG6 hsame hkx hb6 hrf6 hown hgrow hat2 hlt2 hsg z1 z2 HT4 HG4 HP4 hR4 hF4 hF04
      go_wp2_with fail
      generalize w5.setCell ⟨w1.heap.size,3,none⟩ (.slice (some ⟨gb,0,none⟩) 1 cap)=W6 at*
      refine HSG.out.mono ?_
      rintro e w7 ⟨rfl,hR7,hs7⟩
      have HG7:=z8 (HG6.out.rf hs7.rf)
      have hF7:=hF6.trans hs7.rf
      have HT7:Hid (st1.bad=false→ ∃(f i:Nat),l1=(i:Int)∧i+1=st1.E.length∧RefEX (KX b w1.heap.size (.slice (some ⟨gb,0,none⟩) 1 cap)) w7 st1.E f (.pointer ao4) sv.E.length i):=z8 fun hb=>by
       obtain⟨f4,i4,e4,l4,t4⟩:=HT6.out hb
       exact⟨f4,i4,e4,l4,(trE _ _ _ _ _).rf t4 (.inl rfl) hs7.rf⟩
      clear HG6 hF6 HT6 hs7 hR6 y1 y2 HSG w5 W6
      have h4:=HM4.out
      rw [HEQ.out.1,HEQ.out.2] at h4
      clear HM4
      cases hc:(pk s st1.at_ st1.bad==45)
      ·have hcc:(pk s st1.at_ st1.bad==((45:UInt8).toNat:Int))=false:=hc
       rw [hcc]
       rw [hc] at h4
       have h4:=Option.some.inj h4
       simp only [Prod.mk.injEq] at h4
       obtain⟨_,rfl,rfl⟩:=h4
       have hR8:Rd w7 b s st2.at_ st2.bad:=by rw [HEQ.out.1,HEQ.out.2];exact hR7
       have hid8:Hid (skip s st2.at_ st2.bad=st2.at_):=z8 (by rw [HEQ.out.1,HEQ.out.2];exact hidem.out)
       have HCL:Hid (st2.bad=false→ ∃f,ClF (Out b wr.heap.size) w7 st2.E st2.C f (.pointer (some ⟨w1.heap.size,0,none⟩)) ⟨q2,0,⟨#[]⟩,-1⟩ sv.E.length st2.E.length):=z8 fun hb=>by
        rw [HEQ.out.1] at hb
        obtain⟨f4,i4,e4,l4,t4⟩:=HT7.out hb
        have he:=HE.out
        rw [he.2]
        refine⟨f4,.pointer ao4,i4,⟨7,sv.at_,⟨#[]⟩,l1,-1⟩,?_,?_,rfl,e4,?_,.inl ⟨rfl,?_,?_⟩⟩
        ·exact((trE _ _ _ _ _).mono _ _ _ (fun k e=>z5y k (by rw [HZ1.out];exact e)) t4).more _
        ·rw [l4];simp
        ·rw [he.1,l4]
        ·exact(HG7.out.node (by have:=HZ1.out;omega))
        ·simp;omega
       have hp8:Hid (skip s st2.at_ st2.bad=st2.at_):=hid8
       clear h4 hR7 HT7 HG7
       have HG8:=z8 (hG.out.rf hF7)
       obtain⟨a5,k5,rfl⟩:=jD HG8.out.own
       obtain⟨z1,z2⟩:=HG8.out.cell
       have how8:=HG8.out.own
       have hlt8:=HG8.out.lt
       have hF8:=hF.trans hF7
       go_wp2_with (at_builtin;go_must (refine wpList_append_lies _ rfl (.tmp 64) (.tmp 66) 136 rfl (w.heap.size+1) 89 i0 _ 1 8 Tryz.underlying136 hi hz0 hz1 hz2 rfl (by omega) _ vs.length vs rfl (how8.alloc _) ⟨w7.heap.size,0,none⟩ 1 1 [.pointer (some ⟨w1.heap.size,0,none⟩)] rfl rfl ?newsA ?oneA (by omega) ?mmA ?bysA ?baseA (w7.heap.size+1) (by simp) ?restA))
       case newsA=>exact World.news_of_block (heap_alloc_new w7 _)
       case oneA=>intro u hu;simp at hu;subst hu;rfl
       case mmA=>unfold maxLen;omega
       case bysA=>omega
       case baseA=>simp;omega
       case restA=>
        intro gb2 cap2 w9 hown hgrow hat2 hlt2
        obtain⟨hG10,hsame,hkx,hb10,hrf10,y1,y2⟩:=HG8.out.push (v:= .pointer (some ⟨w1.heap.size,0,none⟩)) (gb:=gb2) (cap:=cap2) hown hgrow hat2
        have hR10:=hR8.other hb10
        have hF10:=hrf10 w hF8 (zgH _)
        have hsg:=jH b _ s 59 st2.bad _ hR10
        rw [hp8.out] at hsg
        have HSG:=z8 hsg
        have hseg:Hid (st2.bad=false→ ∃f,SegC (fun v c a i=>ClF (KX b w.heap.size (.slice (some ⟨gb2,0,none⟩) (vs.length+1) cap2)) (w9.setCell ⟨w.heap.size,3,none⟩ (.slice (some ⟨gb2,0,none⟩) (vs.length+1) cap2)) st2.E st2.C f v c a i) (vs++[.pointer (some ⟨w1.heap.size,0,none⟩)]) (cls++[(⟨q2,0,⟨#[]⟩,-1⟩:Cl)]) st.E.length st2.E.length):=z8 fun hb=>by
         obtain⟨f4,t4⟩:=HCL.out hb
         obtain⟨f0,t0⟩:=ht.out HBQ.out
         obtain⟨⟨F,hFE⟩,⟨G,hFC⟩,_,_⟩:=HX1.out
         have hFE:st2.E=sv.E++F:=hFE
         have hFC:st2.C=sv.C++G:=hFC
         have t1:=(trS _ _ _ _ _ _ _).rf t0 (.inl rfl) hF7
         have t2:=(trS _ _ _ _ _ _ _).old t1 ⟨hsame,hkx⟩
         have t3:=SegC.imp (fun _ _ _ _ q=>ClF.ups f4 (ClF.more F G q)) _ _ _ _ t2
         rw [←hFE,←hFC] at t3
         have t5:=(trF _ _ _ _ _ _ _).new t4 hG.out.lt (fun k e=>(hG.out.own.lt k e).2) ⟨hsame,hkx⟩
         have t6:=ClF.ups f0 t5
         rw [Nat.add_comm f4 f0] at t6
         exact⟨f0+f4,SegC.snoc _ _ _ _ _ _ _ t3 t6⟩
        have HG10:=z8 hG10
        have hLN:Hid ((vs++[Value.pointer (some ⟨w1.heap.size,0,none⟩)]).length=(cls++[(⟨q2,0,⟨#[]⟩,-1⟩:Cl)]).length):=z8 (by have:=hlen.out;simp;omega)
        have hX6:=z8 (hX.out.trans HX1.out)
        clear hG10 hsame hkx hb10 hrf10 hown hgrow hat2 hlt2 hsg z1 z2 HG8 how8 hF8 HCL ht hG hX HX1 hlen
        go_wp2_with fail
        generalize w9.setCell ⟨w.heap.size,3,none⟩ (.slice (some ⟨gb2,0,none⟩) (vs.length+1) cap2)=W10 at*
        refine HSG.out.mono ?_
        rintro e w11 ⟨rfl,hR11,hs11⟩
        have HG11:=z8 (HG10.out.rf hs11.rf)
        have hF11:=hF10.trans hs11.rf
        have hm2:=HM2.out
        clear HM2 HG10 hR10 HSG
        cases hc9:(pkS s st2==59)
        ·rw [hc9,if_neg (by decide)] at hm2
         have hcc9:(pk s st2.at_ st2.bad==((59:UInt8).toNat:Int))=false:=hc9
         rw [hcc9]
         have HM2:=z8 hm2
         clear hm2 hc9 hcc9
         go_wp2_with fail
         go_roundg g
         case measure=>omega
         case rel=>
          refine⟨by omega,false,_,_,_,st2.at_,st2,rfl,hR11,?_,HG11,hF11,hLN,hX6,z8 fun hb=> ?_,?_⟩
          ·exact hid8
          ·obtain⟨f,q⟩:=hseg.out hb
           exact⟨f,(trS _ _ _ _ _ _ _).rf q (.inl rfl) hs11.rf⟩
          ·show z8K _ _ _ _ _ _ _ _ _
           unfold z8K
           rw [if_neg (by decide)]
           exact⟨rfl,HM2.out⟩
        ·rw [hc9,if_pos rfl] at hm2
         have hcc9:(pk s st2.at_ st2.bad==((59:UInt8).toNat:Int))=true:=hc9
         rw [hcc9]
         have HM2:=z8 hm2
         clear hm2 hc9 hcc9
         go_wp2_with fail
         refine(zN b st2.at_ s _ st2.bad _ hR11 (by decide)).mono ?_
         rintro e w12 ⟨rfl,hR12,hs12⟩
         go_wp2_with fail
         go_roundg g
         case measure=>omega
         case rel=>
          refine⟨by omega,true,_,_,_,_,sgn s [59] st2,rfl,hR12,rfl,z8 (HG11.out.rf hs12.rf),hF11.trans hs12.rf,hLN,hX6,z8 fun hb=> ?_,?_⟩
          ·have hb2:st2.bad=false:=by
            cases hq:st2.bad with
            |false=>rfl
            |true=>
             have h2:=(z0b (s:=s) (c:=59) (cs:=[]) hq).1
             rw [h2] at hb
             cases hb
           obtain⟨f,q⟩:=hseg.out hb2
           exact⟨f,(trS _ _ _ _ _ _ _).rf ((trS _ _ _ _ _ _ _).rf q (.inl rfl) hs11.rf) (.inl rfl) hs12.rf⟩
          ·show z8K _ _ _ _ _ _ _ _ _
           unfold z8K
           rw [if_pos rfl]
           exact HM2.out
      ·have hcc:(pk s st1.at_ st1.bad==((45:UInt8).toNat:Int))=true:=hc
       rw [hcc]
       rw [hc] at h4
       obtain⟨⟨fm,nm,inn,st3⟩,h5,h6⟩:=zgD.1 h4
       have h6:=Option.some.inj h6
       simp only [Prod.mk.injEq] at h6
       obtain⟨_,rfl,rfl⟩:=h6
       have H5:=z8 h5
       have hbg:Hid (st1.bad=false):=z8 (z21 hc (by omega)).1
       have hbg2:Hid (st2.bad=false):=z8 (HEQ.out.1.trans hbg.out)
       have HXR:=z8 (z7w (z1i s _) h5)
       clear h4 h5
       have hR7':Rd w7 b s st2.at_ st2.bad:=by rw [HEQ.out.1,HEQ.out.2];exact hR7
       go_wp2_with fail
       refine(zN b st2.at_ s _ st2.bad _ hR7' (by decide)).mono ?_
       rintro e w8 ⟨rfl,hR8,hs8⟩
       have HG8:=z8 (HG7.out.rf hs8.rf)
       have hF8:=hF7.trans hs8.rf
       have hz8:Hid (w1.heap.size<w8.heap.size):=z8 HG8.out.lt
       go_wp2_with fail
       refine(z77 s g (IH.out.2 g (by omega)) b (sgn s [45,62] st2) w8 _ (fm,nm,inn,st3) H5.out hR8 rfl).mono ?_
       rintro e w13 ⟨ao13,p13,rfl,hR13,hF13,hp13,ht13⟩
       have HG13:=z8 (HG8.out.rf hF13)
       obtain⟨z1,z2⟩:=HG13.out.cell
       have how13:=HG13.out.own
       have hlt13:=HG13.out.lt
       have HT13:=z8 ht13
       have HP13:=z8 hp13
       have hR13:Rd w13 b s p13 st3.bad:=hR13
       clear ht13 hp13
       go_wp2_with (at_builtin;go_must (refine wpList_append_lies _ rfl (.tmp 54) (.tmp 56) 136 rfl (w1.heap.size+1) 89 i0 _ 1 8 Tryz.underlying136 hi hz0 hz1 hz2 rfl (by omega) (.slice (some ⟨gb,0,none⟩) 1 cap) 1 [.pointer ao4] rfl (how13.alloc _) ⟨w13.heap.size,0,none⟩ 1 1 [.pointer ao13] rfl rfl ?newsB ?oneB (by omega) ?mmB ?bysB ?baseB (w13.heap.size+1) (by simp) ?restB))
       case newsB=>exact World.news_of_block (heap_alloc_new w13 _)
       case oneB=>intro u hu;simp at hu;subst hu;rfl
       case mmB=>unfold maxLen;omega
       case bysB=>omega
       case baseB=>simp;omega
       case restB=>
        intro gbB capB w14 hown hgrow hat2 hlt2
        obtain⟨hG15,hsame,hkx,hb15,hrf15,y1,y2⟩:=HG13.out.push (v:= .pointer ao13) (gb:=gbB) (cap:=capB) hown hgrow hat2
        have hR15:=hR13.other hb15
        have hF15:=hrf15 wr (hF8.trans hF13) (by have:=HZ1.out;omega)
        have HCL:Hid (st3.bad=false→ ∃f,ClF (Out b wr.heap.size) (w14.setCell ⟨w1.heap.size,3,none⟩ (.slice (some ⟨gbB,0,none⟩) 2 capB)) st3.E st3.C f (.pointer (some ⟨w1.heap.size,0,none⟩)) ⟨q2,fm,nm,inn⟩ sv.E.length st3.E.length):=z8 fun hb=>by
         obtain⟨f4,i4,e4,l4,t4⟩:=HT7.out hbg.out
         have u4:=(trE _ _ _ _ _).rf ((trE _ _ _ _ _).rf t4 (.inl rfl) hs8.rf) (.inl rfl) hF13
         have u5:=(trE _ _ _ _ _).old u4 ⟨hsame,hkx⟩
         have u6:=(trE _ _ _ _ _).mono _ _ _ (fun k e=>z5y k (by rw [HZ1.out];exact e)) u5
         have he:=HE.out
         obtain⟨⟨F,hFE⟩,_,_,_⟩:=HXR.out
         have hFE:st3.E=st2.E++F:=hFE
         have hE2:st2.E=st1.E++[⟨7,sv.at_,⟨#[]⟩,l1,-1⟩]:=by rw [he.2]
         have hnode:=HG13.out
         have hnd:NodeX (Out b wr.heap.size) (w14.setCell ⟨w1.heap.size,3,none⟩ (.slice (some ⟨gbB,0,none⟩) 2 capB)) (.pointer (some ⟨w1.heap.size,0,none⟩)) sIf ⟨#[]⟩ sv.at_ [.pointer ao4,.pointer ao13]:=hG15.node (by have:=HZ1.out;omega)
         have hx:st3.E[i4+1]?=some ⟨7,sv.at_,⟨#[]⟩,l1,-1⟩:=by
          rw [hFE,hE2,l4,List.append_assoc,List.getElem?_append_right (zgH _)]
          simp
         have hE7: ∀f,RefEX (Out b wr.heap.size) (w14.setCell ⟨w1.heap.size,3,none⟩ (.slice (some ⟨gbB,0,none⟩) 2 capB)) st3.E (f4+f) (.pointer ao4) sv.E.length i4:=fun f=>by
          rw [hFE,hE2,List.append_assoc]
          exact(u6.ups f).more _
         have hq2:q2=((i4+1:Nat):Int):=by rw [he.1,l4]
         rcases HT13.out hb with⟨q1,q3,pp,q4⟩|⟨q1,f,ci,q3,q4⟩
         ·refine⟨f4+0,.pointer ao4,i4,_,hE7 0,hx,rfl,e4,hq2,.inr (.inl ⟨q1,.pointer ao13,pp,hnd,?_,?_⟩)⟩
          ·have v5:=(trN _ _ _ _ _).new q4 hz8.out (fun k e=>(HG8.out.own.lt k e).2) ⟨hsame,hkx⟩
           exact(trN _ _ _ _ _).mono _ _ _ (fun k e=>z5y k (by rw [HZ1.out];exact e)) v5
          ·have q3:st3.E=st2.E:=q3
           rw [q3,hE2]
           simp
           omega
         ·refine⟨f4+f,.pointer ao4,i4,_,hE7 f,hx,rfl,e4,hq2,.inr (.inr ⟨q1,.pointer ao13,ci,q3,hnd,?_⟩)⟩
          have v5:=(trC _ _ _ _ _ _ _).new q4 hz8.out (fun k e=>(HG8.out.own.lt k e).2) ⟨hsame,hkx⟩
          have v6:=(trC _ _ _ _ _ _ _).mono _ _ _ (fun k e=>z5y k (by rw [HZ1.out];exact e)) v5
          have hlen2:(sgn s [45,62] st2).E.length=i4+2:=by
           show st2.E.length=i4+2
           rw [hE2]
           simp
           omega
          rw [hlen2] at v6
          have v7:=v6.ups f4
          rw [Nat.add_comm f f4] at v7
          exact v7
        have hF7:=hF15
        have hR8:=hR15
        have hp8:Hid (skip s p13 st3.bad=st3.at_):=HP13
        have hid8:Hid (skip s st3.at_ st3.bad=st3.at_):=z8 (by have h:=jp s p13 st3.bad hR13.le;rw [show skip s p13 st3.bad=st3.at_ from HP13.out] at h;exact h)
        clear hG15 hsame hkx hb15 hrf15 hown hgrow hat2 hlt2 hF15 hR15 HG13 how13 HT13 HT7 HG7 HG8 hR7 hR7' hR13 hF13 hF8 hs8 z1 z2
        have HG8:=z8 (hG.out.rf hF7)
        obtain⟨a5,k5,rfl⟩:=jD HG8.out.own
        obtain⟨z1,z2⟩:=HG8.out.cell
        have how8:=HG8.out.own
        have hlt8:=HG8.out.lt
        have hF8:=hF.trans hF7
        have hne1:w1.heap.size≠w.heap.size:=by have:=hG.out.lt;have:=HZ1.out;omega
        have hblk14:w14.heap[w.heap.size]?=(w14.setCell ⟨w1.heap.size,3,none⟩ (.slice (some ⟨gbB,0,none⟩) 2 capB)).heap[w.heap.size]?:=(zgQ _ _ _ _ (by simpa using hne1.symm)).symm
        have hsz14:(w14.setCell ⟨w1.heap.size,3,none⟩ (.slice (some ⟨gbB,0,none⟩) 2 capB)).heap.size=w14.heap.size:=by simp [World.setCell]
        have hlt8:w.heap.size<w14.heap.size:=by rw [←hsz14];exact hlt8
        clear hsz14
        have hsz14:=z8 (show(w14.setCell ⟨w1.heap.size,3,none⟩ (.slice (some ⟨gbB,0,none⟩) 2 capB)).heap.size=w14.heap.size by simp [World.setCell])
        have z1':=(World.cell?_of_block hblk14).trans z1
        have z2':=(World.frozen?_of_block hblk14).trans z2
        go_wp2_with (at_builtin;go_must (refine wpList_append_lies _ rfl (.tmp 64) (.tmp 66) 136 rfl (w.heap.size+1) 89 i0 _ 1 8 Tryz.underlying136 hi hz0 hz1 hz2 rfl (by omega) _ vs.length vs rfl (how8.alloc _) ⟨w14.heap.size,0,none⟩ 1 1 [.pointer (some ⟨w1.heap.size,0,none⟩)] rfl rfl ?newsC ?oneC (by omega) ?mmC ?bysC ?baseC (w14.heap.size+1) (by simp) ?restC))
        case newsC=>exact World.news_of_block (show((w14.setCell ⟨w1.heap.size,3,none⟩ (.slice (some ⟨gbB,0,none⟩) 2 capB)).alloc _).heap[w14.heap.size]?=_ by have h:=heap_alloc_new (w14.setCell ⟨w1.heap.size,3,none⟩ (.slice (some ⟨gbB,0,none⟩) 2 capB)) (.cells #[.pointer (some ⟨w1.heap.size,0,none⟩)] 89);rw [hsz14.out] at h;exact h)
        case oneC=>intro u hu;simp at hu;subst hu;rfl
        case mmC=>unfold maxLen;omega
        case bysC=>omega
        case baseC=>simp;omega
        case restC=>
         intro gb2 cap2 w9 hown hgrow hat2 hlt2
         obtain⟨hG10,hsame,hkx,hb10,hrf10,y1,y2⟩:=HG8.out.push (v:= .pointer (some ⟨w1.heap.size,0,none⟩)) (gb:=gb2) (cap:=cap2) hown hgrow (hat2.imp id fun e=>e.trans (by simp [World.setCell]))
         have hR10:=hR8.other hb10
         have hF10:=hrf10 w hF8 (zgH _)
         have hsg:=jH b _ s 59 st3.bad _ hR10
         rw [hp8.out] at hsg
         have HSG:=z8 hsg
         have hseg:Hid (st3.bad=false→ ∃f,SegC (fun v c a i=>ClF (KX b w.heap.size (.slice (some ⟨gb2,0,none⟩) (vs.length+1) cap2)) (w9.setCell ⟨w.heap.size,3,none⟩ (.slice (some ⟨gb2,0,none⟩) (vs.length+1) cap2)) st3.E st3.C f v c a i) (vs++[.pointer (some ⟨w1.heap.size,0,none⟩)]) (cls++[(⟨q2,fm,nm,inn⟩:Cl)]) st.E.length st3.E.length):=z8 fun hb=>by
          obtain⟨f4,t4⟩:=HCL.out hb
          obtain⟨f0,t0⟩:=ht.out HBQ.out
          obtain⟨⟨F,hFE⟩,⟨G,hFC⟩,_,_⟩:=HX1.out
          have hFE:st3.E=sv.E++F:=hFE
          have hFC:st3.C=sv.C++G:=hFC
          have t1:=(trS _ _ _ _ _ _ _).rf t0 (.inl rfl) hF7
          have t2:=(trS _ _ _ _ _ _ _).old t1 ⟨hsame,hkx⟩
          have t3:=SegC.imp (fun _ _ _ _ q=>ClF.ups f4 (ClF.more F G q)) _ _ _ _ t2
          rw [←hFE,←hFC] at t3
          have t5:=(trF _ _ _ _ _ _ _).new t4 hG.out.lt (fun k e=>(hG.out.own.lt k e).2) ⟨hsame,hkx⟩
          have t6:=ClF.ups f0 t5
          rw [Nat.add_comm f4 f0] at t6
          exact⟨f0+f4,SegC.snoc _ _ _ _ _ _ _ t3 t6⟩
         have HG10:=z8 hG10
         have hLN:Hid ((vs++[Value.pointer (some ⟨w1.heap.size,0,none⟩)]).length=(cls++[(⟨q2,fm,nm,inn⟩:Cl)]).length):=z8 (by have:=hlen.out;simp;omega)
         have hX6:=z8 (hX.out.trans HX1.out)
         clear hG10 hsame hkx hb10 hrf10 hown hgrow hat2 hlt2 hsg z1 z2 HG8 how8 hF8 HCL ht hG hX HX1 hlen
         go_wp2_with fail
         generalize w9.setCell ⟨w.heap.size,3,none⟩ (.slice (some ⟨gb2,0,none⟩) (vs.length+1) cap2)=W10 at*
         refine HSG.out.mono ?_
         rintro e w11 ⟨rfl,hR11,hs11⟩
         have HG11:=z8 (HG10.out.rf hs11.rf)
         have hF11:=hF10.trans hs11.rf
         have hm2:=HM2.out
         clear HM2 HG10 hR10 HSG
         cases hc9:(pkS s st3==59)
         ·rw [hc9,if_neg (by decide)] at hm2
          have hcc9:(pk s st3.at_ st3.bad==((59:UInt8).toNat:Int))=false:=hc9
          rw [hcc9]
          have HM2:=z8 hm2
          clear hm2 hc9 hcc9
          go_wp2_with fail
          go_roundg g
          case measure=>omega
          case rel=>
           refine⟨by omega,false,_,_,_,st3.at_,st3,rfl,hR11,?_,HG11,hF11,hLN,hX6,z8 fun hb=> ?_,?_⟩
           ·exact hid8
           ·obtain⟨f,q⟩:=hseg.out hb
            exact⟨f,(trS _ _ _ _ _ _ _).rf q (.inl rfl) hs11.rf⟩
           ·show z8K _ _ _ _ _ _ _ _ _
            unfold z8K
            rw [if_neg (by decide)]
            exact⟨rfl,HM2.out⟩
         ·rw [hc9,if_pos rfl] at hm2
          have hcc9:(pk s st3.at_ st3.bad==((59:UInt8).toNat:Int))=true:=hc9
          rw [hcc9]
          have HM2:=z8 hm2
          clear hm2 hc9 hcc9
          go_wp2_with fail
          refine(zN b st3.at_ s _ st3.bad _ hR11 (by decide)).mono ?_
          rintro e w12 ⟨rfl,hR12,hs12⟩
          go_wp2_with fail
          go_roundg g
          case measure=>omega
          case rel=>
           refine⟨by omega,true,_,_,_,_,sgn s [59] st3,rfl,hR12,rfl,z8 (HG11.out.rf hs12.rf),hF11.trans hs12.rf,hLN,hX6,z8 fun hb=> ?_,?_⟩
           ·have hb2:st3.bad=false:=by
             cases hq:st3.bad with
             |false=>rfl
             |true=>
              have h2:=(z0b (s:=s) (c:=59) (cs:=[]) hq).1
              rw [h2] at hb
              cases hb
            obtain⟨f,q⟩:=hseg.out hb2
            exact⟨f,(trS _ _ _ _ _ _ _).rf ((trS _ _ _ _ _ _ _).rf q (.inl rfl) hs11.rf) (.inl rfl) hs12.rf⟩
           ·show z8K _ _ _ _ _ _ _ _ _
            unfold z8K
            rw [if_pos rfl]
            exact HM2.out
theorem info5:(Tryz.prog.info? 5).map (fun i=>(i.zero,i.size,i.bytes))=some (some (.int .u8 0),1,1):=by kernel_rfl
def z17 (op:zgS):Bool:=op.toList==[110,117,109]||op.toList==[97,116]||op.toList==[115,116,114]||op.toList==[97,116,116,114]||op.toList==[116,114,117,101]||op.toList==[102,97,108,115,101]||op.toList==[110,97,109,101]
def zbU (cs:List Int)(want gives:Int)(a:Int):Int×Int:=if cs.all (fun c=>c==want) then(gives,-1) else(98,a)
def jB (op:zgS)(a:Int)(cs:List Int):Int×Int:=
 if op.toList==[97,108,108]||op.toList==[105,102] then(98,-1)
 else if op.toList==[124,124]||op.toList==[38,38]||op.toList==[33] then zbU cs 98 98 a
 else if op.toList==[46] then zbU cs 115 115 a
 else if jc op then if cs.headD 0==98 then(98,a) else zbU cs (cs.headD 0) 98 a
 else zbU cs 110 110 a
theorem z2P {X:Nat→Prop}{w:World}{v:Value}{op tx:zgS}{a:Int}{kids:List Value}(h:NodeX X w v op tx a kids): ∃g kv,v= .pointer (some ⟨g,0,none⟩)∧w.heap[g]?=some (.cells #[.string op,.string tx,.int .i64 a,kv] 138)∧g<w.heap.size∧w.ownsRow 0 89 1 kv kids.length kids:=by
 obtain⟨g,kv,h1,h2,h3,h4,h5⟩:=h.ex
 exact⟨g,kv,h1,h3,(Array.getElem?_eq_some_iff.1 h3).1,h4⟩
theorem z0u {X:Nat→Prop}{w:World}{v:Value}{op tx:zgS}{a:Int}{kids:List Value}(h:NodeX X w v op tx a kids)(c:Int)
  (hc:c=110∧(op.toList==[110,117,109]||op.toList==[97,116])=true∨c=115∧(op.toList==[115,116,114]||op.toList==[97,116,116,114])=true∨c=98∧(op.toList==[116,114,117,101]||op.toList==[102,97,108,115,101]||op.toList==[110,97,109,101])=true):
  Calls Tryz.prog 53 #[v] w fun e w'=>e= .returned (.tuple #[.int .u8 c,.int .i64 (-1)])∧w'=w:=by
 obtain⟨g,kv,rfl,hh,hg,_⟩:=z2P h
 obtain⟨y0,y1,y2,y3,yf⟩:=jN hh
 clear h hh
 cases h0:(op.toList==[110,117,109])
 case true=>
  have hcc:c=110:=by
   have:=eq_of_beq h0
   rcases hc with⟨e,q⟩|⟨e,q⟩|⟨e,q⟩
   all_goals first|exact e|(rw [this] at q;exact absurd q (by decide))
  subst hcc
  clear hc
  go_enter Tryz.func53,Tryz.ntmps53
  go_wp2_with fail
  go_ret2
  exact⟨rfl,rfl⟩
 cases h1:(op.toList==[97,116])
 case true=>
  have hcc:c=110:=by
   have:=eq_of_beq h1
   rcases hc with⟨e,q⟩|⟨e,q⟩|⟨e,q⟩
   all_goals first|exact e|(rw [this] at q;exact absurd q (by decide))
  subst hcc
  clear hc
  go_enter Tryz.func53,Tryz.ntmps53
  go_wp2_with fail
  go_ret2
  exact⟨rfl,rfl⟩
 cases h2:(op.toList==[115,116,114])
 case true=>
  have hcc:c=115:=by
   have:=eq_of_beq h2
   rcases hc with⟨e,q⟩|⟨e,q⟩|⟨e,q⟩
   all_goals first|exact e|(rw [this] at q;exact absurd q (by decide))
  subst hcc
  clear hc
  go_enter Tryz.func53,Tryz.ntmps53
  go_wp2_with fail
  go_ret2
  exact⟨rfl,rfl⟩
 cases h3:(op.toList==[97,116,116,114])
 case true=>
  have hcc:c=115:=by
   have:=eq_of_beq h3
   rcases hc with⟨e,q⟩|⟨e,q⟩|⟨e,q⟩
   all_goals first|exact e|(rw [this] at q;exact absurd q (by decide))
  subst hcc
  clear hc
  go_enter Tryz.func53,Tryz.ntmps53
  go_wp2_with fail
  go_ret2
  exact⟨rfl,rfl⟩
 cases h4:(op.toList==[116,114,117,101])
 case true=>
  have hcc:c=98:=by
   have:=eq_of_beq h4
   rcases hc with⟨e,q⟩|⟨e,q⟩|⟨e,q⟩
   all_goals first|exact e|(rw [this] at q;exact absurd q (by decide))
  subst hcc
  clear hc
  go_enter Tryz.func53,Tryz.ntmps53
  go_wp2_with fail
  go_ret2
  exact⟨rfl,rfl⟩
 cases h5:(op.toList==[102,97,108,115,101])
 case true=>
  have hcc:c=98:=by
   have:=eq_of_beq h5
   rcases hc with⟨e,q⟩|⟨e,q⟩|⟨e,q⟩
   all_goals first|exact e|(rw [this] at q;exact absurd q (by decide))
  subst hcc
  clear hc
  go_enter Tryz.func53,Tryz.ntmps53
  go_wp2_with fail
  go_ret2
  exact⟨rfl,rfl⟩
 cases h6:(op.toList==[110,97,109,101])
 case true=>
  have hcc:c=98:=by
   have:=eq_of_beq h6
   rcases hc with⟨e,q⟩|⟨e,q⟩|⟨e,q⟩
   all_goals first|exact e|(rw [this] at q;exact absurd q (by decide))
  subst hcc
  clear hc
  go_enter Tryz.func53,Tryz.ntmps53
  go_wp2_with fail
  go_ret2
  exact⟨rfl,rfl⟩
 exact absurd hc (by simp [h0,h1,h2,h3,h4,h5,h6])
def z4p (w:World)(Q:Int→Int→Prop)(e:Ending)(w':World):Prop:=Below w.heap.size w w'∧ ∃c a:Int,e= .returned (.tuple #[.int .u8 c,.int .i64 a])∧Q c a
theorem z0y {cs:List Int}{want gives a:Int}{i:Nat}{c:Int}(h:cs[i]?=some c)(hc:(c !=want)=true):zbU cs want gives a=(98,a):=by
 unfold zbU
 rw [if_neg]
 intro q
 have:=List.all_eq_true.1 q c (zgM h)
 simp at this hc
 exact hc this
theorem z03 {cs:List Int}{want gives a:Int}(h: ∀(j:Nat) (c:Int),cs[j]?=some c→c=want):zbU cs want gives a=(gives,-1):=by
 unfold zbU
 rw [if_pos]
 refine List.all_eq_true.2 fun c hc=> ?_
 obtain⟨j,hj⟩:=List.mem_iff_getElem?.1 hc
 simpa using h j c hj
theorem z1G {X:Nat→Prop}{w:World}{v:Value}{op tx:zgS}{a:Int}{vs:List Value}(h:NodeX X w v op tx a vs)(hlen:vs.length≤100000)
  (S:Nat→List Int→Prop) (Q:Int→Int→Prop) (hS:S 0 [])
  (hl:z17 op=false) (hcmp:jc op=true→0<vs.length)
  (hk: ∀(i:Nat) (cs:List Int) (wr:World) (vi:Value),vs[i]?=some vi→S i cs→cs.length=i→Below w.heap.size w wr→Calls Tryz.prog 53 #[vi] wr fun e w'=>z4p wr (fun c at'=>(0≤at'∧Q 98 at')∨(at'= -1∧if(op.toList==[105,102])&&(i==0)&&(c !=98) then Q 98 a else S (i+1) (cs++[c]))) e w')
  (he: ∀cs,S vs.length cs→cs.length=vs.length→Q (jB op a cs).1 (jB op a cs).2):
  Calls Tryz.prog 53 #[v] w fun e w'=>z4p w Q e w':=by
 obtain⟨g,kv,rfl,hh,hg,how⟩:=z2P h
 obtain⟨a5,k5,rfl⟩:=jD how
 unfold z17 at hl
 simp only [Bool.or_eq_false_iff] at hl
 obtain⟨⟨⟨⟨⟨⟨l0,l1⟩,l2⟩,l3⟩,l4⟩,l5⟩,l6⟩:=hl
 have HK:=z8 hk
 have HE:=z8 he
 have HCMP:=z8 hcmp
 have HH:=z8 hh
 have HOW:=z8 how
 obtain⟨i0,hi,hz0,hz1,hz2⟩:=info_parts info5
 obtain⟨y0,y1,y2,y3,yf⟩:=jN hh
 clear hk he hcmp h hh how
 go_enter Tryz.func53,Tryz.ntmps53
 go_wp2_with fail
 clear y0 y1 y2 y3 yf
 go_loopg [4,5,6,7] (vs.length+1) (fun k lv iv _ _ wr=> ∃(i:Nat) (cs:List Int),k+i=vs.length+1∧i≤vs.length∧iv= .int .i64 i∧cs.length=i∧wr.ownsRow w.heap.size 5 1 lv cs.length (cs.map (Value.int .u8))∧Below w.heap.size w wr∧Hid (S i cs))
 case atStart=>exact⟨0,[],rfl,zgO _,rfl,rfl,World.ownsRow_nil _ _ _ _,zgR _ _,hS⟩
 case round=>
  obtain⟨i,cs,hgk,hile,rfl,hcs,hown,hbel,hs⟩:=hrel
  obtain⟨y0,y1,y2,y3,yf⟩:=jN ((hbel.block g hg).trans HH.out)
  have HGK:=z8 hgk
  have hbz:w.heap.size≤wr.heap.size:=hbel.size
  clear hgk
  obtain⟨a6,k6,rfl⟩:=jD hown
  by_cases hlt:i<vs.length
  ·obtain⟨vi,hvi⟩: ∃vi,vs[i]?=some vi:=⟨vs[i],zgE hlt⟩
   obtain⟨gk,capk,hv,hb,hgl⟩:=HOW.out.form (by omega)
   injection hv with e1 e2 e3
   subst e1 e3
   have hcell:wr.cell? ⟨gk,i,none⟩=some vi:=by
    rw [hbel.cell (p:=⟨gk,i,none⟩) hgl]
    exact zl HOW.out _ _ hvi
   have hlti:(i:Int)<vs.length:=by omega
   have HC:=z8 (HK.out i cs wr vi hvi hs.out hcs hbel)
   have hi100:i≤100000:=by omega
   have HCS:=z8 hcs
   have HOWN:=z8 hown
   have HB:=z8 hbel
   clear hcs hown hbel hvi
   go_wp2_with fail
   refine HC.out.mono ?_
   rintro e w1 ⟨hb1,c,at2,rfl,hq⟩
   have hB1:Below w.heap.size w w1:=HB.out.trans (hb1.mono hbz)
   have hown1:w1.ownsRow w.heap.size 5 1 (.slice a6 cs.length k6) cs.length (cs.map (Value.int .u8)):=zc HOWN.out fun k e=>hb1.block k (HOWN.out.lt k e).2
   obtain⟨y0,y1,y2,y3,yf⟩:=jN ((hB1.block g hg).trans HH.out)
   have HB1:=z8 hB1
   have hbz1:w.heap.size≤w1.heap.size:=hB1.size
   have hcl:cs.length≤100000:=by have:=HCS.out;omega
   clear hb1 hB1 HC HOWN HB hcell
   rcases hq with⟨hpos,hq⟩|⟨rfl,hq⟩
   ·go_wp2_with fail
    go_ret2
    exact⟨HB1.out,98,at2,by simp,hq⟩
   ·have HQ:=z8 hq
    clear hq
    go_wp2_with (at_builtin;go_must (refine wpList_append_lies _ rfl (.tmp 48) (.tmp 50) 142 rfl w.heap.size 5 i0 _ 1 1 Tryz.underlying142 hi hz0 hz1 hz2 rfl (by omega) _ cs.length _ rfl (hown1.alloc _) ⟨w1.heap.size,0,none⟩ 1 1 [.int .u8 c] rfl rfl ?news ?one (by omega) ?mm ?bys ?base (w1.heap.size+1) (by simp) ?rest))
    case news=>exact World.news_of_block (heap_alloc_new w1 _)
    case one=>intro u hu;simp at hu;subst hu;rfl
    case mm=>unfold maxLen;omega
    case bys=>omega
    case base=>simp;omega
    case rest=>
     intro gb cap w3 hown3 hgrow hat hlt2
     have hB3:=Below.grown (HB1.out.alloc hbz1 _) hgrow (by simp;omega) fun k e=>(hown1.lt k e).1
     obtain⟨y0,y1,y2,y3,yf⟩:=jN ((hB3.block g hg).trans HH.out)
     have HB3:=z8 hB3
     have HO3:=z8 hown3
     clear hgrow hat hown3 hB3 hown1
     have hq:=HQ.out
     clear HQ
     cases hif:(op.toList==[105,102])
     ·rw [hif] at hq
      simp only [Bool.false_and,Bool.false_eq_true,if_false] at hq
      have HQ:=z8 hq
      clear hq
      go_wp2_with fail
      go_roundg (vs.length - i)
      case measure=>have:=HGK.out;omega
      case rel=>exact⟨i+1,cs++[c],by have:=HGK.out;omega,by omega,by go_num,by simp [HCS.out],by simpa using HO3.out,HB3.out,HQ⟩
     ·by_cases hi0:i=0
      ·subst hi0
       cases hc:(c !=98)
       ·rw [hif,hc] at hq
        simp only [Bool.and_false,Bool.false_eq_true,if_false] at hq
        have HQ:=z8 hq
        clear hq
        go_wp2_with fail
        go_roundg (vs.length - 0)
        case measure=>have:=HGK.out;omega
        case rel=>exact⟨0+1,cs++[c],by have:=HGK.out;omega,by omega,by go_num,by simp [HCS.out],by simpa using HO3.out,HB3.out,HQ⟩
       ·rw [hif,hc] at hq
        have hq:Q 98 a:=hq
        have HQ:=z8 hq
        clear hq
        go_wp2_with fail
        go_quiet (fail)
        go_wp2_with fail
        go_ret2
        exact⟨⟨HB3.out.os,HB3.out.tape,HB3.out.output,HB3.out.size,HB3.out.block⟩,98,a,by simp,HQ.out⟩
      ·have hib:((i:Int)==0)=false:=by rw [beq_eq_false_iff_ne];omega
       rw [if_neg (by simp [hi0])] at hq
       have HQ:=z8 hq
       clear hq
       go_wp2_with fail
       go_roundg (vs.length - i)
       case measure=>have:=HGK.out;omega
       case rel=>exact⟨i+1,cs++[c],by have:=HGK.out;omega,by omega,by go_num,by simp [HCS.out],by simpa using HO3.out,HB3.out,HQ⟩
  ·have hin:i=vs.length:=by omega
   have hlti: ¬(i:Int)<vs.length:=by omega
   have HF:=z8 (HE.out cs (hin▸hs.out) (hcs.trans hin))
   have HB:=z8 hbel
   have HOWN:=z8 hown
   have HCS:=z8 (hcs.trans hin)
   have hcl:cs.length≤100000:=by omega
   clear HE hs hown hbel hcs hin HK
   cases o0:(op.toList==[97,108,108])
   case true=>
    have hfin:Hid (jB op a cs=(98,-1)):=z8 (by
     unfold jB
     simp only [o0,Bool.or_false,Bool.or_true,Bool.true_or,Bool.false_or,if_true,if_false,Bool.false_eq_true])
    go_wp2_with fail
    go_ret2
    refine⟨HB.out,98,-1,by simp,?_⟩
    have hz:=HF.out
    rw [hfin.out] at hz
    exact hz
   cases o1:(op.toList==[105,102])
   case true=>
    have hfin:Hid (jB op a cs=(98,-1)):=z8 (by
     unfold jB
     simp only [o0,o1,Bool.or_false,Bool.or_true,Bool.true_or,Bool.false_or,if_true,if_false,Bool.false_eq_true])
    go_wp2_with fail
    go_ret2
    refine⟨HB.out,98,-1,by simp,?_⟩
    have hz:=HF.out
    rw [hfin.out] at hz
    exact hz
   cases o2:(op.toList==[124,124])
   case true=>
    go_wp2_with fail
    go_loopg [10] (cs.length+1) (fun k iv wq=> ∃j:Nat,k+j=cs.length+1∧j≤cs.length∧iv= .int .i64 j∧wq=wr∧Hid (∀(m:Nat) (c:Int),m<j→cs[m]?=some c→c=98))
    case atStart=>exact⟨0,rfl,zgO _,rfl,rfl,z8 fun m c h=>absurd h (Nat.not_lt_zero _)⟩
    case round=>
     obtain⟨j,hjk,hjl,rfl,rfl,hall⟩:=hrel
     by_cases hjlt:j<cs.length
     ·obtain⟨c,hcj⟩: ∃c,cs[j]?=some c:=⟨cs[j],zgE hjlt⟩
      obtain⟨g6,cap6,hv,_,_⟩:=HOWN.out.form (by omega)
      injection hv with e1 e2 e3
      subst e1 e3
      have hc6:=zl HOWN.out j (.int .u8 c) (by simp [hcj])
      have hjl2:(j:Int)<cs.length:=by omega
      have HCJ:=z8 hcj
      clear hcj
      cases hne:(c !=98)
      ·have hjk:=z8 hjk
       go_wp2_with fail
       go_roundg (cs.length - j)
       case measure=>have:=hjk.out;omega
       case rel=>exact⟨j+1,by have:=hjk.out;omega,by omega,by go_num,rfl,z8 fun m d hm hd=>by
         by_cases hmj:m=j
         ·subst hmj;have hx:=HCJ.out.symm.trans hd;injection hx with hx;subst hx;simpa using hne
         ·exact hall.out m d (by omega) hd⟩
      ·have hfin:Hid (jB op a cs=(98,a)):=z8 (by
        have hno:=z0y (gives:=98) (a:=a) HCJ.out hne
        unfold jB
        simp only [jc,o0,o1,o2,Bool.or_false,Bool.or_true,Bool.true_or,Bool.false_or,if_true,if_false,Bool.false_eq_true]
        exact hno)
       go_wp2_with fail
       go_quiet (fail)
       go_wp2_with fail
       go_ret2
       refine⟨⟨HB.out.os,HB.out.tape,HB.out.output,HB.out.size,HB.out.block⟩,98,a,by simp,?_⟩
       have hz:=HF.out
       rw [hfin.out] at hz
       exact hz
     ·have hfin:Hid (jB op a cs=(98,-1)):=z8 (by
       have hyes:=z03 (gives:=98) (a:=a) (want:=98) (cs:=cs) fun m c h=>hall.out m c (by have:=(zgF.1 h).1;omega) h
       unfold jB
       simp only [jc,o0,o1,o2,Bool.or_false,Bool.or_true,Bool.true_or,Bool.false_or,if_true,if_false,Bool.false_eq_true]
       exact hyes)
      have hjl2: ¬(j:Int)<cs.length:=by omega
      go_wp2_with fail
      go_ret2
      refine⟨HB.out,98,-1,by simp,?_⟩
      have hz:=HF.out
      rw [hfin.out] at hz
      exact hz
   cases o3:(op.toList==[38,38])
   case true=>
    go_wp2_with fail
    go_loopg [10] (cs.length+1) (fun k iv wq=> ∃j:Nat,k+j=cs.length+1∧j≤cs.length∧iv= .int .i64 j∧wq=wr∧Hid (∀(m:Nat) (c:Int),m<j→cs[m]?=some c→c=98))
    case atStart=>exact⟨0,rfl,zgO _,rfl,rfl,z8 fun m c h=>absurd h (Nat.not_lt_zero _)⟩
    case round=>
     obtain⟨j,hjk,hjl,rfl,rfl,hall⟩:=hrel
     by_cases hjlt:j<cs.length
     ·obtain⟨c,hcj⟩: ∃c,cs[j]?=some c:=⟨cs[j],zgE hjlt⟩
      obtain⟨g6,cap6,hv,_,_⟩:=HOWN.out.form (by omega)
      injection hv with e1 e2 e3
      subst e1 e3
      have hc6:=zl HOWN.out j (.int .u8 c) (by simp [hcj])
      have hjl2:(j:Int)<cs.length:=by omega
      have HCJ:=z8 hcj
      clear hcj
      cases hne:(c !=98)
      ·have hjk:=z8 hjk
       go_wp2_with fail
       go_roundg (cs.length - j)
       case measure=>have:=hjk.out;omega
       case rel=>exact⟨j+1,by have:=hjk.out;omega,by omega,by go_num,rfl,z8 fun m d hm hd=>by
         by_cases hmj:m=j
         ·subst hmj;have hx:=HCJ.out.symm.trans hd;injection hx with hx;subst hx;simpa using hne
         ·exact hall.out m d (by omega) hd⟩
      ·have hfin:Hid (jB op a cs=(98,a)):=z8 (by
        have hno:=z0y (gives:=98) (a:=a) HCJ.out hne
        unfold jB
        simp only [jc,o0,o1,o2,o3,Bool.or_false,Bool.or_true,Bool.true_or,Bool.false_or,if_true,if_false,Bool.false_eq_true]
        exact hno)
       go_wp2_with fail
       go_quiet (fail)
       go_wp2_with fail
       go_ret2
       refine⟨⟨HB.out.os,HB.out.tape,HB.out.output,HB.out.size,HB.out.block⟩,98,a,by simp,?_⟩
       have hz:=HF.out
       rw [hfin.out] at hz
       exact hz
     ·have hfin:Hid (jB op a cs=(98,-1)):=z8 (by
       have hyes:=z03 (gives:=98) (a:=a) (want:=98) (cs:=cs) fun m c h=>hall.out m c (by have:=(zgF.1 h).1;omega) h
       unfold jB
       simp only [jc,o0,o1,o2,o3,Bool.or_false,Bool.or_true,Bool.true_or,Bool.false_or,if_true,if_false,Bool.false_eq_true]
       exact hyes)
      have hjl2: ¬(j:Int)<cs.length:=by omega
      go_wp2_with fail
      go_ret2
      refine⟨HB.out,98,-1,by simp,?_⟩
      have hz:=HF.out
      rw [hfin.out] at hz
      exact hz
   cases o4:(op.toList==[33])
   case true=>
    go_wp2_with fail
    go_loopg [10] (cs.length+1) (fun k iv wq=> ∃j:Nat,k+j=cs.length+1∧j≤cs.length∧iv= .int .i64 j∧wq=wr∧Hid (∀(m:Nat) (c:Int),m<j→cs[m]?=some c→c=98))
    case atStart=>exact⟨0,rfl,zgO _,rfl,rfl,z8 fun m c h=>absurd h (Nat.not_lt_zero _)⟩
    case round=>
     obtain⟨j,hjk,hjl,rfl,rfl,hall⟩:=hrel
     by_cases hjlt:j<cs.length
     ·obtain⟨c,hcj⟩: ∃c,cs[j]?=some c:=⟨cs[j],zgE hjlt⟩
      obtain⟨g6,cap6,hv,_,_⟩:=HOWN.out.form (by omega)
      injection hv with e1 e2 e3
      subst e1 e3
      have hc6:=zl HOWN.out j (.int .u8 c) (by simp [hcj])
      have hjl2:(j:Int)<cs.length:=by omega
      have HCJ:=z8 hcj
      clear hcj
      cases hne:(c !=98)
      ·have hjk:=z8 hjk
       go_wp2_with fail
       go_roundg (cs.length - j)
       case measure=>have:=hjk.out;omega
       case rel=>exact⟨j+1,by have:=hjk.out;omega,by omega,by go_num,rfl,z8 fun m d hm hd=>by
         by_cases hmj:m=j
         ·subst hmj;have hx:=HCJ.out.symm.trans hd;injection hx with hx;subst hx;simpa using hne
         ·exact hall.out m d (by omega) hd⟩
      ·have hfin:Hid (jB op a cs=(98,a)):=z8 (by
        have hno:=z0y (gives:=98) (a:=a) HCJ.out hne
        unfold jB
        simp only [jc,o0,o1,o2,o3,o4,Bool.or_false,Bool.or_true,Bool.true_or,Bool.false_or,if_true,if_false,Bool.false_eq_true]
        exact hno)
       go_wp2_with fail
       go_quiet (fail)
       go_wp2_with fail
       go_ret2
       refine⟨⟨HB.out.os,HB.out.tape,HB.out.output,HB.out.size,HB.out.block⟩,98,a,by simp,?_⟩
       have hz:=HF.out
       rw [hfin.out] at hz
       exact hz
     ·have hfin:Hid (jB op a cs=(98,-1)):=z8 (by
       have hyes:=z03 (gives:=98) (a:=a) (want:=98) (cs:=cs) fun m c h=>hall.out m c (by have:=(zgF.1 h).1;omega) h
       unfold jB
       simp only [jc,o0,o1,o2,o3,o4,Bool.or_false,Bool.or_true,Bool.true_or,Bool.false_or,if_true,if_false,Bool.false_eq_true]
       exact hyes)
      have hjl2: ¬(j:Int)<cs.length:=by omega
      go_wp2_with fail
      go_ret2
      refine⟨HB.out,98,-1,by simp,?_⟩
      have hz:=HF.out
      rw [hfin.out] at hz
      exact hz
   cases o5:(op.toList==[46])
   case true=>
    go_wp2_with fail
    go_loopg [10] (cs.length+1) (fun k iv wq=> ∃j:Nat,k+j=cs.length+1∧j≤cs.length∧iv= .int .i64 j∧wq=wr∧Hid (∀(m:Nat) (c:Int),m<j→cs[m]?=some c→c=115))
    case atStart=>exact⟨0,rfl,zgO _,rfl,rfl,z8 fun m c h=>absurd h (Nat.not_lt_zero _)⟩
    case round=>
     obtain⟨j,hjk,hjl,rfl,rfl,hall⟩:=hrel
     by_cases hjlt:j<cs.length
     ·obtain⟨c,hcj⟩: ∃c,cs[j]?=some c:=⟨cs[j],zgE hjlt⟩
      obtain⟨g6,cap6,hv,_,_⟩:=HOWN.out.form (by omega)
      injection hv with e1 e2 e3
      subst e1 e3
      have hc6:=zl HOWN.out j (.int .u8 c) (by simp [hcj])
      have hjl2:(j:Int)<cs.length:=by omega
      have HCJ:=z8 hcj
      clear hcj
      cases hne:(c !=115)
      ·have hjk:=z8 hjk
       go_wp2_with fail
       go_roundg (cs.length - j)
       case measure=>have:=hjk.out;omega
       case rel=>exact⟨j+1,by have:=hjk.out;omega,by omega,by go_num,rfl,z8 fun m d hm hd=>by
         by_cases hmj:m=j
         ·subst hmj;have hx:=HCJ.out.symm.trans hd;injection hx with hx;subst hx;simpa using hne
         ·exact hall.out m d (by omega) hd⟩
      ·have hfin:Hid (jB op a cs=(98,a)):=z8 (by
        have hno:=z0y (gives:=115) (a:=a) HCJ.out hne
        unfold jB
        simp only [jc,o0,o1,o2,o3,o4,o5,Bool.or_false,Bool.or_true,Bool.true_or,Bool.false_or,if_true,if_false,Bool.false_eq_true]
        exact hno)
       go_wp2_with fail
       go_quiet (fail)
       go_wp2_with fail
       go_ret2
       refine⟨⟨HB.out.os,HB.out.tape,HB.out.output,HB.out.size,HB.out.block⟩,98,a,by simp,?_⟩
       have hz:=HF.out
       rw [hfin.out] at hz
       exact hz
     ·have hfin:Hid (jB op a cs=(115,-1)):=z8 (by
       have hyes:=z03 (gives:=115) (a:=a) (want:=115) (cs:=cs) fun m c h=>hall.out m c (by have:=(zgF.1 h).1;omega) h
       unfold jB
       simp only [jc,o0,o1,o2,o3,o4,o5,Bool.or_false,Bool.or_true,Bool.true_or,Bool.false_or,if_true,if_false,Bool.false_eq_true]
       exact hyes)
      have hjl2: ¬(j:Int)<cs.length:=by omega
      go_wp2_with fail
      go_ret2
      refine⟨HB.out,115,-1,by simp,?_⟩
      have hz:=HF.out
      rw [hfin.out] at hz
      exact hz
   cases o6:(op.toList==[61,61])
   case true=>
    have hpos:0<cs.length:=by rw [HCS.out];exact HCMP.out (by unfold jc;simp only [o0,o1,o2,o3,o4,o5,o6,Bool.or_false,Bool.or_true,Bool.true_or,Bool.false_or])
    obtain⟨z,hz0c⟩: ∃z,cs[0]?=some z:=⟨cs[0],zgE hpos⟩
    have hhd:cs.headD 0=z:=by cases cs with|nil=>exact absurd hpos (by simp)|cons q qs=>simpa using hz0c
    obtain⟨g6,cap6,hv,_,_⟩:=HOWN.out.form hpos
    injection hv with e1 e2 e3
    subst e1 e3
    have hc60:=zl HOWN.out 0 (.int .u8 z) (by simp [hz0c])
    have hpos2:(0:Int)<cs.length:=by omega
    have HHD:=z8 hhd
    clear hz0c hhd
    cases hzb:(z==98)
    ·go_wp2_with fail
     go_loopg [10] (cs.length+1) (fun k iv wq=> ∃j:Nat,k+j=cs.length+1∧j≤cs.length∧iv= .int .i64 j∧wq=wr∧Hid (∀(m:Nat) (c:Int),m<j→cs[m]?=some c→c=z))
     case atStart=>exact⟨0,rfl,zgO _,rfl,rfl,z8 fun m c h=>absurd h (Nat.not_lt_zero _)⟩
     case round=>
      obtain⟨j,hjk,hjl,rfl,rfl,hall⟩:=hrel
      by_cases hjlt:j<cs.length
      ·obtain⟨c,hcj⟩: ∃c,cs[j]?=some c:=⟨cs[j],zgE hjlt⟩
       have hc6:=zl HOWN.out j (.int .u8 c) (by simp [hcj])
       have hjl2:(j:Int)<cs.length:=by omega
       have HCJ:=z8 hcj
       clear hcj
       cases hne:(c !=z)
       ·have hjk:=z8 hjk
        go_wp2_with fail
        go_roundg (cs.length - j)
        case measure=>have:=hjk.out;omega
        case rel=>exact⟨j+1,by have:=hjk.out;omega,by omega,by go_num,rfl,z8 fun m d hm hd=>by
          by_cases hmj:m=j
          ·subst hmj;have hx:=HCJ.out.symm.trans hd;injection hx with hx;subst hx;simpa using hne
          ·exact hall.out m d (by omega) hd⟩
       ·have hfin:Hid (jB op a cs=(98,a)):=z8 (by
         have hno:=z0y (gives:=98) (a:=a) HCJ.out hne
         unfold jB
         simp only [jc,o0,o1,o2,o3,o4,o5,o6,HHD.out,hzb,Bool.or_false,Bool.or_true,Bool.true_or,Bool.false_or,if_true,if_false,Bool.false_eq_true]
         exact hno)
        go_wp2_with fail
        go_quiet (fail)
        go_wp2_with fail
        go_ret2
        refine⟨⟨HB.out.os,HB.out.tape,HB.out.output,HB.out.size,HB.out.block⟩,98,a,by simp,?_⟩
        have hz:=HF.out
        rw [hfin.out] at hz
        exact hz
      ·have hfin:Hid (jB op a cs=(98,-1)):=z8 (by
        have hyes:=z03 (gives:=98) (a:=a) (want:=z) (cs:=cs) fun m c h=>hall.out m c (by have:=(zgF.1 h).1;omega) h
        unfold jB
        simp only [jc,o0,o1,o2,o3,o4,o5,o6,HHD.out,hzb,Bool.or_false,Bool.or_true,Bool.true_or,Bool.false_or,if_true,if_false,Bool.false_eq_true]
        exact hyes)
       have hjl2: ¬(j:Int)<cs.length:=by omega
       go_wp2_with fail
       go_ret2
       refine⟨HB.out,98,-1,by simp,?_⟩
       have hz:=HF.out
       rw [hfin.out] at hz
       exact hz
    ·have hfin:Hid (jB op a cs=(98,a)):=z8 (by
      unfold jB
      simp only [jc,o0,o1,o2,o3,o4,o5,o6,HHD.out,hzb,Bool.or_false,Bool.or_true,Bool.true_or,Bool.false_or,if_true,if_false,Bool.false_eq_true])
     go_wp2_with fail
     go_quiet (fail)
     go_wp2_with fail
     go_ret2
     refine⟨⟨HB.out.os,HB.out.tape,HB.out.output,HB.out.size,HB.out.block⟩,98,a,by simp,?_⟩
     have hz:=HF.out
     rw [hfin.out] at hz
     exact hz
   cases o7:(op.toList==[33,61])
   case true=>
    have hpos:0<cs.length:=by rw [HCS.out];exact HCMP.out (by unfold jc;simp only [o0,o1,o2,o3,o4,o5,o6,o7,Bool.or_false,Bool.or_true,Bool.true_or,Bool.false_or])
    obtain⟨z,hz0c⟩: ∃z,cs[0]?=some z:=⟨cs[0],zgE hpos⟩
    have hhd:cs.headD 0=z:=by cases cs with|nil=>exact absurd hpos (by simp)|cons q qs=>simpa using hz0c
    obtain⟨g6,cap6,hv,_,_⟩:=HOWN.out.form hpos
    injection hv with e1 e2 e3
    subst e1 e3
    have hc60:=zl HOWN.out 0 (.int .u8 z) (by simp [hz0c])
    have hpos2:(0:Int)<cs.length:=by omega
    have HHD:=z8 hhd
    clear hz0c hhd
    cases hzb:(z==98)
    ·go_wp2_with fail
     go_loopg [10] (cs.length+1) (fun k iv wq=> ∃j:Nat,k+j=cs.length+1∧j≤cs.length∧iv= .int .i64 j∧wq=wr∧Hid (∀(m:Nat) (c:Int),m<j→cs[m]?=some c→c=z))
     case atStart=>exact⟨0,rfl,zgO _,rfl,rfl,z8 fun m c h=>absurd h (Nat.not_lt_zero _)⟩
     case round=>
      obtain⟨j,hjk,hjl,rfl,rfl,hall⟩:=hrel
      by_cases hjlt:j<cs.length
      ·obtain⟨c,hcj⟩: ∃c,cs[j]?=some c:=⟨cs[j],zgE hjlt⟩
       have hc6:=zl HOWN.out j (.int .u8 c) (by simp [hcj])
       have hjl2:(j:Int)<cs.length:=by omega
       have HCJ:=z8 hcj
       clear hcj
       cases hne:(c !=z)
       ·have hjk:=z8 hjk
        go_wp2_with fail
        go_roundg (cs.length - j)
        case measure=>have:=hjk.out;omega
        case rel=>exact⟨j+1,by have:=hjk.out;omega,by omega,by go_num,rfl,z8 fun m d hm hd=>by
          by_cases hmj:m=j
          ·subst hmj;have hx:=HCJ.out.symm.trans hd;injection hx with hx;subst hx;simpa using hne
          ·exact hall.out m d (by omega) hd⟩
       ·have hfin:Hid (jB op a cs=(98,a)):=z8 (by
         have hno:=z0y (gives:=98) (a:=a) HCJ.out hne
         unfold jB
         simp only [jc,o0,o1,o2,o3,o4,o5,o6,o7,HHD.out,hzb,Bool.or_false,Bool.or_true,Bool.true_or,Bool.false_or,if_true,if_false,Bool.false_eq_true]
         exact hno)
        go_wp2_with fail
        go_quiet (fail)
        go_wp2_with fail
        go_ret2
        refine⟨⟨HB.out.os,HB.out.tape,HB.out.output,HB.out.size,HB.out.block⟩,98,a,by simp,?_⟩
        have hz:=HF.out
        rw [hfin.out] at hz
        exact hz
      ·have hfin:Hid (jB op a cs=(98,-1)):=z8 (by
        have hyes:=z03 (gives:=98) (a:=a) (want:=z) (cs:=cs) fun m c h=>hall.out m c (by have:=(zgF.1 h).1;omega) h
        unfold jB
        simp only [jc,o0,o1,o2,o3,o4,o5,o6,o7,HHD.out,hzb,Bool.or_false,Bool.or_true,Bool.true_or,Bool.false_or,if_true,if_false,Bool.false_eq_true]
        exact hyes)
       have hjl2: ¬(j:Int)<cs.length:=by omega
       go_wp2_with fail
       go_ret2
       refine⟨HB.out,98,-1,by simp,?_⟩
       have hz:=HF.out
       rw [hfin.out] at hz
       exact hz
    ·have hfin:Hid (jB op a cs=(98,a)):=z8 (by
      unfold jB
      simp only [jc,o0,o1,o2,o3,o4,o5,o6,o7,HHD.out,hzb,Bool.or_false,Bool.or_true,Bool.true_or,Bool.false_or,if_true,if_false,Bool.false_eq_true])
     go_wp2_with fail
     go_quiet (fail)
     go_wp2_with fail
     go_ret2
     refine⟨⟨HB.out.os,HB.out.tape,HB.out.output,HB.out.size,HB.out.block⟩,98,a,by simp,?_⟩
     have hz:=HF.out
     rw [hfin.out] at hz
     exact hz
   cases o8:(op.toList==[60])
   case true=>
    have hpos:0<cs.length:=by rw [HCS.out];exact HCMP.out (by unfold jc;simp only [o0,o1,o2,o3,o4,o5,o6,o7,o8,Bool.or_false,Bool.or_true,Bool.true_or,Bool.false_or])
    obtain⟨z,hz0c⟩: ∃z,cs[0]?=some z:=⟨cs[0],zgE hpos⟩
    have hhd:cs.headD 0=z:=by cases cs with|nil=>exact absurd hpos (by simp)|cons q qs=>simpa using hz0c
    obtain⟨g6,cap6,hv,_,_⟩:=HOWN.out.form hpos
    injection hv with e1 e2 e3
    subst e1 e3
    have hc60:=zl HOWN.out 0 (.int .u8 z) (by simp [hz0c])
    have hpos2:(0:Int)<cs.length:=by omega
    have HHD:=z8 hhd
    clear hz0c hhd
    cases hzb:(z==98)
    ·go_wp2_with fail
     go_loopg [10] (cs.length+1) (fun k iv wq=> ∃j:Nat,k+j=cs.length+1∧j≤cs.length∧iv= .int .i64 j∧wq=wr∧Hid (∀(m:Nat) (c:Int),m<j→cs[m]?=some c→c=z))
     case atStart=>exact⟨0,rfl,zgO _,rfl,rfl,z8 fun m c h=>absurd h (Nat.not_lt_zero _)⟩
     case round=>
      obtain⟨j,hjk,hjl,rfl,rfl,hall⟩:=hrel
      by_cases hjlt:j<cs.length
      ·obtain⟨c,hcj⟩: ∃c,cs[j]?=some c:=⟨cs[j],zgE hjlt⟩
       have hc6:=zl HOWN.out j (.int .u8 c) (by simp [hcj])
       have hjl2:(j:Int)<cs.length:=by omega
       have HCJ:=z8 hcj
       clear hcj
       cases hne:(c !=z)
       ·have hjk:=z8 hjk
        go_wp2_with fail
        go_roundg (cs.length - j)
        case measure=>have:=hjk.out;omega
        case rel=>exact⟨j+1,by have:=hjk.out;omega,by omega,by go_num,rfl,z8 fun m d hm hd=>by
          by_cases hmj:m=j
          ·subst hmj;have hx:=HCJ.out.symm.trans hd;injection hx with hx;subst hx;simpa using hne
          ·exact hall.out m d (by omega) hd⟩
       ·have hfin:Hid (jB op a cs=(98,a)):=z8 (by
         have hno:=z0y (gives:=98) (a:=a) HCJ.out hne
         unfold jB
         simp only [jc,o0,o1,o2,o3,o4,o5,o6,o7,o8,HHD.out,hzb,Bool.or_false,Bool.or_true,Bool.true_or,Bool.false_or,if_true,if_false,Bool.false_eq_true]
         exact hno)
        go_wp2_with fail
        go_quiet (fail)
        go_wp2_with fail
        go_ret2
        refine⟨⟨HB.out.os,HB.out.tape,HB.out.output,HB.out.size,HB.out.block⟩,98,a,by simp,?_⟩
        have hz:=HF.out
        rw [hfin.out] at hz
        exact hz
      ·have hfin:Hid (jB op a cs=(98,-1)):=z8 (by
        have hyes:=z03 (gives:=98) (a:=a) (want:=z) (cs:=cs) fun m c h=>hall.out m c (by have:=(zgF.1 h).1;omega) h
        unfold jB
        simp only [jc,o0,o1,o2,o3,o4,o5,o6,o7,o8,HHD.out,hzb,Bool.or_false,Bool.or_true,Bool.true_or,Bool.false_or,if_true,if_false,Bool.false_eq_true]
        exact hyes)
       have hjl2: ¬(j:Int)<cs.length:=by omega
       go_wp2_with fail
       go_ret2
       refine⟨HB.out,98,-1,by simp,?_⟩
       have hz:=HF.out
       rw [hfin.out] at hz
       exact hz
    ·have hfin:Hid (jB op a cs=(98,a)):=z8 (by
      unfold jB
      simp only [jc,o0,o1,o2,o3,o4,o5,o6,o7,o8,HHD.out,hzb,Bool.or_false,Bool.or_true,Bool.true_or,Bool.false_or,if_true,if_false,Bool.false_eq_true])
     go_wp2_with fail
     go_quiet (fail)
     go_wp2_with fail
     go_ret2
     refine⟨⟨HB.out.os,HB.out.tape,HB.out.output,HB.out.size,HB.out.block⟩,98,a,by simp,?_⟩
     have hz:=HF.out
     rw [hfin.out] at hz
     exact hz
   cases o9:(op.toList==[60,61])
   case true=>
    have hpos:0<cs.length:=by rw [HCS.out];exact HCMP.out (by unfold jc;simp only [o0,o1,o2,o3,o4,o5,o6,o7,o8,o9,Bool.or_false,Bool.or_true,Bool.true_or,Bool.false_or])
    obtain⟨z,hz0c⟩: ∃z,cs[0]?=some z:=⟨cs[0],zgE hpos⟩
    have hhd:cs.headD 0=z:=by cases cs with|nil=>exact absurd hpos (by simp)|cons q qs=>simpa using hz0c
    obtain⟨g6,cap6,hv,_,_⟩:=HOWN.out.form hpos
    injection hv with e1 e2 e3
    subst e1 e3
    have hc60:=zl HOWN.out 0 (.int .u8 z) (by simp [hz0c])
    have hpos2:(0:Int)<cs.length:=by omega
    have HHD:=z8 hhd
    clear hz0c hhd
    cases hzb:(z==98)
    ·go_wp2_with fail
     go_loopg [10] (cs.length+1) (fun k iv wq=> ∃j:Nat,k+j=cs.length+1∧j≤cs.length∧iv= .int .i64 j∧wq=wr∧Hid (∀(m:Nat) (c:Int),m<j→cs[m]?=some c→c=z))
     case atStart=>exact⟨0,rfl,zgO _,rfl,rfl,z8 fun m c h=>absurd h (Nat.not_lt_zero _)⟩
     case round=>
      obtain⟨j,hjk,hjl,rfl,rfl,hall⟩:=hrel
      by_cases hjlt:j<cs.length
      ·obtain⟨c,hcj⟩: ∃c,cs[j]?=some c:=⟨cs[j],zgE hjlt⟩
       have hc6:=zl HOWN.out j (.int .u8 c) (by simp [hcj])
       have hjl2:(j:Int)<cs.length:=by omega
       have HCJ:=z8 hcj
       clear hcj
       cases hne:(c !=z)
       ·have hjk:=z8 hjk
        go_wp2_with fail
        go_roundg (cs.length - j)
        case measure=>have:=hjk.out;omega
        case rel=>exact⟨j+1,by have:=hjk.out;omega,by omega,by go_num,rfl,z8 fun m d hm hd=>by
          by_cases hmj:m=j
          ·subst hmj;have hx:=HCJ.out.symm.trans hd;injection hx with hx;subst hx;simpa using hne
          ·exact hall.out m d (by omega) hd⟩
       ·have hfin:Hid (jB op a cs=(98,a)):=z8 (by
         have hno:=z0y (gives:=98) (a:=a) HCJ.out hne
         unfold jB
         simp only [jc,o0,o1,o2,o3,o4,o5,o6,o7,o8,o9,HHD.out,hzb,Bool.or_false,Bool.or_true,Bool.true_or,Bool.false_or,if_true,if_false,Bool.false_eq_true]
         exact hno)
        go_wp2_with fail
        go_quiet (fail)
        go_wp2_with fail
        go_ret2
        refine⟨⟨HB.out.os,HB.out.tape,HB.out.output,HB.out.size,HB.out.block⟩,98,a,by simp,?_⟩
        have hz:=HF.out
        rw [hfin.out] at hz
        exact hz
      ·have hfin:Hid (jB op a cs=(98,-1)):=z8 (by
        have hyes:=z03 (gives:=98) (a:=a) (want:=z) (cs:=cs) fun m c h=>hall.out m c (by have:=(zgF.1 h).1;omega) h
        unfold jB
        simp only [jc,o0,o1,o2,o3,o4,o5,o6,o7,o8,o9,HHD.out,hzb,Bool.or_false,Bool.or_true,Bool.true_or,Bool.false_or,if_true,if_false,Bool.false_eq_true]
        exact hyes)
       have hjl2: ¬(j:Int)<cs.length:=by omega
       go_wp2_with fail
       go_ret2
       refine⟨HB.out,98,-1,by simp,?_⟩
       have hz:=HF.out
       rw [hfin.out] at hz
       exact hz
    ·have hfin:Hid (jB op a cs=(98,a)):=z8 (by
      unfold jB
      simp only [jc,o0,o1,o2,o3,o4,o5,o6,o7,o8,o9,HHD.out,hzb,Bool.or_false,Bool.or_true,Bool.true_or,Bool.false_or,if_true,if_false,Bool.false_eq_true])
     go_wp2_with fail
     go_quiet (fail)
     go_wp2_with fail
     go_ret2
     refine⟨⟨HB.out.os,HB.out.tape,HB.out.output,HB.out.size,HB.out.block⟩,98,a,by simp,?_⟩
     have hz:=HF.out
     rw [hfin.out] at hz
     exact hz
   cases o10:(op.toList==[62])
   case true=>
    have hpos:0<cs.length:=by rw [HCS.out];exact HCMP.out (by unfold jc;simp only [o0,o1,o2,o3,o4,o5,o6,o7,o8,o9,o10,Bool.or_false,Bool.or_true,Bool.true_or,Bool.false_or])
    obtain⟨z,hz0c⟩: ∃z,cs[0]?=some z:=⟨cs[0],zgE hpos⟩
    have hhd:cs.headD 0=z:=by cases cs with|nil=>exact absurd hpos (by simp)|cons q qs=>simpa using hz0c
    obtain⟨g6,cap6,hv,_,_⟩:=HOWN.out.form hpos
    injection hv with e1 e2 e3
    subst e1 e3
    have hc60:=zl HOWN.out 0 (.int .u8 z) (by simp [hz0c])
    have hpos2:(0:Int)<cs.length:=by omega
    have HHD:=z8 hhd
    clear hz0c hhd
    cases hzb:(z==98)
    ·go_wp2_with fail
     go_loopg [10] (cs.length+1) (fun k iv wq=> ∃j:Nat,k+j=cs.length+1∧j≤cs.length∧iv= .int .i64 j∧wq=wr∧Hid (∀(m:Nat) (c:Int),m<j→cs[m]?=some c→c=z))
     case atStart=>exact⟨0,rfl,zgO _,rfl,rfl,z8 fun m c h=>absurd h (Nat.not_lt_zero _)⟩
     case round=>
      obtain⟨j,hjk,hjl,rfl,rfl,hall⟩:=hrel
      by_cases hjlt:j<cs.length
      ·obtain⟨c,hcj⟩: ∃c,cs[j]?=some c:=⟨cs[j],zgE hjlt⟩
       have hc6:=zl HOWN.out j (.int .u8 c) (by simp [hcj])
       have hjl2:(j:Int)<cs.length:=by omega
       have HCJ:=z8 hcj
       clear hcj
       cases hne:(c !=z)
       ·have hjk:=z8 hjk
        go_wp2_with fail
        go_roundg (cs.length - j)
        case measure=>have:=hjk.out;omega
        case rel=>exact⟨j+1,by have:=hjk.out;omega,by omega,by go_num,rfl,z8 fun m d hm hd=>by
          by_cases hmj:m=j
          ·subst hmj;have hx:=HCJ.out.symm.trans hd;injection hx with hx;subst hx;simpa using hne
          ·exact hall.out m d (by omega) hd⟩
       ·have hfin:Hid (jB op a cs=(98,a)):=z8 (by
         have hno:=z0y (gives:=98) (a:=a) HCJ.out hne
         unfold jB
         simp only [jc,o0,o1,o2,o3,o4,o5,o6,o7,o8,o9,o10,HHD.out,hzb,Bool.or_false,Bool.or_true,Bool.true_or,Bool.false_or,if_true,if_false,Bool.false_eq_true]
         exact hno)
        go_wp2_with fail
        go_quiet (fail)
        go_wp2_with fail
        go_ret2
        refine⟨⟨HB.out.os,HB.out.tape,HB.out.output,HB.out.size,HB.out.block⟩,98,a,by simp,?_⟩
        have hz:=HF.out
        rw [hfin.out] at hz
        exact hz
      ·have hfin:Hid (jB op a cs=(98,-1)):=z8 (by
        have hyes:=z03 (gives:=98) (a:=a) (want:=z) (cs:=cs) fun m c h=>hall.out m c (by have:=(zgF.1 h).1;omega) h
        unfold jB
        simp only [jc,o0,o1,o2,o3,o4,o5,o6,o7,o8,o9,o10,HHD.out,hzb,Bool.or_false,Bool.or_true,Bool.true_or,Bool.false_or,if_true,if_false,Bool.false_eq_true]
        exact hyes)
       have hjl2: ¬(j:Int)<cs.length:=by omega
       go_wp2_with fail
       go_ret2
       refine⟨HB.out,98,-1,by simp,?_⟩
       have hz:=HF.out
       rw [hfin.out] at hz
       exact hz
    ·have hfin:Hid (jB op a cs=(98,a)):=z8 (by
      unfold jB
      simp only [jc,o0,o1,o2,o3,o4,o5,o6,o7,o8,o9,o10,HHD.out,hzb,Bool.or_false,Bool.or_true,Bool.true_or,Bool.false_or,if_true,if_false,Bool.false_eq_true])
     go_wp2_with fail
     go_quiet (fail)
     go_wp2_with fail
     go_ret2
     refine⟨⟨HB.out.os,HB.out.tape,HB.out.output,HB.out.size,HB.out.block⟩,98,a,by simp,?_⟩
     have hz:=HF.out
     rw [hfin.out] at hz
     exact hz
   cases o11:(op.toList==[62,61])
   case true=>
    have hpos:0<cs.length:=by rw [HCS.out];exact HCMP.out (by unfold jc;simp only [o0,o1,o2,o3,o4,o5,o6,o7,o8,o9,o10,o11,Bool.or_false,Bool.or_true,Bool.true_or,Bool.false_or])
    obtain⟨z,hz0c⟩: ∃z,cs[0]?=some z:=⟨cs[0],zgE hpos⟩
    have hhd:cs.headD 0=z:=by cases cs with|nil=>exact absurd hpos (by simp)|cons q qs=>simpa using hz0c
    obtain⟨g6,cap6,hv,_,_⟩:=HOWN.out.form hpos
    injection hv with e1 e2 e3
    subst e1 e3
    have hc60:=zl HOWN.out 0 (.int .u8 z) (by simp [hz0c])
    have hpos2:(0:Int)<cs.length:=by omega
    have HHD:=z8 hhd
    clear hz0c hhd
    cases hzb:(z==98)
    ·go_wp2_with fail
     go_loopg [10] (cs.length+1) (fun k iv wq=> ∃j:Nat,k+j=cs.length+1∧j≤cs.length∧iv= .int .i64 j∧wq=wr∧Hid (∀(m:Nat) (c:Int),m<j→cs[m]?=some c→c=z))
     case atStart=>exact⟨0,rfl,zgO _,rfl,rfl,z8 fun m c h=>absurd h (Nat.not_lt_zero _)⟩
     case round=>
      obtain⟨j,hjk,hjl,rfl,rfl,hall⟩:=hrel
      by_cases hjlt:j<cs.length
      ·obtain⟨c,hcj⟩: ∃c,cs[j]?=some c:=⟨cs[j],zgE hjlt⟩
       have hc6:=zl HOWN.out j (.int .u8 c) (by simp [hcj])
       have hjl2:(j:Int)<cs.length:=by omega
       have HCJ:=z8 hcj
       clear hcj
       cases hne:(c !=z)
       ·have hjk:=z8 hjk
        go_wp2_with fail
        go_roundg (cs.length - j)
        case measure=>have:=hjk.out;omega
        case rel=>exact⟨j+1,by have:=hjk.out;omega,by omega,by go_num,rfl,z8 fun m d hm hd=>by
          by_cases hmj:m=j
          ·subst hmj;have hx:=HCJ.out.symm.trans hd;injection hx with hx;subst hx;simpa using hne
          ·exact hall.out m d (by omega) hd⟩
       ·have hfin:Hid (jB op a cs=(98,a)):=z8 (by
         have hno:=z0y (gives:=98) (a:=a) HCJ.out hne
         unfold jB
         simp only [jc,o0,o1,o2,o3,o4,o5,o6,o7,o8,o9,o10,o11,HHD.out,hzb,Bool.or_false,Bool.or_true,Bool.true_or,Bool.false_or,if_true,if_false,Bool.false_eq_true]
         exact hno)
        go_wp2_with fail
        go_quiet (fail)
        go_wp2_with fail
        go_ret2
        refine⟨⟨HB.out.os,HB.out.tape,HB.out.output,HB.out.size,HB.out.block⟩,98,a,by simp,?_⟩
        have hz:=HF.out
        rw [hfin.out] at hz
        exact hz
      ·have hfin:Hid (jB op a cs=(98,-1)):=z8 (by
        have hyes:=z03 (gives:=98) (a:=a) (want:=z) (cs:=cs) fun m c h=>hall.out m c (by have:=(zgF.1 h).1;omega) h
        unfold jB
        simp only [jc,o0,o1,o2,o3,o4,o5,o6,o7,o8,o9,o10,o11,HHD.out,hzb,Bool.or_false,Bool.or_true,Bool.true_or,Bool.false_or,if_true,if_false,Bool.false_eq_true]
        exact hyes)
       have hjl2: ¬(j:Int)<cs.length:=by omega
       go_wp2_with fail
       go_ret2
       refine⟨HB.out,98,-1,by simp,?_⟩
       have hz:=HF.out
       rw [hfin.out] at hz
       exact hz
    ·have hfin:Hid (jB op a cs=(98,a)):=z8 (by
      unfold jB
      simp only [jc,o0,o1,o2,o3,o4,o5,o6,o7,o8,o9,o10,o11,HHD.out,hzb,Bool.or_false,Bool.or_true,Bool.true_or,Bool.false_or,if_true,if_false,Bool.false_eq_true])
     go_wp2_with fail
     go_quiet (fail)
     go_wp2_with fail
     go_ret2
     refine⟨⟨HB.out.os,HB.out.tape,HB.out.output,HB.out.size,HB.out.block⟩,98,a,by simp,?_⟩
     have hz:=HF.out
     rw [hfin.out] at hz
     exact hz
   go_wp2_with fail
   go_loopg [10] (cs.length+1) (fun k iv wq=> ∃j:Nat,k+j=cs.length+1∧j≤cs.length∧iv= .int .i64 j∧wq=wr∧Hid (∀(m:Nat) (c:Int),m<j→cs[m]?=some c→c=110))
   case atStart=>exact⟨0,rfl,zgO _,rfl,rfl,z8 fun m c h=>absurd h (Nat.not_lt_zero _)⟩
   case round=>
    obtain⟨j,hjk,hjl,rfl,rfl,hall⟩:=hrel
    by_cases hjlt:j<cs.length
    ·obtain⟨c,hcj⟩: ∃c,cs[j]?=some c:=⟨cs[j],zgE hjlt⟩
     obtain⟨g6,cap6,hv,_,_⟩:=HOWN.out.form (by omega)
     injection hv with e1 e2 e3
     subst e1 e3
     have hc6:=zl HOWN.out j (.int .u8 c) (by simp [hcj])
     have hjl2:(j:Int)<cs.length:=by omega
     have HCJ:=z8 hcj
     clear hcj
     cases hne:(c !=110)
     ·have hjk:=z8 hjk
      go_wp2_with fail
      go_roundg (cs.length - j)
      case measure=>have:=hjk.out;omega
      case rel=>exact⟨j+1,by have:=hjk.out;omega,by omega,by go_num,rfl,z8 fun m d hm hd=>by
        by_cases hmj:m=j
        ·subst hmj;have hx:=HCJ.out.symm.trans hd;injection hx with hx;subst hx;simpa using hne
        ·exact hall.out m d (by omega) hd⟩
     ·have hfin:Hid (jB op a cs=(98,a)):=z8 (by
       have hno:=z0y (gives:=110) (a:=a) HCJ.out hne
       unfold jB
       simp only [jc,o0,o1,o2,o3,o4,o5,o6,o7,o8,o9,o10,o11,Bool.or_false,Bool.or_true,Bool.true_or,Bool.false_or,if_true,if_false,Bool.false_eq_true]
       exact hno)
      go_wp2_with fail
      go_quiet (fail)
      go_wp2_with fail
      go_ret2
      refine⟨⟨HB.out.os,HB.out.tape,HB.out.output,HB.out.size,HB.out.block⟩,98,a,by simp,?_⟩
      have hz:=HF.out
      rw [hfin.out] at hz
      exact hz
    ·have hfin:Hid (jB op a cs=(110,-1)):=z8 (by
      have hyes:=z03 (gives:=110) (a:=a) (want:=110) (cs:=cs) fun m c h=>hall.out m c (by have:=(zgF.1 h).1;omega) h
      unfold jB
      simp only [jc,o0,o1,o2,o3,o4,o5,o6,o7,o8,o9,o10,o11,Bool.or_false,Bool.or_true,Bool.true_or,Bool.false_or,if_true,if_false,Bool.false_eq_true]
      exact hyes)
     have hjl2: ¬(j:Int)<cs.length:=by omega
     go_wp2_with fail
     go_ret2
     refine⟨HB.out,110,-1,by simp,?_⟩
     have hz:=HF.out
     rw [hfin.out] at hz
     exact hz
def z0k (x:Ex)(ts:List Int):Int:=zv x (zb ts x.left) (zb ts x.right)
def Scan (E:List Ex)(ts:List Int):Prop:= ∀j:Nat,j<ts.length→ ∃x,E[j]?=some x∧ts[j]?=some (z0k x (ts.take j))∧z0k x (ts.take j)≠0
def Flt (E:List Ex)(p:Int):Prop:= ∃ts x,Scan E ts∧E[ts.length]?=some x∧z0k x ts=0∧p=x.place
theorem Scan.nil (E:List Ex):Scan E []:=fun j h=>absurd h (Nat.not_lt_zero _)
theorem Scan.push {E:List Ex}{ts:List Int}{x:Ex}(h:Scan E ts)(hx:E[ts.length]?=some x)(h0:z0k x ts≠0):Scan E (ts++[z0k x ts]):=by
 intro j hj
 simp at hj
 by_cases hl:j<ts.length
 ·obtain⟨y,h1,h2,h3⟩:=h j hl
  refine⟨y,h1,?_,?_⟩
  ·rw [List.getElem?_append_left hl,List.take_append_of_le_length (by omega)];exact h2
  ·rw [List.take_append_of_le_length (by omega)];exact h3
 ·have hj:j=ts.length:=by omega
  subst hj
  refine⟨x,hx,?_,?_⟩
  ·simp
  ·simpa using h0
theorem Scan.unique {E:List Ex}{ts us:List Int}(h:Scan E ts)(k:Scan E us): ∀j:Nat,j<ts.length→j<us.length→ts[j]?=us[j]?∧ts.take j=us.take j:=by
 intro j
 induction j with
 |zero=>
  intro h1 h2
  obtain⟨x,p1,p2,_⟩:=h 0 h1
  obtain⟨y,q1,q2,_⟩:=k 0 h2
  rw [p1] at q1
  injection q1 with q1
  subst q1
  exact⟨by rw [p2,q2];simp,by simp⟩
 |succ j ih=>
  intro h1 h2
  obtain⟨i1,i2⟩:=ih (by omega) (by omega)
  have he:ts.take (j+1)=us.take (j+1):=by
   rw [List.take_add_one,List.take_add_one,i2,i1]
  obtain⟨x,p1,p2,_⟩:=h (j+1) h1
  obtain⟨y,q1,q2,_⟩:=k (j+1) h2
  rw [p1] at q1
  injection q1 with q1
  subst q1
  exact⟨by rw [p2,q2,he],he⟩
theorem Scan.tf {E:List Ex}: ∀(n:Nat) {ts:List Int},ts.length=n→Scan E ts→tfM (E.drop ts.length) ts=tfM E []:=by
 intro n
 induction n with
 |zero=>intro ts hn h;rw [List.length_eq_zero_iff.1 hn];rfl
 |succ n ih=>
  intro ts hn h
  have hs:Scan E (ts.take n):=fun j hj=>by
   simp at hj
   obtain⟨x,h1,h2,h3⟩:=h j (by omega)
   have e:(ts.take n).take j=ts.take j:=by rw [List.take_take,Nat.min_eq_left (by omega)]
   refine⟨x,h1,?_,?_⟩
   ·rw [e,List.getElem?_take,if_pos (by omega)];exact h2
   ·rw [e];exact h3
  obtain⟨x,h1,h2,h3⟩:=h n (by omega)
  have hln:(ts.take n).length=n:=by simp;omega
  have hi:=ih hln hs
  rw [hln,z5a h1] at hi
  have e0:(zv x (zb (List.take n ts) x.left) (zb (List.take n ts) x.right)==0)=false:=by
   rw [beq_eq_false_iff_ne];exact h3
  rw [e0,if_neg (by decide)] at hi
  have et:ts=ts.take n++[z0k x (ts.take n)]:=by
   have:=List.take_add_one (l:=ts) (i:=n)
   rw [h2] at this
   exact(List.take_of_length_le (by omega)).symm.trans this
  rw [hn,←hi]
  conv=>lhs;rw [et]
  rfl
theorem Flt.tf {E:List Ex}{p:Int}(h:Flt E p):tfM E []=p:=by
 obtain⟨ts,x,h1,h2,h3,h4⟩:=h
 rw [←Scan.tf _ rfl h1,z5a h2]
 have e0:(zv x (zb ts x.left) (zb ts x.right)==0)=true:=by
  have h3:zv x (zb ts x.left) (zb ts x.right)=0:=h3
  rw [h3];rfl
 rw [e0,if_pos rfl,h4]
theorem Scan.tf_end {E:List Ex}{ts:List Int}(h:Scan E ts)(hl:ts.length=E.length):tfM E []= -1:=by
 rw [←Scan.tf _ rfl h,zgK (by omega)]
 rfl
theorem z5g (b:Bool)(m:Int)(h:m=1∨m=2∨m=3):zY b m=0∨zY b m=1∨zY b m=2∨zY b m=3:=by
 unfold zY
 split<;>omega
theorem z6W (x:Ex)(ts:List Int):z0k x ts=0∨z0k x ts=1∨z0k x ts=2∨z0k x ts=3:=by
 unfold z0k zv zB
 repeat' split
 all_goals first|omega|exact z5g _ _ (by omega)
theorem Scan.last {E:List Ex}{us:List Int}{t:Int}(h:Scan E (us++[t])):t=1∨t=2∨t=3:=by
 obtain⟨x,h1,h2,h3⟩:=h us.length (by simp)
 simp at h2
 have:=z6W x (List.take us.length (us++[t]))
 simp at this h3
 omega
def chr (t:Int):Int:=if t=1 then 98 else if t=2 then 110 else 115
def jF (op:zgS):Bool:=op.toList==[124,124]||op.toList==[38,38]||op.toList==[61,61]||op.toList==[33,61]||op.toList==[60]||op.toList==[60,61]||op.toList==[62]||op.toList==[62,61]||op.toList==[43]||op.toList==[45]||op.toList==[46]||op.toList==[42]||op.toList==[47]||op.toList==[37]
def jX (E:List Ex):Prop:= ∀x∈E,0≤x.place∧(x.form=6→jF x.text=true)
theorem z1S (us:List Int)(t:Int):zb (us++[t]) (us.length:Int)=t:=by
 unfold zb
 rw [if_neg (by omega)]
 simp
theorem z6A {us:List Int}{j:Nat}{t:Int}(h:us[j]?=some t):zb us (j:Int)=t:=by
 unfold zb
 rw [if_neg (by omega)]
 simp [List.getD,h]
theorem z5F {op:zgS}{l:List UInt8}(h:(op.toList==l)=true):op.toList=l:=eq_of_beq h
theorem zcP {op:zgS}(h:jF op=true)(a:Int){t1 t2:Int}(h1:t1=1∨t1=2∨t1=3)(h2:t2=1∨t2=2∨t2=3):
  jB op a [chr t1,chr t2]=if zB op t1 t2=0 then(98,a) else(chr (zB op t1 t2),-1):=by
 unfold jF at h
 simp only [Bool.or_eq_true] at h
 unfold jB zB jc
 rcases h with(((((((((((((h|h)|h)|h)|h)|h)|h)|h)|h)|h)|h)|h)|h)|h)
 all_goals
  have h:=z5F h
  rw [h]
  rcases h1 with rfl|rfl|rfl<;>rcases h2 with rfl|rfl|rfl<;>rfl
theorem zdO (a:Int){t:Int}(h:t=1∨t=2∨t=3):jB zct a [chr t]=if zY (t==1) 1=0 then(98,a) else(chr (zY (t==1) 1),-1):=by
 unfold jB
 rw [show zct.toList=[33] by rw [zgG];rfl]
 rcases h with rfl|rfl|rfl<;>rfl
theorem zgj (a:Int){t:Int}(h:t=1∨t=2∨t=3):jB sN a [chr t]=if zY (t==2) 2=0 then(98,a) else(chr (zY (t==2) 2),-1):=by
 unfold jB jc
 rw [show sN.toList=[110] by rw [zgG];rfl]
 rcases h with rfl|rfl|rfl<;>rfl
theorem z5W {op:zgS}(h:jF op=true):z17 op=false∧(op.toList==[105,102])=false:=by
 unfold jF at h
 simp only [Bool.or_eq_true] at h
 unfold z17
 rcases h with((((((((((((((h|h)|h)|h)|h)|h)|h)|h)|h)|h)|h)|h)|h)|h))
 all_goals
  have h:=z5F h
  rw [h]
  exact⟨rfl,rfl⟩
def QE (E:List Ex)(i:Nat)(c at_:Int):Prop:=(∃us t,Scan E (us++[t])∧us.length=i∧c=chr t∧at_= -1)∨(c=98∧0≤at_∧Flt E at_)
theorem zD {X:Nat→Prop}{w w':World}(h:Below w.heap.size w w'):z1M X w w':=fun k hk _=>h.block k hk
theorem z1K {E:List Ex}{i:Nat}{x:Ex}(h:E[i]?=some x):x∈E:=zgM h
theorem zb7 {E:List Ex}{ts:List Int}{x:Ex}(hs:Scan E ts)(hx:E[ts.length]?=some x)(hg:jX E){o:Int}(ho:z0k x ts=o):
  QE E ts.length (if o=0 then 98 else chr o) (if o=0 then x.place else -1):=by
 by_cases h0:o=0
 ·rw [if_pos h0,if_pos h0]
  exact .inr ⟨rfl,(hg x (z1K hx)).1,ts,x,hs,hx,ho.trans h0,rfl⟩
 ·rw [if_neg h0,if_neg h0]
  exact .inl ⟨ts,o,ho▸hs.push hx (by rw [ho];exact h0),rfl,rfl,rfl⟩
theorem zgf {E:List Ex}{ts:List Int}{x:Ex}(hs:Scan E ts)(hx:E[ts.length]?=some x)(hg:jX E){o:Int}(ho:z0k x ts=o){p:Int×Int}(hp:p=if o=0 then(98,x.place) else(chr o,-1)):QE E ts.length p.1 p.2:=by
 have h:=zb7 hs hx hg ho
 by_cases h0:o=0
 ·rw [if_pos h0] at hp
  rw [if_pos h0,if_pos h0] at h
  rw [hp];exact h
 ·rw [if_neg h0] at hp
  rw [if_neg h0,if_neg h0] at h
  rw [hp];exact h
theorem z1Y {op:zgS}{l:List UInt8}(h:op.data.toList=l):(op.toList==l)=true:=by
 rw [zgG,h];simp
theorem zdi {X:Nat→Prop}{E:List Ex}(hg:jX E): ∀(f:Nat) (v:Value) (a i:Nat) (ts:List Int) (w:World),RefEX X w E f v a i→Scan E ts→ts.length=a→Calls Tryz.prog 53 #[v] w fun e w'=>z4p w (QE E i) e w':=by
 intro f
 induction f with
 |zero=>intro v a i ts w h;exact absurd h id
 |succ f ih=>
  intro v a i ts w h hs hts
  obtain⟨x,hx,h⟩:=h
  have leaf: ∀(c o:Int),a=i→z0k x ts=o→o≠0→chr o=c→Calls Tryz.prog 53 #[v] w (fun e w'=>e= .returned (.tuple #[.int .u8 c,.int .i64 (-1)])∧w'=w)→Calls Tryz.prog 53 #[v] w fun e w'=>z4p w (QE E i) e w':=by
   intro c o hai ho h0 hco hc
   refine hc.mono ?_
   rintro e w' ⟨rfl,rfl⟩
   subst hai hts
   exact⟨zgR _ _,c,-1,rfl,.inl ⟨ts,o,ho▸hs.push hx (by rw [ho];exact h0),rfl,hco.symm,rfl⟩⟩
  rcases h with⟨h1,h2,p,h3⟩|⟨h1,h2,p,h3⟩|⟨h1,h2,h4,p,h3⟩|⟨h1,h2,p,h3⟩|⟨h1,h2,p,h3⟩|⟨h1,v1,j,h2,h3,h4,h5⟩|⟨h1,v1,v2,j,k,h2,h3,h4,h5,h6,h7⟩
  ·exact leaf 110 2 h2 (by unfold z0k zv;rw [h1];rfl) (by omega) rfl (z0u h3 110 (.inl ⟨rfl,by rw [z1Y (op:=zfv) (l:=[110,117,109]) rfl];rfl⟩))
  ·exact leaf 115 3 h2 (by unfold z0k zv;rw [h1];rfl) (by omega) rfl (z0u h3 115 (.inr (.inl ⟨rfl,by rw [z1Y (op:=zfi) (l:=[115,116,114]) rfl];rfl⟩)))
  ·refine leaf 98 1 h2 (by unfold z0k zv;rw [h1];rfl) (by omega) rfl (z0u h3 98 (.inr (.inr ⟨rfl,?_⟩)))
   rcases h4 with h4|h4
   ·rw [z1Y h4];rfl
   ·rw [z1Y h4];simp
  ·exact leaf 115 3 h2 (by unfold z0k zv;rw [h1];rfl) (by omega) rfl (z0u h3 115 (.inr (.inl ⟨rfl,by rw [z1Y (op:=zaI) (l:=[97,116,116,114]) rfl];simp⟩)))
  ·exact leaf 110 2 h2 (by unfold z0k zv;rw [h1];rfl) (by omega) rfl (z0u h3 110 (.inl ⟨rfl,by rw [z1Y (op:=sAt) (l:=[97,116]) rfl];simp⟩))
  ·have hpre: ∀(op:zgS) (m:Int),NodeX X w v op ⟨#[]⟩ x.place [v1]→z17 op=false→jc op=false→(op.toList==[105,102])=false→
     (∀t r:Int,(t=1∨t=2∨t=3)→zv x t r=zY (t==m) m∧jB op x.place [chr t]=if zY (t==m) m=0 then(98,x.place) else(chr (zY (t==m) m),-1))→Calls Tryz.prog 53 #[v] w fun e w'=>z4p w (QE E i) e w':=by
    intro op m hn hl hc hif hend
    refine z1G hn (by simp) (fun n cs=>(n=0∧cs=[])∨(n=1∧ ∃us t,Scan E (us++[t])∧us.length=j∧cs=[chr t])) (QE E i) (.inl ⟨rfl,rfl⟩) hl (fun e=>by rw [hc] at e;cases e) ?_ ?_
    ·intro n cs wr vi hvi hS hcs hb
     cases n with
     |succ n=>simp at hvi
     |zero=>
      have hv:v1=vi:=by simpa using hvi
      subst hv
      have hcs:cs=[]:=List.length_eq_zero_iff.1 hcs
      subst hcs
      refine(ih v1 a j ts wr (h5.keepX (zD hb)) hs hts).mono ?_
      rintro e w' ⟨hb2,c,at2,rfl,hq⟩
      refine⟨hb2,c,at2,rfl,?_⟩
      rcases hq with⟨us,t,q1,q2,q3,q4⟩|⟨q1,q2,q3⟩
      ·refine .inr ⟨q4,?_⟩
       rw [hif]
       exact .inr ⟨rfl,us,t,q1,q2,by rw [q3];rfl⟩
      ·exact .inl ⟨q2,.inr ⟨rfl,q2,q3⟩⟩
    ·intro cs hS hl2
     rcases hS with⟨q1,_⟩|⟨_,us,t,q1,q2,q3⟩
     ·cases q1
     ·subst q3
      have ht:=q1.last
      obtain⟨e1,e2⟩:=hend t (zb (us++[t]) x.right) ht
      have hlen:(us++[t]).length=i:=by simp;omega
      have hx':E[(us++[t]).length]?=some x:=by rw [hlen];exact hx
      have ho:z0k x (us++[t])=zY (t==m) m:=by
       unfold z0k
       rw [h3,←q2,z1S]
       exact e1
      have hh:=zgf q1 hx' hg ho e2
      rw [hlen] at hh
      exact hh
   rcases h4 with⟨h4,hn⟩|⟨h4,hn⟩
   ·refine hpre zct 1 hn (by unfold z17;rw [zgG];rfl) (by unfold jc;rw [zgG];rfl) (by rw [zgG];rfl) fun t r ht=>⟨?_,zdO x.place ht⟩
    unfold zv
    rw [h1,h4,zgG]
    rfl
   ·refine hpre sN 2 hn (by unfold z17;rw [zgG];rfl) (by unfold jc;rw [zgG];rfl) (by rw [zgG];rfl) fun t r ht=>⟨?_,zgj x.place ht⟩
    unfold zv
    rw [h1,h4,zgG]
    rfl
  ·have hgx:=(hg x (z1K hx)).2 h1
   obtain⟨hl,hif⟩:=z5W hgx
   refine z1G h5 (by simp) (fun n cs=>(n=0∧cs=[])∨(n=1∧ ∃us t,Scan E (us++[t])∧us.length=j∧cs=[chr t])∨(n=2∧ ∃us t1 t2,Scan E (us++[t2])∧us.length=k∧(us++[t2])[j]?=some t1∧(t1=1∨t1=2∨t1=3)∧cs=[chr t1,chr t2])) (QE E i) (.inl ⟨rfl,rfl⟩) hl (fun _=>by simp) ?_ ?_
   ·intro n cs wr vi hvi hS hcs hb
    rw [hif]
    rcases hS with⟨rfl,rfl⟩|⟨rfl,us,t,q1,q2,rfl⟩|⟨rfl,_⟩
    ·have hv:v1=vi:=by simpa using hvi
     subst hv
     refine(ih v1 a j ts wr (h6.keepX (zD hb)) hs hts).mono ?_
     rintro e w' ⟨hb2,c,at2,rfl,hq⟩
     refine⟨hb2,c,at2,rfl,?_⟩
     rcases hq with⟨us,t,q1,q2,q3,q4⟩|⟨q1,q2,q3⟩
     ·exact .inr ⟨q4,.inr (.inl ⟨rfl,us,t,q1,q2,by rw [q3];rfl⟩)⟩
     ·exact .inl ⟨q2,.inr ⟨rfl,q2,q3⟩⟩
    ·have hv:v2=vi:=by simpa using hvi
     subst hv
     refine(ih v2 (j+1) k (us++[t]) wr (h7.keepX (zD hb)) q1 (by simp [q2])).mono ?_
     rintro e w' ⟨hb2,c,at2,rfl,hq⟩
     refine⟨hb2,c,at2,rfl,?_⟩
     rcases hq with⟨us2,t2,r1,r2,r3,r4⟩|⟨r1,r2,r3⟩
     ·refine .inr ⟨r4,.inr (.inr ⟨rfl,us2,t,t2,r1,r2,?_,q1.last,by rw [r3];rfl⟩)⟩
      have hjk:j<us2.length+1:=by
       have hle: ∀f v a i,RefEX X wr E f v a i→a≤i:=by
        intro f
        induction f with
        |zero=>intro v a i h;exact absurd h id
        |succ f ihf=>
         intro v a i h
         obtain⟨y,_,h⟩:=h
         rcases h with⟨_,e,_⟩|⟨_,e,_⟩|⟨_,e,_⟩|⟨_,e,_⟩|⟨_,e,_⟩|⟨_,u1,jj,e1,_,_,e2⟩|⟨_,u1,u2,jj,kk,e1,_,_,_,e2,e3⟩
         ·omega
         ·omega
         ·omega
         ·omega
         ·omega
         ·have:=ihf _ _ _ e2;omega
         ·have:=ihf _ _ _ e2;have:=ihf _ _ _ e3;omega
       have:=hle _ _ _ _ (h7.keepX (zD hb))
       omega
      have hu:=(q1.unique r1 j (by simp [q2]) (by simpa using hjk)).1
      rw [←hu,←q2]
      simp
     ·exact .inl ⟨r2,.inr ⟨rfl,r2,r3⟩⟩
    ·simp at hvi
   ·intro cs hS hl2
    rcases hS with⟨q1,_⟩|⟨q1,_⟩|⟨_,us,t1,t2,q1,q2,q3,q4,rfl⟩
    ·cases q1
    ·cases q1
    ·have hlen:(us++[t2]).length=i:=by simp;omega
     have hx':E[(us++[t2]).length]?=some x:=by rw [hlen];exact hx
     have ho:z0k x (us++[t2])=zB x.text t1 t2:=by
      unfold z0k zv
      rw [h1,h3,h4,z6A q3,←q2,z1S]
      rfl
     have hh:=zgf q1 hx' hg ho (zcP hgx x.place q4 q1.last)
     rw [hlen] at hh
     exact hh
def QC (E:List Ex)(e:Nat)(c at_:Int):Prop:=(c=98∧at_= -1∧ ∃us,Scan E us∧us.length=e)∨(c=98∧0≤at_∧Flt E at_)
theorem zeF (a:Int)(cs:List Int):jB sIf a cs=(98,-1):=by unfold jB;rw [zgG];rfl
theorem zcO (a:Int)(cs:List Int):jB zdu a cs=(98,-1):=by unfold jB;rw [zgG];rfl
theorem SegC.len {P:Value→Cl→Nat→Nat→Prop}: ∀(vs:List Value) (cs:List Cl) (a e:Nat),SegC P vs cs a e→vs.length=cs.length:=by
 intro vs
 induction vs with
 |nil=>intro cs a e h;cases cs with
  |nil=>rfl
  |cons i is=>exact absurd h id
 |cons v vs ih=>
  intro cs a e h
  cases cs with
  |nil=>exact absurd h id
  |cons i is=>obtain⟨j,_,h3⟩:=h;simp [ih is _ _ h3]
theorem zar {X:Nat→Prop}{E:List Ex}(hg:jX E){f:Nat}{sub:Value→Nat→Nat→Nat→Prop}{w0:World}
  (hsub: ∀v ci a e ts wr,Below w0.heap.size w0 wr→sub v ci a e→Scan E ts→ts.length=a→Calls Tryz.prog 53 #[v] wr fun en w'=>z4p wr (QC E e) en w')
  {v:Value} {c:Cl} {a e:Nat} (h:ClX X w0 E f sub v c a e) (ts:List Int) (hs:Scan E ts) (hts:ts.length=a) (w:World) (hb0:Below w0.heap.size w0 w):
  Calls Tryz.prog 53 #[v] w fun en w'=>z4p w (QC E e) en w':=by
 obtain⟨v1,i,x,h1,h2,h3,h4,h5,h6⟩:=h
 have key: ∀(vs:List Value),NodeX X w v sIf ⟨#[]⟩ x.place vs→vs.length≤2→vs[0]?=some v1→(vs.length=1→e=i+2)→(∀v2 us wr,vs[1]?=some v2→Below w.heap.size w wr→Scan E us→us.length=i+2→Calls Tryz.prog 53 #[v2] wr fun en w'=>z4p wr (QC E e) en w')→0<vs.length→Calls Tryz.prog 53 #[v] w fun en w'=>z4p w (QC E e) en w':=by
  intro vs hn hl hv0 hone htwo hpos
  refine z1G hn (by omega) (fun n cs=>(n=0∧cs=[])∨(n=1∧ ∃us,Scan E us∧us.length=i+2)∨(n=2∧ ∃us,Scan E us∧us.length=e)) (QC E e) (.inl ⟨rfl,rfl⟩) (by unfold z17;rw [zgG];rfl) (fun _=>hpos) ?_ ?_
  ·intro n cs wr vi hvi hS hcs hb
   rw [show(sIf.toList==[105,102])=true by rw [zgG];rfl]
   rcases hS with⟨rfl,rfl⟩|⟨rfl,us,q1,q2⟩|⟨rfl,_⟩
   ·have hv:v1=vi:=by rw [hv0] at hvi;injection hvi
    subst hv
    have hb1:Below w0.heap.size w0 wr:=hb0.trans (hb.mono hb0.size)
    refine(zdi hg f v1 a i ts wr (h1.keepX (zD hb1)) hs hts).mono ?_
    rintro en w' ⟨hb2,c,at2,rfl,hq⟩
    refine⟨hb2,c,at2,rfl,?_⟩
    rcases hq with⟨us,t,q1,q2,q3,q4⟩|⟨q1,q2,q3⟩
    ·refine .inr ⟨q4,?_⟩
     have hx':E[(us++[t]).length]?=some x:=by simp only [List.length_append,List.length_cons,List.length_nil,q2];exact h2
     have ho:z0k x (us++[t])=zY (t==1) 1:=by
      unfold z0k zv
      rw [h3,h4,←q2,z1S]
      rfl
     have ht:=q1.last
     subst q3
     rcases ht with rfl|rfl|rfl
     ·exact .inr (.inl ⟨rfl,us++[1]++[1],by have:=q1.push hx' (by rw [ho];decide);rw [ho] at this;exact this,by simp [q2]⟩)
     ·exact .inr ⟨rfl,(hg x (z1K h2)).1,us++[2],x,q1,hx',by rw [ho];rfl,rfl⟩
     ·exact .inr ⟨rfl,(hg x (z1K h2)).1,us++[3],x,q1,hx',by rw [ho];rfl,rfl⟩
    ·exact .inl ⟨q2,.inr ⟨rfl,q2,q3⟩⟩
   ·refine(htwo vi us wr hvi hb q1 q2).mono ?_
    rintro en w' ⟨hb2,c,at2,rfl,hq⟩
    refine⟨hb2,c,at2,rfl,?_⟩
    rcases hq with⟨r1,r2,us2,r3,r4⟩|⟨r1,r2,r3⟩
    ·refine .inr ⟨r2,?_⟩
     exact .inr (.inr ⟨rfl,us2,r3,r4⟩)
    ·exact .inl ⟨r2,.inr ⟨rfl,r2,r3⟩⟩
   ·have:=(zgF.1 hvi).1
    omega
  ·intro cs hS hl2
   rw [zeF]
   rcases hS with⟨q1,_⟩|⟨q1,us,q2,q3⟩|⟨q1,us,q2,q3⟩
   ·omega
   ·exact .inl ⟨rfl,rfl,us,q2,by rw [hone q1];exact q3⟩
   ·exact .inl ⟨rfl,rfl,us,q2,q3⟩
 rcases h6 with⟨q1,q2,q3⟩|⟨q1,v2,p,q2,q3,q4⟩|⟨q1,v2,ci,q2,q3,q4⟩
 ·exact key [v1] (q2.keepX (zD hb0)) (by simp) rfl (fun _=>q3) (fun v2 us wr h=>by simp at h) (by simp)
 ·refine key [v1,v2] (q2.keepX (zD hb0)) (by simp) rfl (fun h=>by simp at h) (fun v3 us wr h hb hs hl=> ?_) (by simp)
  have hv:v2=v3:=by simpa using h
  subst hv
  refine(z0u ((q3.keepX (zD hb0)).keepX (zD hb)) 98 (.inr (.inr ⟨rfl,by rw [z1Y (op:=z4g) (l:=[110,97,109,101]) rfl];simp⟩))).mono ?_
  rintro en w' ⟨rfl,rfl⟩
  exact⟨zgR _ _,98,-1,rfl,.inl ⟨rfl,rfl,us,hs,by rw [q4];exact hl⟩⟩
 ·refine key [v1,v2] (q3.keepX (zD hb0)) (by simp) rfl (fun h=>by simp at h) (fun v3 us wr h hb hs hl=> ?_) (by simp)
  have hv:v2=v3:=by simpa using h
  subst hv
  exact hsub v2 ci _ e us wr (hb0.trans (hb.mono hb0.size)) q4 hs hl
theorem za9 {P:Value→Cl→Nat→Nat→Prop}: ∀(vs:List Value) (cs:List Cl) (a e n:Nat) (v:Value),SegC P (vs.drop n) (cs.drop n) a e→vs[n]?=some v→ ∃c m,P v c a m∧SegC P (vs.drop (n+1)) (cs.drop (n+1)) m e:=by
 intro vs cs a e n v h hv
 obtain⟨hl,hx⟩:=zgF.1 hv
 rw [zgL hl,hx] at h
 cases hc:cs.drop n with
 |nil=>rw [hc] at h;exact absurd h id
 |cons c cs'=>
  rw [hc] at h
  obtain⟨m,h1,h2⟩:=h
  refine⟨c,m,h1,?_⟩
  have:cs.drop (n+1)=cs':=by rw [←List.drop_drop,hc];rfl
  rw [this]
  exact h2
theorem zcZ {X:Nat→Prop}{E:List Ex}{C:List (List Cl)}(hg:jX E)(hC: ∀cls∈C,cls.length<100000): ∀(f:Nat) (v:Value) (ci a e:Nat) (ts:List Int) (w:World),RefCX X w E C f v ci a e→Scan E ts→ts.length=a→Calls Tryz.prog 53 #[v] w fun en w'=>z4p w (QC E e) en w':=by
 intro f
 induction f with
 |zero=>intro v ci a e ts w h;exact absurd h id
 |succ f ih=>
  intro v ci a e ts w h hs hts
  obtain⟨cls,vs,p,h1,h2,h3⟩:=h
  have hlen:=SegC.len _ _ _ _ h3
  have hcl:=hC cls (zgM h1)
  refine z1G h2 (by omega) (fun n cs=> ∃us,Scan E us∧SegC (fun v c a e=>ClX X w E f (fun v ci a e=>RefCX X w E C f v ci a e) v c a e) (vs.drop n) (cls.drop n) us.length e) (QC E e) ⟨ts,hs,by rw [hts];exact h3⟩ (by unfold z17;rw [zgG];rfl) (fun h=>by unfold jc at h;rw [zgG] at h;exact absurd h (by decide)) ?_ ?_
  ·intro n cs wr vi hvi hS hcs hb
   rw [show(zdu.toList==[105,102])=false by rw [zgG];rfl]
   obtain⟨us,q1,q2⟩:=hS
   obtain⟨c,m,q3,q4⟩:=za9 _ _ _ _ _ _ q2 hvi
   refine(zar hg (fun v ci a e ts wr hb h hs hts=>ih v ci a e ts wr (h.keepX (zD hb)) hs hts) q3 us q1 rfl wr hb).mono ?_
   rintro en w' ⟨hb2,c2,at2,rfl,hq⟩
   refine⟨hb2,c2,at2,rfl,?_⟩
   rcases hq with⟨r1,r2,us2,r3,r4⟩|⟨r1,r2,r3⟩
   ·exact .inr ⟨r2,us2,r3,by rw [r4];exact q4⟩
   ·exact .inl ⟨r2,.inr ⟨rfl,r2,r3⟩⟩
  ·intro cs hS hl2
   rw [zcO]
   obtain⟨us,q1,q2⟩:=hS
   rw [zgK (zgH _),zgK (by omega)] at q2
   exact .inl ⟨rfl,rfl,us,q1,q2⟩
end Go.Proofs.YtkoohcilbpdgeaaGreatDoor
