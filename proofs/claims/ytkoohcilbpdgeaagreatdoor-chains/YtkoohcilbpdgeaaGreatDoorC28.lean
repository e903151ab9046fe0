import Derived.Test.YtkoohcilbpdgeaaGreatDoorC27
set_option linter.all false
set_option linter.unusedVariables false
set_option linter.unusedSimpArgs false
set_option linter.unnecessarySimpa false
set_option linter.constructorNameAsVariable false
set_option linter.deprecated false
set_option maxRecDepth 100000
set_option maxHeartbeats 6400000
namespace Go.Proofs.YtkoohcilbpdgeaaGreatDoor
open Go Go.RowKit
attribute [local go_sem] wrap64_byte
def KOk (x:Wt):Prop:=x.kind=0∨x.kind=1∨x.kind=2∨x.kind=3
theorem kite {c:Prop} [Decidable c]{a b:Wt}(ha:KOk a)(hb:KOk b):KOk (if c then a else b):=by
 split
 ·exact ha
 ·exact hb
theorem kErr:KOk wErr:= .inl rfl
theorem kBool (b:Bool):KOk (wBool b):= .inr (.inl rfl)
theorem kStr (t:ByteArray):KOk (wStr t):= .inr (.inr (.inr rfl))
theorem kNum (n:Int):KOk (wNum n):=kite kErr (.inr (.inr (.inl rfl)))
theorem kNs (t:ByteArray):KOk (nsM t):=kite kErr (kNum _)
theorem kCalc (t:ByteArray)(a b:Int):KOk (calcM t a b):=kite (kNum _) (kite (kNum _) (kite (kNum _) (kite kErr (kite (kNum _) (kNum _)))))
theorem kOf (l:List (ByteArray×ByteArray))(x:Ex){a b:Wt}(ha:KOk a)(hb:KOk b):KOk (wOf l x a b):=
 kite (kNs _) (kite (kStr _) (kite (kBool _) (kite (kStr _) (kite (kNs _) (kite (kite ha (kite (kBool _) (kNum _))) (kite (kite ha (kite (kite ha hb) (kite (kite ha hb) (kite hb (kite (kCalc _ _ _) (kite (kStr _) (kBool _))))))) (kite ha kErr)))))))
theorem worthsM_k (l:List (ByteArray×ByteArray)): ∀(xs:List Ex) (ws:List Wt),(∀y∈ws,KOk y)→ ∀y∈worthsM l xs ws,KOk y:=by
 intro xs
 induction xs with
 |nil=>intro ws h;exact h
 |cons x xs ih=>
  intro ws h
  have hat: ∀i,KOk (wAt ws i):=fun i=>by
   rcases wAt_mem ws i with q|q
   ·rw [q];exact kErr
   ·exact h _ q
  refine ih _ fun y hy=> ?_
  rcases List.mem_append.1 hy with q|q
  ·exact h y q
  ·simp at q;subst q;exact kOf l x (hat _) (hat _)
theorem worthR_long (s a:ByteArray)(w:World)(hs:s.size≤maxLen)(ha:a.size≤maxLen)(h:600<s.size∨100<a.size):Calls Tryz.prog 30 #[.string s,.string a] w fun e w'=>WoPost ⟨#[]⟩ 1 w e w':=by
 unfold maxLen at hs ha
 by_cases h1:600<s.size
 ·have h1':(600:Int)<s.size:=by omega
  go_enter Tryz.func30,Tryz.ntmps30
  go_wp2_with fail
  go_ret2
  exact⟨rfl,Below.refl _ _⟩
 ·have h1': ¬(600:Int)<s.size:=by omega
  have h2':(100:Int)<a.size:=by omega
  go_enter Tryz.func30,Tryz.ntmps30
  go_wp2_with fail
  go_ret2
  exact⟨rfl,Below.refl _ _⟩
theorem worthR_short (s a:ByteArray)(n:Nat)(r:Int)(st:St)(w:World)(hM:M s n 0 0 (st1 s)=some (r,st))(hs:s.size≤600)(ha:a.size≤100)(hlen:st.E.length≤100000)(hg:GoodE st.E)
  (hll:(raM a).1.length≤100000) (hls: ∀p∈(raM a).1,p.2.size≤600) (hE: ∀x∈st.E,x.text.size≤600) (hW:st.bad=false→ ∀x∈worthsM (raM a).1 st.E [],x.text.size≤100000000∧ -999999999≤x.num∧x.num≤999999999):
  Calls Tryz.prog 30 #[.string s,.string a] w fun e w'=>WoPost (woM s a r st).1 (woM s a r st).2 w e w':=by
 have hrd0:=rd_new hs (heap_alloc_new w (.cells #[.string s,.int .i64 0,.bool false] 94))
 have hB0:=(Below.refl w.heap.size w).alloc (Nat.le_refl _) (.cells #[.string s,.int .i64 0,.bool false] 94)
 have hz0:(w.alloc (.cells #[.string s,.int .i64 0,.bool false] 94)).heap.size=w.heap.size+1:=by simp
 have H0:=hide (And.intro hrd0 (And.intro hB0 hz0))
 have HM:=hide hM
 have HW:=hide (And.intro hg (And.intro hE hW))
 have hs': ¬(600:Int)<s.size:=by omega
 have ha': ¬(100:Int)<a.size:=by omega
 clear hrd0 hB0 hz0 hM hg hE hW
 go_enter Tryz.func30,Tryz.ntmps30
 go_wp2_with fail
 obtain⟨hrd0,hB0,hz0⟩:=H0.out
 clear H0
 generalize (w.alloc (.cells #[.string s,.int .i64 0,.bool false] 94))=W0 at*
 refine((all_RE s n).1 w.heap.size (st1 s) W0 0 r st HM.out hrd0 rfl).mono ?_
 rintro e w1 ⟨ao,p',rfl,hr1,hf1,hsk,htree⟩
 have hB1:Below w.heap.size w w1:=⟨hf1.os.trans hB0.os,hf1.tape.trans hB0.tape,hf1.output.trans hB0.output,by have:=hf1.size;omega,fun k hk=>(hf1.block k (by omega) (by omega)).trans (hB0.block k hk)⟩
 have htree':st.bad=false→ ∃(f i:Nat),r=(i:Int)∧i+1=st.E.length∧RefEX (Out w.heap.size W0.heap.size) w1 st.E f (.pointer ao) 0 i:=fun h=>by
  obtain⟨f,i,e1,e2,e3⟩:=htree h
  exact⟨f,i,e1,e2,e3.x⟩
 have HT:=hide htree'
 have HSK:=hide hsk
 have HB1:=hide hB1
 have hz1:w.heap.size<w1.heap.size:=by have:=hf1.size;omega
 clear htree htree' hsk hf1 hB0 hB1
 go_wp2_with fail
 refine(blanksR_any _ _ _ _ _ hr1).mono ?_
 rintro e w2 ⟨rfl,hr2,hs2⟩
 rw [HSK.out] at hr2
 have hB2:Below w.heap.size w w2:=⟨hs2.os.trans HB1.out.os,hs2.tape.trans HB1.out.tape,hs2.output.trans HB1.out.output,by have:=hs2.size;have:=HB1.out.size;omega,fun k hk=>(hs2.block k (by omega)).trans (HB1.out.block k hk)⟩
 have hsame:SameX (Out w.heap.size W0.heap.size) w1 w2:=fun k hk hn=>hs2.block k fun e=>hn (.inl e)
 have hz2:w.heap.size<w2.heap.size:=by have:=hs2.size;omega
 have H2:=hide (And.intro hB2 hsame)
 obtain⟨c0,c1,c2,f1,f2,hle,_⟩:=hr2
 clear hB2 hsame hs2 hr1 HB1 HSK
 cases hbd:st.bad
 case true=>
  have hres:Hid (woM s a r st=(⟨#[]⟩,2)):=hide (by unfold woM eofM;rw [hbd];rfl)
  rw [hbd] at c2
  go_wp2_with fail
  go_ret2
  have q:=H2.out.1
  exact⟨by rw [hres.out];rfl,q⟩
 rw [hbd] at c2
 by_cases hat:st.at_<s.size
 ·have hat':(st.at_:Int)<s.size:=by omega
  have hres:Hid (woM s a r st=(⟨#[]⟩,2)):=hide (by unfold woM eofM;rw [hbd];simp [hat])
  go_wp2_with fail
  go_ret2
  have q:=H2.out.1
  exact⟨by rw [hres.out];rfl,q⟩
 have hat': ¬(st.at_:Int)<s.size:=by omega
 have heo:eofM s st.at_ st.bad=false:=by unfold eofM;rw [hbd];simp [hat]
 obtain⟨f,i,hri,hiE,htr⟩:=HT.out hbd
 have htr2:=htr.keepX H2.out.2
 have HTR:=hide htr2
 have HRI:=hide (And.intro hri hiE)
 clear htr htr2 HT hri hiE
 go_wp2_with fail
 refine(typed_E HW.out.1 f _ 0 i [] w2 HTR.out (Scan.nil _) rfl).mono ?_
 rintro e w3 ⟨hB3,c,pl,rfl,hQ⟩
 have hB23:=H2.out.1.trans (hB3.mono (by omega))
 have htr3:=HTR.out.keepX (below_same hB3)
 have hz3:w.heap.size<w3.heap.size:=by have:=hB3.size;omega
 have hty:(0≤pl∧(tfM st.E [] != -1)=true)∨(¬0≤pl∧(tfM st.E [] != -1)=false):=by
  rcases hQ with⟨us,t,h1,h2,_,h3⟩|⟨_,h1,h2⟩
  ·refine .inr ⟨by omega,?_⟩
   rw [Scan.tf_end h1 (by rw [List.length_append,h2];exact HRI.out.2)]
   rfl
  ·refine .inl ⟨h1,?_⟩
   rw [h2.tf]
   simp;omega
 have H3:=hide (And.intro hB23 htr3)
 clear hQ hB3 hB23 htr3 H2 HTR
 rcases hty with⟨hp,htf⟩|⟨hp,htf⟩
 ·have hres:Hid (woM s a r st=(⟨#[]⟩,5)):=hide (by unfold woM;rw [heo,htf];rfl)
  go_wp2_with fail
  go_ret2
  exact⟨by rw [hres.out];rfl,H3.out.1⟩
 have HR6:Hid ((raM a).2=true→woM s a r st=(⟨#[]⟩,6)):=hide (fun h=>by unfold woM;rw [heo,htf,h];rfl)
 have HR0:Hid ((raM a).2=false→woM s a r st=(prM (wAt (worthsM (raM a).1 st.E []) r),0)):=hide (fun h=>by unfold woM;rw [heo,htf,h];rfl)
 clear heo htf
 go_wp2_with fail
 refine(attributes_any a w3 (by omega)).mono ?_
 rintro e w4 ⟨al,nl,kl,rfl,hB4,hl4⟩
 have hB24:=H3.out.1.trans (hB4.mono (by omega))
 have htr4:=H3.out.2.keepX (below_same hB4)
 have hz4:w.heap.size<w4.heap.size:=by have:=hB4.size;omega
 cases hra:(raM a).2
 case true=>
  have hres:=hide (HR6.out hra)
  have HB:=hide hB24
  clear hB24 htr4 hB4 hl4
  go_wp2_with fail
  go_ret2
  exact⟨by rw [hres.out];rfl,HB.out⟩
 have hres:=hide (HR0.out hra)
 have hlr:=hl4 hra
 have hw:=HW.out.2.2 hbd
 have HC:=hide (worth_E HW.out.1 (raM a).1 (.slice al nl kl) w3.heap.size hll hls HW.out.2.1 hw f _ 0 i w4 htr4 hlr)
 have hbnd:(wAt (worthsM (raM a).1 st.E []) (i:Int)).text.size≤100000000∧ -999999999≤(wAt (worthsM (raM a).1 st.E []) (i:Int)).num∧(wAt (worthsM (raM a).1 st.E []) (i:Int)).num≤999999999:=by
  rcases wAt_mem (worthsM (raM a).1 st.E []) (i:Int) with q|q
  ·rw [q];decide
  ·exact hw _ q
 have hkk:KOk (wAt (worthsM (raM a).1 st.E []) (i:Int)):=by
  rcases wAt_mem (worthsM (raM a).1 st.E []) (i:Int) with q|q
  ·rw [q];exact kErr
  ·exact worthsM_k _ _ [] (fun y h=>by cases h) _ q
 rw [HRI.out.1] at hres
 have HB:=hide hB24
 generalize wAt (worthsM (raM a).1 st.E []) (i:Int)=O at*
 clear hB24 htr4 hB4 hl4 hw hlr HW HR6 HR0
 obtain⟨ok,ob,on,ot⟩:=O
 simp only at hbnd
 have hos:ot.size≤900000000:=by omega
 go_wp2_with fail
 refine HC.out.mono ?_
 rintro e w5 ⟨rfl,hB5⟩
 have hB6:=HB.out.trans (hB5.mono (by omega))
 have hz5:w.heap.size<w5.heap.size:=by have:=hB5.size;omega
 have HB6:=hide hB6
 simp only at hkk ⊢
 clear hB5 hB6 HC
 rcases hkk with e|e|e|e
 ·subst e
  rw [show kc 0=101 from rfl]
  have hp:Hid (prM ⟨0,ob,on,ot⟩=⟨#[101,114,114,111,114]⟩):=hide rfl
  have HB7:=hide (HB6.out.alloc HB6.out.size (.cells #[.int .u8 101,.bool ob,.int .i64 on,.string ot] 102))
  go_wp2_with fail
  go_ret2
  exact⟨by rw [HRI.out.1,hres.out,hp.out];rfl,HB7.out⟩
 ·subst e
  rw [show kc 1=98 from rfl]
  cases ob
  ·have hp:Hid (prM ⟨1,false,on,ot⟩=⟨#[102,97,108,115,101]⟩):=hide rfl
   have HB7:=hide (HB6.out.alloc HB6.out.size (.cells #[.int .u8 98,.bool false,.int .i64 on,.string ot] 102))
   go_wp2_with fail
   go_ret2
   exact⟨by rw [HRI.out.1,hres.out,hp.out];rfl,HB7.out⟩
  ·have hp:Hid (prM ⟨1,true,on,ot⟩=⟨#[116,114,117,101]⟩):=hide rfl
   have HB7:=hide (HB6.out.alloc HB6.out.size (.cells #[.int .u8 98,.bool true,.int .i64 on,.string ot] 102))
   go_wp2_with fail
   go_ret2
   exact⟨by rw [HRI.out.1,hres.out,hp.out];rfl,HB7.out⟩
 ·subst e
  rw [show kc 2=110 from rfl]
  have hp:Hid (prM ⟨2,ob,on,ot⟩=⟨(Lib.itoa on).toArray⟩):=hide rfl
  have hB7:=HB6.out.alloc HB6.out.size (.cells #[.int .u8 110,.bool ob,.int .i64 on,.string ot] 102)
  have HB7:=hide hB7
  have HWr:=hide (written_any on (w5.alloc (.cells #[.int .u8 110,.bool ob,.int .i64 on,.string ot] 102)) hbnd.2)
  generalize (⟨(Lib.itoa on).toArray⟩:ByteArray)=D at*
  clear hB7
  go_wp2_with fail
  refine HWr.out.mono ?_
  rintro e w6 ⟨rfl,hB8⟩
  have HB8:=hide (HB7.out.trans (hB8.mono (by simp;omega)))
  clear hB8
  go_wp2_with fail
  go_ret2
  exact⟨by rw [HRI.out.1,hres.out,hp.out];rfl,HB8.out⟩
 ·subst e
  rw [show kc 3=115 from rfl]
  have hp:Hid (prM ⟨3,ob,on,ot⟩=(⟨#[34]⟩++ot)++⟨#[34]⟩):=hide rfl
  have HB7:=hide (HB6.out.alloc HB6.out.size (.cells #[.int .u8 115,.bool ob,.int .i64 on,.string ot] 102))
  go_wp2_with fail
  go_ret2
  exact⟨by rw [HRI.out.1,hres.out,hp.out];rfl,HB7.out⟩
theorem attrM_val (s:ByteArray)(a:Nat)(d:Bool)(h:s.size≤600):(attrM s a d).2.2.2.size≤600:=by
 unfold attrM
 simp only
 rw [ByteArray.size_extract]
 omega
theorem paM_sizes (s:ByteArray)(h:s.size≤600): ∀n a d l,(∀p∈l,p.2.size≤600)→ ∀p∈(paM s n a d l).2.2,p.2.size≤600:=by
 intro n
 induction n with
 |zero=>intro a d l hl;exact hl
 |succ n ih=>
  intro a d l hl
  unfold paM
  split
  ·refine ih _ _ _ fun p hp=> ?_
   rcases List.mem_append.1 hp with q|q
   ·exact hl p q
   ·simp at q;subst q;exact attrM_val s _ _ h
  ·exact hl
theorem paM_len (s:ByteArray): ∀n a d l,(paM s n a d l).2.2.length≤l.length+n:=by
 intro n
 induction n with
 |zero=>intro a d l;exact Nat.le_refl _
 |succ n ih=>
  intro a d l
  unfold paM
  split
  ·have:=ih (attrM s (a+1) d).1 ((attrM s (a+1) d).2.1||(attrPlaceM (attrM s (a+1) d).2.2.1 l 0 != -1)) (l++[((attrM s (a+1) d).2.2.1,(attrM s (a+1) d).2.2.2)])
   simp only [List.length_append,List.length_cons,List.length_nil] at this
   simp only
   omega
  ·show l.length≤_;omega
theorem raM_sizes (s:ByteArray)(h:s.size≤600):(∀p∈(raM s).1,p.2.size≤600)∧(raM s).1.length≤100000:=by
 unfold raM
 split
 ·exact⟨fun p hp=>(by cases hp),by simp⟩
 ·simp only
  refine⟨paM_sizes s h _ _ _ _ fun p hp=> ?_,?_⟩
  ·simp at hp;subst hp;exact attrM_val s _ _ h
  ·have:=paM_len s (s.size+1) (attrM s 0 false).1 (attrM s 0 false).2.1 [((attrM s 0 false).2.2.1,(attrM s 0 false).2.2.2)]
   simp at this
   omega
theorem good_nil:GoodE []:=fun x h=>by cases h
theorem expr_all (s a:ByteArray)(hs:s.size≤600)(ha:a.size≤600): ∃n r st,M s n 0 0 (st1 s)=some (r,st)∧st.E.length≤100000∧GoodE st.E∧(∀x∈st.E,x.text.size≤600)∧
  (st.bad=false→ ∀x∈worthsM (raM a).1 st.E [],x.text.size≤100000000∧ -999999999≤x.num∧x.num≤999999999):=by
 have hsk:=skip_le (s:=s) (a:=0) (d:=false) (Nat.zero_le _)
 obtain⟨⟨r,st⟩,hM,hq⟩:=M_total s (fuelM 0+20*(s.size -(st1 s).at_)) 0 0 (st1 s) (.inl (by omega)) ⟨hsk.2,by show(0:Nat)+2*(s.size - _)+_<100000;simp only [if_pos (show(0:Nat)≤7 by omega)];omega⟩ (Nat.le_refl _)
 have hlen:st.E.length≤100000:=by
  have h1:=hq.grow
  have h2:(st1 s).E.length=0:=rfl
  rw [h2] at h1
  simp only [if_pos (show(0:Nat)≤7 by omega)] at h1
  omega
 have hsz:Sz st:=M_sz s hs _ _ _ _ _ hM ⟨fun x h=>(by cases h),fun x h=>(by cases h),fun x h=>(by cases h),fun x h=>(by cases h)⟩
 have hgd:GoodE st.E:=M_good s _ _ _ _ _ hM good_nil
 refine⟨_,r,st,hM,hlen,hgd,hsz.1,fun hbad=> ?_⟩
 obtain⟨w,hw⟩: ∃w:World,w=World.holding Tryz.prog default ⟨#[],#[],[]⟩:=⟨_,rfl⟩
 have hrd:=rd_new hs (heap_alloc_new w (.cells #[.string s,.int .i64 0,.bool false] 94))
 obtain⟨e,w',fr,⟨ao,p',_,_,_,_,htree⟩,_⟩:=(all_RE s _).1 w.heap.size (st1 s) _ 0 r st hM hrd rfl []
 obtain⟨f,i,_,hi,ht⟩:=htree hbad
 have hrng:=ht.x.rng
 have hra:=raM_sizes a ha
 refine worths_small (raM a).1 hra.1 hsz.1 hlen fun p hp=> ?_
 obtain⟨f',a',hr⟩:=hrng.sub p (Nat.zero_le _) (by omega)
 have:=hr.size (raM a).1 hra.1 hsz.1
 omega
theorem worth_both (s a:ByteArray)(hs:s.size≤maxLen)(ha:a.size≤maxLen): ∃(t:ByteArray) (k:Int),(∀w,Tab w→Calls Tryz.prog 21 #[.string s,.string a] w fun e w'=>WoPost t k w e w')∧(∀w,Calls Tryz.prog 30 #[.string s,.string a] w fun e w'=>WoPost t k w e w'):=by
 by_cases h:s.size≤600∧a.size≤100
 ·obtain⟨n,r,st,hM,hlen,hg,hE,hW⟩:=expr_all s a h.1 (by omega)
  have hra:=raM_sizes a (by omega)
  cases hb:st.bad with
  |false=>exact⟨_,_,fun w ht=>worth_short s a n r st w hM h.1 h.2 hlen hra.2 hra.1 hE (hW hb) ht,fun w=>worthR_short s a n r st w hM h.1 h.2 hlen hg hra.2 hra.1 hE hW⟩
  |true=>
   refine⟨_,_,fun w ht=>worth_bad s a n r st w hM h.1 h.2 hb,fun w=> ?_⟩
   have q:=worthR_short s a n r st w hM h.1 h.2 hlen hg hra.2 hra.1 hE hW
   rw [show woM s a r st=(⟨#[]⟩,2) by unfold woM eofM;rw [hb];rfl] at q
   exact q
 ·have h':600<s.size∨100<a.size:=by omega
  exact⟨_,_,fun w _=>worth_long s a w hs ha h',fun w=>worthR_long s a w hs ha h'⟩
theorem upTo_anyB (k:Int)(b off len cap:Nat)(K N:Nat→Int)(S A V Q:Nat→ByteArray)(w:World)(h:Ops w b off len K N S A V Q)(hlen:len≤maxLen)
  (hp: ∀i wr,i<len→K i=k→Below w.heap.size w wr→Calls Tryz.prog 18 #[.agg #[.int .i64 (K i),.int .i64 (N i),.string (S i),.string (A i),.string (V i),.string (Q i)]] wr fun e w'=>e= .returned (.bool true)∧Below wr.heap.size wr w'):
  Calls Tryz.prog 13 #[.slice (some ⟨b,off,none⟩) len cap,.int .i64 k,.int .i64 k] w fun e w'=>e= .returned (.int .i64 (-1))∧Below w.heap.size w w':=by
 have HO:=hide h
 have HP:=hide hp
 clear h hp
 have hl63:len≤9223372036854775807:=by unfold maxLen at hlen;omega
 clear hlen
 go_enter Tryz.func13,Tryz.ntmps13
 go_wp2_with fail
 go_loopg [7,8,9] (1152921504606846976+1) (fun g iv _ _ wr=> ∃i:Nat,g+i=1152921504606846976+1∧i≤1152921504606846976∧i≤len∧iv= .int .i64 i∧Below w.heap.size w wr)
 case atStart=>exact⟨0,rfl,Nat.zero_le _,Nat.zero_le _,rfl,Below.refl _ _⟩
 case round=>
  obtain⟨i,hgk,hi60,hil,rfl,hB⟩:=hrel
  have HGK:=hide hgk
  have HB:=hide hB
  clear hgk
  by_cases hlt:i<len
  ·by_cases h60:i<1152921504606846976
   ·have hb:=HO.out.lt (by omega)
    have c0:=(hB.cell (p:=⟨b,off+i*6,none⟩) hb).trans (HO.out.c0 i hlt)
    have c1:=(hB.cell (p:=⟨b,off+i*6+1,none⟩) hb).trans (HO.out.c1 i hlt)
    have c2:=(hB.cell (p:=⟨b,off+i*6+2,none⟩) hb).trans (HO.out.c2 i hlt)
    have c3:=(hB.cell (p:=⟨b,off+i*6+3,none⟩) hb).trans (HO.out.c3 i hlt)
    have c4:=(hB.cell (p:=⟨b,off+i*6+4,none⟩) hb).trans (HO.out.c4 i hlt)
    have c5:=(hB.cell (p:=⟨b,off+i*6+5,none⟩) hb).trans (HO.out.c5 i hlt)
    have hli:(i:Int)<len:=by omega
    have h60i:(i:Int)<1152921504606846976:=by omega
    have hPi:=hide (HP.out i)
    have hB1:=hide (hB.alloc hB.size (.cells #[.int .i64 (K i),.int .i64 (N i),.string (S i),.string (A i),.string (V i),.string (Q i)] 27))
    have hz1:w.heap.size≤wr.heap.size:=hB.size
    clear hB
    generalize K i=ki at*
    generalize N i=ni at*
    generalize S i=si at*
    generalize A i=ai at*
    generalize V i=vi at*
    generalize Q i=qi at*
    by_cases hk:ki=k
    ·subst hk
     have HC:=hide (hPi.out (wr.alloc (.cells #[.int .i64 ki,.int .i64 ni,.string si,.string ai,.string vi,.string qi] 27)) hlt rfl hB1.out)
     have hkk:(ki:Int)≤ki:=Int.le_refl _
     go_wp2_with fail
     refine HC.out.mono ?_
     rintro e w1 ⟨rfl,hb1⟩
     have HB2:=hide (hB1.out.trans (hb1.mono (by simp;omega)))
     clear hb1
     go_wp2_with fail
     go_roundg (1152921504606846976 - i)
     case measure=>have:=HGK.out;omega
     case rel=>exact⟨i+1,by have:=HGK.out;omega,by omega,by omega,by go_num,HB2.out⟩
    ·by_cases hge:k≤ki
     ·have hle: ¬ki≤k:=by omega
      go_wp2_with fail
      go_roundg (1152921504606846976 - i)
      case measure=>have:=HGK.out;omega
      case rel=>exact⟨i+1,by have:=HGK.out;omega,by omega,by omega,by go_num,hB1.out⟩
     ·go_wp2_with fail
      go_roundg (1152921504606846976 - i)
      case measure=>have:=HGK.out;omega
      case rel=>exact⟨i+1,by have:=HGK.out;omega,by omega,by omega,by go_num,hB1.out⟩
   ·have hli:(i:Int)<len:=by omega
    have h60i: ¬(i:Int)<1152921504606846976:=by omega
    go_wp2_with fail
    go_ret
    exact⟨by simp,HB.out⟩
  ·have hli: ¬(i:Int)<len:=by omega
   go_wp2_with fail
   go_ret
   exact⟨by simp,HB.out⟩
theorem plays_worth (n:Int)(S A V Q:ByteArray)(hS:S.size≤maxLen)(hA:A.size≤maxLen)(w:World)(ht:Tab w):
  Calls Tryz.prog 18 #[.agg #[.int .i64 3,.int .i64 n,.string S,.string A,.string V,.string Q]] w fun e w'=>e= .returned (.bool true)∧Below w.heap.size w w':=by
 obtain⟨t,k,h7,h8⟩:=worth_both S A hS hA
 have H:=hide (And.intro h7 h8)
 clear h7 h8 hS hA
 have hB0:Below w.heap.size w (w.alloc (.cells #[.int .i64 3,.int .i64 n,.string S,.string A,.string V,.string Q] 27)):=(Below.refl _ _).alloc (Nat.le_refl _) _
 have hg0:=heap_alloc_new w (.cells #[.int .i64 3,.int .i64 n,.string S,.string A,.string V,.string Q] 27)
 have hz0:w.heap.size<(w.alloc (.cells #[.int .i64 3,.int .i64 n,.string S,.string A,.string V,.string Q] 27)).heap.size:=by simp
 have H0:=hide (And.intro hB0 (And.intro hg0 hz0))
 clear hB0 hg0 hz0
 go_enter Tryz.func18,Tryz.ntmps18
 go_wp2_with fail
 obtain⟨hB0,hg0,hz0⟩:=H0.out
 clear H0
 generalize (w.alloc (.cells #[.int .i64 3,.int .i64 n,.string S,.string A,.string V,.string Q] 27))=W0 at*
 refine(H.out.1 W0 (ht.below hB0)).mono ?_
 rintro e w1 ⟨rfl,hB1⟩
 have hg1:=(hB1.block _ hz0).trans hg0
 have hB01:=hB0.trans (hB1.mono (Nat.le_of_lt hz0))
 obtain⟨y0,y1,y2,y3,y4,y5⟩:=box6' hg1
 have HB1:=hide hB01
 have hz1:w.heap.size≤w1.heap.size:=hB01.size
 clear hB1 hB01 hg1 hg0 hB0 hz0
 go_wp2_with fail
 refine(H.out.2 w1).mono ?_
 rintro e w2 ⟨rfl,hB2⟩
 have HB2:=hide (HB1.out.trans (hB2.mono hz1))
 clear hB2
 go_wp2_with (go_at_call 23;refine(num_any _ _).mono ?_;rintro e w3 ⟨rfl,rfl⟩)
 go_ret
 exact⟨by simp,HB2.out⟩
theorem worths_of (v:Value)(w:World)(h:Calls Tryz.prog 13 #[v,.int .i64 3,.int .i64 3] w fun e w'=>e= .returned (.int .i64 (-1))∧Below w.heap.size w w'):
  Calls Tryz.prog 5 #[v] w fun e w'=>e= .returned (.bool true)∧Below w.heap.size w w':=by
 have H:=hide h
 clear h
 go_enter Tryz.func5,Tryz.ntmps5
 go_wp2_with fail
 refine H.out.mono ?_
 rintro e w1 ⟨rfl,hB⟩
 go_wp2_with fail
 go_ret
 exact⟨by simp,hB⟩
end Go.Proofs.YtkoohcilbpdgeaaGreatDoor
