import Derived.Test.YtkoohcilbpdgeaaGreatDoorC31
set_option linter.all false
set_option linter.unusedVariables false
set_option linter.unusedSimpArgs false
set_option linter.unnecessarySimpa false
set_option linter.constructorNameAsVariable false
set_option linter.deprecated false
set_option maxRecDepth 100000
set_option maxHeartbeats 6400000
namespace Go.Proofs.YtkoohcilbpdgeaaGreatDoor
open Go Go.RowKit
attribute [local go_sem] wrap64_byte
def NgPost (s:ByteArray)(lo hi:Nat)(w:World)(e:Ending)(w':World):Prop:= ∃a n k l ok,e= .returned (.tuple #[.slice a n k,.bool ok])∧Below w.heap.size w w'∧w'.ownsRow w.heap.size 9 1 (.slice a n k) l.length (l.map Value.string)∧l.length≤700∧((ok=false∧(rnM s).2=true∧s.size≠0)∨(rnM s=(l,false)∧s.size≠0∧ok=(decide (lo≤l.length)&&decide (l.length≤hi)))∨(s.size=0∧l=[]∧ok=decide (lo=0)))
def NaPost (s:ByteArray)(w:World)(e:Ending)(w':World):Prop:= ∃a n k l ok,e= .returned (.tuple #[.slice a n k,.bool ok])∧Below w.heap.size w w'∧w'.ownsRow w.heap.size 9 1 (.slice a n k) l.length (l.map Value.string)∧l.length≤700∧((ok=false∧(rnM s).2=true)∨(rnM s=(l,false)∧ok=(decide (2≤l.length)&&decide (l.length≤5))))
def okN (s:ByteArray)(P:Nat×Bool×List ByteArray):List ByteArray×Bool:=(P.2.2,eofM s P.1 P.2.1)
def nextN (s:ByteArray)(n p:Nat)(l:List ByteArray):Nat×Bool×List ByteArray:=
 let v:=bareName s p false
 nmM s n v.1 v.2.1 (l++[v.2.2])
theorem rnM_next (s:ByteArray):rnM s=okN s (nextN s (s.size+1) 0 []):=rfl
theorem nmM_stop {s:ByteArray}{n a:Nat}{d:Bool}{l:List ByteArray}(h:(pk s a d==44)=false):nmM s n a d l=(a,d,l):=by
 cases n with
 |zero=>rfl
 |succ n=>unfold nmM;rw [h];rfl
theorem nmM_go {s:ByteArray}{n a:Nat}{l:List ByteArray}(h:(pk s a false==44)=true):nmM s (n+1) a false l=nextN s n (a+1) l:=by
 conv=>lhs;unfold nmM
 rw [h];rfl
theorem okN_bad {s:ByteArray}{n p:Nat}{l:List ByteArray}(h:(bareName s p false).2.1=true):(okN s (nextN s n p l)).2=true:=by
 unfold nextN okN
 simp only
 rw [h,nmM_stop rfl]
 rfl
theorem rn_empty:(rnM ⟨#[]⟩).2=true:=by
 rw [rnM_next]
 refine okN_bad ?_
 have:bareName ⟨#[]⟩ 0 false=(0,true,⟨#[]⟩):=bareM_bad (run_stop rfl) (.inl rfl)
 rw [this]
theorem names_gen (s:ByteArray)(lo hi:Nat)(w:World)(hs:s.size≤600)(hlo:lo≤100)(hhi:hi≤100):Calls Tryz.prog 102 #[.string s,.int .i64 lo,.int .i64 hi] w fun e w'=>NgPost s lo hi w e w':=by
 have hrd0:=rd_new hs (heap_alloc_new w (.cells #[.string s,.int .i64 0,.bool false] 94))
 have hB0:=(Below.refl w.heap.size w).alloc (Nat.le_refl _) (.cells #[.string s,.int .i64 0,.bool false] 94)
 have hz0:(w.alloc (.cells #[.string s,.int .i64 0,.bool false] 94)).heap.size=w.heap.size+1:=by simp
 have H0:=hide (And.intro hrd0 (And.intro hB0 hz0))
 clear hrd0 hB0 hz0
 obtain⟨i0,hii,hz0',hz1,hz2⟩:=info_parts info9
 by_cases h0:s.size=0
 ·have hs0:=ba_empty h0
  subst hs0
  go_enter Tryz.func102,Tryz.ntmps102
  go_wp2_with fail
  go_loopg [8,10] 1 (fun k lv mv wr=>lv= .slice none 0 0∧mv= .bool false∧wr=(w.alloc (.cells #[.string ⟨#[]⟩,.int .i64 0,.bool false] 94)))
  case atStart=>exact⟨rfl,rfl,rfl⟩
  case round=>
   obtain⟨rfl,rfl,rfl⟩:=hrel
   have q:=hide ((Below.refl w.heap.size w).alloc (Nat.le_refl _) (.cells #[.string ⟨#[]⟩,.int .i64 0,.bool false] 94))
   by_cases hl0:lo=0
   ·subst hl0
    have hh0:(0:Int)≤hi:=by omega
    go_wp2_with fail
    go_ret2
    exact⟨none,0,0,[],true,rfl,⟨q.out.os,q.out.tape,q.out.output,q.out.size,q.out.block⟩,⟨rfl,.inl ⟨rfl,rfl⟩⟩,by simp,.inr (.inr ⟨rfl,rfl,by simp⟩)⟩
   ·have hh0: ¬(lo:Int)≤0:=by omega
    go_wp2_with fail
    go_ret2
    exact⟨none,0,0,[],false,rfl,⟨q.out.os,q.out.tape,q.out.output,q.out.size,q.out.block⟩,⟨rfl,.inl ⟨rfl,rfl⟩⟩,by simp,.inr (.inr ⟨rfl,rfl,by simp [hl0]⟩)⟩
 ·have hne:(s.toList==([]:List UInt8))=false:=by
   rw [ByteArray.toList_eq]
   cases hq:(s.data.toList==([]:List UInt8)) with
   |false=>rfl
   |true=>simp at hq;exact absurd (show s.size=0 by simp [ByteArray.size,hq]) h0
  have hnl: ¬s.toList=[]:=by simpa using hne
  have hra:=hide (rnM_next s)
  generalize hP0:nextN s (s.size+1) 0 []=P0 at*
  have HP0:=hide hP0
  clear hP0
  go_enter Tryz.func102,Tryz.ntmps102
  go_wp2_with fail
  obtain⟨hrd0,hB0,hz0⟩:=H0.out
  clear H0
  generalize (w.alloc (.cells #[.string s,.int .i64 0,.bool false] 94))=W0 at*
  go_loopg [8,10] (s.size+2) (fun k lv mv wr=> ∃(p:Nat) (d more:Bool) (l:List ByteArray) (a:Option Addr) (cap n:Nat),lv= .slice a l.length cap∧mv= .bool more∧Hid (wr.ownsRow (w.heap.size+1) 9 1 (.slice a l.length cap) l.length (l.map Value.string))∧Hid (Below w.heap.size w wr)∧w.heap.size<wr.heap.size∧Hid (Rd wr w.heap.size s p d)∧l.length+k≤s.size+2∧s.size+1≤k+p∧p≤s.size∧
   Hid ((more=true∧d=false∧1≤k∧s.size≤n+p∧okN s (nextN s n p l)=okN s P0)∨(more=true∧d=true∧(okN s P0).2=true)∨(more=false∧d=false∧okN s P0=(l,false))))
  case atStart=>
   refine⟨0,false,true,[],none,0,s.size+1,rfl,by simp,hide ?_,hide hB0,by omega,hide hrd0,by simp,by omega,by omega,hide (.inl ⟨rfl,rfl,by omega,by omega,by rw [HP0.out]⟩)⟩
   exact⟨rfl,.inl ⟨rfl,rfl⟩⟩
  case round=>
   obtain⟨p,d,more,l,a,cap,n,rfl,rfl,HO,HB,hwz,HR,hlk,hkp,hps,HC⟩:=hrel
   cases more
   ·have hfin:d=false∧okN s P0=(l,false):=by
     rcases HC.out with⟨e,_⟩|⟨e,_⟩|⟨_,e1,e2⟩
     ·cases e
     ·cases e
     ·exact⟨e1,e2⟩
    obtain⟨hd,hfin⟩:=hfin
    subst hd
    have hra2:Hid (rnM s=(l,false)):=hide (by rw [hra.out,hfin])
    obtain⟨c0,c1,c2,f1,f2,_,_⟩:=HR.out
    clear hfin HC
    have hBe:=hide (fun N=>(show Below w.heap.size w (wr.drewN N) from⟨HB.out.os,HB.out.tape,HB.out.output,HB.out.size,HB.out.block⟩))
    have hOe:=hide (fun N=>ownsRow_base (base':=w.heap.size) (ownsRow_same (w':=wr.drewN N) HO.out fun k e=>rfl) (by omega))
    by_cases h2:lo≤l.length
    ·have h2':(lo:Int)≤l.length:=by omega
     by_cases h5:l.length≤hi
     ·have h5':(l.length:Int)≤hi:=by omega
      go_wp2_with fail
      go_ret2
      exact⟨a,l.length,cap,l,true,by simp,hBe.out 0,hOe.out 0,by omega,.inr (.inl ⟨hra2.out,h0,by simp [h2,h5]⟩)⟩
     ·have h5': ¬(l.length:Int)≤hi:=by omega
      go_wp2_with fail
      go_ret2
      exact⟨a,l.length,cap,l,false,by simp,hBe.out 0,hOe.out 0,by omega,.inr (.inl ⟨hra2.out,h0,by simp [h5]⟩)⟩
    ·have h2': ¬(lo:Int)≤l.length:=by omega
     go_wp2_with fail
     go_ret2
     exact⟨a,l.length,cap,l,false,by simp,hBe.out 0,hOe.out 0,by omega,.inr (.inl ⟨hra2.out,h0,by simp [h2]⟩)⟩
   ·have hNm:=hide (nameR_any w.heap.size p s d)
    rw [show nameR s p d=bareName s p d from rfl] at hNm
    obtain⟨vn,hvn⟩: ∃vn,bareName s p d=vn:=⟨_,rfl⟩
    obtain⟨pn,dn,nm⟩:=vn
    rw [hvn] at hNm
    simp only at hNm
    have HV:=hide hvn
    clear hvn
    have hpn:pn≤s.size∧p≤pn:=by
     have q:=bareM_le (p:=isLetter) (by decide) (m:=8) (d:=d) hps
     have e:=HV.out
     unfold bareName at e
     rw [e] at q
     exact⟨q.2,q.1⟩
    go_wp2_with fail
    refine(hNm.out _ HR.out).mono ?_
    rintro e w2 ⟨rfl,hr2,hs12⟩
    clear hNm
    obtain⟨c0,c1,c2,f1,f2,_,_⟩:=id hr2
    have hB2:Below w.heap.size w w2:=⟨hs12.os.trans HB.out.os,hs12.tape.trans HB.out.tape,hs12.output.trans HB.out.output,by have:=hs12.size;have:=HB.out.size;omega,fun k hk=>(hs12.block k (by omega)).trans (HB.out.block k hk)⟩
    cases dn
    case true=>
     have hbad:Hid ((rnM s).2=true):=hide (by
      rw [hra.out]
      rcases HC.out with⟨_,e1,_,_,e2⟩|⟨_,_,e2⟩|⟨e1,_⟩
      ·subst e1
       rw [←e2]
       exact okN_bad (by rw [HV.out])
      ·exact e2
      ·cases e1)
     have HB2:=hide hB2
     clear hB2
     go_wp2_with fail
     go_ret2
     exact⟨none,0,0,[],false,rfl,HB2.out,⟨rfl,.inl ⟨rfl,rfl⟩⟩,by simp,.inl ⟨rfl,hbad.out,h0⟩⟩
    case false=>
    have hdn:d=false:=by
     cases d with
     |false=>rfl
     |true=>
      exfalso
      have q1:=HV.out
      have q2:bareName s p true=(p,true,⟨#[]⟩):=bareM_bad (run_stop rfl) (.inl rfl)
      rw [q2] at q1
      injection q1 with e1 e2
      injection e2 with e2 e3
      cases e2
    subst hdn
    have hcn:1≤gk∧s.size≤n+p∧okN s (nextN s n p l)=okN s P0:=by
     rcases HC.out with⟨_,_,e1,e2,e3⟩|⟨_,e1,_⟩|⟨e1,_⟩
     ·exact⟨e1,e2,e3⟩
     ·cases e1
     ·cases e1
    obtain⟨hg1,hnp,hnx⟩:=hcn
    have hpn1:p+1≤pn:=by
     have q:=HV.out
     unfold bareName bareM at q
     simp only at q
     split at q
     ·injection q with _ q;injection q with q _;cases q
     ·rename_i hq
      injection q with q1 _
      have hne:run isLetter s false 8 p≠p:=fun e=>hq (by simp [e])
      have hge:=(run_le isLetter (by decide) s false 8 p hps).1
      omega
    have HNX:Hid (okN s (nmM s n pn false (l++[nm]))=okN s P0):=hide (by
     rw [←hnx]
     unfold nextN
     rw [HV.out])
    have hO2:w2.ownsRow (w.heap.size+1) 9 1 (.slice a l.length cap) l.length (l.map Value.string):=ownsRow_same HO.out fun k e=>hs12.block k (by have:=(HO.out.lt k e).1;omega)
    have hw2z:w.heap.size<w2.heap.size:=by have:=hs12.size;omega
    have hlen9:l.length≤700:=by omega
    have HK3:=hide (And.intro hO2 hB2)
    clear hO2 hB2 hs12 HC hnx
    go_wp2_with (at_builtin;go_must (refine wpList_append_lies _ rfl (.tmp 24) (.tmp 26) 56 rfl (w.heap.size+1) 9 i0 _ 1 16 Tryz.underlying56 hii hz0' hz1 hz2 rfl (by omega) _ l.length _ rfl (HK3.out.1.alloc _) ⟨w2.heap.size,0,none⟩ 1 1 [.string nm] rfl rfl ?news ?one (by omega) ?mm ?bys ?base (w2.heap.size+1) (by simp) ?rest))
    case news=>exact World.news_of_block (heap_alloc_new w2 _)
    case one=>intro u hu;simp at hu;subst hu;rfl
    case mm=>unfold maxLen;omega
    case bys=>omega
    case base=>first|omega|(simp<;>omega)
    case rest=>
     intro gc cap8 w8 hown8 hgrow hat8 hlt8
     obtain⟨hO3,hB3⟩:=HK3.out
     clear HK3
     have hr8:Rd w8 w.heap.size s pn false:=hr2.other ((hgrow.block _ (by first|omega|(simp<;>omega)) (fun e=>by have:=(hO3.lt _ e.symm).1;omega)).trans (Below.heap_alloc _ _ _ hw2z))
     have hB8:=hide (Below.grown (hB3.alloc hB3.size _) hgrow (by first|omega|(simp<;>omega)) fun q e=>by have:=(hO3.lt q e).1;omega)
     have hz8:w.heap.size<w8.heap.size:=by have:=hgrow.size;first|omega|(simp at this;omega)
     have hown9:Hid (w8.ownsRow (w.heap.size+1) 9 1 (.slice (some ⟨gc,0,none⟩) (l++[nm]).length cap8) (l++[nm]).length ((l++[nm]).map Value.string)):=hide (by simpa using hown8)
     have HR8:=hide hr8
     clear hown8 hgrow hat8 hO3 hB3 c0 c1 c2 f1 f2
     obtain⟨c0,c1,c2,f1,f2,_,_⟩:=hr8
     by_cases hlt:pn<s.size
     ·have hlt':(pn:Int)<s.size:=by omega
      have hW:=hide (fun W h=>eat_any w.heap.size pn s ⟨#[44]⟩ false W h (by decide))
      rw [show(ByteArray.mk #[44]).data.toList=[44] from rfl] at hW
      cases hb1:(pk s pn false==44)
      case true=>
       have hpk44:pk s pn false=((44:UInt8).toNat:Int):=by simpa using hb1
       rw [wordM_one hpk44] at hW
       clear hpk44
       have HB1:=hide hb1
       clear hb1
       go_wp2_with fail
       refine(hW.out _ HR8.out).mono ?_
       rintro e w9 ⟨rfl,hr9,hs9⟩
       have hO10:Hid (w9.ownsRow (w.heap.size+1) 9 1 (.slice (some ⟨gc,0,none⟩) (l++[nm]).length cap8) (l++[nm]).length ((l++[nm]).map Value.string)):=hide (ownsRow_same hown9.out fun q e=>hs9.block q (by have:=(hown9.out.lt q e).1;omega))
       have hB10:Hid (Below w.heap.size w w9):=hide ⟨hs9.os.trans hB8.out.os,hs9.tape.trans hB8.out.tape,hs9.output.trans hB8.out.output,by have:=hs9.size;have:=hB8.out.size;omega,fun q hq=>(hs9.block q (by omega)).trans (hB8.out.block q hq)⟩
       have hz10:w.heap.size<w9.heap.size:=by have:=hs9.size;omega
       have hr10:Hid (Rd w9 w.heap.size s (pn+1) false):=hide hr9
       clear hr9 hs9
       go_wp2_with fail
       obtain⟨n1,hn1⟩: ∃n1,n=n1+1:=⟨n - 1,by omega⟩
       go_roundg (gk - 1)
       case measure=>omega
       case rel=>exact⟨pn+1,false,true,l++[nm],some ⟨gc,0,none⟩,cap8,n1,by simp,by simp [hlt'],hO10,hB10,hz10,hr10,by simp;omega,by omega,by omega,hide (.inl ⟨rfl,rfl,by omega,by omega,by rw [←HNX.out,hn1,nmM_go HB1.out]⟩)⟩
      case false=>
       have hpk44:pk s pn false≠((44:UInt8).toNat:Int):=by simpa using hb1
       rw [wordM_cons_no hpk44] at hW
       clear hpk44
       have HB1:=hide hb1
       clear hb1
       go_wp2_with fail
       refine(hW.out _ HR8.out).mono ?_
       rintro e w9 ⟨rfl,hr9,hs9⟩
       have hO10:Hid (w9.ownsRow (w.heap.size+1) 9 1 (.slice (some ⟨gc,0,none⟩) (l++[nm]).length cap8) (l++[nm]).length ((l++[nm]).map Value.string)):=hide (ownsRow_same hown9.out fun q e=>hs9.block q (by have:=(hown9.out.lt q e).1;omega))
       have hB10:Hid (Below w.heap.size w w9):=hide ⟨hs9.os.trans hB8.out.os,hs9.tape.trans hB8.out.tape,hs9.output.trans hB8.out.output,by have:=hs9.size;have:=hB8.out.size;omega,fun q hq=>(hs9.block q (by omega)).trans (hB8.out.block q hq)⟩
       have hz10:w.heap.size<w9.heap.size:=by have:=hs9.size;omega
       have hr10:Hid (Rd w9 w.heap.size s pn true):=hide hr9
       clear hr9 hs9
       go_wp2_with fail
       go_roundg (gk - 1)
       case measure=>omega
       case rel=>exact⟨pn,true,true,l++[nm],some ⟨gc,0,none⟩,cap8,n,by simp,by simp [hlt'],hO10,hB10,hz10,hr10,by simp;omega,by omega,by omega,hide (.inr (.inl ⟨rfl,rfl,by
        rw [←HNX.out,nmM_stop HB1.out]
        simp [okN,eofM,hlt]⟩))⟩
     ·have hlt': ¬(pn:Int)<s.size:=by omega
      have hks':pn=s.size:=by omega
      have HKS:=hide hks'
      clear hks'
      go_wp2_with fail
      go_roundg (gk - 1)
      case measure=>omega
      case rel=>exact⟨pn,false,false,l++[nm],some ⟨gc,0,none⟩,cap8,n,by simp,by simp [hlt'],hown9,hB8,hz8,HR8,by simp;omega,by omega,by omega,hide (.inr (.inr ⟨rfl,rfl,by
       rw [←HNX.out,nmM_stop (by rw [HKS.out,pk_end];rfl)]
       simp [okN,eofM,hlt]⟩))⟩
theorem names_any (s:ByteArray)(w:World)(hs:s.size≤600):Calls Tryz.prog 102 #[.string s,.int .i64 2,.int .i64 5] w fun e w'=>NaPost s w e w':=
 (names_gen s 2 5 w hs (by omega) (by omega)).mono fun e w' ⟨a,n,k,l,ok,h1,h2,h3,h4,h5⟩=>⟨a,n,k,l,ok,h1,h2,h3,h4,by
  rcases h5 with⟨q1,q2,_⟩|⟨q1,_,q2⟩|⟨q1,q2,q3⟩
  ·exact .inl ⟨q1,q2⟩
  ·exact .inr ⟨q1,q2⟩
  ·exact .inl ⟨by rw [q3];rfl,by rw [ba_empty q1];exact rn_empty⟩⟩
theorem plM_spec (nm:ByteArray): ∀(l:List ByteArray) (i:Nat),(plM nm l i= -1∧ ∀x∈l,(x.toList==nm.toList)=false)∨ ∃(m:Nat) (x:ByteArray),plM nm l i=((i+m:Nat):Int)∧l[m]?=some x∧(x.toList==nm.toList)=true∧ ∀(k:Nat) (y:ByteArray),k<m→l[k]?=some y→(y.toList==nm.toList)=false:=by
 intro l
 induction l with
 |nil=>intro i;exact .inl ⟨rfl,fun x h=>by cases h⟩
 |cons y ys ih=>
  intro i
  cases h:(y.toList==nm.toList) with
  |true=>exact .inr ⟨0,y,by simp [plM,h],rfl,h,fun k y hk=>by omega⟩
  |false=>
   rcases ih (i+1) with⟨h1,h2⟩|⟨m,x,h1,h2,h3,h4⟩
   ·refine .inl ⟨by simp [plM,h,h1],fun x hx=> ?_⟩
    rcases List.mem_cons.1 hx with rfl|hx
    ·exact h
    ·exact h2 x hx
   ·refine .inr ⟨m+1,x,by simp only [plM,h,if_false,Bool.false_eq_true];rw [h1];omega,by simpa using h2,h3,fun k z hk hz=> ?_⟩
    cases k with
    |zero=>simp at hz;subst hz;exact h
    |succ k=>exact h4 k z (by omega) (by simpa using hz)
def rowB (l:List ByteArray)(i:Nat):Nat→Bool
 |0=>true
 |k+1=>rowB l i k&&((l.getD i ⟨#[]⟩).toList !=(l.getD k ⟨#[]⟩).toList)
def allB2 (l:List ByteArray):Nat→Bool
 |0=>true
 |i+1=>allB2 l i&&rowB l i i
theorem rowB_iff (l:List ByteArray)(i:Nat): ∀n,rowB l i n=true↔ ∀k,k<n→((l.getD i ⟨#[]⟩).toList==(l.getD k ⟨#[]⟩).toList)=false:=by
 intro n
 induction n with
 |zero=>simp [rowB]
 |succ n ih=>
  unfold rowB
  rw [Bool.and_eq_true,ih]
  constructor
  ·intro ⟨h1,h2⟩ k hk
   by_cases hkn:k=n
   ·subst hkn;simpa [bne] using h2
   ·exact h1 k (by omega)
  ·intro h
   exact⟨fun k hk=>h k (by omega),by simpa [bne] using h n (by omega)⟩
theorem allB2_iff (l:List ByteArray): ∀n,allB2 l n=true↔ ∀i,i<n→rowB l i i=true:=by
 intro n
 induction n with
 |zero=>simp [allB2]
 |succ n ih=>
  unfold allB2
  rw [Bool.and_eq_true,ih]
  constructor
  ·intro ⟨h1,h2⟩ k hk
   by_cases hkn:k=n
   ·subst hkn;exact h2
   ·exact h1 k (by omega)
  ·intro h
   exact⟨fun k hk=>h k (by omega),h n (by omega)⟩
theorem dupM_iff (l:List ByteArray): ∀n i,dupM l n i=false↔ ∀j,i≤j→j<i+n→plM (l.getD j ⟨#[]⟩) l 0=(j:Int):=by
 intro n
 induction n with
 |zero=>intro i;simp [dupM];intro j h1 h2;omega
 |succ n ih=>
  intro i
  unfold dupM
  rw [Bool.or_eq_false_iff,ih]
  constructor
  ·intro ⟨h1,h2⟩ j hj1 hj2
   by_cases hji:j=i
   ·subst hji;simpa [bne] using h1
   ·exact h2 j (by omega) (by omega)
  ·intro h
   exact⟨by simpa [bne] using h i (by omega) (by omega),fun j h1 h2=>h j (by omega) (by omega)⟩
theorem dup_all (l:List ByteArray):dupM l l.length 0= !allB2 l l.length:=by
 have key:dupM l l.length 0=false↔allB2 l l.length=true:=by
  rw [dupM_iff,allB2_iff]
  constructor
  ·intro h i hi
   rw [rowB_iff]
   intro k hk
   have hp:=h i (Nat.zero_le _) (by omega)
   rcases plM_spec (l.getD i ⟨#[]⟩) l 0 with⟨h1,_⟩|⟨m,x,h1,h2,h3,h4⟩
   ·rw [h1] at hp;omega
   ·rw [h1] at hp
    have hm:m=i:=by omega
    subst hm
    obtain⟨y,hy⟩: ∃y,l[k]?=some y:=⟨l[k],List.getElem?_eq_getElem (by omega)⟩
    have q:=h4 k y hk hy
    rw [show l.getD k ⟨#[]⟩=y by simp [List.getD,hy]]
    rw [Bool.eq_false_iff] at q ⊢
    intro e
    exact q (by rw [beq_iff_eq] at e ⊢;exact e.symm)
  ·intro h j _ hj
   have hr:=(rowB_iff l j j).1 (h j (by omega))
   rcases plM_spec (l.getD j ⟨#[]⟩) l 0 with⟨_,h2⟩|⟨m,x,h1,h2,h3,h4⟩
   ·have hx:l.getD j ⟨#[]⟩∈l:=by
     rw [show l.getD j ⟨#[]⟩=l[j]'(by omega) by simp [List.getD,show j<l.length by omega]]
     exact List.getElem_mem _
    have:=h2 _ hx
    simp at this
   ·rw [h1]
    have hmj: ¬m<j:=fun hlt=>by
     have q:=hr m hlt
     rw [show l.getD m ⟨#[]⟩=x by simp [List.getD,h2]] at q
     rw [Bool.eq_false_iff] at q
     exact q (by rw [beq_iff_eq] at h3 ⊢;exact h3.symm)
    have hjm: ¬j<m:=fun hlt=>by
     obtain⟨y,hy⟩: ∃y,l[j]?=some y:=⟨l[j],List.getElem?_eq_getElem (by omega)⟩
     have q:=h4 j y hlt hy
     rw [show l.getD j ⟨#[]⟩=y by simp [List.getD,hy]] at q
     simp at q
    omega
 cases h1:dupM l l.length 0<;>cases h2:allB2 l l.length<;>simp_all
def VaPost (s:ByteArray)(w:World)(e:Ending)(w':World):Prop:= ∃a n k,e= .returned (.tuple #[.slice a n k,.bool (!(vlM s).2)])∧Below w.heap.size w w'∧((vlM s).2=false→w'.ownsRow w.heap.size 9 1 (.slice a n k) (vlM s).1.length ((vlM s).1.map Value.string))
theorem values_any (s:ByteArray)(w:World)(hs:s.size≤600):Calls Tryz.prog 101 #[.string s] w fun e w'=>VaPost s w e w':=by
 have HN:=hide (names_any s w hs)
 go_enter Tryz.func101,Tryz.ntmps101
 go_wp2_with fail
 refine HN.out.mono ?_
 rintro e w1 ⟨a,n,k,l,ok,rfl,hB1,hO1,hll,hok⟩
 have hn:n=l.length:=by
  obtain⟨qa,qk,q⟩:=ownsRow_slice hO1
  injection q with _ q _
 subst hn
 have hfin: ∀b,b=(ok&&allB2 l l.length)→b=(!(vlM s).2)∧((vlM s).2=false→(vlM s).1=l):=fun b hb=>by
  rcases hok with⟨h1,h2⟩|⟨h1,h2⟩
  ·have hv:vlM s=([],true):=by unfold vlM;rw [h2];rfl
   rw [hv,hb,h1]
   exact⟨rfl,fun e=>by cases e⟩
  ·have hv:vlM s=if decide (l.length<2)||decide (5<l.length)||dupM l l.length 0 then([],true) else(l,false):=by unfold vlM;rw [h1];rfl
   rw [hv,dup_all,hb,h2]
   by_cases q1:l.length<2
   ·have: ¬2≤l.length:=by omega
    simp [q1,this]
   ·by_cases q2:5<l.length
    ·have: ¬l.length≤5:=by omega
     simp [q2,this]
    ·have e1:2≤l.length:=by omega
     have e2:l.length≤5:=by omega
     simp only [q1,q2,e1,e2,decide_true,decide_false,Bool.false_or,Bool.true_and]
     cases allB2 l l.length<;>simp
 have HF:=hide hfin
 have HO:=hide hO1
 have HB:=hide hB1
 clear hok hfin hO1 hB1 HN
 go_wp2_with fail
 go_loopg [5,6] (l.length+1) (fun g okv iv wr=> ∃(i N:Nat) (okb:Bool),g+i=l.length+1∧i≤l.length∧iv= .int .i64 i∧okv= .bool okb∧wr=w1.drewN N∧Hid (okb=(ok&&allB2 l i)))
 case atStart=>exact⟨0,0,ok,rfl,Nat.zero_le _,rfl,rfl,rfl,hide (by simp [allB2])⟩
 case round=>
  obtain⟨i,N,okb,hk,hil,rfl,rfl,rfl,hokb⟩:=hrel
  have hHK:=hide hk
  clear hk
  by_cases hlt:i<l.length
  ·have hlt':(i:Int)<l.length:=by omega
   obtain⟨gr,cap,hvv,hbb,hgg⟩:=HO.out.form (by omega)
   injection hvv with e1 e2 e3
   subst e1 e3
   obtain⟨x,hx⟩: ∃x,l[i]?=some x:=⟨l[i],List.getElem?_eq_getElem hlt⟩
   have q0:w1.cell? ⟨gr,i,none⟩=some (.string x):=row_cell HO.out _ _ (by simp [hx])
   have hxi:Hid (l.getD i ⟨#[]⟩=x):=hide (by simp [List.getD,hx])
   obtain⟨gk0,hgk0⟩: ∃gk0,gk0=gk:=⟨_,rfl⟩
   have HGK0:=hide hgk0
   clear hgk0 hx
   go_wp2_with fail
   go_loopg [5,7] (i+1) (fun g okv kv wr2=> ∃(j N2:Nat) (okc:Bool),g+j=i+1∧j≤i∧kv= .int .i64 j∧okv= .bool okc∧wr2=w1.drewN N2∧Hid (okc=(okb&&rowB l i j)))
   case atStart=>exact⟨0,N,okb,rfl,Nat.zero_le _,rfl,rfl,rfl,hide (by simp [rowB])⟩
   case round=>
    obtain⟨j,N2,okc,hkj,hji,rfl,rfl,rfl,hokc⟩:=hrel
    have hKJ:=hide hkj
    clear hkj
    by_cases hjl:j<i
    ·have hjl':(j:Int)<i:=by omega
     obtain⟨y,hy⟩: ∃y,l[j]?=some y:=⟨l[j],List.getElem?_eq_getElem (by omega)⟩
     have q1:w1.cell? ⟨gr,j,none⟩=some (.string y):=row_cell HO.out _ _ (by simp [hy])
     have hyj:Hid (l.getD j ⟨#[]⟩=y):=hide (by simp [List.getD,hy])
     have hjn:j<l.length:=by omega
     have hjn':(j:Int)<l.length:=by omega
     clear hy
     have hnx:Hid (rowB l i (j+1)=(rowB l i j&&(x.toList !=y.toList))):=hide (by
      show(rowB l i j&&((l.getD i ⟨#[]⟩).toList !=(l.getD j ⟨#[]⟩).toList))=_
      rw [hxi.out,hyj.out])
     cases okc
     ·go_wp2_with fail
      go_quiet (fail)
      go_wp2_with fail
      have hk:=hKJ.out
      go_roundg (i - j)
      case measure=>omega
      case rel=>exact⟨j+1,_,false,by omega,by omega,by go_num,by simp,rfl,hide (by rw [hnx.out,←Bool.and_assoc,←hokc.out];rfl)⟩
     ·cases hxy:(x.toList !=y.toList)
      ·go_wp2_with fail
       go_quiet (fail)
       go_wp2_with fail
       have hk:=hKJ.out
       go_roundg (i - j)
       case measure=>omega
       case rel=>exact⟨j+1,_,false,by omega,by omega,by go_num,by first|rfl|exact congrArg Value.bool hxy,rfl,hide (by rw [hnx.out,←Bool.and_assoc,←hokc.out,hxy];rfl)⟩
      ·go_wp2_with fail
       go_quiet (fail)
       go_wp2_with fail
       have hk:=hKJ.out
       go_roundg (i - j)
       case measure=>omega
       case rel=>exact⟨j+1,_,true,by omega,by omega,by go_num,by first|rfl|exact congrArg Value.bool hxy,rfl,hide (by rw [hnx.out,←Bool.and_assoc,←hokc.out,hxy];rfl)⟩
    ·have hjl': ¬(j:Int)<i:=by omega
     have hji':j=i:=by omega
     have hst:Hid (okc=(ok&&allB2 l (i+1))):=hide (by
      rw [hokc.out,hji',hokb.out]
      show _=(ok&&(allB2 l i&&rowB l i i))
      rw [Bool.and_assoc])
     clear hji'
     go_wp2_with fail
     have hk:=hHK.out
     have hg0:=HGK0.out
     go_roundg (gk0 - 1)
     case measure=>omega
     case rel=>exact⟨i+1,N2,okc,by omega,by omega,by go_num,rfl,rfl,hst⟩
  ·have hlt': ¬(i:Int)<l.length:=by omega
   have hil':i=l.length:=by omega
   have hfi:=hide (HF.out okb (by rw [hokb.out,hil']))
   clear hil'
   go_wp2_with fail
   go_ret2
   exact⟨a,l.length,k,by rw [←hfi.out.1];rfl,⟨HB.out.os,HB.out.tape,HB.out.output,HB.out.size,HB.out.block⟩,fun e=>by rw [hfi.out.2 e];exact ownsRow_same HO.out fun k e=>rfl⟩
end Go.Proofs.YtkoohcilbpdgeaaGreatDoor
