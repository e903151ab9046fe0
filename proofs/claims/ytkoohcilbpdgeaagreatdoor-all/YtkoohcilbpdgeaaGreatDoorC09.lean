import Derived.Deep.DeepCutAuto
import Derived.Deep.RegionWith
import Derived.Test.YtkoohcilbpdgeaaGreatDoorC08
set_option linter.all false
set_option linter.unusedVariables false
set_option linter.unusedSimpArgs false
set_option linter.unnecessarySimpa false
set_option linter.constructorNameAsVariable false
set_option linter.deprecated false
set_option maxRecDepth 100000
set_option maxHeartbeats 6400000
namespace Go.Proofs.YtkoohcilbpdgeaaGreatDoor
open Go Go.RowKit
attribute [local go_sem] wrap64_byte
def zdw (s:zeV)(w:World)(e:Ending)(w':World):Prop:= ∃a n k,e= .returned (.tuple #[.slice a n k,.bool (!(raM s).2)])∧Below w.heap.size w w'∧((raM s).2=false→w'.ownsRow w.heap.size 144 2 (.slice a n k) (raM s).1.length (((raM s).1.map zu).flatten))
theorem info144:(Tryz.prog.info? 144).map (fun i=>(i.zero,i.size,i.bytes))=some (some (.agg #[.string ⟨#[]⟩,.string ⟨#[]⟩]),2,32):=by kernel_rfl
theorem zef {w:World}{g:Nat}{a b c:Value}{t:TypeId}(hh:w.heap[g]?=some (.cells #[a,b,c] t)):
  w.cell? ⟨g,0,none⟩=some a∧w.cell? ⟨g,1,none⟩=some b∧w.cell? ⟨g,2,none⟩=some c∧(∀o,w.frozen? ⟨g,o,none⟩=false):=by
 simp [World.cell?,World.frozen?,hh]
theorem z7B {w:World}{g:Nat}{s:zeV}{t:TypeId}(hs:s.size≤600)(h:w.heap[g]?=some (.cells #[.string s,.int .i64 0,.bool false] t)):Rd w g s 0 false:=by
 obtain⟨q0,q1,q2,qf⟩:=zef h
 exact⟨q0,q1,q2,qf _,qf _,zeR _,hs⟩
theorem z0Y (s:zeV)(w:World)(hs:s.size≤600):Calls Tryz.prog 54 #[.string s] w fun e w'=>zdw s w e w':=by
 have hrd0:=z7B hs (heap_alloc_new w (.cells #[.string s,.int .i64 0,.bool false] 94))
 have hB0:=(zeU w.heap.size w).alloc (zeK _) (.cells #[.string s,.int .i64 0,.bool false] 94)
 have hz0:(w.alloc (.cells #[.string s,.int .i64 0,.bool false] 94)).heap.size=w.heap.size+1:=by simp
 have H0:=z8 (zeL hrd0 (zeL hB0 hz0))
 clear hrd0 hB0 hz0
 obtain⟨i0,hi,hz0',hz1,hz2⟩:=info_parts info144
 by_cases h0:s.size=0
 ·have hs0:=z2u h0
  subst hs0
  have hra:Hid (raM ⟨#[]⟩=([],false)):=z8 rfl
  go_enter Tryz.func54,Tryz.ntmps54
  go_wp2_with fail
  go_loopg [4,6] 1 (fun k lv mv wr=>lv= .slice none 0 0∧mv= .bool false∧wr=(w.alloc (.cells #[.string ⟨#[]⟩,.int .i64 0,.bool false] 94)))
  case atStart=>exact⟨rfl,rfl,rfl⟩
  case round=>
   obtain⟨rfl,rfl,rfl⟩:=hrel
   go_wp2_with fail
   go_quiet (fail)
   go_wp2_with fail
   go_ret2
   refine⟨none,0,0,by rw [hra.out];rfl,?_,fun _=>by rw [hra.out];exact⟨rfl,.inl ⟨rfl,rfl⟩⟩⟩
   have q:=(zeU w.heap.size w).alloc (zeK _) (.cells #[.string ⟨#[]⟩,.int .i64 0,.bool false] 94)
   exact⟨q.os,q.tape,q.output,q.size,q.block⟩
 ·have hne:(s.toList==([]:List UInt8))=false:=by
   rw [zeJ]
   cases hq:(s.data.toList==([]:List UInt8)) with
   |false=>rfl
   |true=>simp at hq;exact absurd (show s.size=0 by simp [ByteArray.size,hq]) h0
  have hnl: ¬s.toList=[]:=by simpa using hne
  have hra:=z8 (zbt h0)
  generalize hP0:z2x s (s.size+1) 0 []=P0 at*
  have HP0:=z8 hP0
  clear hP0
  go_enter Tryz.func54,Tryz.ntmps54
  go_wp2_with fail
  obtain⟨hrd0,hB0,hz0⟩:=H0.out
  clear H0
  generalize (w.alloc (.cells #[.string s,.int .i64 0,.bool false] 94))=W0 at*
  go_loopg [4,6] (s.size+2) (fun k lv mv wr=> ∃(p:Nat) (d more:Bool) (l:List (zeV×zeV)) (a:Option Addr) (cap n:Nat),lv= .slice a l.length cap∧mv= .bool more∧Hid (wr.ownsRow (w.heap.size+1) 144 2 (.slice a l.length cap) l.length ((l.map zu).flatten))∧Hid (Below w.heap.size w wr)∧w.heap.size<wr.heap.size∧Hid (Rd wr w.heap.size s p d)∧l.length+k≤s.size+2∧s.size+1≤k+p∧p≤s.size∧
   Hid ((more=true∧d=false∧1≤k∧s.size≤n+p∧okP s (z2x s n p l)=okP s P0)∨(more=true∧d=true∧(okP s P0).2=true)∨(more=false∧d=false∧okP s P0=(l,false))))
  case atStart=>
   refine⟨0,false,true,[],none,0,s.size+1,rfl,by simp,z8 ?_,z8 hB0,by omega,z8 hrd0,by simp,by omega,by omega,z8 (.inl ⟨rfl,rfl,by omega,by omega,by rw [HP0.out]⟩)⟩
   exact⟨rfl,.inl ⟨rfl,rfl⟩⟩
  case round=>
   obtain⟨p,d,more,l,a,cap,n,rfl,rfl,HO,HB,hwz,HR,hlk,hkp,hps,HC⟩:=hrel
   cases more
   ·have hfin:d=false∧okP s P0=(l,false):=by
     rcases HC.out with⟨e,_⟩|⟨e,_⟩|⟨_,e1,e2⟩
     ·cases e
     ·cases e
     ·exact⟨e1,e2⟩
    obtain⟨hd,hfin⟩:=hfin
    subst hd
    have hra2:Hid (raM s=(l,false)):=z8 (by rw [hra.out,hfin])
    obtain⟨c0,c1,c2,f1,f2,_,_⟩:=HR.out
    clear hfin HC
    go_wp2_with fail
    go_quiet (fail)
    go_wp2_with fail
    go_ret2
    refine⟨a,l.length,cap,by rw [hra2.out];rfl,⟨HB.out.os,HB.out.tape,HB.out.output,HB.out.size,HB.out.block⟩,fun _=> ?_⟩
    rw [hra2.out]
    exact zq (zb HO.out fun k e=>rfl) (by omega)
   ·have hNm:=z8 (z0B w.heap.size p s d)
    rw [show z16 s p d=zo s p d from rfl] at hNm
    have HEQ:Hid (zo s p d=zo s p d):=z8 rfl
    obtain⟨vn,hvn⟩: ∃vn,zo s p d=vn:=⟨_,rfl⟩
    obtain⟨pn,dn,nm⟩:=vn
    rw [hvn] at hNm
    have HWd:=z8 (fun W h=>zK w.heap.size pn s ⟨#[61]⟩ dn W h (by decide))
    rw [show(ByteArray.mk #[61]).data.toList=[61] from rfl] at HWd
    obtain⟨uw,huw⟩: ∃uw,zy s dn [61] pn=uw:=⟨_,rfl⟩
    obtain⟨fr,du⟩:=uw
    rw [huw] at HWd
    simp only at hNm HWd
    have HV:=z8 (zeL hvn huw)
    clear hvn huw HEQ
    have hpn:pn≤s.size∧p≤pn:=by
     have q:=z3p (p:=zp) (by decide) (m:=8) (d:=d) hps
     have e:=HV.out.1
     unfold zo at e
     rw [e] at q
     exact⟨q.2,q.1⟩
    have hfr:fr≤s.size∧pn≤fr:=by
     have q:=z0f s dn [61] pn hpn.1
     rw [HV.out.2] at q
     exact⟨q.2,q.1⟩
    go_wp2_with fail
    refine(hNm.out _ HR.out).mono ?_
    rintro e w1 ⟨rfl,hr1,hs1⟩
    go_wp2_with fail
    refine(HWd.out _ hr1).mono ?_
    rintro e w2 ⟨rfl,hr2,hs2⟩
    have hs12:=hs1.trans hs2
    clear hs1 hs2 hr1 hNm HWd
    obtain⟨c0,c1,c2,f1,f2,_,_⟩:=id hr2
    have hB2:Below w.heap.size w w2:=⟨hs12.os.trans HB.out.os,hs12.tape.trans HB.out.tape,hs12.output.trans HB.out.output,by have:=hs12.size;have:=HB.out.size;omega,fun k hk=>(hs12.block k (by omega)).trans (HB.out.block k hk)⟩
    cases du
    case true=>
     have hbad:Hid ((raM s).2=true):=z8 (by
      rw [hra.out]
      rcases HC.out with⟨_,e1,_,_,e2⟩|⟨_,_,e2⟩|⟨e1,_⟩
      ·subst e1
       rw [←e2]
       exact zao (by rw [HV.out.1];simp only;rw [HV.out.2])
      ·exact e2
      ·cases e1)
     have HB2:=z8 hB2
     clear hB2
     go_wp2_with fail
     go_ret2
     exact⟨none,0,0,by rw [hbad.out];rfl,HB2.out,fun e=>by rw [hbad.out] at e;cases e⟩
    case false=>
    have hdn:d=false:=by
     cases d with
     |false=>rfl
     |true=>
      exfalso
      have q1:=HV.out.1
      have q2:zo s p true=(p,true,⟨#[]⟩):=jT (jx rfl) (.inl rfl)
      rw [q2] at q1
      injection q1 with e1 e2
      injection e2 with e2 e3
      have q3:=HV.out.2
      rw [←e1,←e2] at q3
      rw [j8 (by show(-1:Int)≠_;decide)] at q3
      injection q3 with _ e4
      cases e4
    subst hdn
    have HFP:Hid (p+1≤fr):=z8 (by
     have q:=HV.out.2
     by_cases hc:pk s pn dn=((61:UInt8).toNat:Int)
     ·rw [z10 hc] at q
      injection q with q1 q2
      omega
     ·rw [j8 hc] at q
      injection q with q1 q2
      cases q2)
    have hcn:1≤gk∧s.size≤n+p∧okP s (z2x s n p l)=okP s P0:=by
     rcases HC.out with⟨_,_,e1,e2,e3⟩|⟨_,e1,_⟩|⟨e1,_⟩
     ·exact⟨e1,e2,e3⟩
     ·cases e1
     ·cases e1
    obtain⟨hg1,hnp,hnx⟩:=hcn
    have HNX:=z8 hnx
    have hO2:w2.ownsRow (w.heap.size+1) 144 2 (.slice a l.length cap) l.length ((l.map zu).flatten):=zb HO.out fun k e=>hs12.block k (by have:=(HO.out.lt k e).1;omega)
    have hz2w:w2.heap.size=wr.heap.size:=hs12.size
    have hw2z:w.heap.size<w2.heap.size:=by omega
    have HK2:=z8 (zeL hO2 hB2)
    clear hO2 hB2 hz2w hs12 HC hnx
    go_wp2_with fail
    clear c0 c1 c2 f1 f2
    go_loopw [] (fun wr2=> ∃k,Rd wr2 w.heap.size s k false∧Sc w.heap.size w2 wr2∧fr≤k∧Hid (run zD s false (s.size - k) k=z0h s fr)) (fun wr2=>s.size - atOf wr2 w.heap.size)
    case atStart=>exact⟨fr,hr2,Sc.refl _ _,zeK _,z8 rfl⟩
    case round=>
     rename_i wq _
     obtain⟨k,hk,hsc,hfk,hsk⟩:=hrel
     have hat:=z8 hk.atOf
     have hk':=hk
     obtain⟨c0,c1,c2,f1,f2,hks,_⟩:=hk
     by_cases hgo:zD (pk s k false)=true
     ·have hlt:=(z06 (s:=s) (a:=k) (d:=false) (fun e=>by rw [e] at hgo;exact absurd hgo (by decide))).2
      have hlt':(k:Int)<s.size:=by omega
      have hpk:pk s k false=(s[k].toNat:Int):=by simp [pk,hlt]
      have hb1:((s[k].toNat:Int) !=59)=true:=by rw [hpk] at hgo;unfold zD at hgo;simp only [Bool.and_eq_true] at hgo;exact hgo.1.2
      have hb2:((s[k].toNat:Int) !=34)=true:=by rw [hpk] at hgo;unfold zD at hgo;simp only [Bool.and_eq_true] at hgo;exact hgo.2
      have hset:=hk'.setAt' (k+1) (k+1) (by omega) hlt
      have hst:Hid (run zD s false (s.size -(k+1)) (k+1)=z0h s fr):=z8 (by
       rw [←hsk.out,show s.size - k=(s.size -(k+1))+1 by omega,z1w hgo])
      clear hpk hgo
      go_wp2_with fail
      go_roundw
      case rel=>exact⟨k+1,hset,hsc.setCell 1 (Or.inl rfl) _,by omega,hst⟩
      case measure=>rw [hset.atOf,hat.out];omega
     ·by_cases hlt:k<s.size
      ·have hlt':(k:Int)<s.size:=by omega
       have hpk:Hid (pk s k false=(s[k].toNat:Int)):=z8 (by simp [pk,hlt])
       cases hb1:((s[k].toNat:Int) !=59)
       case false=>
        have hend:z0h s fr=k:=by rw [←hsk.out];exact jx (by simpa using hgo)
        have HEND:=z8 hend
        clear hend hsk hat hgo
        obtain⟨hO2,hB2⟩:=HK2.out
        have hO3:wr.ownsRow (w.heap.size+1) 144 2 (.slice a l.length cap) l.length ((l.map zu).flatten):=zb hO2 fun q e=>hsc.block q (by have:=(hO2.lt q e).1;omega)
        have hB3:Below w.heap.size w wr:=⟨hsc.os.trans hB2.os,hsc.tape.trans hB2.tape,hsc.output.trans hB2.output,by have:=hsc.size;have:=hB2.size;omega,fun q hq=>(hsc.block q (by omega)).trans (hB2.block q hq)⟩
        have hz3:w.heap.size<wr.heap.size:=by have:=hsc.size;omega
        have HK3:=z8 (zeL hO3 hB3)
        clear hO2 hB2 hO3 hB3 hsc HK2
        by_cases h20:fr+20<k
        ·have h20':(20:Int)<(k:Int)- fr:=by omega
         have hbad:Hid ((raM s).2=true):=z8 (by
          rw [hra.out,←HNX.out]
          exact z3L (f:=fr) hps (by rw [HV.out.1];exact HV.out.2) hfr.1 (by rw [HEND.out];exact h20))
         go_wp2_with fail
         go_ret2
         exact⟨none,0,0,by rw [hbad.out];rfl,HK3.out.2,fun e=>by rw [hbad.out] at e;cases e⟩
        ·have h20': ¬(20:Int)<(k:Int)- fr:=by omega
         have hgk:Hid (1≤gk):=z8 hg1
         have hlkk:Hid (l.length+gk≤s.size+2):=z8 hlk
         have hkpk:Hid (s.size+1≤gk+p):=z8 hkp
         obtain⟨gk0,hgk0⟩: ∃gk0,gk0=gk:=⟨_,rfl⟩
         have HGK0:=z8 hgk0
         clear hgk0
         go_wp2_with fail
         go_loopg [9] (l.length+1) (fun k2 iv wr3=> ∃i:Nat,k2+i=l.length+1∧i≤l.length∧iv= .int .i64 i∧wr3=wr∧Hid (zr nm (l.drop i) i=zr nm l 0))
         case atStart=>exact⟨0,rfl,zeR _,rfl,rfl,z8 rfl⟩
         case round=>
          obtain⟨i,hki,hil,rfl,rfl,hfi⟩:=hrel
          have HKI:=z8 hki
          clear hki
          by_cases hli:i<l.length
          ·have hlr:=HK3.out.1
           obtain⟨gr,capr,hvr,hbr,hgr⟩:=hlr.form (by omega)
           injection hvr with e1 e2 e3
           subst e1 e3
           obtain⟨x,hx⟩: ∃x,l[i]?=some x:=⟨l[i],zeH hli⟩
           have q0:wr.cell? ⟨gr,i*2,none⟩=some (.string x.1):=zf hlr _ _ (zI zu 2 z00 l i 0 x hx (by omega))
           have hli':(i:Int)<l.length:=by omega
           have hst:Hid (zr nm (l.drop i) i=if x.1.toList==nm.toList then(i:Int) else zr nm (l.drop (i+1)) (i+1)):=z8 (by
            obtain⟨hl,hx'⟩:=zeI.1 hx
            rw [zeO hl,hx']
            rfl)
           clear hlr hx
           cases hq:(x.1.toList==nm.toList)
           ·go_wp2_with fail
            have hk:=HKI.out
            go_roundg (l.length - i)
            case measure=>omega
            case rel=>exact⟨i+1,by omega,by omega,by go_num,rfl,z8 (by rw [←hfi.out,hst.out,hq];rfl)⟩
           ·have hbad:Hid ((raM s).2=true):=z8 (by
             rw [hra.out,←HNX.out]
             refine z4S ?_
             rw [HV.out.1]
             simp only
             rw [←hfi.out,hst.out,hq]
             simp)
            go_wp2_with fail
            go_ret2
            exact⟨none,0,0,by rw [hbad.out];rfl,HK3.out.2,fun e=>by rw [hbad.out] at e;cases e⟩
          ·have hli': ¬(i:Int)<l.length:=by omega
           have hdup:Hid ((zr nm l 0 != -1)=false):=z8 (by rw [←hfi.out,zeN (by omega)];rfl)
           have HNXT:=z8 (z5c (s:=s) (n:=n) (p:=p) (f:=fr) (l:=l) (by rw [HV.out.1];exact HV.out.2) hfr.1 (by rw [HEND.out];omega) (by rw [HV.out.1];exact hdup.out))
           rw [HEND.out,HV.out.1] at HNXT
           simp only at HNXT
           have hlen9:l.length≤700:=by have:=hlkk.out;omega
           go_wp2_with (at_builtin;go_must (refine wpList_append_lies _ rfl (.tmp 80) (.tmp 90) 98 rfl (w.heap.size+1) 144 i0 _ 2 32 Tryz.underlying98 hi hz0' hz1 hz2 rfl (by omega) _ l.length _ rfl (HK3.out.1.alloc _) ⟨wr.heap.size,0,none⟩ 1 1 (zu (nm,s.extract fr k)) rfl rfl ?news ?one (by omega) ?mm ?bys ?base (wr.heap.size+1) (by simp) ?rest))
           case news=>exact fun j u h=>h
           case one=>intro u hu;simp [zu] at hu;rcases hu with rfl|rfl<;>rfl
           case mm=>unfold maxLen;omega
           case bys=>omega
           case base=>first|omega|(simp<;>omega)
           case rest=>
            intro gc cap8 w8 hown8 hgrow hat8 hlt8
            obtain⟨hO3,hB3⟩:=HK3.out
            clear HK3
            have hr8:Rd w8 w.heap.size s k false:=hk'.other ((hgrow.block _ (by first|omega|(simp<;>omega)) (fun e=>by have:=(hO3.lt _ e.symm).1;omega)).trans (zeM _ _ _ hz3))
            have hB8:=z8 (Below.grown (hB3.alloc hB3.size _) hgrow (by first|omega|(simp<;>omega)) fun q e=>by have:=(hO3.lt q e).1;omega)
            have hz8:w.heap.size<w8.heap.size:=by have:=hgrow.size;first|omega|(simp at this;omega)
            have hown9:Hid (w8.ownsRow (w.heap.size+1) 144 2 (.slice (some ⟨gc,0,none⟩) (l++[(nm,s.extract fr k)]).length cap8) (l++[(nm,s.extract fr k)]).length (((l++[(nm,s.extract fr k)]).map zu).flatten)):=z8 (by simpa using hown8)
            have HR8:=z8 hr8
            clear hown8 hgrow hat8 hO3 hB3 c0 c1 c2 f1 f2
            obtain⟨c0,c1,c2,f1,f2,_,_⟩:=hr8
            have hpk59:pk s k false=((59:UInt8).toNat:Int):=by rw [hpk.out];simpa using hb1
            have hW:=z8 (fun W h=>zK w.heap.size k s ⟨#[59]⟩ false W h (by decide))
            rw [show(ByteArray.mk #[59]).data.toList=[59] from rfl,z10 hpk59] at hW
            have HP59:=z8 hpk59
            clear hpk59
            go_wp2_with fail
            refine(hW.out _ HR8.out).mono ?_
            rintro e w9 ⟨rfl,hr9,hs9⟩
            have hO10:Hid (w9.ownsRow (w.heap.size+1) 144 2 (.slice (some ⟨gc,0,none⟩) (l++[(nm,s.extract fr k)]).length cap8) (l++[(nm,s.extract fr k)]).length (((l++[(nm,s.extract fr k)]).map zu).flatten)):=z8 (zb hown9.out fun q e=>hs9.block q (by have:=(hown9.out.lt q e).1;omega))
            have hB10:Hid (Below w.heap.size w w9):=z8 ⟨hs9.os.trans hB8.out.os,hs9.tape.trans hB8.out.tape,hs9.output.trans hB8.out.output,by have:=hs9.size;have:=hB8.out.size;omega,fun q hq=>(hs9.block q (by omega)).trans (hB8.out.block q hq)⟩
            have hz10:w.heap.size<w9.heap.size:=by have:=hs9.size;omega
            have hr10:Hid (Rd w9 w.heap.size s (k+1) false):=z8 hr9
            clear hr9 hs9
            go_wp2_with fail
            have h1:=hgk.out
            have h2:=hlkk.out
            have h3:=hkpk.out
            have h4:=HFP.out
            have h5:=HGK0.out
            obtain⟨n1,hn1⟩: ∃n1,n=n1+1:=⟨n - 1,by omega⟩
            go_roundg (gk0 - 1)
            case measure=>omega
            case rel=>exact⟨k+1,false,true,l++[(nm,s.extract fr k)],some ⟨gc,0,none⟩,cap8,n1,by simp,by simp [hlt'],hO10,hB10,hz10,hr10,by simp;omega,by omega,by omega,z8 (.inl ⟨rfl,rfl,by omega,by omega,by rw [←HNX.out,HNXT.out,hn1,zdi (by rw [HP59.out];rfl)]⟩)⟩
       case true=>
       have hb2:((s[k].toNat:Int) !=34)=false:=by
        cases hq:((s[k].toNat:Int) !=34) with
        |false=>rfl
        |true=>exact absurd (by
          rw [hpk.out];unfold zD;rw [hb1,hq];have:((s[k].toNat:Int) != -1)=true:=by simp
          rw [this];rfl) hgo
       have hend:z0h s fr=k:=by rw [←hsk.out];exact jx (by simpa using hgo)
       have HEND:=z8 hend
       clear hend hsk hat hgo
       obtain⟨hO2,hB2⟩:=HK2.out
       have hO3:wr.ownsRow (w.heap.size+1) 144 2 (.slice a l.length cap) l.length ((l.map zu).flatten):=zb hO2 fun q e=>hsc.block q (by have:=(hO2.lt q e).1;omega)
       have hB3:Below w.heap.size w wr:=⟨hsc.os.trans hB2.os,hsc.tape.trans hB2.tape,hsc.output.trans hB2.output,by have:=hsc.size;have:=hB2.size;omega,fun q hq=>(hsc.block q (by omega)).trans (hB2.block q hq)⟩
       have hz3:w.heap.size<wr.heap.size:=by have:=hsc.size;omega
       have HK3:=z8 (zeL hO3 hB3)
       clear hO2 hB2 hO3 hB3 hsc HK2
       by_cases h20:fr+20<k
       ·have h20':(20:Int)<(k:Int)- fr:=by omega
        have hbad:Hid ((raM s).2=true):=z8 (by
         rw [hra.out,←HNX.out]
         exact z3L (f:=fr) hps (by rw [HV.out.1];exact HV.out.2) hfr.1 (by rw [HEND.out];exact h20))
        go_wp2_with fail
        go_ret2
        exact⟨none,0,0,by rw [hbad.out];rfl,HK3.out.2,fun e=>by rw [hbad.out] at e;cases e⟩
       ·have h20': ¬(20:Int)<(k:Int)- fr:=by omega
        have hgk:Hid (1≤gk):=z8 hg1
        have hlkk:Hid (l.length+gk≤s.size+2):=z8 hlk
        have hkpk:Hid (s.size+1≤gk+p):=z8 hkp
        obtain⟨gk0,hgk0⟩: ∃gk0,gk0=gk:=⟨_,rfl⟩
        have HGK0:=z8 hgk0
        clear hgk0
        go_wp2_with fail
        go_loopg [9] (l.length+1) (fun k2 iv wr3=> ∃i:Nat,k2+i=l.length+1∧i≤l.length∧iv= .int .i64 i∧wr3=wr∧Hid (zr nm (l.drop i) i=zr nm l 0))
        case atStart=>exact⟨0,rfl,zeR _,rfl,rfl,z8 rfl⟩
        case round=>
         obtain⟨i,hki,hil,rfl,rfl,hfi⟩:=hrel
         have HKI:=z8 hki
         clear hki
         by_cases hli:i<l.length
         ·have hlr:=HK3.out.1
          obtain⟨gr,capr,hvr,hbr,hgr⟩:=hlr.form (by omega)
          injection hvr with e1 e2 e3
          subst e1 e3
          obtain⟨x,hx⟩: ∃x,l[i]?=some x:=⟨l[i],zeH hli⟩
          have q0:wr.cell? ⟨gr,i*2,none⟩=some (.string x.1):=zf hlr _ _ (zI zu 2 z00 l i 0 x hx (by omega))
          have hli':(i:Int)<l.length:=by omega
          have hst:Hid (zr nm (l.drop i) i=if x.1.toList==nm.toList then(i:Int) else zr nm (l.drop (i+1)) (i+1)):=z8 (by
           obtain⟨hl,hx'⟩:=zeI.1 hx
           rw [zeO hl,hx']
           rfl)
          clear hlr hx
          cases hq:(x.1.toList==nm.toList)
          ·go_wp2_with fail
           have hk:=HKI.out
           go_roundg (l.length - i)
           case measure=>omega
           case rel=>exact⟨i+1,by omega,by omega,by go_num,rfl,z8 (by rw [←hfi.out,hst.out,hq];rfl)⟩
          ·have hbad:Hid ((raM s).2=true):=z8 (by
            rw [hra.out,←HNX.out]
            refine z4S ?_
            rw [HV.out.1]
            simp only
            rw [←hfi.out,hst.out,hq]
            simp)
           go_wp2_with fail
           go_ret2
           exact⟨none,0,0,by rw [hbad.out];rfl,HK3.out.2,fun e=>by rw [hbad.out] at e;cases e⟩
         ·have hli': ¬(i:Int)<l.length:=by omega
          have hdup:Hid ((zr nm l 0 != -1)=false):=z8 (by rw [←hfi.out,zeN (by omega)];rfl)
          have HNXT:=z8 (z5c (s:=s) (n:=n) (p:=p) (f:=fr) (l:=l) (by rw [HV.out.1];exact HV.out.2) hfr.1 (by rw [HEND.out];omega) (by rw [HV.out.1];exact hdup.out))
          rw [HEND.out,HV.out.1] at HNXT
          simp only at HNXT
          have hlen9:l.length≤700:=by have:=hlkk.out;omega
          go_wp2_with (at_builtin;go_must (refine wpList_append_lies _ rfl (.tmp 80) (.tmp 90) 98 rfl (w.heap.size+1) 144 i0 _ 2 32 Tryz.underlying98 hi hz0' hz1 hz2 rfl (by omega) _ l.length _ rfl (HK3.out.1.alloc _) ⟨wr.heap.size,0,none⟩ 1 1 (zu (nm,s.extract fr k)) rfl rfl ?news ?one (by omega) ?mm ?bys ?base (wr.heap.size+1) (by simp) ?rest))
          case news=>exact fun j u h=>h
          case one=>intro u hu;simp [zu] at hu;rcases hu with rfl|rfl<;>rfl
          case mm=>unfold maxLen;omega
          case bys=>omega
          case base=>first|omega|(simp<;>omega)
          case rest=>
           intro gc cap8 w8 hown8 hgrow hat8 hlt8
           obtain⟨hO3,hB3⟩:=HK3.out
           clear HK3
           have hr8:Rd w8 w.heap.size s k false:=hk'.other ((hgrow.block _ (by first|omega|(simp<;>omega)) (fun e=>by have:=(hO3.lt _ e.symm).1;omega)).trans (zeM _ _ _ hz3))
           have hB8:=z8 (Below.grown (hB3.alloc hB3.size _) hgrow (by first|omega|(simp<;>omega)) fun q e=>by have:=(hO3.lt q e).1;omega)
           have hz8:w.heap.size<w8.heap.size:=by have:=hgrow.size;first|omega|(simp at this;omega)
           have hown9:Hid (w8.ownsRow (w.heap.size+1) 144 2 (.slice (some ⟨gc,0,none⟩) (l++[(nm,s.extract fr k)]).length cap8) (l++[(nm,s.extract fr k)]).length (((l++[(nm,s.extract fr k)]).map zu).flatten)):=z8 (by simpa using hown8)
           have HR8:=z8 hr8
           clear hown8 hgrow hat8 hO3 hB3 c0 c1 c2 f1 f2
           obtain⟨c0,c1,c2,f1,f2,_,_⟩:=hr8
           have hpk59:pk s k false≠((59:UInt8).toNat:Int):=by rw [hpk.out];simpa using hb1
           have hW:=z8 (fun W h=>zK w.heap.size k s ⟨#[59]⟩ false W h (by decide))
           rw [show(ByteArray.mk #[59]).data.toList=[59] from rfl,j8 hpk59] at hW
           have HP59:=z8 hpk59
           clear hpk59
           go_wp2_with fail
           refine(hW.out _ HR8.out).mono ?_
           rintro e w9 ⟨rfl,hr9,hs9⟩
           have hO10:Hid (w9.ownsRow (w.heap.size+1) 144 2 (.slice (some ⟨gc,0,none⟩) (l++[(nm,s.extract fr k)]).length cap8) (l++[(nm,s.extract fr k)]).length (((l++[(nm,s.extract fr k)]).map zu).flatten)):=z8 (zb hown9.out fun q e=>hs9.block q (by have:=(hown9.out.lt q e).1;omega))
           have hB10:Hid (Below w.heap.size w w9):=z8 ⟨hs9.os.trans hB8.out.os,hs9.tape.trans hB8.out.tape,hs9.output.trans hB8.out.output,by have:=hs9.size;have:=hB8.out.size;omega,fun q hq=>(hs9.block q (by omega)).trans (hB8.out.block q hq)⟩
           have hz10:w.heap.size<w9.heap.size:=by have:=hs9.size;omega
           have hr10:Hid (Rd w9 w.heap.size s k true):=z8 hr9
           clear hr9 hs9
           go_wp2_with fail
           have h1:=hgk.out
           have h2:=hlkk.out
           have h3:=hkpk.out
           have h4:=HFP.out
           have h5:=HGK0.out
           go_roundg (gk0 - 1)
           case measure=>omega
           case rel=>exact⟨k,true,true,l++[(nm,s.extract fr k)],some ⟨gc,0,none⟩,cap8,n,by simp,by simp [hlt'],hO10,hB10,hz10,hr10,by simp;omega,by omega,by omega,z8 (.inr (.inl ⟨rfl,rfl,by
            rw [←HNX.out,HNXT.out,z5l (by rw [beq_eq_false_iff_ne];exact HP59.out)]
            simp [okP,z1n,hlt]⟩))⟩
      ·have hlt': ¬(k:Int)<s.size:=by omega
       have hend:z0h s fr=k:=by rw [←hsk.out];exact jx (by simpa using hgo)
       have HEND:=z8 hend
       clear hend hsk hat hgo
       obtain⟨hO2,hB2⟩:=HK2.out
       have hO3:wr.ownsRow (w.heap.size+1) 144 2 (.slice a l.length cap) l.length ((l.map zu).flatten):=zb hO2 fun q e=>hsc.block q (by have:=(hO2.lt q e).1;omega)
       have hB3:Below w.heap.size w wr:=⟨hsc.os.trans hB2.os,hsc.tape.trans hB2.tape,hsc.output.trans hB2.output,by have:=hsc.size;have:=hB2.size;omega,fun q hq=>(hsc.block q (by omega)).trans (hB2.block q hq)⟩
       have hz3:w.heap.size<wr.heap.size:=by have:=hsc.size;omega
       have HK3:=z8 (zeL hO3 hB3)
       clear hO2 hB2 hO3 hB3 hsc HK2
       by_cases h20:fr+20<k
       ·have h20':(20:Int)<(k:Int)- fr:=by omega
        have hbad:Hid ((raM s).2=true):=z8 (by
         rw [hra.out,←HNX.out]
         exact z3L (f:=fr) hps (by rw [HV.out.1];exact HV.out.2) hfr.1 (by rw [HEND.out];exact h20))
        go_wp2_with fail
        go_ret2
        exact⟨none,0,0,by rw [hbad.out];rfl,HK3.out.2,fun e=>by rw [hbad.out] at e;cases e⟩
       ·have h20': ¬(20:Int)<(k:Int)- fr:=by omega
        have hgk:Hid (1≤gk):=z8 hg1
        have hlkk:Hid (l.length+gk≤s.size+2):=z8 hlk
        have hkpk:Hid (s.size+1≤gk+p):=z8 hkp
        obtain⟨gk0,hgk0⟩: ∃gk0,gk0=gk:=⟨_,rfl⟩
        have HGK0:=z8 hgk0
        clear hgk0
        go_wp2_with fail
        go_loopg [9] (l.length+1) (fun k2 iv wr3=> ∃i:Nat,k2+i=l.length+1∧i≤l.length∧iv= .int .i64 i∧wr3=wr∧Hid (zr nm (l.drop i) i=zr nm l 0))
        case atStart=>exact⟨0,rfl,zeR _,rfl,rfl,z8 rfl⟩
        case round=>
         obtain⟨i,hki,hil,rfl,rfl,hfi⟩:=hrel
         have HKI:=z8 hki
         clear hki
         by_cases hli:i<l.length
         ·have hlr:=HK3.out.1
          obtain⟨gr,capr,hvr,hbr,hgr⟩:=hlr.form (by omega)
          injection hvr with e1 e2 e3
          subst e1 e3
          obtain⟨x,hx⟩: ∃x,l[i]?=some x:=⟨l[i],zeH hli⟩
          have q0:wr.cell? ⟨gr,i*2,none⟩=some (.string x.1):=zf hlr _ _ (zI zu 2 z00 l i 0 x hx (by omega))
          have hli':(i:Int)<l.length:=by omega
          have hst:Hid (zr nm (l.drop i) i=if x.1.toList==nm.toList then(i:Int) else zr nm (l.drop (i+1)) (i+1)):=z8 (by
           obtain⟨hl,hx'⟩:=zeI.1 hx
           rw [zeO hl,hx']
           rfl)
          clear hlr hx
          cases hq:(x.1.toList==nm.toList)
          ·go_wp2_with fail
           have hk:=HKI.out
           go_roundg (l.length - i)
           case measure=>omega
           case rel=>exact⟨i+1,by omega,by omega,by go_num,rfl,z8 (by rw [←hfi.out,hst.out,hq];rfl)⟩
          ·have hbad:Hid ((raM s).2=true):=z8 (by
            rw [hra.out,←HNX.out]
            refine z4S ?_
            rw [HV.out.1]
            simp only
            rw [←hfi.out,hst.out,hq]
            simp)
           go_wp2_with fail
           go_ret2
           exact⟨none,0,0,by rw [hbad.out];rfl,HK3.out.2,fun e=>by rw [hbad.out] at e;cases e⟩
         ·have hli': ¬(i:Int)<l.length:=by omega
          have hdup:Hid ((zr nm l 0 != -1)=false):=z8 (by rw [←hfi.out,zeN (by omega)];rfl)
          have HNXT:=z8 (z5c (s:=s) (n:=n) (p:=p) (f:=fr) (l:=l) (by rw [HV.out.1];exact HV.out.2) hfr.1 (by rw [HEND.out];omega) (by rw [HV.out.1];exact hdup.out))
          rw [HEND.out,HV.out.1] at HNXT
          simp only at HNXT
          have hlen9:l.length≤700:=by have:=hlkk.out;omega
          go_wp2_with (at_builtin;go_must (refine wpList_append_lies _ rfl (.tmp 80) (.tmp 90) 98 rfl (w.heap.size+1) 144 i0 _ 2 32 Tryz.underlying98 hi hz0' hz1 hz2 rfl (by omega) _ l.length _ rfl (HK3.out.1.alloc _) ⟨wr.heap.size,0,none⟩ 1 1 (zu (nm,s.extract fr k)) rfl rfl ?news ?one (by omega) ?mm ?bys ?base (wr.heap.size+1) (by simp) ?rest))
          case news=>exact fun j u h=>h
          case one=>intro u hu;simp [zu] at hu;rcases hu with rfl|rfl<;>rfl
          case mm=>unfold maxLen;omega
          case bys=>omega
          case base=>first|omega|(simp<;>omega)
          case rest=>
           intro gc cap8 w8 hown8 hgrow hat8 hlt8
           obtain⟨hO3,hB3⟩:=HK3.out
           clear HK3
           have hr8:Rd w8 w.heap.size s k false:=hk'.other ((hgrow.block _ (by first|omega|(simp<;>omega)) (fun e=>by have:=(hO3.lt _ e.symm).1;omega)).trans (zeM _ _ _ hz3))
           have hB8:=z8 (Below.grown (hB3.alloc hB3.size _) hgrow (by first|omega|(simp<;>omega)) fun q e=>by have:=(hO3.lt q e).1;omega)
           have hz8:w.heap.size<w8.heap.size:=by have:=hgrow.size;first|omega|(simp at this;omega)
           have hown9:Hid (w8.ownsRow (w.heap.size+1) 144 2 (.slice (some ⟨gc,0,none⟩) (l++[(nm,s.extract fr k)]).length cap8) (l++[(nm,s.extract fr k)]).length (((l++[(nm,s.extract fr k)]).map zu).flatten)):=z8 (by simpa using hown8)
           have HR8:=z8 hr8
           clear hown8 hgrow hat8 hO3 hB3 c0 c1 c2 f1 f2
           obtain⟨c0,c1,c2,f1,f2,_,_⟩:=hr8
           have hks':k=s.size:=by omega
           go_wp2_with fail
           have h1:=hgk.out
           have h2:=hlkk.out
           have h3:=hkpk.out
           have h4:=HFP.out
           have h5:=HGK0.out
           go_roundg (gk0 - 1)
           case measure=>omega
           case rel=>exact⟨k,false,false,l++[(nm,s.extract fr k)],some ⟨gc,0,none⟩,cap8,n,by simp,by simp [hlt'],hown9,hB8,hz8,HR8,by simp;omega,by omega,by omega,z8 (.inr (.inr ⟨rfl,rfl,by
            rw [←HNX.out,HNXT.out,z5l (by rw [hks',z4x];rfl)]
            simp [okP,z1n,hlt]⟩))⟩
def KOk (x:Wt):Prop:=x.kind=0∨x.kind=1∨x.kind=2∨x.kind=3
theorem z3g {c:Prop} [Decidable c]{a b:Wt}(ha:KOk a)(hb:KOk b):KOk (if c then a else b):=by
 split
 ·exact ha
 ·exact hb
theorem zcJ:KOk z0K:= .inl rfl
theorem zcy (b:Bool):KOk (z0u b):= .inr (.inl rfl)
theorem zeb (t:zeV):KOk (z4A t):= .inr (.inr (.inr rfl))
theorem zbV (n:Int):KOk (jU n):=z3g zcJ (.inr (.inr (.inl rfl)))
theorem kNs (t:zeV):KOk (nsM t):=z3g zcJ (zbV _)
theorem zdR (t:zeV)(a b:Int):KOk (ju t a b):=z3g (zbV _) (z3g (zbV _) (z3g (zbV _) (z3g zcJ (z3g (zbV _) (zbV _)))))
theorem kOf (l:List (zeV×zeV))(x:Ex){a b:Wt}(ha:KOk a)(hb:KOk b):KOk (wOf l x a b):=
 z3g (kNs _) (z3g (zeb _) (z3g (zcy _) (z3g (zeb _) (z3g (kNs _) (z3g (z3g ha (z3g (zcy _) (zbV _))) (z3g (z3g ha (z3g (z3g ha hb) (z3g (z3g ha hb) (z3g hb (z3g (zdR _ _ _) (z3g (zeb _) (zcy _))))))) (z3g ha zcJ)))))))
theorem z99 (l:List (zeV×zeV)): ∀(xs:List Ex) (ws:List Wt),(∀y∈ws,KOk y)→ ∀y∈ze l xs ws,KOk y:=by
 intro xs
 induction xs with
 |nil=>intro ws h;exact h
 |cons x xs ih=>
  intro ws h
  have hat: ∀i,KOk (wAt ws i):=fun i=>by
   rcases z26 ws i with q|q
   ·rw [q];exact zcJ
   ·exact h _ q
  refine ih _ fun y hy=> ?_
  rcases List.mem_append.1 hy with q|q
  ·exact h y q
  ·simp at q;subst q;exact kOf l x (hat _) (hat _)
theorem z6S (s a:zeV)(w:World)(hs:s.size≤maxLen)(ha:a.size≤maxLen)(h:600<s.size∨100<a.size):Calls Tryz.prog 30 #[.string s,.string a] w fun e w'=>jF ⟨#[]⟩ 1 w e w':=by
 unfold maxLen at hs ha
 by_cases h1:600<s.size
 ·have h1':(600:Int)<s.size:=by omega
  go_enter Tryz.func30,Tryz.ntmps30
  go_wp2_with fail
  go_ret2
  exact⟨rfl,zeU _ _⟩
 ·have h1': ¬(600:Int)<s.size:=by omega
  have h2':(100:Int)<a.size:=by omega
  go_enter Tryz.func30,Tryz.ntmps30
  go_wp2_with fail
  go_ret2
  exact⟨rfl,zeU _ _⟩
theorem z34 (s a:zeV)(n:Nat)(r:Int)(st:St)(w:World)(hM:M s n 0 0 (st1 s)=some (r,st))(hs:s.size≤600)(ha:a.size≤100)(hlen:st.E.length≤100000)(hg:jh st.E)
  (hll:(raM a).1.length≤100000) (hls: ∀p∈(raM a).1,p.2.size≤600) (hE: ∀x∈st.E,x.text.size≤600) (hW:st.bad=false→ ∀x∈ze (raM a).1 st.E [],x.text.size≤100000000∧ -999999999≤x.num∧x.num≤999999999):
  Calls Tryz.prog 30 #[.string s,.string a] w fun e w'=>jF (woM s a r st).1 (woM s a r st).2 w e w':=by
 have hrd0:=z7B hs (heap_alloc_new w (.cells #[.string s,.int .i64 0,.bool false] 94))
 have hB0:=(zeU w.heap.size w).alloc (zeK _) (.cells #[.string s,.int .i64 0,.bool false] 94)
 have hz0:(w.alloc (.cells #[.string s,.int .i64 0,.bool false] 94)).heap.size=w.heap.size+1:=by simp
 have H0:=z8 (zeL hrd0 (zeL hB0 hz0))
 have HM:=z8 hM
 have HW:=z8 (zeL hg (zeL hE hW))
 have hs': ¬(600:Int)<s.size:=by omega
 have ha': ¬(100:Int)<a.size:=by omega
 clear hrd0 hB0 hz0 hM hg hE hW
 go_enter Tryz.func30,Tryz.ntmps30
 go_wp2_with fail
 obtain⟨hrd0,hB0,hz0⟩:=H0.out
 clear H0
 generalize (w.alloc (.cells #[.string s,.int .i64 0,.bool false] 94))=W0 at*
 refine((z9N s n).1 w.heap.size (st1 s) W0 0 r st HM.out hrd0 rfl).mono ?_
 rintro e w1 ⟨ao,p',rfl,hr1,hf1,hsk,htree⟩
 have hB1:Below w.heap.size w w1:=⟨hf1.os.trans hB0.os,hf1.tape.trans hB0.tape,hf1.output.trans hB0.output,by have:=hf1.size;omega,fun k hk=>(hf1.block k (by omega) (by omega)).trans (hB0.block k hk)⟩
 have htree':st.bad=false→ ∃(f i:Nat),r=(i:Int)∧i+1=st.E.length∧RefEX (Out w.heap.size W0.heap.size) w1 st.E f (.pointer ao) 0 i:=fun h=>by
  obtain⟨f,i,e1,e2,e3⟩:=htree h
  exact⟨f,i,e1,e2,e3.x⟩
 have HT:=z8 htree'
 have HSK:=z8 hsk
 have HB1:=z8 hB1
 have hz1:w.heap.size<w1.heap.size:=by have:=hf1.size;omega
 clear htree htree' hsk hf1 hB0 hB1
 go_wp2_with fail
 refine(zF _ _ _ _ _ hr1).mono ?_
 rintro e w2 ⟨rfl,hr2,hs2⟩
 rw [HSK.out] at hr2
 have hB2:Below w.heap.size w w2:=⟨hs2.os.trans HB1.out.os,hs2.tape.trans HB1.out.tape,hs2.output.trans HB1.out.output,by have:=hs2.size;have:=HB1.out.size;omega,fun k hk=>(hs2.block k (by omega)).trans (HB1.out.block k hk)⟩
 have hsame:z1v (Out w.heap.size W0.heap.size) w1 w2:=fun k hk hn=>hs2.block k fun e=>hn (.inl e)
 have hz2:w.heap.size<w2.heap.size:=by have:=hs2.size;omega
 have H2:=z8 (zeL hB2 hsame)
 obtain⟨c0,c1,c2,f1,f2,hle,_⟩:=hr2
 clear hB2 hsame hs2 hr1 HB1 HSK
 cases hbd:st.bad
 case true=>
  have hres:Hid (woM s a r st=(⟨#[]⟩,2)):=z8 (by unfold woM z1n;rw [hbd];rfl)
  rw [hbd] at c2
  go_wp2_with fail
  go_ret2
  have q:=H2.out.1
  exact⟨by rw [hres.out];rfl,q⟩
 rw [hbd] at c2
 by_cases hat:st.at_<s.size
 ·have hat':(st.at_:Int)<s.size:=by omega
  have hres:Hid (woM s a r st=(⟨#[]⟩,2)):=z8 (by unfold woM z1n;rw [hbd];simp [hat])
  go_wp2_with fail
  go_ret2
  have q:=H2.out.1
  exact⟨by rw [hres.out];rfl,q⟩
 have hat': ¬(st.at_:Int)<s.size:=by omega
 have heo:z1n s st.at_ st.bad=false:=by unfold z1n;rw [hbd];simp [hat]
 obtain⟨f,i,hri,hiE,htr⟩:=HT.out hbd
 have htr2:=htr.keepX H2.out.2
 have HTR:=z8 htr2
 have HRI:=z8 (zeL hri hiE)
 clear htr htr2 HT hri hiE
 go_wp2_with fail
 refine(z9R HW.out.1 f _ 0 i [] w2 HTR.out (Scan.nil _) rfl).mono ?_
 rintro e w3 ⟨hB3,c,pl,rfl,hQ⟩
 have hB23:=H2.out.1.trans (hB3.mono (by omega))
 have htr3:=HTR.out.keepX (zi hB3)
 have hz3:w.heap.size<w3.heap.size:=by have:=hB3.size;omega
 have hty:(0≤pl∧(tfM st.E [] != -1)=true)∨(¬0≤pl∧(tfM st.E [] != -1)=false):=by
  rcases hQ with⟨us,t,h1,h2,_,h3⟩|⟨_,h1,h2⟩
  ·refine .inr ⟨by omega,?_⟩
   rw [Scan.tf_end h1 (by rw [List.length_append,h2];exact HRI.out.2)]
   rfl
  ·refine .inl ⟨h1,?_⟩
   rw [h2.tf]
   simp;omega
 have H3:=z8 (zeL hB23 htr3)
 clear hQ hB3 hB23 htr3 H2 HTR
 rcases hty with⟨hp,htf⟩|⟨hp,htf⟩
 ·have hres:Hid (woM s a r st=(⟨#[]⟩,5)):=z8 (by unfold woM;rw [heo,htf];rfl)
  go_wp2_with fail
  go_ret2
  exact⟨by rw [hres.out];rfl,H3.out.1⟩
 have HR6:Hid ((raM a).2=true→woM s a r st=(⟨#[]⟩,6)):=z8 (fun h=>by unfold woM;rw [heo,htf,h];rfl)
 have HR0:Hid ((raM a).2=false→woM s a r st=(prM (wAt (ze (raM a).1 st.E []) r),0)):=z8 (fun h=>by unfold woM;rw [heo,htf,h];rfl)
 clear heo htf
 go_wp2_with fail
 refine(z0Y a w3 (by omega)).mono ?_
 rintro e w4 ⟨al,nl,kl,rfl,hB4,hl4⟩
 have hB24:=H3.out.1.trans (hB4.mono (by omega))
 have htr4:=H3.out.2.keepX (zi hB4)
 have hz4:w.heap.size<w4.heap.size:=by have:=hB4.size;omega
 cases hra:(raM a).2
 case true=>
  have hres:=z8 (HR6.out hra)
  have HB:=z8 hB24
  clear hB24 htr4 hB4 hl4
  go_wp2_with fail
  go_ret2
  exact⟨by rw [hres.out];rfl,HB.out⟩
 have hres:=z8 (HR0.out hra)
 have hlr:=hl4 hra
 have hw:=HW.out.2.2 hbd
 have HC:=z8 (z9i HW.out.1 (raM a).1 (.slice al nl kl) w3.heap.size hll hls HW.out.2.1 hw f _ 0 i w4 htr4 hlr)
 have hbnd:(wAt (ze (raM a).1 st.E []) (i:Int)).text.size≤100000000∧ -999999999≤(wAt (ze (raM a).1 st.E []) (i:Int)).num∧(wAt (ze (raM a).1 st.E []) (i:Int)).num≤999999999:=by
  rcases z26 (ze (raM a).1 st.E []) (i:Int) with q|q
  ·rw [q];decide
  ·exact hw _ q
 have hkk:KOk (wAt (ze (raM a).1 st.E []) (i:Int)):=by
  rcases z26 (ze (raM a).1 st.E []) (i:Int) with q|q
  ·rw [q];exact zcJ
  ·exact z99 _ _ [] (fun y h=>by cases h) _ q
 rw [HRI.out.1] at hres
 have HB:=z8 hB24
 generalize wAt (ze (raM a).1 st.E []) (i:Int)=O at*
 clear hB24 htr4 hB4 hl4 hw hlr HW HR6 HR0
 obtain⟨ok,ob,on,ot⟩:=O
 simp only at hbnd
 have hos:ot.size≤900000000:=by omega
 go_wp2_with fail
 refine HC.out.mono ?_
 rintro e w5 ⟨rfl,hB5⟩
 have hB6:=HB.out.trans (hB5.mono (by omega))
 have hz5:w.heap.size<w5.heap.size:=by have:=hB5.size;omega
 have HB6:=z8 hB6
 simp only at hkk ⊢
 clear hB5 hB6 HC
 rcases hkk with e|e|e|e
 ·subst e
  rw [show kc 0=101 from rfl]
  have hp:Hid (prM ⟨0,ob,on,ot⟩=⟨#[101,114,114,111,114]⟩):=z8 rfl
  have HB7:=z8 (HB6.out.alloc HB6.out.size (.cells #[.int .u8 101,.bool ob,.int .i64 on,.string ot] 102))
  go_wp2_with fail
  go_ret2
  exact⟨by rw [HRI.out.1,hres.out,hp.out];rfl,HB7.out⟩
 ·subst e
  rw [show kc 1=98 from rfl]
  cases ob
  ·have hp:Hid (prM ⟨1,false,on,ot⟩=⟨#[102,97,108,115,101]⟩):=z8 rfl
   have HB7:=z8 (HB6.out.alloc HB6.out.size (.cells #[.int .u8 98,.bool false,.int .i64 on,.string ot] 102))
   go_wp2_with fail
   go_ret2
   exact⟨by rw [HRI.out.1,hres.out,hp.out];rfl,HB7.out⟩
  ·have hp:Hid (prM ⟨1,true,on,ot⟩=⟨#[116,114,117,101]⟩):=z8 rfl
   have HB7:=z8 (HB6.out.alloc HB6.out.size (.cells #[.int .u8 98,.bool true,.int .i64 on,.string ot] 102))
   go_wp2_with fail
   go_ret2
   exact⟨by rw [HRI.out.1,hres.out,hp.out];rfl,HB7.out⟩
 ·subst e
  rw [show kc 2=110 from rfl]
  have hp:Hid (prM ⟨2,ob,on,ot⟩=⟨(Lib.itoa on).toArray⟩):=z8 rfl
  have hB7:=HB6.out.alloc HB6.out.size (.cells #[.int .u8 110,.bool ob,.int .i64 on,.string ot] 102)
  have HB7:=z8 hB7
  have HWr:=z8 (z6G on (w5.alloc (.cells #[.int .u8 110,.bool ob,.int .i64 on,.string ot] 102)) hbnd.2)
  generalize (⟨(Lib.itoa on).toArray⟩:zeV)=D at*
  clear hB7
  go_wp2_with fail
  refine HWr.out.mono ?_
  rintro e w6 ⟨rfl,hB8⟩
  have HB8:=z8 (HB7.out.trans (hB8.mono (by simp;omega)))
  clear hB8
  go_wp2_with fail
  go_ret2
  exact⟨by rw [HRI.out.1,hres.out,hp.out];rfl,HB8.out⟩
 ·subst e
  rw [show kc 3=115 from rfl]
  have hp:Hid (prM ⟨3,ob,on,ot⟩=(⟨#[34]⟩++ot)++⟨#[34]⟩):=z8 rfl
  have HB7:=z8 (HB6.out.alloc HB6.out.size (.cells #[.int .u8 115,.bool ob,.int .i64 on,.string ot] 102))
  go_wp2_with fail
  go_ret2
  exact⟨by rw [HRI.out.1,hres.out,hp.out];rfl,HB7.out⟩
theorem z5z (s:zeV)(a:Nat)(d:Bool)(h:s.size≤600):(je s a d).2.2.2.size≤600:=by
 unfold je
 simp only
 rw [ByteArray.size_extract]
 omega
theorem za1 (s:zeV)(h:s.size≤600): ∀n a d l,(∀p∈l,p.2.size≤600)→ ∀p∈(paM s n a d l).2.2,p.2.size≤600:=by
 intro n
 induction n with
 |zero=>intro a d l hl;exact hl
 |succ n ih=>
  intro a d l hl
  unfold paM
  split
  ·refine ih _ _ _ fun p hp=> ?_
   rcases List.mem_append.1 hp with q|q
   ·exact hl p q
   ·simp at q;subst q;exact z5z s _ _ h
  ·exact hl
theorem zc5 (s:zeV): ∀n a d l,(paM s n a d l).2.2.length≤l.length+n:=by
 intro n
 induction n with
 |zero=>intro a d l;exact zeK _
 |succ n ih=>
  intro a d l
  unfold paM
  split
  ·have:=ih (je s (a+1) d).1 ((je s (a+1) d).2.1||(zr (je s (a+1) d).2.2.1 l 0 != -1)) (l++[((je s (a+1) d).2.2.1,(je s (a+1) d).2.2.2)])
   simp only [List.length_append,List.length_cons,List.length_nil] at this
   simp only
   omega
  ·show l.length≤_;omega
theorem z1r (s:zeV)(h:s.size≤600):(∀p∈(raM s).1,p.2.size≤600)∧(raM s).1.length≤100000:=by
 unfold raM
 split
 ·exact⟨fun p hp=>(by cases hp),by simp⟩
 ·simp only
  refine⟨za1 s h _ _ _ _ fun p hp=> ?_,?_⟩
  ·simp at hp;subst hp;exact z5z s _ _ h
  ·have:=zc5 s (s.size+1) (je s 0 false).1 (je s 0 false).2.1 [((je s 0 false).2.2.1,(je s 0 false).2.2.2)]
   simp at this
   omega
theorem zav:jh []:=fun x h=>by cases h
theorem zaR (s a:zeV)(hs:s.size≤600)(ha:a.size≤600): ∃n r st,M s n 0 0 (st1 s)=some (r,st)∧st.E.length≤100000∧jh st.E∧(∀x∈st.E,x.text.size≤600)∧
  (st.bad=false→ ∀x∈ze (raM a).1 st.E [],x.text.size≤100000000∧ -999999999≤x.num∧x.num≤999999999):=by
 have hsk:=z3U (s:=s) (a:=0) (d:=false) (zeR _)
 obtain⟨⟨r,st⟩,hM,hq⟩:=z8M s (z0s 0+20*(s.size -(st1 s).at_)) 0 0 (st1 s) (.inl (by omega)) ⟨hsk.2,by show(0:Nat)+2*(s.size - _)+_<100000;simp only [if_pos (show(0:Nat)≤7 by omega)];omega⟩ (zeK _)
 have hlen:st.E.length≤100000:=by
  have h1:=hq.grow
  have h2:(st1 s).E.length=0:=rfl
  rw [h2] at h1
  simp only [if_pos (show(0:Nat)≤7 by omega)] at h1
  omega
 have hsz:Sz st:=zeq s hs _ _ _ _ _ hM ⟨fun x h=>(by cases h),fun x h=>(by cases h),fun x h=>(by cases h),fun x h=>(by cases h)⟩
 have hgd:jh st.E:=zbR s _ _ _ _ _ hM zav
 refine⟨_,r,st,hM,hlen,hgd,hsz.1,fun hbad=> ?_⟩
 obtain⟨w,hw⟩: ∃w:World,w=World.holding Tryz.prog default ⟨#[],#[],[]⟩:=⟨_,rfl⟩
 have hrd:=z7B hs (heap_alloc_new w (.cells #[.string s,.int .i64 0,.bool false] 94))
 obtain⟨e,w',fr,⟨ao,p',_,_,_,_,htree⟩,_⟩:=(z9N s _).1 w.heap.size (st1 s) _ 0 r st hM hrd rfl []
 obtain⟨f,i,_,hi,ht⟩:=htree hbad
 have hrng:=ht.x.rng
 have hra:=z1r a ha
 refine z2W (raM a).1 hra.1 hsz.1 hlen fun p hp=> ?_
 obtain⟨f',a',hr⟩:=hrng.sub p (zeR _) (by omega)
 have:=hr.size (raM a).1 hra.1 hsz.1
 omega
theorem z8d (s a:zeV)(hs:s.size≤maxLen)(ha:a.size≤maxLen): ∃(t:zeV) (k:Int),(∀w,Tab w→Calls Tryz.prog 21 #[.string s,.string a] w fun e w'=>jF t k w e w')∧(∀w,Calls Tryz.prog 30 #[.string s,.string a] w fun e w'=>jF t k w e w'):=by
 by_cases h:s.size≤600∧a.size≤100
 ·obtain⟨n,r,st,hM,hlen,hg,hE,hW⟩:=zaR s a h.1 (by omega)
  have hra:=z1r a (by omega)
  cases hb:st.bad with
  |false=>exact⟨_,_,fun w ht=>z70 s a n r st w hM h.1 h.2 hlen hra.2 hra.1 hE (hW hb) ht,fun w=>z34 s a n r st w hM h.1 h.2 hlen hg hra.2 hra.1 hE hW⟩
  |true=>
   refine⟨_,_,fun w ht=>z9O s a n r st w hM h.1 h.2 hb,fun w=> ?_⟩
   have q:=z34 s a n r st w hM h.1 h.2 hlen hg hra.2 hra.1 hE hW
   rw [show woM s a r st=(⟨#[]⟩,2) by unfold woM z1n;rw [hb];rfl] at q
   exact q
 ·have h':600<s.size∨100<a.size:=by omega
  exact⟨_,_,fun w _=>z7Y s a w hs ha h',fun w=>z6S s a w hs ha h'⟩
theorem z6w (n:Int)(S A V Q:zeV)(hS:S.size≤maxLen)(hA:A.size≤maxLen)(w:World)(ht:Tab w):
  Calls Tryz.prog 18 #[.agg #[.int .i64 3,.int .i64 n,.string S,.string A,.string V,.string Q]] w fun e w'=>e= .returned (.bool true)∧Below w.heap.size w w':=by
 obtain⟨t,k,h7,h8⟩:=z8d S A hS hA
 have H:=z8 (zeL h7 h8)
 clear h7 h8 hS hA
 have hB0:Below w.heap.size w (w.alloc (.cells #[.int .i64 3,.int .i64 n,.string S,.string A,.string V,.string Q] 27)):=(zeU _ _).alloc (zeK _) _
 have hg0:=heap_alloc_new w (.cells #[.int .i64 3,.int .i64 n,.string S,.string A,.string V,.string Q] 27)
 have hz0:w.heap.size<(w.alloc (.cells #[.int .i64 3,.int .i64 n,.string S,.string A,.string V,.string Q] 27)).heap.size:=by simp
 have H0:=z8 (zeL hB0 (zeL hg0 hz0))
 clear hB0 hg0 hz0
 go_enter Tryz.func18,Tryz.ntmps18
 go_wp2_with fail
 obtain⟨hB0,hg0,hz0⟩:=H0.out
 clear H0
 generalize (w.alloc (.cells #[.int .i64 3,.int .i64 n,.string S,.string A,.string V,.string Q] 27))=W0 at*
 refine(H.out.1 W0 (ht.below hB0)).mono ?_
 rintro e w1 ⟨rfl,hB1⟩
 have hg1:=(hB1.block _ hz0).trans hg0
 have hB01:=hB0.trans (hB1.mono (Nat.le_of_lt hz0))
 obtain⟨y0,y1,y2,y3,y4,y5⟩:=z88 hg1
 have HB1:=z8 hB01
 have hz1:w.heap.size≤w1.heap.size:=hB01.size
 clear hB1 hB01 hg1 hg0 hB0 hz0
 go_wp2_with fail
 refine(H.out.2 w1).mono ?_
 rintro e w2 ⟨rfl,hB2⟩
 have HB2:=z8 (HB1.out.trans (hB2.mono hz1))
 clear hB2
 go_wp2_with (go_at_call 23;refine(z2N _ _).mono ?_;rintro e w3 ⟨rfl,rfl⟩)
 go_ret
 exact⟨by simp,HB2.out⟩
def plM (nm:zeV):List zeV→Nat→Int
 |[],_=> -1
 |x::xs,i=>if x.toList==nm.toList then(i:Int) else plM nm xs (i+1)
theorem z2n (nm:zeV): ∀(l:List zeV) (i:Nat),plM nm l i= -1∨((i:Int)≤plM nm l i∧plM nm l i<(i+l.length:Nat)):=by
 intro l
 induction l with
 |nil=>intro i;exact .inl rfl
 |cons x xs ih=>
  intro i
  unfold plM
  split
  ·exact .inr ⟨by omega,by simp;omega⟩
  ·rcases ih (i+1) with h|⟨h1,h2⟩
   ·exact .inl h
   ·exact .inr ⟨by omega,by simp at*;omega⟩
theorem jZ (base:Nat)(l:List zeV)(v:Value)(nm:zeV)(w:World)(h:w.ownsRow base 9 1 v l.length (l.map Value.string))(hlen:l.length≤100000):
  Calls Tryz.prog 66 #[v,.string nm] w fun e w'=>e= .returned (.int .i64 (plM nm l 0))∧w'=w:=by
 obtain⟨a0,c0,rfl⟩:=za h
 have HW:=z8 h
 clear h
 go_enter Tryz.func66,Tryz.ntmps66
 go_wp2_with fail
 go_loopg [5] (l.length+1) (fun k iv wr=> ∃(i:Nat),k+i=l.length+1∧i≤l.length∧iv= .int .i64 i∧wr=w∧Hid (plM nm (l.drop i) i=plM nm l 0))
 case atStart=>exact⟨0,rfl,zeR _,rfl,rfl,rfl⟩
 case round=>
  obtain⟨i,hk,hiE,rfl,rfl,hfin⟩:=hrel
  have hHK:=z8 hk
  clear hk
  by_cases hlt:i<l.length
  ·obtain⟨g,cap,hv,hb,hg⟩:=HW.out.form (by omega)
   injection hv with e1 e2 e3
   subst e1 e3
   obtain⟨x,hx⟩: ∃x,l[i]?=some x:=⟨l[i],zeH hlt⟩
   have q0:wr.cell? ⟨g,i,none⟩=some (.string x):=zf HW.out _ _ (by simp [hx])
   have hlt':(i:Int)<l.length:=by omega
   have hst:Hid (plM nm (l.drop i) i=if x.toList==nm.toList then(i:Int) else plM nm (l.drop (i+1)) (i+1)):=z8 (by
    obtain⟨hl,hx'⟩:=zeI.1 hx
    rw [zeO hl,hx']
    rfl)
   clear hx
   cases hq:(x.toList==nm.toList)
   ·go_wp2_with fail
    have hk:=hHK.out
    go_roundg (l.length - i)
    case measure=>omega
    case rel=>exact⟨i+1,by omega,by omega,by go_num,rfl,z8 (by rw [←hfin.out,hst.out,hq];rfl)⟩
   ·go_wp2_with fail
    go_ret
    exact⟨by rw [←hfin.out,hst.out,hq];simp,rfl⟩
  ·have hlt': ¬(i:Int)<l.length:=by omega
   go_wp2_with fail
   go_ret
   exact⟨by rw [←hfin.out,zeN (by omega)];simp [plM],rfl⟩
theorem z2E (base:Nat)(l:List zeV)(v:Value)(nm:zeV)(w:World)(h:w.ownsRow base 9 1 v l.length (l.map Value.string))(hlen:l.length≤100000):
  Calls Tryz.prog 103 #[v,.string nm] w fun e w'=>e= .returned (.int .i64 (plM nm l 0))∧w'=w:=by
 obtain⟨a0,c0,rfl⟩:=za h
 have HW:=z8 h
 clear h
 go_enter Tryz.func103,Tryz.ntmps103
 go_wp2_with fail
 go_loopg [5] (l.length+1) (fun k iv wr=> ∃(i:Nat),k+i=l.length+1∧i≤l.length∧iv= .int .i64 i∧wr=w∧Hid (plM nm (l.drop i) i=plM nm l 0))
 case atStart=>exact⟨0,rfl,zeR _,rfl,rfl,rfl⟩
 case round=>
  obtain⟨i,hk,hiE,rfl,rfl,hfin⟩:=hrel
  have hHK:=z8 hk
  clear hk
  by_cases hlt:i<l.length
  ·obtain⟨g,cap,hv,hb,hg⟩:=HW.out.form (by omega)
   injection hv with e1 e2 e3
   subst e1 e3
   obtain⟨x,hx⟩: ∃x,l[i]?=some x:=⟨l[i],zeH hlt⟩
   have q0:wr.cell? ⟨g,i,none⟩=some (.string x):=zf HW.out _ _ (by simp [hx])
   have hlt':(i:Int)<l.length:=by omega
   have hst:Hid (plM nm (l.drop i) i=if x.toList==nm.toList then(i:Int) else plM nm (l.drop (i+1)) (i+1)):=z8 (by
    obtain⟨hl,hx'⟩:=zeI.1 hx
    rw [zeO hl,hx']
    rfl)
   clear hx
   cases hq:(x.toList==nm.toList)
   ·go_wp2_with fail
    have hk:=hHK.out
    go_roundg (l.length - i)
    case measure=>omega
    case rel=>exact⟨i+1,by omega,by omega,by go_num,rfl,z8 (by rw [←hfin.out,hst.out,hq];rfl)⟩
   ·go_wp2_with fail
    go_ret
    exact⟨by rw [←hfin.out,hst.out,hq];simp,rfl⟩
  ·have hlt': ¬(i:Int)<l.length:=by omega
   go_wp2_with fail
   go_ret
   exact⟨by rw [←hfin.out,zeN (by omega)];simp [plM],rfl⟩
theorem ji (base:Nat)(ts:List Int)(v:Value)(i:Int)(w:World)(h:w.ownsRow base 3 1 v ts.length (ts.map (Value.int .i64)))(hlen:ts.length≤100000):
  Calls Tryz.prog 48 #[v,.int .i64 i] w fun e w'=>e= .returned (.int .i64 (zc ts i))∧w'=w:=by
 obtain⟨a0,c0,rfl⟩:=za h
 by_cases h0:i<0
 ·go_enter Tryz.func48,Tryz.ntmps48
  go_wp2_with fail
  go_ret
  exact⟨by simp [zc,h0],rfl⟩
 ·obtain⟨j,rfl⟩:=Int.eq_ofNat_of_zero_le (show 0≤i by omega)
  by_cases h1:j<ts.length
  ·obtain⟨g,cap,hv,hb,hg⟩:=h.form (by omega)
   have hc:=zf (hv▸h) j (.int .i64 (ts.getD j 0)) (by simp [h1,List.getD])
   injection hv with e1 e2 e3
   subst e1 e3
   have hfin:Hid (zc ts j=ts.getD j 0):=z8 (by unfold zc;rw [if_neg (by omega)];simp)
   generalize ts.getD j 0=z at*
   have h1':(j:Int)<ts.length:=by omega
   go_enter Tryz.func48,Tryz.ntmps48
   go_wp2_with fail
   go_ret
   exact⟨by rw [hfin.out];simp,rfl⟩
  ·have hfin:Hid (zc ts j=0):=z8 (by unfold zc;rw [if_neg (by omega)];simp [List.getElem?_eq_none (Nat.le_of_not_lt h1)])
   have h1': ¬(j:Int)<ts.length:=by omega
   go_enter Tryz.func48,Tryz.ntmps48
   go_wp2_with fail
   go_ret
   exact⟨by rw [hfin.out];simp,rfl⟩
theorem zaf (xk:Int)(xb:Bool)(xn:Int)(xt:zeV)(w:World):Calls Tryz.prog 133 #[.agg #[.int .i64 xk,.bool xb,.int .i64 xn,.string xt]] w fun e w'=>e= .returned (.bool (xk==1&&xb))∧Below w.heap.size w w':=by
 have hB:=z8 fun o:Obj=>(zeU w.heap.size w).alloc (zeK _) o
 cases h:(xk==1)
 ·go_enter Tryz.func133,Tryz.ntmps133
  go_wp2_with fail
  go_ret
  exact⟨rfl,hB.out _⟩
 ·go_enter Tryz.func133,Tryz.ntmps133
  go_wp2_with fail
  go_ret
  exact⟨rfl,hB.out _⟩
def nmM (s:zeV):Nat→Nat→Bool→List zeV→Nat×Bool×List zeV
 |0,a,d,l=>(a,d,l)
 |n+1,a,d,l=>if pk s a d==44 then
   let v:=zo s (a+1) d
   nmM s n v.1 v.2.1 (l++[v.2.2])
  else(a,d,l)
def rnM (s:zeV):List zeV×Bool:=
 let v:=zo s 0 false
 let p:=nmM s (s.size+1) v.1 v.2.1 [v.2.2]
 (p.2.2,z1n s p.1 p.2.1)
def zd3 (s:zeV)(w:World)(e:Ending)(w':World):Prop:= ∃v,e= .returned (.tuple #[v,.bool (rnM s).2])∧w'.ownsRow w.heap.size 9 1 v (rnM s).1.length ((rnM s).1.map Value.string)∧Below w.heap.size w w'
theorem zcj {s:zeV}{a:Nat}{d:Bool}(h:a≤s.size):a≤(zo s a d).1:=(z3p (p:=zp) (by decide) h).1
theorem z2l (s:zeV)(w:World)(hs:s.size≤600):Calls Tryz.prog 107 #[.string s] w fun e w'=>zd3 s w e w':=by
 have hM0:=World.ownsRow_made (base:=w.heap.size) (e:=9) (size:=1) (w.alloc (.cells #[.string s,.int .i64 0,.bool false,.slice none 0 0,.slice none 0 0,.slice none 0 0,.slice none 0 0] 66)) #[] 0 (by simp) (by decide) (by simp)
 rw [show(w.alloc (.cells #[.string s,.int .i64 0,.bool false,.slice none 0 0,.slice none 0 0,.slice none 0 0,.slice none 0 0] 66)).heap.size=w.heap.size+1 by simp] at hM0
 have hg0:((w.alloc (.cells #[.string s,.int .i64 0,.bool false,.slice none 0 0,.slice none 0 0,.slice none 0 0,.slice none 0 0] 66)).alloc (.cells #[] 9)).heap[w.heap.size]?=some (.cells #[.string s,.int .i64 0,.bool false,.slice none 0 0,.slice none 0 0,.slice none 0 0,.slice none 0 0] 66):=(zeM _ _ _ (by simp)).trans (heap_alloc_new w _)
 have hrd0:=zbu hs hg0
 have hB0:Below w.heap.size w ((w.alloc (.cells #[.string s,.int .i64 0,.bool false,.slice none 0 0,.slice none 0 0,.slice none 0 0,.slice none 0 0] 66)).alloc (.cells #[] 9)):=((zeU w.heap.size w).alloc (zeK _) _).alloc (by simp) _
 have hz0:((w.alloc (.cells #[.string s,.int .i64 0,.bool false,.slice none 0 0,.slice none 0 0,.slice none 0 0,.slice none 0 0] 66)).alloc (.cells #[] 9)).heap.size=w.heap.size+2:=by simp
 have H0:=z8 (zeL hrd0 (zeL hB0 (zeL hM0 hz0)))
 clear hrd0 hB0 hM0 hz0 hg0
 go_enter Tryz.func107,Tryz.ntmps107
 go_wp2_with fail
 obtain⟨hrd0,hB0,hM1,hz0⟩:=H0.out
 clear H0
 generalize ((w.alloc (.cells #[.string s,.int .i64 0,.bool false,.slice none 0 0,.slice none 0 0,.slice none 0 0,.slice none 0 0] 66)).alloc (.cells #[] 9))=W0' at*
 refine(z1y _ _ _ _ _ hrd0).mono ?_
 rintro e w1 ⟨rfl,hr1,hs1⟩
 have hra:Hid (rnM s=((nmM s (s.size+1) (zo s 0 false).1 (zo s 0 false).2.1 [(zo s 0 false).2.2]).2.2,z1n s (nmM s (s.size+1) (zo s 0 false).1 (zo s 0 false).2.1 [(zo s 0 false).2.2]).1 (nmM s (s.size+1) (zo s 0 false).1 (zo s 0 false).2.1 [(zo s 0 false).2.2]).2.1)):=z8 rfl
 generalize zo s 0 false=v0 at*
 obtain⟨a1,d1,nm1⟩:=v0
 simp only at*
 generalize hP0:nmM s (s.size+1) a1 d1 [nm1]=P0 at*
 have HP0:=z8 hP0
 clear hP0
 obtain⟨i0,hi,hz0',hz1,hz2⟩:=info_parts info9
 have hBw:w1.heap.size=w.heap.size+2:=by have:=hs1.size;omega
 have hM2:w1.ownsRow w.heap.size 9 1 (.slice (some ⟨w.heap.size+1,0,none⟩) 0 0) 0 []:=zb hM1 fun k e=>hs1.block k (by simp [Value.ownBlock] at e;omega)
 have hB1:Below w.heap.size w w1:=⟨hs1.os.trans hB0.os,hs1.tape.trans hB0.tape,hs1.output.trans hB0.output,by omega,fun k hk=>(hs1.block k (by omega)).trans (hB0.block k hk)⟩
 have H1:=z8 (zeL hr1 (zeL hM2 (zeL hB1 hBw)))
 have hBw':w.heap.size+2≤w1.heap.size:=by omega
 clear hr1 hM2 hB1 hM1 hB0 hrd0 hs1 hBw hz0
 go_wp2_with (at_builtin;go_must (refine wpList_append_lies _ rfl (.tmp 11) (.tmp 13) 56 rfl w.heap.size 9 i0 _ 1 16 Tryz.underlying56 hi hz0' hz1 hz2 rfl (by omega) _ 0 _ rfl (H1.out.2.1.alloc _) ⟨w1.heap.size,0,none⟩ 1 1 [.string nm1] rfl rfl ?news ?one (by omega) ?mm ?bys ?base (w1.heap.size+1) (by simp) ?rest))
 case news=>exact World.news_of_block (heap_alloc_new w1 _)
 case one=>intro u hu;simp at hu;subst hu;rfl
 case mm=>unfold maxLen;omega
 case bys=>omega
 case base=>simp;omega
 case rest=>
  intro gb cap w2 hown2 hgrow hat hlt2
  obtain⟨hr1,hM2,hB1,hBw⟩:=H1.out
  clear H1
  have hgb:gb≠w.heap.size:=by
   rcases hat with e|e
   ·simp [Value.ownBlock] at e;omega
   ·omega
  have hr2:Rd w2 w.heap.size s a1 d1:=hr1.other ((hgrow.block _ (by simp;omega) (fun e=>by simp [Value.ownBlock] at e)).trans (zeM _ _ _ (by omega)))
  have hB2:Below w.heap.size w w2:=Below.grown (hB1.alloc (by omega) _) hgrow (by simp;omega) fun k e=>by simp [Value.ownBlock] at e;omega
  have hz2':w.heap.size<w2.heap.size:=by have:=hgrow.size;simp at this;omega
  have ha1:=hr2.le
  have H2:=z8 (zeL hr2 (zeL hB2 hown2))
  clear hr2 hB2 hown2 hgrow hat hr1 hM2 hB1 hBw
  go_wp2_with fail
  go_loopg [5] (s.size+1) (fun k v wr=> ∃(a:Nat) (d:Bool) (l:List zeV) (g2 cap2:Nat),v= .slice (some ⟨g2,0,none⟩) l.length cap2∧g2≠w.heap.size∧s.size+1≤k+a∧k+l.length≤s.size+2∧w.heap.size<wr.heap.size∧Hid (Rd wr w.heap.size s a d)∧Hid (wr.ownsRow w.heap.size 9 1 (.slice (some ⟨g2,0,none⟩) l.length cap2) l.length (l.map Value.string))∧Hid (Below w.heap.size w wr)∧Hid (nmM s k a d l=P0))
  case atStart=>
   obtain⟨hr2,hB2,hown2⟩:=H2.out
   exact⟨a1,d1,[nm1],gb,cap,rfl,hgb,by omega,by simp,hz2',z8 hr2,z8 hown2,z8 hB2,HP0⟩
  case round=>
   clear H2
   obtain⟨a,d,l,g2,cap2,rfl,hn1,hka,hkl,hzr,HR,HO,HB,HPk⟩:=hrel
   have ha:=HR.out.le
   cases hb:(pk s a d==44)
   ·have hst:Hid ((a,d,l)=P0):=z8 (by
     rw [←HPk.out]
     cases gk with
     |zero=>rfl
     |succ k=>unfold nmM;rw [hb];rfl)
    go_wp2_with (go_at_call 78;refine(zm _ _ _ _ _ HR.out).mono ?_;rintro e w3 ⟨rfl,n3,rfl⟩)
    refine(z2H _ _ _ _ _ (HR.out.drewN n3)).mono ?_
    rintro e w4 ⟨rfl,hr4,hs4⟩
    have q2:=hr4.c2
    go_wp2_with fail
    go_quiet (fail)
    go_wp2_with fail
    go_ret2
    have hst':=hst.out
    subst hst'
    have hB4:Below w.heap.size w w4:=⟨hs4.os.trans HB.out.os,hs4.tape.trans HB.out.tape,hs4.output.trans HB.out.output,by have:=hs4.size;have:=HB.out.size;simp at*;omega,fun k hk=>(hs4.block k (by omega)).trans (HB.out.block k hk)⟩
    have hO4:w4.ownsRow w.heap.size 9 1 (.slice (some ⟨g2,0,none⟩) l.length cap2) l.length (l.map Value.string):=zb HO.out fun k e=>hs4.block k (by simp [Value.ownBlock] at e;omega)
    refine⟨.slice (some ⟨g2,0,none⟩) l.length cap2,by rw [hra.out];rfl,by rw [hra.out];exact zb hO4 fun k e=>rfl,?_⟩
    exact⟨hB4.os,hB4.tape,hB4.output,hB4.size,hB4.block⟩
   ·have hpk:pk s a d=44:=by simpa using hb
    have hlt:=(z06 (s:=s) (a:=a) (d:=d) (by omega)).2
    obtain⟨k,rfl⟩: ∃k,gk=k+1:=⟨gk - 1,by omega⟩
    have hst:Hid (nmM s k (zo s (a+1) d).1 (zo s (a+1) d).2.1 (l++[(zo s (a+1) d).2.2])=P0):=z8 (by
     rw [←HPk.out]
     conv=>rhs;unfold nmM
     rw [hb];rfl)
    have hW1:=z10 (s:=s) (d:=d) (c:=44) (a:=a) hpk
    have HW:=z8 (fun W h=>jX w.heap.size a s ⟨#[44]⟩ d W h (by decide))
    rw [show(ByteArray.mk #[44]).data.toList=[44] from rfl,hW1] at HW
    have HA:=z8 (fun W h=>z1y w.heap.size (a+1) s d W h)
    have HAM:=z8 (zcj (s:=s) (a:=a+1) (d:=d) (by omega))
    generalize zo s (a+1) d=v0 at*
    obtain⟨a5,d5,nm5⟩:=v0
    simp only at*
    clear hW1 hpk
    go_wp2_with (go_at_call 78;refine(zm _ _ _ _ _ HR.out).mono ?_;rintro e w3 ⟨rfl,n3,rfl⟩)
    refine(HW.out _ (HR.out.drewN n3)).mono ?_
    rintro e w4 ⟨rfl,hr4,hs4⟩
    go_wp2_with fail
    refine(HA.out _ hr4).mono ?_
    rintro e w5 ⟨rfl,hr5,hs5⟩
    have hz5:wr.heap.size=w5.heap.size:=by have:=hs4.size;have:=hs5.size;simp at*;omega
    have hold: ∀k,k≠w.heap.size→w5.heap[k]?=wr.heap[k]?:=fun k hn=>(hs5.block k hn).trans (hs4.block k hn)
    have hO5:w5.ownsRow w.heap.size 9 1 (.slice (some ⟨g2,0,none⟩) l.length cap2) l.length (l.map Value.string):=zb HO.out fun k e=>hold k (by simp [Value.ownBlock] at e;omega)
    have hB5:Below w.heap.size w w5:=⟨hs5.os.trans (hs4.os.trans HB.out.os),hs5.tape.trans (hs4.tape.trans HB.out.tape),hs5.output.trans (hs4.output.trans HB.out.output),by have:=HB.out.size;omega,fun k hk=>(hold k (by omega)).trans (HB.out.block k hk)⟩
    have hzz:a+1≤a5:=HAM.out
    have hz5':w.heap.size<w5.heap.size:=by omega
    have H7:=z8 (zeL hr5 (zeL hO5 hB5))
    clear hold hs5 hs4 hr4 hr5 hO5 hB5 hz5
    go_wp2_with (at_builtin;go_must (refine wpList_append_lies _ rfl (.tmp 19) (.tmp 21) 56 rfl w.heap.size 9 i0 _ 1 16 Tryz.underlying56 hi hz0' hz1 hz2 rfl (by omega) _ l.length _ rfl (H7.out.2.1.alloc _) ⟨w5.heap.size,0,none⟩ 1 1 [.string nm5] rfl rfl ?news ?one (by omega) ?mm ?bys ?base (w5.heap.size+1) (by simp) ?rest))
    case news=>exact World.news_of_block (heap_alloc_new w5 _)
    case one=>intro u hu;simp at hu;subst hu;rfl
    case mm=>unfold maxLen;omega
    case bys=>omega
    case base=>simp;omega
    case rest=>
     intro gc cap8 w8 hown8 hgrow hat hlt8
     obtain⟨hr7,hO7,hB7⟩:=H7.out
     clear H7
     have hgc:gc≠w.heap.size:=by
      rcases hat with e|e
      ·simp [Value.ownBlock] at e;omega
      ·omega
     have hr8:=z8 (hr7.other ((hgrow.block _ (by simp;omega) (fun e=>by simp [Value.ownBlock] at e;omega)).trans (zeM _ _ _ (by omega))))
     have hB8:=z8 (Below.grown (hB7.alloc hB7.size _) hgrow (by simp;have:=hB7.size;omega) fun k e=>by simp [Value.ownBlock] at e;have:=(hO7.lt g2 rfl).1;omega)
     have hz8:w.heap.size<w8.heap.size:=by have:=hgrow.size;simp at this;omega
     have ha8:=hr7.le
     have hown9:Hid (w8.ownsRow w.heap.size 9 1 (.slice (some ⟨gc,0,none⟩) (l++[nm5]).length cap8) (l++[nm5]).length ((l++[nm5]).map Value.string)):=z8 (by simpa using hown8)
     clear hown8 hgrow hat hr7 hO7 hB7
     go_wp2_with fail
     go_roundg k
     case measure=>omega
     case rel=>exact⟨a5,_,l++[nm5],gc,cap8,by simp,hgc,by omega,by simp;omega,hz8,hr8,hown9,hB8,hst⟩
def z6m (l:List zeV):Nat→Nat→Bool
 |0,_=>false
 |n+1,i=>(plM (l.getD i ⟨#[]⟩) l 0 !=(i:Int))||z6m l n (i+1)
def vlM (s:zeV):List zeV×Bool:=
 if(rnM s).2||decide ((rnM s).1.length<2)||decide (5<(rnM s).1.length)||z6m (rnM s).1 (rnM s).1.length 0 then([],true) else((rnM s).1,false)
def zd4 (s:zeV)(w:World)(e:Ending)(w':World):Prop:= ∃a n k,e= .returned (.tuple #[.slice a n k,.bool (vlM s).2])∧Below w.heap.size w w'∧((vlM s).2=false→w'.ownsRow w.heap.size 9 1 (.slice a n k) (vlM s).1.length ((vlM s).1.map Value.string))
theorem z4f (s:zeV)(w:World)(hs:s.size≤600):Calls Tryz.prog 62 #[.string s] w fun e w'=>zd4 s w e w':=by
 have HR:=z8 (z2l s w hs)
 have hv:Hid (vlM s=if(rnM s).2||decide ((rnM s).1.length<2)||decide (5<(rnM s).1.length)||z6m (rnM s).1 (rnM s).1.length 0 then([],true) else((rnM s).1,false)):=z8 rfl
 go_enter Tryz.func62,Tryz.ntmps62
 go_wp2_with fail
 refine HR.out.mono ?_
 rintro e w1 ⟨v,rfl,hO1,hB1⟩
 obtain⟨al,kl,rfl⟩:=za hO1
 clear HR
 generalize rnM s=P at*
 obtain⟨l,bd⟩:=P
 simp only at*
 have HO:=z8 hO1
 have HB:=z8 hB1
 have hz1:w.heap.size≤w1.heap.size:=hB1.size
 clear hO1
 have HBA:=z8 (hB1.alloc hz1 (.cells #[] 9))
 clear hB1
 have hlen:l.length≤1000000∨1000000<l.length:=by omega
 cases bd
 case true=>
  have hres:Hid (vlM s=([],true)):=z8 (by rw [hv.out];rfl)
  go_wp2_with fail
  go_ret2
  exact⟨_,_,_,by rw [hres.out];rfl,HBA.out,fun e=>by rw [hres.out] at e;cases e⟩
 by_cases h2:l.length<2
 ·have h2':(l.length:Int)<2:=by omega
  have hres:Hid (vlM s=([],true)):=z8 (by rw [hv.out];simp [h2])
  go_wp2_with fail
  go_ret2
  exact⟨_,_,_,by rw [hres.out];rfl,HBA.out,fun e=>by rw [hres.out] at e;cases e⟩
 by_cases h5:5<l.length
 ·have h2': ¬(l.length:Int)<2:=by omega
  have h5':(5:Int)<l.length:=by omega
  have hres:Hid (vlM s=([],true)):=z8 (by rw [hv.out];simp [h5])
  go_wp2_with fail
  go_ret2
  exact⟨_,_,_,by rw [hres.out];rfl,HBA.out,fun e=>by rw [hres.out] at e;cases e⟩
 have h2': ¬(l.length:Int)<2:=by omega
 have h5': ¬(5:Int)<l.length:=by omega
 have hv2:Hid (vlM s=if z6m l l.length 0 then([],true) else(l,false)):=z8 (by rw [hv.out];simp [h2,h5])
 clear hv hlen
 go_wp2_with fail
 go_loopg [6] (l.length+1) (fun k iv wr=> ∃(i:Nat),k+i=l.length+1∧i≤l.length∧iv= .int .i64 i∧wr=w1∧Hid (z6m l (l.length - i) i=z6m l l.length 0))
 case atStart=>exact⟨0,rfl,zeR _,rfl,rfl,rfl⟩
 case round=>
  obtain⟨i,hk,hil,rfl,rfl,hfin⟩:=hrel
  have hHK:=z8 hk
  clear hk
  by_cases hlt:i<l.length
  ·obtain⟨g,cap,hvv,hb,hg⟩:=HO.out.form (by omega)
   injection hvv with e1 e2 e3
   subst e1 e3
   obtain⟨x,hx⟩: ∃x,l[i]?=some x:=⟨l[i],zeH hlt⟩
   have q0:wr.cell? ⟨g,i,none⟩=some (.string x):=zf HO.out _ _ (by simp [hx])
   have hlt':(i:Int)<l.length:=by omega
   have hst:Hid (z6m l l.length 0=((plM x l 0 !=(i:Int))||z6m l (l.length -(i+1)) (i+1))):=z8 (by
    rw [←hfin.out,show l.length - i=(l.length -(i+1))+1 by omega]
    show((plM (l.getD i ⟨#[]⟩) l 0 !=(i:Int))||z6m l (l.length -(i+1)) (i+1))=_
    rw [show l.getD i ⟨#[]⟩=x by simp [List.getD,hx]])
   have HP:=z8 (jZ w.heap.size l _ x wr HO.out (by omega))
   clear hx
   cases hq:(plM x l 0 !=(i:Int))
   ·generalize plM x l 0=z at*
    go_wp2_with fail
    refine HP.out.mono ?_
    rintro e w2 ⟨rfl,rfl⟩
    go_wp2_with fail
    have hk:=hHK.out
    go_roundg (l.length - i)
    case measure=>omega
    case rel=>exact⟨i+1,by omega,by omega,by go_num,rfl,z8 (by rw [hst.out,hq];rfl)⟩
   ·have hres:Hid (vlM s=([],true)):=z8 (by rw [hv2.out,hst.out,hq];rfl)
    generalize plM x l 0=z at*
    go_wp2_with fail
    refine HP.out.mono ?_
    rintro e w2 ⟨rfl,rfl⟩
    go_wp2_with fail
    go_ret2
    exact⟨_,_,_,by rw [hres.out];rfl,HBA.out,fun e=>by rw [hres.out] at e;cases e⟩
  ·have hlt': ¬(i:Int)<l.length:=by omega
   have hres:Hid (vlM s=(l,false)):=z8 (by rw [hv2.out,←hfin.out,show l.length - i=0 by omega];rfl)
   go_wp2_with fail
   go_ret2
   exact⟨_,_,_,by rw [hres.out];rfl,HB.out,fun _=>by rw [hres.out];exact HO.out⟩
def pol:zeV:=⟨#[80,79,76,73,67,89]⟩
def rqM (s:zeV):List zeV×Bool:=
 if s.size=0 then([],false) else if(rnM s).2||decide (4<(rnM s).1.length)||(plM pol (rnM s).1 0 != -1) then([],true) else((rnM s).1,false)
def zcU (s:zeV)(w:World)(e:Ending)(w':World):Prop:= ∃a n k,e= .returned (.tuple #[.slice a n k,.bool (rqM s).2])∧Below w.heap.size w w'∧((rqM s).2=false→w'.ownsRow w.heap.size 9 1 (.slice a n k) (rqM s).1.length ((rqM s).1.map Value.string))
theorem z2O (s:zeV):(rqM s).1.length≤4:=by
 unfold rqM
 split
 ·exact zeR _
 ·split
  ·exact zeR _
  ·rename_i q
   simp only [Bool.or_eq_true,not_or,decide_eq_true_eq] at q
   show(rnM s).1.length≤4
   omega
theorem zcE:rqM ⟨#[]⟩=([],false):=rfl
theorem z69 (s:zeV)(w:World)(hs:s.size≤600):Calls Tryz.prog 63 #[.string s] w fun e w'=>zcU s w e w':=by
 by_cases h0:s.size=0
 ·have e0:s=⟨#[]⟩:=by
   cases s with
   |mk d=>have:d.size=0:=h0;simp [Array.size_eq_zero_iff.1 this]
  subst e0
  have hB:=z8 ((zeU w.heap.size w).alloc (zeK _) (.cells #[] 9))
  have hM:=z8 (World.ownsRow_made (base:=w.heap.size) (e:=9) (size:=1) w #[] 0 (zeK _) (by decide) (by simp))
  go_enter Tryz.func63,Tryz.ntmps63
  go_wp2_with fail
  go_ret2
  exact⟨_,_,_,rfl,hB.out,fun _=>hM.out⟩
 have hne:(s.toList==([]:List UInt8))=false:=by
  rw [zeJ]
  cases hq:(s.data.toList==([]:List UInt8)) with
  |false=>rfl
  |true=>simp at hq;exact absurd (show s.size=0 by simp [ByteArray.size,hq]) h0
 have hnl: ¬s.toList=[]:=by simpa using hne
 have HR:=z8 (z2l s w hs)
 have hv:Hid (rqM s=if(rnM s).2||decide (4<(rnM s).1.length)||(plM pol (rnM s).1 0 != -1) then([],true) else((rnM s).1,false)):=z8 (by unfold rqM;rw [if_neg h0])
 go_enter Tryz.func63,Tryz.ntmps63
 go_wp2_with fail
 refine HR.out.mono ?_
 rintro e w1 ⟨v,rfl,hO1,hB1⟩
 obtain⟨al,kl,rfl⟩:=za hO1
 clear HR
 generalize rnM s=P at*
 obtain⟨l,bd⟩:=P
 simp only at*
 have HO:=z8 hO1
 have HB:=z8 hB1
 have hz1:w.heap.size≤w1.heap.size:=hB1.size
 clear hO1
 have HBA:=z8 (hB1.alloc hz1 (.cells #[] 9))
 clear hB1
 cases bd
 case true=>
  have hres:Hid (rqM s=([],true)):=z8 (by rw [hv.out];rfl)
  go_wp2_with fail
  go_ret2
  exact⟨_,_,_,by rw [hres.out];rfl,HBA.out,fun e=>by rw [hres.out] at e;cases e⟩
 by_cases h5:4<l.length
 ·have h5':(4:Int)<l.length:=by omega
  have hres:Hid (rqM s=([],true)):=z8 (by rw [hv.out];simp [h5])
  go_wp2_with fail
  go_ret2
  exact⟨_,_,_,by rw [hres.out];rfl,HBA.out,fun e=>by rw [hres.out] at e;cases e⟩
 have h5': ¬(4:Int)<l.length:=by omega
 have hv2:Hid (rqM s=if plM pol l 0 != -1 then([],true) else(l,false)):=z8 (by rw [hv.out];simp [h5])
 have HP:=z8 (jZ _ l _ pol w1 HO.out (by omega))
 unfold pol at HP hv2
 clear hv
 generalize plM ⟨#[80,79,76,73,67,89]⟩ l 0=z at*
 go_wp2_with fail
 refine HP.out.mono ?_
 rintro e w2 ⟨rfl,rfl⟩
 cases hz:(z != -1)
 case true=>
  have hres:Hid (rqM s=([],true)):=z8 (by rw [hv2.out,hz];rfl)
  go_wp2_with fail
  go_ret2
  exact⟨_,_,_,by rw [hres.out];rfl,HBA.out,fun e=>by rw [hres.out] at e;cases e⟩
 case false=>
  have hres:Hid (rqM s=(l,false)):=z8 (by rw [hv2.out,hz];rfl)
  go_wp2_with fail
  go_ret2
  exact⟨_,_,_,by rw [hres.out];rfl,HB.out,fun _=>by rw [hres.out];exact HO.out⟩
def rlM (vals:List zeV)(levels:List Int)(c:Cl):Int:=if c.form==1 then plM c.result vals 0 else if c.form==2 then zc levels c.inner else(vals.length:Int)- 1
theorem z6T (gb n kv:Nat)(av:Option Addr)(w:World)(hg:w.cell? ⟨gb,6,none⟩=some (.slice av n kv))(hn:n≤100000):
  Calls Tryz.prog 67 #[.pointer (some ⟨gb,0,none⟩)] w fun e w'=>e= .returned (.int .i64 ((n:Int)- 1))∧w'=w:=by
 go_enter Tryz.func67,Tryz.ntmps67
 go_wp2_with fail
 go_ret
 exact⟨rfl,rfl⟩
theorem z5k (gb vb lb:Nat)(vals:List zeV)(av:Option Addr)(kv:Nat)(levels:List Int)(lv:Value)(ct cf:Int)(cr:zeV)(ci:Int)(w:World)(hg:w.cell? ⟨gb,6,none⟩=some (.slice av vals.length kv))(hv:w.ownsRow vb 9 1 (.slice av vals.length kv) vals.length (vals.map Value.string))(hvl:vals.length≤100000)
  (hl:w.ownsRow lb 3 1 lv levels.length (levels.map (Value.int .i64))) (hll:levels.length≤100000):
  Calls Tryz.prog 132 #[.pointer (some ⟨gb,0,none⟩),.agg #[.int .i64 ct,.int .i64 cf,.string cr,.int .i64 ci],lv] w fun e w'=>e= .returned (.int .i64 (rlM vals levels ⟨ct,cf,cr,ci⟩))∧Below w.heap.size w w':=by
 obtain⟨al,kl,rfl⟩:=za hl
 have hgl:=zd hg
 have hgn:gb≠w.heap.size:=by omega
 have hBA:=(zeU w.heap.size w).alloc (zeK _) (.cells #[.int .i64 ct,.int .i64 cf,.string cr,.int .i64 ci] 156)
 have hg':(w.alloc (.cells #[.int .i64 ct,.int .i64 cf,.string cr,.int .i64 ci] 156)).cell? ⟨gb,6,none⟩=some (.slice av vals.length kv):=(hBA.cell (p:=⟨gb,6,none⟩) hgl).trans hg
 have HV:=z8 (fun nm n=>jZ vb vals (.slice av vals.length kv) nm ((w.alloc (.cells #[.int .i64 ct,.int .i64 cf,.string cr,.int .i64 ci] 156)).drewN n) (zb (hv.alloc (.cells #[.int .i64 ct,.int .i64 cf,.string cr,.int .i64 ci] 156)) fun k e=>rfl) hvl)
 have HL:=z8 (ji lb levels _ ci (w.alloc (.cells #[.int .i64 ct,.int .i64 cf,.string cr,.int .i64 ci] 156)) (hl.alloc _) hll)
 have HB:=z8 hBA
 have HT:=z8 (z6T gb vals.length kv av _ hg' hvl)
 clear hBA hv hl
 cases h1:(cf==1)
 case true=>
  have hres:Hid (rlM vals levels ⟨ct,cf,cr,ci⟩=plM cr vals 0):=z8 (by unfold rlM;rw [h1];rfl)
  go_enter Tryz.func132,Tryz.ntmps132
  go_wp2_with fail
  go_quiet ((go_at_call 66;exact Calls.quiet_of ((HV.out cr _).mono fun e w' ⟨q1,q2⟩=>⟨q1,0,q2⟩)))
  go_wp2_with fail
  go_ret
  exact⟨by rw [hres.out];rfl,⟨HB.out.os,HB.out.tape,HB.out.output,HB.out.size,HB.out.block⟩⟩
 cases h2:(cf==2)
 case true=>
  have hres:Hid (rlM vals levels ⟨ct,cf,cr,ci⟩=zc levels ci):=z8 (by unfold rlM;rw [h1,h2];rfl)
  generalize zc levels ci=z at*
  go_enter Tryz.func132,Tryz.ntmps132
  go_wp2_with fail
  refine HL.out.mono ?_
  rintro e w1 ⟨rfl,rfl⟩
  go_wp2_with fail
  go_ret
  exact⟨by rw [hres.out];rfl,HB.out⟩
 have hres:Hid (rlM vals levels ⟨ct,cf,cr,ci⟩=(vals.length:Int)- 1):=z8 (by unfold rlM;rw [h1,h2];rfl)
 go_enter Tryz.func132,Tryz.ntmps132
 go_wp2_with fail
 refine HT.out.mono ?_
 rintro e w1 ⟨rfl,rfl⟩
 go_wp2_with fail
 go_ret
 exact⟨by rw [hres.out];rfl,HB.out⟩
def z0I (vals:List zeV)(W:List Wt)(levels:List Int):List Cl→Int→Int
 |[],h=>h
 |c::cs,h=>z0I vals W levels cs (if((wAt W c.test).kind==1&&(wAt W c.test).truth)&&decide (h<rlM vals levels c) then rlM vals levels c else h)
theorem Cl.cells_len (x:Cl):x.cells.length=4:=rfl
theorem z76 (gb vb lb wb cb:Nat)(vals:List zeV)(av:Option Addr)(kv:Nat)(W:List Wt)(wv:Value)(levels:List Int)(lv:Value)(cls:List Cl)(cv:Value)(w:World)(hg:w.cell? ⟨gb,6,none⟩=some (.slice av vals.length kv))(hv:w.ownsRow vb 9 1 (.slice av vals.length kv) vals.length (vals.map Value.string))(hvl:vals.length≤100000)
  (hw:w.ownsRow wb 75 4 wv W.length ((W.map Wt.cells).flatten)) (hwl:W.length≤100000) (hl:w.ownsRow lb 3 1 lv levels.length (levels.map (Value.int .i64))) (hll:levels.length≤100000) (hc:w.ownsRow cb 156 4 cv cls.length ((cls.map Cl.cells).flatten)) (hcl:cls.length≤100000):
  Calls Tryz.prog 88 #[.pointer (some ⟨gb,0,none⟩),cv,wv,lv] w fun e w'=>e= .returned (.int .i64 (z0I vals W levels cls 0))∧Below w.heap.size w w':=by
 obtain⟨al,kl,rfl⟩:=za hl
 obtain⟨aw,kw,rfl⟩:=za hw
 obtain⟨ac,kc',rfl⟩:=za hc
 have hgl:=zd hg
 have HX:=z8 (zeL hg (zeL hv (zeL hw (zeL hl hc))))
 clear hg hv hw hl hc
 go_enter Tryz.func88,Tryz.ntmps88
 go_wp2_with fail
 go_loopg [9,10] (cls.length+1) (fun k hv iv wr=> ∃(i:Nat) (h:Int),k+i=cls.length+1∧i≤cls.length∧iv= .int .i64 i∧hv= .int .i64 h∧Hid (Below w.heap.size w wr)∧Hid (z0I vals W levels (cls.drop i) h=z0I vals W levels cls 0))
 case atStart=>exact⟨0,0,rfl,zeR _,rfl,rfl,z8 (zeU _ _),z8 rfl⟩
 case round=>
  obtain⟨i,h,hk,hil,rfl,rfl,HB,hfin⟩:=hrel
  have hHK:=z8 hk
  clear hk
  by_cases hlt:i<cls.length
  ·obtain⟨hg,hv,hw,hl,hc⟩:=HX.out
   obtain⟨g,cap,hvv,hbb,hgg⟩:=hc.form (by omega)
   injection hvv with e1 e2 e3
   subst e1 e3
   obtain⟨c,hx⟩: ∃c,cls[i]?=some c:=⟨cls[i],zeH hlt⟩
   have hcell: ∀j u,c.cells[j]?=some u→j<4→wr.cell? ⟨g,i*4+j,none⟩=some u:=fun j u hu hj=>by
    rw [HB.out.cell (p:=⟨g,i*4+j,none⟩) hgg]
    exact zf hc _ _ ((zI Cl.cells 4 Cl.cells_len cls i j c hx hj).trans hu)
   have q0:wr.cell? ⟨g,i*4,none⟩=some (.int .i64 c.test):=hcell 0 _ rfl (by omega)
   have hq:=hcell
   have hst:Hid (z0I vals W levels (cls.drop i) h=z0I vals W levels (cls.drop (i+1)) (if((wAt W c.test).kind==1&&(wAt W c.test).truth)&&decide (h<rlM vals levels c) then rlM vals levels c else h)):=z8 (by
    obtain⟨hl,hx'⟩:=zeI.1 hx
    rw [zeO hl,hx']
    rfl)
   have hlt':(i:Int)<cls.length:=by omega
   have keep: ∀{base e size n:Nat} {v:Value} {xs:List Value},w.ownsRow base e size v n xs→ ∀W',Below w.heap.size w W'→W'.ownsRow base e size v n xs:=fun h W' hB=>zb h fun k e=>hB.block k (h.lt k e).2
   have HWA:=z8 (z0C wb W _ c.test wr (keep hw wr HB.out) hwl)
   generalize hT:wAt W c.test=T at*
   clear hT
   obtain⟨tk,tb,tn,tt⟩:=T
   simp only at*
   have HQ:=z8 hcell
   have HKP:=z8 (fun W' hB=>zeL (keep hv W' hB) (keep hl W' hB))
   have hcg:=z8 (fun W' (hB:Below w.heap.size w W')=>(hB.cell (p:=⟨gb,6,none⟩) hgl).trans hg)
   have hbl:=z8 (fun(W':World) (hB:Below w.heap.size w W') (j:Nat) (u:Value) (hu:c.cells[j]?=some u) (hj:j<4)=>(show W'.cell? ⟨g,i*4+j,none⟩=some u by
    rw [hB.cell (p:=⟨g,i*4+j,none⟩) hgg]
    exact zf hc _ _ ((zI Cl.cells 4 Cl.cells_len cls i j c hx hj).trans hu)))
   clear hcell hq keep hg hv hw hl hc hx HQ
   go_wp2_with fail
   refine HWA.out.mono ?_
   rintro e w1 ⟨rfl,hB1⟩
   have hB2:=HB.out.trans (hB1.mono HB.out.size)
   have hB3:=hB2.alloc hB2.size (.cells #[.int .i64 tk,.bool tb,.int .i64 tn,.string tt] 75)
   have p0:(w1.alloc (.cells #[.int .i64 tk,.bool tb,.int .i64 tn,.string tt] 75)).cell? ⟨g,i*4,none⟩=some (.int .i64 c.test):=hbl.out _ hB3 0 _ rfl (by omega)
   have p1:=hbl.out _ hB3 1 _ rfl (by omega)
   have p2:=hbl.out _ hB3 2 _ rfl (by omega)
   have p3:=hbl.out _ hB3 3 _ rfl (by omega)
   have HRL:=z8 (z5k gb vb lb vals av kv levels _ c.test c.form c.result c.inner _ (hcg.out _ hB3) (HKP.out _ hB3).1 hvl (HKP.out _ hB3).2 hll)
   have HB3:=z8 hB3
   have hz1:w.heap.size≤w1.heap.size:=hB2.size
   clear hB1 hB2 hB3 q0
   go_wp2_with fail
   refine HRL.out.mono ?_
   rintro e w2 ⟨rfl,hB4⟩
   have hbx:=(hB4.block w1.heap.size (by simp)).trans (heap_alloc_new w1 (.cells #[.int .i64 tk,.bool tb,.int .i64 tn,.string tt] 75))
   obtain⟨s0,s1,s2,s3,_,_,_,_⟩:=zZ hbx
   have hB5:=HB3.out.trans (hB4.mono (by simp;omega))
   have HIT:=z8 (zaf tk tb tn tt w2)
   have HB5:=z8 hB5
   have hz2:w.heap.size≤w2.heap.size:=hB5.size
   have hst':=hst.out
   generalize rlM vals levels c=z at*
   clear hB4 hB5 hbx p0 p1 p2 p3 hst
   cases htr:(tk==1&&tb)
   case false=>
    rw [htr] at hst' HIT
    have HS:=z8 hst'
    clear hst'
    go_wp2_with fail
    refine HIT.out.mono ?_
    rintro e w3 ⟨rfl,hB6⟩
    have HB6:=z8 (HB5.out.trans (hB6.mono hz2))
    clear hB6
    go_wp2_with fail
    have hk:=hHK.out
    go_roundg (cls.length - i)
    case measure=>omega
    case rel=>exact⟨i+1,h,by omega,by omega,by go_num,rfl,HB6,z8 (by rw [←hfin.out,HS.out];rfl)⟩
   case true=>
    rw [htr] at hst' HIT
    by_cases hz:h<z
    ·have HS:Hid (z0I vals W levels (cls.drop i) h=z0I vals W levels (cls.drop (i+1)) z):=z8 (by rw [hst'];simp [hz])
     clear hst'
     go_wp2_with fail
     refine HIT.out.mono ?_
     rintro e w3 ⟨rfl,hB6⟩
     have HB6:=z8 (HB5.out.trans (hB6.mono hz2))
     clear hB6
     go_wp2_with fail
     have hk:=hHK.out
     go_roundg (cls.length - i)
     case measure=>omega
     case rel=>exact⟨i+1,z,by omega,by omega,by go_num,rfl,HB6,z8 (by rw [←hfin.out,HS.out])⟩
    ·have HS:Hid (z0I vals W levels (cls.drop i) h=z0I vals W levels (cls.drop (i+1)) h):=z8 (by rw [hst'];simp [hz])
     clear hst'
     go_wp2_with fail
     refine HIT.out.mono ?_
     rintro e w3 ⟨rfl,hB6⟩
     have HB6:=z8 (HB5.out.trans (hB6.mono hz2))
     clear hB6
     go_wp2_with fail
     have hk:=hHK.out
     go_roundg (cls.length - i)
     case measure=>omega
     case rel=>exact⟨i+1,h,by omega,by omega,by go_num,rfl,HB6,z8 (by rw [←hfin.out,HS.out])⟩
  ·have hlt': ¬(i:Int)<cls.length:=by omega
   have hres:Hid (z0I vals W levels cls 0=h):=z8 (by rw [←hfin.out,zeN (by omega)];rfl)
   go_wp2_with fail
   go_ret
   exact⟨by rw [hres.out];rfl,HB.out⟩
def jE (vals:List zeV)(W:List Wt):List (List Cl)→List Int→List Int
 |[],ls=>ls
 |c::cs,ls=>jE vals W cs (ls++[z0I vals W ls c 0])
theorem z42 (vals:List zeV)(W:List Wt): ∀(xs ys:List (List Cl)) (ls:List Int),jE vals W (xs++ys) ls=jE vals W ys (jE vals W xs ls):=by
 intro xs
 induction xs with
 |nil=>intro ys ls;rfl
 |cons x xs ih=>intro ys ls;exact ih ys _
theorem z0a (vals:List zeV)(W:List Wt): ∀(xs:List (List Cl)) (ls:List Int),(jE vals W xs ls).length=ls.length+xs.length:=by
 intro xs
 induction xs with
 |nil=>intro ls;rfl
 |cons x xs ih=>intro ls;unfold jE;rw [ih];simp;omega
theorem z5G (vals:List zeV)(W:List Wt){C:List (List Cl)}{i:Nat}{c:List Cl}(h:C[i]?=some c):
  jE vals W (C.take (i+1)) []=jE vals W (C.take i) []++[z0I vals W (jE vals W (C.take i) []) c 0]:=by
 rw [List.take_add_one,h,z42]
 rfl
theorem z39 {w:World}{g:Nat}{a b c d e f h q:Value}{t:TypeId}(hh:w.heap[g]?=some (.cells #[a,b,c,d,e,f,h,q] t)):
  w.cell? ⟨g,0,none⟩=some a∧w.cell? ⟨g,1,none⟩=some b∧w.cell? ⟨g,2,none⟩=some c∧w.cell? ⟨g,3,none⟩=some d∧w.cell? ⟨g,4,none⟩=some e∧w.cell? ⟨g,5,none⟩=some f∧w.cell? ⟨g,6,none⟩=some h∧w.cell? ⟨g,7,none⟩=some q∧(∀o,w.frozen? ⟨g,o,none⟩=false):=by
 simp [World.cell?,World.frozen?,hh]
structure Gd (w:World)(gb base lb vb:Nat)(st:St)(V:Nat→Value)(iv cv:List Value)(l:List (zeV×zeV))(av:Value)(vals:List zeV)(vv:Value)(qs:List zeV)(qv:Value):Prop where
 box: ∃e,w.heap[gb]?=some (.cells #[.int .i64 e,V 3,V 4,V 5,V 6,av,vv,qv] 58)
 tree:TreeV w base st V iv cv
 attrs:w.ownsRow lb 123 2 av l.length ((l.map zu).flatten)
 vals:w.ownsRow vb 9 1 vv vals.length (vals.map Value.string)
 reqs:w.ownsRow vb 9 1 qv qs.length (qs.map Value.string)
theorem Gd.keep {w w':World}{gb base lb vb:Nat}{st:St}{V:Nat→Value}{iv cv:List Value}{l:List (zeV×zeV)}{av:Value}{vals:List zeV}{vv:Value}{qs:List zeV}{qv:Value}(h:Gd w gb base lb vb st V iv cv l av vals vv qs qv)(hB:Below w.heap.size w w'):Gd w' gb base lb vb st V iv cv l av vals vv qs qv:=by
 obtain⟨e,he⟩:=h.box
 exact⟨⟨e,(hB.block gb (zj he)).trans he⟩,h.tree.same fun k _ hk=>hB.block k hk,zb h.attrs fun k e=>hB.block k (h.attrs.lt k e).2,zb h.vals fun k e=>hB.block k (h.vals.lt k e).2,zb h.reqs fun k e=>hB.block k (h.reqs.lt k e).2⟩
theorem Gd.drewN {w:World}{gb base lb vb:Nat}{st:St}{V:Nat→Value}{iv cv:List Value}{l:List (zeV×zeV)}{av:Value}{vals:List zeV}{vv:Value}{qs:List zeV}{qv:Value}(h:Gd w gb base lb vb st V iv cv l av vals vv qs qv)(n:Nat):Gd (w.drewN n) gb base lb vb st V iv cv l av vals vv qs qv:=
 h.keep ⟨rfl,rfl,rfl,zeK _,fun _ _=>rfl⟩
def z3a (ls:List Int)(w:World)(e:Ending)(w':World):Prop:= ∃v,e= .returned v∧w'.ownsRow w.heap.size 3 1 v ls.length (ls.map (Value.int .i64))∧Below w.heap.size w w'
theorem z1p (gb base lb vb:Nat)(st:St)(V:Nat→Value)(iv cv:List Value)(l:List (zeV×zeV))(av:Value)(vals:List zeV)(vv:Value)(qs:List zeV)(qv:Value)(w:World)(h:Gd w gb base lb vb st V iv cv l av vals vv qs qv)(hE:st.E.length≤100000)(hC:st.C.length≤100000)(hCl: ∀c∈st.C,c.length≤100000)(hvl:vals.length≤100000)(hll:l.length≤100000)(hls: ∀p∈l,p.2.size≤600)(hEs: ∀x∈st.E,x.text.size≤600)
  (hW: ∀x∈ze l st.E [],x.text.size≤100000000):
  Calls Tryz.prog 47 #[.pointer (some ⟨gb,0,none⟩)] w fun e w'=>z3a (jE vals (ze l st.E []) st.C []) w e w':=by
 obtain⟨en,hbx⟩:=h.box
 obtain⟨a3,k3,e3⟩:=za (h.tree.own 3 (by omega) (by omega))
 obtain⟨a4,k4,e4⟩:=za (h.tree.own 4 (by omega) (by omega))
 obtain⟨a5,k5,e5⟩:=za (h.tree.own 5 (by omega) (by omega))
 obtain⟨a6,k6,e6⟩:=za (h.tree.own 6 (by omega) (by omega))
 obtain⟨aa,ka,rfl⟩:=za h.attrs
 obtain⟨a7,k7,rfl⟩:=za h.vals
 obtain⟨a8,k8,rfl⟩:=za h.reqs
 rw [e3,e4,e5,e6] at hbx
 obtain⟨b0,b1,b2,b3,b4,b5,b6,b7,bf⟩:=z39 hbx
 have hgl:=zj hbx
 have HG:=z8 h
 have HE:=z8 (zeL e5 e6)
 have HS:=z8 (zeL hls (zeL hEs hW))
 clear h e3 e4 e5 e6 hbx bf hls hEs hW
 have hWw: ∀W',(∀k,W'.heap[k]?=w.heap[k]?)→Calls Tryz.prog 42 #[.pointer (some ⟨gb,1,none⟩),.slice aa l.length ka] W' fun e w'=>zbS (ze l st.E []) W' e w':=fun W' hk=>by
  have hc5:W'.cell? ⟨gb,1+2,none⟩=some (V 5):=by
   rw [HE.out.1]
   have q:w.cell? ⟨gb,3,none⟩=_:=b3
   have hk':=hk gb
   unfold World.cell? at q ⊢
   simp only at q ⊢
   rw [hk']
   exact q
  exact z4l base gb 1 lb st.E (V 5) l _ W' hc5 (zb (HG.out.tree.own 5 (by omega) (by omega)) fun k _=>hk k) hE (zb HG.out.attrs fun k _=>hk k) hll HS.out.1 HS.out.2.1 HS.out.2.2
 have HWw:=z8 hWw
 clear hWw
 generalize hWd:ze l st.E []=W at*
 have hWlen:W.length≤100000:=by rw [←hWd,jw];simpa using hE
 clear hWd
 go_enter Tryz.func47,Tryz.ntmps47
 go_upto_region 1 with fail
 go_cut [3] (fun s3 wx=>Hid (wx.ownsRow w.heap.size 75 4 s3 W.length ((W.map Wt.cells).flatten))∧Hid (Below w.heap.size w wx))
 case first=>
  go_region_with (go_at_call 42;go_must (refine(HWw.out w.drew (fun _=>rfl)).mono ?_);rintro e w1 ⟨wv,rfl,ho,hb⟩;(obtain⟨aw,kw,rfl⟩:=za ho);(have HO:=z8 ho);(have HB:=z8 hb);(clear ho hb))
  all_goals (go_wp2_with fail;go_meet;exact⟨z8 HO.out,z8 ⟨HB.out.os,HB.out.tape,HB.out.output,HB.out.size,HB.out.block⟩⟩)
 case rest=>
 obtain⟨HO,HB⟩:=hcut
 obtain⟨aw,kw,rfl⟩:=za HO.out
 have cc: ∀o v,w.cell? ⟨gb,o,none⟩=some v→wc.cell? ⟨gb,o,none⟩=some v:=fun o v q=>(HB.out.cell (p:=⟨gb,o,none⟩) hgl).trans q
 have d4:=cc 4 _ b4
 have hG1:=HG.out.keep HB.out
 have HG1:=z8 hG1
 obtain⟨i0,hi,hz0,hz1,hz2⟩:=info_parts info3
 have hmade:=World.ownsRow_made (base:=wc.heap.size) (e:=3) (size:=1) wc #[] 0 (zeK _) (by decide) (by simp)
 have HM:=z8 hmade
 have HB0:Hid (Below wc.heap.size wc (wc.alloc (.cells #[] 3))):=z8 ((zeU _ _).alloc (zeK _) _)
 have hgc:gb<wc.heap.size:=by have:=HB.out.size;omega
 clear cc hG1 hmade b0 b1 b2 b3 b4 b5 b6 b7
 go_wp2_with fail
 go_loopg [4,5] (st.C.length+1) (fun k tv iv wr=> ∃(i:Nat),k+i=st.C.length+1∧i≤st.C.length∧iv= .int .i64 i∧Hid (wr.ownsRow wc.heap.size 3 1 tv i ((jE vals W (st.C.take i) []).map (Value.int .i64)))∧Below wc.heap.size wc wr)
 case atStart=>exact⟨0,rfl,zeR _,rfl,z8 HM.out,HB0.out⟩
 case round=>
  obtain⟨i,hk,hiC,rfl,HOW,hbel⟩:=hrel
  have hHK:=z8 hk
  clear hk
  obtain⟨ag,kg,rfl⟩:=za HOW.out
  have d4':wr.cell? ⟨gb,4,none⟩=some (.slice a6 (nOf st 6) k6):=(hbel.cell (p:=⟨gb,4,none⟩) hgc).trans d4
  have hn6:nOf st 6=st.C.length:=rfl
  rw [hn6] at d4'
  have hG2:=HG1.out.keep hbel
  have HG2:=z8 hG2
  have hz0':wc.heap.size≤wr.heap.size:=hbel.size
  have HBL:=z8 hbel
  by_cases hlt:i<st.C.length
  ·obtain⟨c,hx⟩: ∃c,st.C[i]?=some c:=⟨st.C[i],zeH hlt⟩
   have hcl:=HG1.out.tree.cl
   obtain⟨u,hu⟩: ∃u,cv[i]?=some u:=⟨cv[i]'(by omega),zeH (by omega)⟩
   have hrow:wr.ownsRow base 133 1 (.slice a6 st.C.length k6) st.C.length cv:=by
    have q:=hG2.tree.own 6 (by omega) (by omega)
    rw [HE.out.2] at q
    exact q
   obtain⟨g,cap,hvv,hbb,hgg⟩:=hrow.form (by omega)
   injection hvv with e1 e2 e3
   subst e1 e3
   have q0:wr.cell? ⟨g,i,none⟩=some u:=zf hrow _ _ hu
   have hcr:=hG2.tree.clauses i c u hx hu
   obtain⟨ac,kcc,rfl⟩:=za hcr
   have hst:=z8 (z5G vals W hx)
   have hcl5:=hCl c (zeP hx)
   have hul:(jE vals W (st.C.take i) []).length=i:=by rw [z0a];simp;omega
   have HUL:=z8 hul
   have hlt':(i:Int)<st.C.length:=by omega
   clear hul hx hu hcl hrow hbel
   generalize jE vals W (st.C.take i) []=U at*
   have hown0:wr.ownsRow wc.heap.size 3 1 (.slice ag i kg) U.length (U.map (Value.int .i64)):=by rw [HUL.out];exact HOW.out
   have hc6:wr.cell? ⟨gb,6,none⟩=some (.slice a7 vals.length k7):=by
    obtain⟨e,he⟩:=hG2.box
    exact(z39 he).2.2.2.2.2.2.1
   have hw0:wr.ownsRow w.heap.size 75 4 (.slice aw W.length kw) W.length ((W.map Wt.cells).flatten):=zb HO.out fun k e=>HBL.out.block k (HO.out.lt k e).2
   have HHI:=z8 (fun(W':World) (hk: ∀k,W'.heap[k]?=wr.heap[k]?)=>z76 gb vb wc.heap.size w.heap.size base vals a7 k7 W _ U (.slice ag i kg) c _ W' ((show W'.cell? ⟨gb,6,none⟩=wr.cell? ⟨gb,6,none⟩ by unfold World.cell?;simp only;rw [hk gb]).trans hc6) (zb hG2.vals fun k _=>hk k) hvl (zb hw0 fun k _=>hk k) hWlen (zb hown0 fun k _=>hk k) (by have:=HUL.out;omega) (zb hcr fun k _=>hk k) hcl5)
   have HOWN:=z8 hown0
   clear hG2 hown0 hc6 hw0 hcr
   generalize hz:z0I vals W U c 0=z at*
   clear hz
   go_wp2_with fail
   refine(HHI.out wr (fun _=>rfl)).mono ?_
   rintro e w2 ⟨rfl,hB2⟩
   have hown2:=zb HOWN.out fun k e=>hB2.block k (HOWN.out.lt k e).2
   rw [HUL.out] at hown2
   have HB2:=z8 (HBL.out.trans (hB2.mono hz0'))
   have hw2:wc.heap.size≤w2.heap.size:=HB2.out.size
   clear hB2 HHI
   go_wp2_with (at_builtin;go_must (refine wpList_append_lies _ rfl (.tmp 39) (.tmp 41) 60 rfl wc.heap.size 3 i0 _ 1 8 Tryz.underlying60 hi hz0 hz1 hz2 rfl (by omega) _ i _ rfl (hown2.alloc _) ⟨w2.heap.size,0,none⟩ 1 1 [.int .i64 z] rfl rfl ?news ?one (by omega) ?mm ?bys ?base (w2.heap.size+1) (by simp) ?rest))
   case news=>exact World.news_of_block (heap_alloc_new w2 _)
   case one=>intro u hu;simp at hu;subst hu;rfl
   case mm=>unfold maxLen;omega
   case bys=>omega
   case base=>simp;omega
   case rest=>
    intro gb2 cap2 w3 hown3 hgrow hat hlt2
    have hB3:=z8 (Below.grown (HB2.out.alloc hw2 _) hgrow (by simp;omega) fun k e=>(hown2.lt k e).1)
    have hown4:Hid (w3.ownsRow wc.heap.size 3 1 (.slice (some ⟨gb2,0,none⟩) (i+1) cap2) (i+1) ((jE vals W (st.C.take (i+1)) []).map (Value.int .i64))):=z8 (by rw [hst.out];simpa using hown3)
    clear hown3 hgrow hat
    go_wp2_with fail
    have hk:=hHK.out
    go_roundg (st.C.length - i)
    case measure=>omega
    case rel=>exact⟨i+1,by omega,by omega,by go_num,hown4,hB3.out⟩
  ·have hlt': ¬(i:Int)<st.C.length:=by omega
   have hiC':i=st.C.length:=by omega
   have hfin:wr.ownsRow w.heap.size 3 1 (.slice ag i kg) (jE vals W st.C []).length ((jE vals W st.C []).map (Value.int .i64)):=by
    have hq:=HOW.out
    rw [z0a]
    rw [hiC',List.take_length] at hq
    exact zq (by simpa [hiC'] using hq) HB.out.size
   have HF:=z8 hfin
   have HBE:=z8 (HB.out.trans (hbel.mono HB.out.size))
   clear hfin hiC' hbel hG2
   go_wp2_with fail
   go_ret
   exact⟨_,rfl,HF.out,HBE.out⟩
def vaM (vals:List zeV)(i:Int):zeV:=if i<0 then⟨#[]⟩ else vals.getD i.toNat ⟨#[]⟩
theorem z3C (gb vb:Nat)(vals:List zeV)(av:Option Addr)(kv:Nat)(i:Int)(w:World)(hg:w.cell? ⟨gb,6,none⟩=some (.slice av vals.length kv))(hv:w.ownsRow vb 9 1 (.slice av vals.length kv) vals.length (vals.map Value.string))(hvl:vals.length≤100000):
  Calls Tryz.prog 37 #[.pointer (some ⟨gb,0,none⟩),.int .i64 i] w fun e w'=>e= .returned (.string (vaM vals i))∧w'=w:=by
 by_cases h0:i<0
 ·have hres:Hid (vaM vals i=⟨#[]⟩):=z8 (by unfold vaM;rw [if_pos h0])
  go_enter Tryz.func37,Tryz.ntmps37
  go_wp2_with fail
  go_ret
  exact⟨by rw [hres.out];rfl,rfl⟩
 ·obtain⟨j,rfl⟩:=Int.eq_ofNat_of_zero_le (show 0≤i by omega)
  by_cases h1:j<vals.length
  ·obtain⟨g,cap,hvv,hb,hgg⟩:=hv.form (by omega)
   injection hvv with e1 e2 e3
   subst e1 e3
   obtain⟨x,hx⟩: ∃x,vals[j]?=some x:=⟨vals[j],zeH h1⟩
   have q0:w.cell? ⟨g,j,none⟩=some (.string x):=zf hv _ _ (by simp [hx])
   have hres:Hid (vaM vals j=x):=z8 (by unfold vaM;rw [if_neg (by omega)];simp [List.getD,hx])
   have h1':(j:Int)<vals.length:=by omega
   clear hx
   go_enter Tryz.func37,Tryz.ntmps37
   go_wp2_with fail
   go_ret
   exact⟨by rw [hres.out];rfl,rfl⟩
  ·have hres:Hid (vaM vals j=⟨#[]⟩):=z8 (by unfold vaM;rw [if_neg (by omega)];simp [List.getElem?_eq_none (Nat.le_of_not_lt h1)])
   have h1': ¬(j:Int)<vals.length:=by omega
   go_enter Tryz.func37,Tryz.ntmps37
   go_wp2_with fail
   go_ret
   exact⟨by rw [hres.out];rfl,rfl⟩
def z3m (vals:List zeV)(c:Cl):Bool:=c.form==1&&plM c.result vals 0== -1
def hoM (vals:List zeV)(C:List (List Cl)):Bool:=C.any fun cls=>cls.any (z3m vals)
theorem z5N (tb o base vb:Nat)(st:St)(V:Nat→Value)(iv cv:List Value)(vals:List zeV)(vv:Value)(w:World)(hc:w.cell? ⟨tb,o+3,none⟩=some (V 6))(ht:TreeV w base st V iv cv)(hv:w.ownsRow vb 9 1 vv vals.length (vals.map Value.string))(hvl:vals.length≤100000)(hC:st.C.length≤100000)(hCl: ∀c∈st.C,c.length≤100000):
  Calls Tryz.prog 64 #[.pointer (some ⟨tb,o,none⟩),vv] w fun e w'=>e= .returned (.bool (hoM vals st.C))∧ ∃n,w'=w.drewN n:=by
 have hrow0:=ht.own 6 (by omega) (by omega)
 obtain⟨a6,k6,e6⟩:=za hrow0
 obtain⟨a7,k7,rfl⟩:=za hv
 have hn6:nOf st 6=st.C.length:=rfl
 have hrow:w.ownsRow base 133 1 (.slice a6 st.C.length k6) st.C.length cv:=by rw [e6] at hrow0;exact hrow0
 rw [e6,hn6] at hc
 have hblt:=zd hc
 have HT:=z8 (zeL ht (zeL hv hrow))
 clear ht hv hrow hrow0 e6 hn6
 go_enter Tryz.func64,Tryz.ntmps64
 go_wp2_with fail
 go_loopg [5] (st.C.length+1) (fun k iv' wr=> ∃(i n:Nat),k+i=st.C.length+1∧i≤st.C.length∧iv'= .int .i64 i∧wr=w.drewN n∧Hid (hoM vals (st.C.drop i)=hoM vals st.C))
 case atStart=>exact⟨0,0,rfl,zeR _,rfl,rfl,z8 rfl⟩
 case round=>
  obtain⟨i,n,hk,hiC,rfl,rfl,hfin⟩:=hrel
  have hHK:=z8 hk
  clear hk
  by_cases hlt:i<st.C.length
  ·obtain⟨ht,hv,hrow⟩:=HT.out
   obtain⟨c,hx⟩: ∃c,st.C[i]?=some c:=⟨st.C[i],zeH hlt⟩
   have hcl:=ht.cl
   obtain⟨u,hu⟩: ∃u,cv[i]?=some u:=⟨cv[i]'(by omega),zeH (by omega)⟩
   obtain⟨g,cap,hvv,hbb,hgg⟩:=hrow.form (by omega)
   injection hvv with e1 e2 e3
   subst e1 e3
   have q0:w.cell? ⟨g,i,none⟩=some u:=zf hrow _ _ hu
   have hcr:=ht.clauses i c u hx hu
   obtain⟨ac,kcc,rfl⟩:=za hcr
   have hcl5:=hCl c (zeP hx)
   have hst:Hid (hoM vals (st.C.drop i)=(c.any (z3m vals)||hoM vals (st.C.drop (i+1)))):=z8 (by
    obtain⟨hl,hx'⟩:=zeI.1 hx
    rw [zeO hl,hx']
    rfl)
   have hlt':(i:Int)<st.C.length:=by omega
   have HCR:=z8 hcr
   clear hx hu hcl ht hv hrow hcr
   obtain⟨gk0,hgk0⟩: ∃gk0,gk0=gk:=⟨_,rfl⟩
   have HGK0:=z8 hgk0
   clear hgk0
   go_wp2_with fail
   go_loopg [7] (c.length+1) (fun k jv wr=> ∃(j m:Nat),k+j=c.length+1∧j≤c.length∧jv= .int .i64 j∧wr=w.drewN m∧Hid ((c.drop j).any (z3m vals)=c.any (z3m vals)))
   case atStart=>exact⟨0,n,rfl,zeR _,rfl,rfl,z8 rfl⟩
   case round=>
    obtain⟨j,m,hkj,hjc,rfl,rfl,hfj⟩:=hrel
    have HKJ:=z8 hkj
    clear hkj
    by_cases hjl:j<c.length
    ·obtain⟨g2,cap2,hv2,hb2,hg2⟩:=HCR.out.form (by omega)
     injection hv2 with e1 e2 e3
     subst e1 e3
     obtain⟨x,hx⟩: ∃x,c[j]?=some x:=⟨c[j],zeH hjl⟩
     have hcell: ∀q u,x.cells[q]?=some u→q<4→w.cell? ⟨g2,j*4+q,none⟩=some u:=fun q u hu hq=>zf HCR.out _ _ ((zI Cl.cells 4 Cl.cells_len c j q x hx hq).trans hu)
     have p1:=hcell 1 _ rfl (by omega)
     have p2:=hcell 2 _ rfl (by omega)
     have hjl':(j:Int)<c.length:=by omega
     have hsj:Hid ((c.drop j).any (z3m vals)=(z3m vals x||(c.drop (j+1)).any (z3m vals))):=z8 (by
      obtain⟨hl,hx'⟩:=zeI.1 hx
      rw [zeO hl,hx']
      rfl)
     have HP:=z8 (fun N=>jZ vb vals (.slice a7 vals.length k7) x.result (w.drewN N) (zb HT.out.2.1 fun k e=>rfl) hvl)
     clear hcell hx
     cases hf:(x.form==1)
     ·have hbc:Hid (z3m vals x=false):=z8 (by unfold z3m;rw [hf];rfl)
      go_wp2_with fail
      have hk:=HKJ.out
      go_roundg (c.length - j)
      case measure=>omega
      case rel=>exact⟨j+1,m,by omega,by omega,by go_num,rfl,z8 (by rw [←hfj.out,hsj.out,hbc.out];rfl)⟩
     ·cases hp:(plM x.result vals 0== -1)
      ·have hbc:Hid (z3m vals x=false):=z8 (by unfold z3m;rw [hf,hp];rfl)
       go_wp2_with (go_at_call 66;refine(HP.out m).mono ?_;rintro e w2 ⟨rfl,rfl⟩)
       have hk:=HKJ.out
       go_roundg (c.length - j)
       case measure=>omega
       case rel=>exact⟨j+1,m,by omega,by omega,by go_num,rfl,z8 (by rw [←hfj.out,hsj.out,hbc.out];rfl)⟩
      ·have hbc:Hid (z3m vals x=true):=z8 (by unfold z3m;rw [hf,hp];rfl)
       have hres:Hid (hoM vals st.C=true):=z8 (by rw [←hfin.out,hst.out,←hfj.out,hsj.out,hbc.out];rfl)
       go_wp2_with (go_at_call 66;refine(HP.out m).mono ?_;rintro e w2 ⟨rfl,rfl⟩)
       go_ret
       exact⟨by rw [hres.out];rfl,m,rfl⟩
    ·have hjl': ¬(j:Int)<c.length:=by omega
     have hno:Hid (c.any (z3m vals)=false):=z8 (by rw [←hfj.out,zeN (by omega)];rfl)
     go_wp2_with fail
     have hk:=hHK.out
     have hg0:=HGK0.out
     go_roundg (gk0 - 1)
     case measure=>omega
     case rel=>exact⟨i+1,m,by omega,by omega,by go_num,rfl,z8 (by rw [←hfin.out,hst.out,hno.out];rfl)⟩
  ·have hlt': ¬(i:Int)<st.C.length:=by omega
   have hres:Hid (hoM vals st.C=false):=z8 (by rw [←hfin.out,zeN (by omega)];rfl)
   go_wp2_with fail
   go_ret
   exact⟨by rw [hres.out];rfl,n,rfl⟩
def grM (s a v q:zeV)(st:St):Int:=
 if decide (600<s.size)||decide (100<a.size)||decide (60<v.size)||decide (60<q.size) then 1 else if(ckM s st).1 !=0 then(ckM s st).1 else if(raM a).2||(vlM v).2||(rqM q).2 then 6 else if hoM (vlM v).1 st.C then 7 else 0
def z7z (v:Value):Prop:= ∃a n k,v= .slice a n k
def z1O (s a v q:zeV)(st:St)(w:World)(e:Ending)(w':World):Prop:= ∃x1 x2 x3 x4 x5 x6 x7,e= .returned (.agg #[.int .i64 (grM s a v q st),x1,x2,x3,x4,x5,x6,x7])∧Below w.heap.size w w'∧z7z x1∧z7z x2∧z7z x3∧z7z x4∧z7z x5∧z7z x6∧z7z x7∧
 (grM s a v q st=0→ ∃V iv cv,x1=V 3∧x2=V 4∧x3=V 5∧x4=V 6∧TreeV w' w.heap.size st V iv cv∧w'.ownsRow w.heap.size 123 2 x5 (raM a).1.length (((raM a).1.map zu).flatten)∧w'.ownsRow w.heap.size 9 1 x6 (vlM v).1.length ((vlM v).1.map Value.string)∧w'.ownsRow w.heap.size 9 1 x7 (rqM q).1.length ((rqM q).1.map Value.string))
theorem TreeV.low {w:World}{base base':Nat}{st:St}{V:Nat→Value}{iv cv:List Value}(h:TreeV w base st V iv cv)(hb:base'≤base):TreeV w base' st V iv cv:=
 ⟨fun o h3 h6=>zq (h.own o h3 h6) hb,h.il,h.cl,fun i l v h1 h2=>zq (h.items i l v h1 h2) hb,fun i l v h1 h2=>zq (h.clauses i l v h1 h2) hb⟩
theorem zh:z7z (.slice none 0 0):=⟨none,0,0,rfl⟩
theorem z25 (s a v q:zeV)(st:St)(w:World)(hs:s.size≤maxLen)(ha:a.size≤maxLen)(hv:v.size≤maxLen)(hq:q.size≤maxLen)(h:600<s.size∨100<a.size∨60<v.size∨60<q.size):Calls Tryz.prog 34 #[.string s,.string a,.string v,.string q] w fun e w'=>z1O s a v q st w e w':=by
 unfold maxLen at hs ha hv hq
 have hres:Hid (grM s a v q st=1):=z8 (by unfold grM;rw [if_pos];simp;omega)
 have hB:=z8 fun o:Obj=>(zeU w.heap.size w).alloc (zeK _) o
 have fin: ∀(W':World),Below w.heap.size w W'→z1O s a v q st w (.returned (.agg #[.int .i64 1,.slice none 0 0,.slice none 0 0,.slice none 0 0,.slice none 0 0,.slice none 0 0,.slice none 0 0,.slice none 0 0])) W':=fun W' hb=>⟨_,_,_,_,_,_,_,by rw [hres.out],hb,zh,zh,zh,zh,zh,zh,zh,fun e=>by rw [hres.out] at e;cases e⟩
 have FIN:=z8 fin
 clear fin
 by_cases h1:600<s.size
 ·have h1':(600:Int)<s.size:=by omega
  go_enter Tryz.func34,Tryz.ntmps34
  go_wp2_with fail
  refine bodyPost_ret (v:= .agg #[.int .i64 1,.slice none 0 0,.slice none 0 0,.slice none 0 0,.slice none 0 0,.slice none 0 0,.slice none 0 0,.slice none 0 0]) (by simp [results,Tryz.results34,go_sem]) rfl (FIN.out _ (hB.out _))
 ·have h1': ¬(600:Int)<s.size:=by omega
  by_cases h2:100<a.size
  ·have h2':(100:Int)<a.size:=by omega
   go_enter Tryz.func34,Tryz.ntmps34
   go_wp2_with fail
   refine bodyPost_ret (v:= .agg #[.int .i64 1,.slice none 0 0,.slice none 0 0,.slice none 0 0,.slice none 0 0,.slice none 0 0,.slice none 0 0,.slice none 0 0]) (by simp [results,Tryz.results34,go_sem]) rfl (FIN.out _ (hB.out _))
  ·have h2': ¬(100:Int)<a.size:=by omega
   by_cases h3:60<v.size
   ·have h3':(60:Int)<v.size:=by omega
    go_enter Tryz.func34,Tryz.ntmps34
    go_wp2_with fail
    refine bodyPost_ret (v:= .agg #[.int .i64 1,.slice none 0 0,.slice none 0 0,.slice none 0 0,.slice none 0 0,.slice none 0 0,.slice none 0 0,.slice none 0 0]) (by simp [results,Tryz.results34,go_sem]) rfl (FIN.out _ (hB.out _))
   have h3': ¬(60:Int)<v.size:=by omega
   have h4':(60:Int)<q.size:=by omega
   go_enter Tryz.func34,Tryz.ntmps34
   go_wp2_with fail
   refine bodyPost_ret (v:= .agg #[.int .i64 1,.slice none 0 0,.slice none 0 0,.slice none 0 0,.slice none 0 0,.slice none 0 0,.slice none 0 0,.slice none 0 0]) (by simp [results,Tryz.results34,go_sem]) rfl (FIN.out _ (hB.out _))
theorem z84 {w1:World}{g:Nat}{x0 x1 x2 x3 x4 x5 x6 x7:Value}{t:TypeId}(h:w1.heap[g]?=some (.cells #[x0,x1,x2,x3,x4,x5,x6,x7] t))(a b c d e f k m:Value):((((((((w1.setCell ⟨g,0,none⟩ a).setCell ⟨g,1,none⟩ b).setCell ⟨g,2,none⟩ c).setCell ⟨g,3,none⟩ d).setCell ⟨g,4,none⟩ e).setCell ⟨g,5,none⟩ f).setCell ⟨g,6,none⟩ k).setCell ⟨g,7,none⟩ m).heap[g]?=some (.cells #[a,b,c,d,e,f,k,m] t):=by
 simp [World.setCell,Array.getElem?_modify,h]
theorem z4p {B g:Nat}{w w1:World}(h:Below B w w1)(hg:B≤g)(a b c d e f k m:Value):Below B w ((((((((w1.setCell ⟨g,0,none⟩ a).setCell ⟨g,1,none⟩ b).setCell ⟨g,2,none⟩ c).setCell ⟨g,3,none⟩ d).setCell ⟨g,4,none⟩ e).setCell ⟨g,5,none⟩ f).setCell ⟨g,6,none⟩ k).setCell ⟨g,7,none⟩ m):=
 (((((((h.setCell (p:=⟨g,0,none⟩) hg _).setCell (p:=⟨g,1,none⟩) hg _).setCell (p:=⟨g,2,none⟩) hg _).setCell (p:=⟨g,3,none⟩) hg _).setCell (p:=⟨g,4,none⟩) hg _).setCell (p:=⟨g,5,none⟩) hg _).setCell (p:=⟨g,6,none⟩) hg _).setCell (p:=⟨g,7,none⟩) hg _
theorem zdL {w1:World}{g k:Nat}(a b c d e f x m:Value)(h:k≠g):((((((((w1.setCell ⟨g,0,none⟩ a).setCell ⟨g,1,none⟩ b).setCell ⟨g,2,none⟩ c).setCell ⟨g,3,none⟩ d).setCell ⟨g,4,none⟩ e).setCell ⟨g,5,none⟩ f).setCell ⟨g,6,none⟩ x).setCell ⟨g,7,none⟩ m).heap[k]?=w1.heap[k]?:=by
 simp only [World.setCell,Array.getElem?_modify]
 simp [Ne.symm h]
theorem z2Q (s a v q:zeV)(st:St)(w:World)(hs:s.size≤600)(ha:a.size≤100)(hv:v.size≤60)(hq:q.size≤60)(h: ∀W,Calls Tryz.prog 45 #[.string s] W fun e w'=>z2V s W st e w')(hC:st.C.length≤100000)(hCl: ∀c∈st.C,c.length≤100000)(hvl:(vlM v).1.length≤100000):Calls Tryz.prog 34 #[.string s,.string a,.string v,.string q] w fun e w'=>z1O s a v q st w e w':=by
 have hs': ¬(600:Int)<s.size:=by omega
 have ha': ¬(100:Int)<a.size:=by omega
 have hv': ¬(60:Int)<v.size:=by omega
 have hq': ¬(60:Int)<q.size:=by omega
 have hgr:Hid (grM s a v q st=if(ckM s st).1 !=0 then(ckM s st).1 else if(raM a).2||(vlM v).2||(rqM q).2 then 6 else if hoM (vlM v).1 st.C then 7 else 0):=z8 (by unfold grM;rw [if_neg];simp;omega)
 have hB0:=(zeU w.heap.size w).alloc (zeK _) (.cells #[.int .i64 0,.slice none 0 0,.slice none 0 0,.slice none 0 0,.slice none 0 0,.slice none 0 0,.slice none 0 0,.slice none 0 0] 58)
 have hX0:=heap_alloc_new w (.cells #[.int .i64 0,.slice none 0 0,.slice none 0 0,.slice none 0 0,.slice none 0 0,.slice none 0 0,.slice none 0 0,.slice none 0 0] 58)
 have H0:=z8 (zeL hB0 hX0)
 have HC:=z8 (h (w.alloc (.cells #[.int .i64 0,.slice none 0 0,.slice none 0 0,.slice none 0 0,.slice none 0 0,.slice none 0 0,.slice none 0 0,.slice none 0 0] 58)))
 clear hB0 hX0 h
 go_enter Tryz.func34,Tryz.ntmps34
 go_wp2_with fail
 refine HC.out.mono ?_
 rintro e w1 ⟨y1,y2,y3,y4,V,iv,cv,rfl,hB1,⟨a1,n1,k1,rfl⟩,⟨a2,n2,k2,rfl⟩,⟨a3,n3,k3,rfl⟩,⟨a4,n4,k4,rfl⟩,hT⟩
 obtain⟨hB0,hX0⟩:=H0.out
 clear H0 HC
 have hz0:(w.alloc (.cells #[.int .i64 0,.slice none 0 0,.slice none 0 0,.slice none 0 0,.slice none 0 0,.slice none 0 0,.slice none 0 0,.slice none 0 0] 58)).heap.size=w.heap.size+1:=by simp
 have hB01:=hB0.trans (hB1.mono (by omega))
 have hX1:=(hB1.block w.heap.size (by omega)).trans hX0
 have hz1:w.heap.size<w1.heap.size:=by have:=hB1.size;omega
 generalize hE:(ckM s st).1=E at*
 generalize (ckM s st).2=P at*
 rw [hz0] at hT
 have HT:=z8 hT
 have HEE:=z8 hE
 clear hE hT hB1 hB0 hX0 hz0
 have hCB:=hB01.alloc hB01.size (.cells #[.int .i64 E,.int .i64 P,.slice a1 n1 k1,.slice a2 n2 k2,.slice a3 n3 k3,.slice a4 n4 k4] 78)
 have hX2:=(zeM w1 (.cells #[.int .i64 E,.int .i64 P,.slice a1 n1 k1,.slice a2 n2 k2,.slice a3 n3 k3,.slice a4 n4 k4] 78) _ hz1).trans hX1
 have HX2:=z8 hX2
 have HCB:=z8 hCB
 have HZ1:=z8 hz1
 clear hz1
 cases hEz:(E !=0)
 case true=>
  have hres:Hid (grM s a v q st=E):=z8 (by rw [hgr.out,hEz];rfl)
  obtain⟨b0,b1,b2,b3,b4,b5,b6,b7,bf⟩:=z39 hX2
  have f0:=bf 0
  have f1:=bf 1
  have f2:=bf 2
  have f3:=bf 3
  have f4:=bf 4
  have f5:=bf 5
  have f6:=bf 6
  have f7:=bf 7
  clear hX2 hCB hX1 hB01 bf
  go_wp2_with fail
  obtain⟨z0,z1,z2,z3,z4,z5,z6,z7,_⟩:=z39 (z84 HX2.out (.int .i64 E) (.slice none 0 0) (.slice none 0 0) (.slice none 0 0) (.slice none 0 0) (.slice none 0 0) (.slice none 0 0) (.slice none 0 0))
  refine bodyPost_ret (v:= .agg #[.int .i64 E,.slice none 0 0,.slice none 0 0,.slice none 0 0,.slice none 0 0,.slice none 0 0,.slice none 0 0,.slice none 0 0]) (by simp [results,Tryz.results34,go_sem,z0,z1,z2,z3,z4,z5,z6,z7]) rfl ?_
  exact⟨_,_,_,_,_,_,_,by rw [hres.out],z4p HCB.out (zeK _) _ _ _ _ _ _ _ _,zh,zh,zh,zh,zh,zh,zh,fun e=>by rw [hres.out] at e;rw [e] at hEz;cases hEz⟩
 have hE0:E=0:=by simpa using hEz
 subst hE0
 obtain⟨hv1,hv2,hv3,hv4,hT1⟩:=HT.out rfl
 have hgr2:Hid (grM s a v q st=if(raM a).2||(vlM v).2||(rqM q).2 then 6 else if hoM (vlM v).1 st.C then 7 else 0):=z8 (by rw [hgr.out];rfl)
 have HTV:=z8 (zeL (zeL hv1 (zeL hv2 (zeL hv3 hv4))) hT1)
 have hcb:=heap_alloc_new w1 (.cells #[.int .i64 0,.int .i64 P,.slice a1 n1 k1,.slice a2 n2 k2,.slice a3 n3 k3,.slice a4 n4 k4] 78)
 have HCX:=z8 hcb
 have hzw:(w1.alloc (.cells #[.int .i64 0,.int .i64 P,.slice a1 n1 k1,.slice a2 n2 k2,.slice a3 n3 k3,.slice a4 n4 k4] 78)).heap.size=w1.heap.size+1:=by simp
 have HZW:=z8 hzw
 clear hgr hEz hv1 hv2 hv3 hv4 hT1 HT hX2 hCB hX1 hB01 hcb hzw
 have HRA:=z8 (z2d a (w1.alloc (.cells #[.int .i64 0,.int .i64 P,.slice a1 n1 k1,.slice a2 n2 k2,.slice a3 n3 k3,.slice a4 n4 k4] 78)) (by omega))
 go_wp2_with fail
 refine HRA.out.mono ?_
 rintro e w2 ⟨lv,rfl,hl2,hB2⟩
 obtain⟨al,kl,rfl⟩:=za hl2
 have hB02:=HCB.out.trans (hB2.mono HCB.out.size)
 have hX3:=(hB2.block w.heap.size (zj HX2.out)).trans HX2.out
 have hC3:=(hB2.block w1.heap.size (zj HCX.out)).trans HCX.out
 have hT2:TreeV w2 (w.heap.size+1) st V iv cv:=(HTV.out.2.same fun k _ hk=>zeM _ _ _ hk).same fun k _ hk=>hB2.block k hk
 have hl2':=zq (base':=w.heap.size+1) hl2 (by have:=HZW.out;have:=HZ1.out;omega)
 have H2:=z8 (zeL hB02 (zeL hX3 (zeL hC3 (zeL hT2 hl2'))))
 have hz2:w.heap.size<w2.heap.size:=by have:=hB2.size;have:=HZW.out;have:=HZ1.out;omega
 have HZ2:=z8 hz2
 clear hB02 hX3 hC3 hT2 hl2 hl2' hB2 hz2 HRA HX2 HCX HCB
 have HRV:=z8 (z4f v w2 (by omega))
 generalize hra:(raM a).2=ba at*
 have HBA:=z8 hra
 clear hra
 go_wp2_with fail
 refine HRV.out.mono ?_
 rintro e w3 ⟨av,nv,kv,rfl,hB3,hv3⟩
 obtain⟨hB02,hX3,hC3,hT2,hl2⟩:=H2.out
 have hB03:=hB02.trans (hB3.mono hB02.size)
 have hX4:=(hB3.block w.heap.size (zj hX3)).trans hX3
 have hC4:=(hB3.block w1.heap.size (zj hC3)).trans hC3
 have hT3:TreeV w3 (w.heap.size+1) st V iv cv:=hT2.same fun k _ hk=>hB3.block k hk
 have hl3:=zb hl2 fun k e=>hB3.block k (hl2.lt k e).2
 have hz3:w.heap.size<w3.heap.size:=by have:=hB3.size;have:=HZ2.out;omega
 have HZ3:=z8 hz3
 have HB3:=z8 hB03
 have HX4:=z8 hX4
 have HC4:=z8 hC4
 have HL3:=z8 (zeL hT3 hl3)
 have HV3:=z8 hv3
 generalize hrv:(vlM v).2=bv at*
 have HBV:=z8 hrv
 clear hB02 hX3 hT2 hl2 hB3 hB03 hC3 hT3 hl3 hz3 H2 HRV hrv hv3 hX4 hC4
 have HRQ:=z8 (z69 q w3 (by omega))
 go_wp2_with fail
 refine HRQ.out.mono ?_
 rintro e w5 ⟨aq,nq,kq,rfl,hB5,hq5⟩
 have hB05:=HB3.out.trans (hB5.mono HB3.out.size)
 have hX4:=(hB5.block w.heap.size (zj HX4.out)).trans HX4.out
 have hC4:=(hB5.block w1.heap.size (zj HC4.out)).trans HC4.out
 have hT5:TreeV w5 (w.heap.size+1) st V iv cv:=HL3.out.1.same fun k _ hk=>hB5.block k hk
 have hl5:=zb HL3.out.2 fun k e=>hB5.block k (HL3.out.2.lt k e).2
 have hv5:=fun e=>zb (HV3.out e) fun k e2=>hB5.block k ((HV3.out e).lt k e2).2
 have hz5:w.heap.size<w5.heap.size:=by have:=hB5.size;have:=HZ3.out;omega
 have HQ5:=z8 hq5
 have hz35:=z8 HZ3.out
 clear HZ3 HB3 HX4 HC4 HL3 HV3
 have HZ3:=z8 hz5
 have HB3:=z8 hB05
 have HX4:=z8 hX4
 have HC4:=z8 hC4
 have HL3:=z8 (zeL hT5 hl5)
 have HV3:=z8 hv5
 generalize hrq:(rqM q).2=bq at*
 have HBQ:=z8 hrq
 clear hB5 hB05 hT5 hl5 hv5 hz5 hq5 hrq HRQ
 cases hbb:(ba||bv||bq)
 case true=>
  have hres:Hid (grM s a v q st=6):=z8 (by rw [hgr2.out,hbb];rfl)
  clear hX4 hC4
  cases ba
  ·cases bv
   ·have hbq:bq=true:=by simpa using hbb
    subst hbq
    clear hbb
    obtain⟨b0,b1,b2,b3,b4,b5,b6,b7,bf⟩:=z39 HX4.out
    have f0:=bf 0
    have f1:=bf 1
    have f2:=bf 2
    have f3:=bf 3
    have f4:=bf 4
    have f5:=bf 5
    have f6:=bf 6
    have f7:=bf 7
    have HBOX:=z8 HX4.out
    clear bf
    go_wp2_with fail
    obtain⟨z0,z1,z2,z3,z4,z5,z6,z7,_⟩:=z39 (z84 HBOX.out (.int .i64 6) (.slice none 0 0) (.slice none 0 0) (.slice none 0 0) (.slice none 0 0) (.slice none 0 0) (.slice none 0 0) (.slice none 0 0))
    refine bodyPost_ret (v:= .agg #[.int .i64 6,.slice none 0 0,.slice none 0 0,.slice none 0 0,.slice none 0 0,.slice none 0 0,.slice none 0 0,.slice none 0 0]) (by simp [results,Tryz.results34,go_sem,z0,z1,z2,z3,z4,z5,z6,z7]) rfl ?_
    exact⟨_,_,_,_,_,_,_,by rw [hres.out],z4p HB3.out (zeK _) _ _ _ _ _ _ _ _,zh,zh,zh,zh,zh,zh,zh,fun e=>by rw [hres.out] at e;cases e⟩
   ·clear hbb
    obtain⟨b0,b1,b2,b3,b4,b5,b6,b7,bf⟩:=z39 HX4.out
    have f0:=bf 0
    have f1:=bf 1
    have f2:=bf 2
    have f3:=bf 3
    have f4:=bf 4
    have f5:=bf 5
    have f6:=bf 6
    have f7:=bf 7
    have HBOX:=z8 HX4.out
    clear bf
    go_wp2_with fail
    obtain⟨z0,z1,z2,z3,z4,z5,z6,z7,_⟩:=z39 (z84 HBOX.out (.int .i64 6) (.slice none 0 0) (.slice none 0 0) (.slice none 0 0) (.slice none 0 0) (.slice none 0 0) (.slice none 0 0) (.slice none 0 0))
    refine bodyPost_ret (v:= .agg #[.int .i64 6,.slice none 0 0,.slice none 0 0,.slice none 0 0,.slice none 0 0,.slice none 0 0,.slice none 0 0,.slice none 0 0]) (by simp [results,Tryz.results34,go_sem,z0,z1,z2,z3,z4,z5,z6,z7]) rfl ?_
    exact⟨_,_,_,_,_,_,_,by rw [hres.out],z4p HB3.out (zeK _) _ _ _ _ _ _ _ _,zh,zh,zh,zh,zh,zh,zh,fun e=>by rw [hres.out] at e;cases e⟩
  ·clear hbb
   obtain⟨b0,b1,b2,b3,b4,b5,b6,b7,bf⟩:=z39 HX4.out
   have f0:=bf 0
   have f1:=bf 1
   have f2:=bf 2
   have f3:=bf 3
   have f4:=bf 4
   have f5:=bf 5
   have f6:=bf 6
   have f7:=bf 7
   have HBOX:=z8 HX4.out
   clear bf
   go_wp2_with fail
   obtain⟨z0,z1,z2,z3,z4,z5,z6,z7,_⟩:=z39 (z84 HBOX.out (.int .i64 6) (.slice none 0 0) (.slice none 0 0) (.slice none 0 0) (.slice none 0 0) (.slice none 0 0) (.slice none 0 0) (.slice none 0 0))
   refine bodyPost_ret (v:= .agg #[.int .i64 6,.slice none 0 0,.slice none 0 0,.slice none 0 0,.slice none 0 0,.slice none 0 0,.slice none 0 0,.slice none 0 0]) (by simp [results,Tryz.results34,go_sem,z0,z1,z2,z3,z4,z5,z6,z7]) rfl ?_
   exact⟨_,_,_,_,_,_,_,by rw [hres.out],z4p HB3.out (zeK _) _ _ _ _ _ _ _ _,zh,zh,zh,zh,zh,zh,zh,fun e=>by rw [hres.out] at e;cases e⟩
 have hba:(ba=false∧bv=false)∧bq=false:=by simpa using hbb
 obtain⟨⟨h1,h2⟩,h3⟩:=hba
 subst h1 h2 h3
 have HQ6:=z8 (HQ5.out rfl)
 have hv4:=HV3.out rfl
 obtain⟨q0,q1,q2,q3,q4,q5,_⟩:=zbB hC4
 have hq5:w5.cell? ⟨w1.heap.size,2+3,none⟩=some (V 6):=by rw [←HTV.out.1.2.2.2];exact q5
 have HOT:=z8 (z5N w1.heap.size 2 (w.heap.size+1) w2.heap.size st V iv cv (vlM v).1 _ w5 hq5 HL3.out.1 hv4 hvl hC hCl)
 have HV4:=z8 hv4
 clear hv4 hq5 hbb hX4 hC4 q0 q1 q2 q3 q4 q5
 have hgr3:Hid (grM s a v q st=if hoM (vlM v).1 st.C then 7 else 0):=z8 (by rw [hgr2.out];rfl)
 go_wp2_with fail
 refine HOT.out.mono ?_
 rintro e w4 ⟨rfl,n9,rfl⟩
 have hX5:(w5.drewN n9).heap[w.heap.size]?=_:=HX4.out
 have hB05:Below w.heap.size w (w5.drewN n9):=⟨HB3.out.os,HB3.out.tape,HB3.out.output,HB3.out.size,HB3.out.block⟩
 have HB5:=z8 hB05
 have hC5:(w5.drewN n9).heap[w1.heap.size]?=_:=HC4.out
 have hT5:TreeV (w5.drewN n9) (w.heap.size+1) st V iv cv:=HL3.out.1.same fun k _ hk=>rfl
 have hl5:=zb (w':=w5.drewN n9) HL3.out.2 fun k e=>rfl
 have hv5:=zb (w':=w5.drewN n9) HV4.out fun k e=>rfl
 have hq7:=zb (w':=w5.drewN n9) HQ6.out fun k e=>rfl
 have H5:=z8 (zeL hT5 (zeL hl5 (zeL hv5 hq7)))
 clear hT5 hl5 hv5 hq7 hB05 HOT
 generalize hho:hoM (vlM v).1 st.C=ho at*
 clear hho
 cases ho
 case true=>
  have hres:Hid (grM s a v q st=7):=z8 (by rw [hgr3.out];rfl)
  clear hC5
  obtain⟨b0,b1,b2,b3,b4,b5,b6,b7,bf⟩:=z39 hX5
  have f0:=bf 0
  have f1:=bf 1
  have f2:=bf 2
  have f3:=bf 3
  have f4:=bf 4
  have f5:=bf 5
  have f6:=bf 6
  have f7:=bf 7
  have HBOX:=z8 hX5
  clear bf hX5
  go_wp2_with fail
  obtain⟨z0,z1,z2,z3,z4,z5,z6,z7,_⟩:=z39 (z84 HBOX.out (.int .i64 7) (.slice none 0 0) (.slice none 0 0) (.slice none 0 0) (.slice none 0 0) (.slice none 0 0) (.slice none 0 0) (.slice none 0 0))
  refine bodyPost_ret (v:= .agg #[.int .i64 7,.slice none 0 0,.slice none 0 0,.slice none 0 0,.slice none 0 0,.slice none 0 0,.slice none 0 0,.slice none 0 0]) (by simp [results,Tryz.results34,go_sem,z0,z1,z2,z3,z4,z5,z6,z7]) rfl ?_
  exact⟨_,_,_,_,_,_,_,by rw [hres.out],z4p HB5.out (zeK _) _ _ _ _ _ _ _ _,zh,zh,zh,zh,zh,zh,zh,fun e=>by rw [hres.out] at e;cases e⟩
 have hres:Hid (grM s a v q st=0):=z8 (by rw [hgr3.out];rfl)
 obtain⟨b0,b1,b2,b3,b4,b5,b6,b7,bf⟩:=z39 hX5
 obtain⟨q0,q1,q2,q3,q4,q5,_⟩:=zbB hC5
 have f0:=bf 0
 have f1:=bf 1
 have f2:=bf 2
 have f3:=bf 3
 have f4:=bf 4
 have f5:=bf 5
 have f6:=bf 6
 have f7:=bf 7
 have HX5:=z8 hX5
 clear bf hX5 hC5
 go_wp2_with fail
 obtain⟨z0,z1,z2,z3,z4,z5,z6,z7,_⟩:=z39 (z84 HX5.out (.int .i64 0) (.slice a1 n1 k1) (.slice a2 n2 k2) (.slice a3 n3 k3) (.slice a4 n4 k4) (.slice al (raM a).1.length kl) (.slice av nv kv) (.slice aq nq kq))
 refine bodyPost_ret (v:= .agg #[.int .i64 0,.slice a1 n1 k1,.slice a2 n2 k2,.slice a3 n3 k3,.slice a4 n4 k4,.slice al (raM a).1.length kl,.slice av nv kv,.slice aq nq kq]) (by simp [results,Tryz.results34,go_sem,z0,z1,z2,z3,z4,z5,z6,z7]) rfl ?_
 obtain⟨hT5,hl5,hv5,hq7⟩:=H5.out
 have hv6:=zq (base':=w.heap.size+1) hv5 (by have:=HZ2.out;omega)
 have hq8:=zq (base':=w.heap.size+1) hq7 (by have:=hz35.out;omega)
 refine⟨_,_,_,_,_,_,_,by rw [hres.out],z4p HB5.out (zeK _) _ _ _ _ _ _ _ _,⟨_,_,_,rfl⟩,⟨_,_,_,rfl⟩,⟨_,_,_,rfl⟩,⟨_,_,_,rfl⟩,⟨_,_,_,rfl⟩,⟨_,_,_,rfl⟩,⟨_,_,_,rfl⟩,fun _=>⟨V,iv,cv,HTV.out.1.1,HTV.out.1.2.1,HTV.out.1.2.2.1,HTV.out.1.2.2.2,(hT5.same fun k hk _=>zdL _ _ _ _ _ _ _ _ (by omega)).low (by omega),?_,?_,?_⟩⟩
 ·exact zq (zb hl5 fun k e=>zdL _ _ _ _ _ _ _ _ (by have:=(hl5.lt k e).1;omega)) (by omega)
 ·exact zq (zb hv6 fun k e=>zdL _ _ _ _ _ _ _ _ (by have:=(hv6.lt k e).1;omega)) (by omega)
 ·exact zq (zb hq8 fun k e=>zdL _ _ _ _ _ _ _ _ (by have:=(hq8.lt k e).1;omega)) (by omega)
def coM (s a v:zeV)(k:Int)(st:St):zeV×Int:=
 if grM s a v ⟨#[]⟩ st !=0 then(⟨#[]⟩,grM s a v ⟨#[]⟩ st) else if decide (k<0)||decide ((st.A.length:Int)≤k) then(⟨#[]⟩,8)
 else(vaM (vlM v).1 (zc (jE (vlM v).1 (ze (raM a).1 st.E []) st.C []) ((st.A.getD k.toNat ⟨⟨#[]⟩,0,0⟩).conds)),0)
theorem As.cells_len (x:As):x.cells.length=3:=rfl
theorem zc6 (s a v:zeV)(k:Int)(st:St)(w:World)(h:Calls Tryz.prog 34 #[.string s,.string a,.string v,.string ⟨#[]⟩] w fun e w'=>z1O s a v ⟨#[]⟩ st w e w')(hE:st.E.length≤100000)(hA:st.A.length≤100000)(hC:st.C.length≤100000)(hCl: ∀c∈st.C,c.length≤100000)(hvl:(vlM v).1.length≤100000)(hll:(raM a).1.length≤100000)(hls: ∀p∈(raM a).1,p.2.size≤600)(hEs: ∀x∈st.E,x.text.size≤600)
  (hW:grM s a v ⟨#[]⟩ st=0→ ∀x∈ze (raM a).1 st.E [],x.text.size≤100000000):
  Calls Tryz.prog 26 #[.string s,.int .i64 k,.string a,.string v] w fun e w'=>jF (coM s a v k st).1 (coM s a v k st).2 w e w':=by
 have HC:=z8 h
 clear h
 go_enter Tryz.func26,Tryz.ntmps26
 go_wp2_with fail
 refine HC.out.mono ?_
 rintro e w1 ⟨x1,x2,x3,x4,x5,x6,x7,rfl,hB1,⟨a1,n1,k1,rfl⟩,⟨a2,n2,k2,rfl⟩,⟨a3,n3,k3,rfl⟩,⟨a4,n4,k4,rfl⟩,⟨a5,n5,k5,rfl⟩,⟨a6,n6,k6,rfl⟩,⟨a7,n7,k7,rfl⟩,hG⟩
 have hco:Hid (coM s a v k st=if grM s a v ⟨#[]⟩ st !=0 then(⟨#[]⟩,grM s a v ⟨#[]⟩ st) else if decide (k<0)||decide ((st.A.length:Int)≤k) then(⟨#[]⟩,8) else(vaM (vlM v).1 (zc (jE (vlM v).1 (ze (raM a).1 st.E []) st.C []) ((st.A.getD k.toNat ⟨⟨#[]⟩,0,0⟩).conds)),0)):=z8 rfl
 generalize grM s a v ⟨#[]⟩ st=E at*
 have hB2:=hB1.alloc hB1.size (.cells #[.int .i64 E,.slice a1 n1 k1,.slice a2 n2 k2,.slice a3 n3 k3,.slice a4 n4 k4,.slice a5 n5 k5,.slice a6 n6 k6,.slice a7 n7 k7] 58)
 have hX2:=heap_alloc_new w1 (.cells #[.int .i64 E,.slice a1 n1 k1,.slice a2 n2 k2,.slice a3 n3 k3,.slice a4 n4 k4,.slice a5 n5 k5,.slice a6 n6 k6,.slice a7 n7 k7] 58)
 have HB2:=z8 hB2
 cases hEz:(E !=0)
 case true=>
  have hres:Hid (coM s a v k st=(⟨#[]⟩,E)):=z8 (by rw [hco.out,hEz];rfl)
  clear hG hB1 hX2 hB2
  go_wp2_with fail
  go_quiet (fail)
  go_wp2_with fail
  go_ret2
  exact⟨by rw [hres.out];rfl,⟨HB2.out.os,HB2.out.tape,HB2.out.output,HB2.out.size,HB2.out.block⟩⟩
 have hE0:E=0:=by simpa using hEz
 subst hE0
 obtain⟨V,iv,cv,e1,e2,e3,e4,hT,hl,hvv,hqq⟩:=hG rfl
 have hco2:Hid (coM s a v k st=if decide (k<0)||decide ((st.A.length:Int)≤k) then(⟨#[]⟩,8) else(vaM (vlM v).1 (zc (jE (vlM v).1 (ze (raM a).1 st.E []) st.C []) ((st.A.getD k.toNat ⟨⟨#[]⟩,0,0⟩).conds)),0)):=z8 (by rw [hco.out];rfl)
 have hrowA:=hT.own 3 (by omega) (by omega)
 have hn1:n1=st.A.length:=by
  obtain⟨qa,qk,q⟩:=za hrowA
  rw [←e1] at q
  injection q with _ q _
 subst hn1
 have hn5:n5=(raM a).1.length:=by
  obtain⟨qa,qk,q⟩:=za hl
  injection q with _ q _
 have hn6:n6=(vlM v).1.length:=by
  obtain⟨qa,qk,q⟩:=za hvv
  injection q with _ q _
 have hGd:Gd (w1.alloc (.cells #[.int .i64 0,.slice a1 st.A.length k1,.slice a2 n2 k2,.slice a3 n3 k3,.slice a4 n4 k4,.slice a5 n5 k5,.slice a6 n6 k6,.slice a7 n7 k7] 58)) w1.heap.size w.heap.size w.heap.size w.heap.size st V iv cv (raM a).1 (.slice a5 n5 k5) (vlM v).1 (.slice a6 n6 k6) (rqM ⟨#[]⟩).1 (.slice a7 n7 k7):=
  ⟨⟨0,by rw [←e1,←e2,←e3,←e4];exact hX2⟩,hT.same fun k _ hk=>zeM _ _ _ hk,hl.alloc _,hvv.alloc _,hqq.alloc _⟩
 have hrowA':(w1.alloc (.cells #[.int .i64 0,.slice a1 st.A.length k1,.slice a2 n2 k2,.slice a3 n3 k3,.slice a4 n4 k4,.slice a5 n5 k5,.slice a6 n6 k6,.slice a7 n7 k7] 58)).ownsRow w.heap.size 84 3 (.slice a1 st.A.length k1) st.A.length ((st.A.map As.cells).flatten):=by
  have q:=hGd.tree.own 3 (by omega) (by omega)
  rw [←e1] at q
  exact q
 have HGD:=z8 hGd
 have HRA:=z8 hrowA'
 have hz1:w.heap.size≤w1.heap.size:=hB1.size
 have HN:=z8 (zeL hn5 hn6)
 clear hco hG hEz hB1 hB2 hT hl hvv hqq e1 e2 e3 e4 hrowA hGd hrowA' hX2 hn5 hn6
 by_cases hk0:k<0
 ·have hres:Hid (coM s a v k st=(⟨#[]⟩,8)):=z8 (by rw [hco2.out];simp [hk0])
  go_wp2_with fail
  go_ret2
  exact⟨by rw [hres.out];rfl,HB2.out⟩
 by_cases hkA:(st.A.length:Int)≤k
 ·have hres:Hid (coM s a v k st=(⟨#[]⟩,8)):=z8 (by rw [hco2.out];simp [hkA])
  go_wp2_with fail
  go_ret2
  exact⟨by rw [hres.out];rfl,HB2.out⟩
 obtain⟨j,rfl⟩:=Int.eq_ofNat_of_zero_le (show 0≤k by omega)
 have hjA:j<st.A.length:=by omega
 obtain⟨x,hx⟩: ∃x,st.A[j]?=some x:=⟨st.A[j],zeH hjA⟩
 have hres:Hid (coM s a v j st=(vaM (vlM v).1 (zc (jE (vlM v).1 (ze (raM a).1 st.E []) st.C []) x.conds),0)):=z8 (by
  rw [hco2.out]
  have h1: ¬st.A.length≤j:=by omega
  simp [h1,List.getD,hx])
 have HCL:=z8 (z1p w1.heap.size w.heap.size w.heap.size w.heap.size st V iv cv (raM a).1 _ (vlM v).1 _ _ _ _ HGD.out hE hC hCl hvl hll hls hEs (hW rfl))
 have hLl:(jE (vlM v).1 (ze (raM a).1 st.E []) st.C []).length≤100000:=by rw [z0a];simpa using hC
 generalize jE (vlM v).1 (ze (raM a).1 st.E []) st.C []=LV at*
 have hkA':(j:Int)<st.A.length:=by omega
 clear hW hco2 hk0 hkA
 go_wp2_with fail
 refine HCL.out.mono ?_
 rintro e w2 ⟨lv,rfl,hlv,hB3⟩
 obtain⟨al,kl,rfl⟩:=za hlv
 have hG2:=HGD.out.keep hB3
 have hA2:=zb HRA.out fun q e=>hB3.block q (HRA.out.lt q e).2
 obtain⟨g,cap,hvx,hbb,hgg⟩:=hA2.form (by omega)
 injection hvx with e1 e2 e3
 subst e1 e3
 have p2:w2.cell? ⟨g,j*3+2,none⟩=some (.int .i64 x.conds):=zf hA2 _ _ (zI As.cells 3 As.cells_len st.A j 2 x hx (by omega))
 have hbx2:=(hB3.block w1.heap.size (by simp)).trans (heap_alloc_new w1 (.cells #[.int .i64 0,.slice (some ⟨g,0,none⟩) st.A.length k1,.slice a2 n2 k2,.slice a3 n3 k3,.slice a4 n4 k4,.slice a5 n5 k5,.slice a6 n6 k6,.slice a7 n7 k7] 58))
 obtain⟨b0,b1,b2,b3,b4,b5,b6,b7,bf⟩:=z39 hbx2
 have HB3:=z8 (HB2.out.trans (hB3.mono HB2.out.size))
 have HLA:=z8 (ji _ LV _ x.conds w2 hlv hLl)
 have hv2:=hG2.vals
 have hv3:w2.ownsRow w.heap.size 9 1 (.slice a6 (vlM v).1.length k6) (vlM v).1.length ((vlM v).1.map Value.string):=by have q:=hv2;rw [HN.out.2] at q;exact q
 have HVA:=z8 (fun i=>z3C w1.heap.size w.heap.size (vlM v).1 a6 k6 i w2 (by rw [←HN.out.2];exact b6) hv3 hvl)
 clear hG2 hA2 hbx2 bf hB3 hlv hv2 hv3 HCL hx
 generalize zc LV x.conds=lev at*
 go_wp2_with fail
 refine HLA.out.mono ?_
 rintro e w3 ⟨rfl,rfl⟩
 have HVL:=z8 (HVA.out lev)
 generalize vaM (vlM v).1 lev=D at*
 clear HVA HLA
 go_wp2_with fail
 refine HVL.out.mono ?_
 rintro e w4 ⟨rfl,rfl⟩
 go_wp2_with fail
 go_ret2
 exact⟨by rw [hres.out];rfl,HB3.out⟩
def zdD (s:zeV)(lo hi:Nat)(w:World)(e:Ending)(w':World):Prop:= ∃a n k l ok,e= .returned (.tuple #[.slice a n k,.bool ok])∧Below w.heap.size w w'∧w'.ownsRow w.heap.size 9 1 (.slice a n k) l.length (l.map Value.string)∧l.length≤700∧((ok=false∧(rnM s).2=true∧s.size≠0)∨(rnM s=(l,false)∧s.size≠0∧ok=(decide (lo≤l.length)&&decide (l.length≤hi)))∨(s.size=0∧l=[]∧ok=decide (lo=0)))
def zd9 (s:zeV)(w:World)(e:Ending)(w':World):Prop:= ∃a n k l ok,e= .returned (.tuple #[.slice a n k,.bool ok])∧Below w.heap.size w w'∧w'.ownsRow w.heap.size 9 1 (.slice a n k) l.length (l.map Value.string)∧l.length≤700∧((ok=false∧(rnM s).2=true)∨(rnM s=(l,false)∧ok=(decide (2≤l.length)&&decide (l.length≤5))))
def okN (s:zeV)(P:Nat×Bool×List zeV):List zeV×Bool:=(P.2.2,z1n s P.1 P.2.1)
def z64 (s:zeV)(n p:Nat)(l:List zeV):Nat×Bool×List zeV:=
 let v:=zo s p false
 nmM s n v.1 v.2.1 (l++[v.2.2])
theorem z7t (s:zeV):rnM s=okN s (z64 s (s.size+1) 0 []):=rfl
theorem z4M {s:zeV}{n a:Nat}{d:Bool}{l:List zeV}(h:(pk s a d==44)=false):nmM s n a d l=(a,d,l):=by
 cases n with
 |zero=>rfl
 |succ n=>unfold nmM;rw [h];rfl
theorem zdf {s:zeV}{n a:Nat}{l:List zeV}(h:(pk s a false==44)=true):nmM s (n+1) a false l=z64 s n (a+1) l:=by
 conv=>lhs;unfold nmM
 rw [h];rfl
theorem z9g {s:zeV}{n p:Nat}{l:List zeV}(h:(zo s p false).2.1=true):(okN s (z64 s n p l)).2=true:=by
 unfold z64 okN
 simp only
 rw [h,z4M rfl]
 rfl
theorem zbf:(rnM ⟨#[]⟩).2=true:=by
 rw [z7t]
 refine z9g ?_
 have:zo ⟨#[]⟩ 0 false=(0,true,⟨#[]⟩):=jT (jx rfl) (.inl rfl)
 rw [this]
theorem z6g (s:zeV)(lo hi:Nat)(w:World)(hs:s.size≤600)(hlo:lo≤100)(hhi:hi≤100):Calls Tryz.prog 102 #[.string s,.int .i64 lo,.int .i64 hi] w fun e w'=>zdD s lo hi w e w':=by
 have hrd0:=z7B hs (heap_alloc_new w (.cells #[.string s,.int .i64 0,.bool false] 94))
 have hB0:=(zeU w.heap.size w).alloc (zeK _) (.cells #[.string s,.int .i64 0,.bool false] 94)
 have hz0:(w.alloc (.cells #[.string s,.int .i64 0,.bool false] 94)).heap.size=w.heap.size+1:=by simp
 have H0:=z8 (zeL hrd0 (zeL hB0 hz0))
 clear hrd0 hB0 hz0
 obtain⟨i0,hii,hz0',hz1,hz2⟩:=info_parts info9
 by_cases h0:s.size=0
 ·have hs0:=z2u h0
  subst hs0
  go_enter Tryz.func102,Tryz.ntmps102
  go_wp2_with fail
  go_loopg [8,10] 1 (fun k lv mv wr=>lv= .slice none 0 0∧mv= .bool false∧wr=(w.alloc (.cells #[.string ⟨#[]⟩,.int .i64 0,.bool false] 94)))
  case atStart=>exact⟨rfl,rfl,rfl⟩
  case round=>
   obtain⟨rfl,rfl,rfl⟩:=hrel
   have q:=z8 ((zeU w.heap.size w).alloc (zeK _) (.cells #[.string ⟨#[]⟩,.int .i64 0,.bool false] 94))
   by_cases hl0:lo=0
   ·subst hl0
    have hh0:(0:Int)≤hi:=by omega
    go_wp2_with fail
    go_ret2
    exact⟨none,0,0,[],true,rfl,⟨q.out.os,q.out.tape,q.out.output,q.out.size,q.out.block⟩,⟨rfl,.inl ⟨rfl,rfl⟩⟩,by simp,.inr (.inr ⟨rfl,rfl,by simp⟩)⟩
   ·have hh0: ¬(lo:Int)≤0:=by omega
    go_wp2_with fail
    go_ret2
    exact⟨none,0,0,[],false,rfl,⟨q.out.os,q.out.tape,q.out.output,q.out.size,q.out.block⟩,⟨rfl,.inl ⟨rfl,rfl⟩⟩,by simp,.inr (.inr ⟨rfl,rfl,by simp [hl0]⟩)⟩
 ·have hne:(s.toList==([]:List UInt8))=false:=by
   rw [zeJ]
   cases hq:(s.data.toList==([]:List UInt8)) with
   |false=>rfl
   |true=>simp at hq;exact absurd (show s.size=0 by simp [ByteArray.size,hq]) h0
  have hnl: ¬s.toList=[]:=by simpa using hne
  have hra:=z8 (z7t s)
  generalize hP0:z64 s (s.size+1) 0 []=P0 at*
  have HP0:=z8 hP0
  clear hP0
  go_enter Tryz.func102,Tryz.ntmps102
  go_wp2_with fail
  obtain⟨hrd0,hB0,hz0⟩:=H0.out
  clear H0
  generalize (w.alloc (.cells #[.string s,.int .i64 0,.bool false] 94))=W0 at*
  go_loopg [8,10] (s.size+2) (fun k lv mv wr=> ∃(p:Nat) (d more:Bool) (l:List zeV) (a:Option Addr) (cap n:Nat),lv= .slice a l.length cap∧mv= .bool more∧Hid (wr.ownsRow (w.heap.size+1) 9 1 (.slice a l.length cap) l.length (l.map Value.string))∧Hid (Below w.heap.size w wr)∧w.heap.size<wr.heap.size∧Hid (Rd wr w.heap.size s p d)∧l.length+k≤s.size+2∧s.size+1≤k+p∧p≤s.size∧
   Hid ((more=true∧d=false∧1≤k∧s.size≤n+p∧okN s (z64 s n p l)=okN s P0)∨(more=true∧d=true∧(okN s P0).2=true)∨(more=false∧d=false∧okN s P0=(l,false))))
  case atStart=>
   refine⟨0,false,true,[],none,0,s.size+1,rfl,by simp,z8 ?_,z8 hB0,by omega,z8 hrd0,by simp,by omega,by omega,z8 (.inl ⟨rfl,rfl,by omega,by omega,by rw [HP0.out]⟩)⟩
   exact⟨rfl,.inl ⟨rfl,rfl⟩⟩
  case round=>
   obtain⟨p,d,more,l,a,cap,n,rfl,rfl,HO,HB,hwz,HR,hlk,hkp,hps,HC⟩:=hrel
   cases more
   ·have hfin:d=false∧okN s P0=(l,false):=by
     rcases HC.out with⟨e,_⟩|⟨e,_⟩|⟨_,e1,e2⟩
     ·cases e
     ·cases e
     ·exact⟨e1,e2⟩
    obtain⟨hd,hfin⟩:=hfin
    subst hd
    have hra2:Hid (rnM s=(l,false)):=z8 (by rw [hra.out,hfin])
    obtain⟨c0,c1,c2,f1,f2,_,_⟩:=HR.out
    clear hfin HC
    have hBe:=z8 (fun N=>(show Below w.heap.size w (wr.drewN N) from⟨HB.out.os,HB.out.tape,HB.out.output,HB.out.size,HB.out.block⟩))
    have hOe:=z8 (fun N=>zq (base':=w.heap.size) (zb (w':=wr.drewN N) HO.out fun k e=>rfl) (by omega))
    by_cases h2:lo≤l.length
    ·have h2':(lo:Int)≤l.length:=by omega
     by_cases h5:l.length≤hi
     ·have h5':(l.length:Int)≤hi:=by omega
      go_wp2_with fail
      go_ret2
      exact⟨a,l.length,cap,l,true,by simp,hBe.out 0,hOe.out 0,by omega,.inr (.inl ⟨hra2.out,h0,by simp [h2,h5]⟩)⟩
     ·have h5': ¬(l.length:Int)≤hi:=by omega
      go_wp2_with fail
      go_ret2
      exact⟨a,l.length,cap,l,false,by simp,hBe.out 0,hOe.out 0,by omega,.inr (.inl ⟨hra2.out,h0,by simp [h5]⟩)⟩
    ·have h2': ¬(lo:Int)≤l.length:=by omega
     go_wp2_with fail
     go_ret2
     exact⟨a,l.length,cap,l,false,by simp,hBe.out 0,hOe.out 0,by omega,.inr (.inl ⟨hra2.out,h0,by simp [h2]⟩)⟩
   ·have hNm:=z8 (z0B w.heap.size p s d)
    rw [show z16 s p d=zo s p d from rfl] at hNm
    obtain⟨vn,hvn⟩: ∃vn,zo s p d=vn:=⟨_,rfl⟩
    obtain⟨pn,dn,nm⟩:=vn
    rw [hvn] at hNm
    simp only at hNm
    have HV:=z8 hvn
    clear hvn
    have hpn:pn≤s.size∧p≤pn:=by
     have q:=z3p (p:=zp) (by decide) (m:=8) (d:=d) hps
     have e:=HV.out
     unfold zo at e
     rw [e] at q
     exact⟨q.2,q.1⟩
    go_wp2_with fail
    refine(hNm.out _ HR.out).mono ?_
    rintro e w2 ⟨rfl,hr2,hs12⟩
    clear hNm
    obtain⟨c0,c1,c2,f1,f2,_,_⟩:=id hr2
    have hB2:Below w.heap.size w w2:=⟨hs12.os.trans HB.out.os,hs12.tape.trans HB.out.tape,hs12.output.trans HB.out.output,by have:=hs12.size;have:=HB.out.size;omega,fun k hk=>(hs12.block k (by omega)).trans (HB.out.block k hk)⟩
    cases dn
    case true=>
     have hbad:Hid ((rnM s).2=true):=z8 (by
      rw [hra.out]
      rcases HC.out with⟨_,e1,_,_,e2⟩|⟨_,_,e2⟩|⟨e1,_⟩
      ·subst e1
       rw [←e2]
       exact z9g (by rw [HV.out])
      ·exact e2
      ·cases e1)
     have HB2:=z8 hB2
     clear hB2
     go_wp2_with fail
     go_ret2
     exact⟨none,0,0,[],false,rfl,HB2.out,⟨rfl,.inl ⟨rfl,rfl⟩⟩,by simp,.inl ⟨rfl,hbad.out,h0⟩⟩
    case false=>
    have hdn:d=false:=by
     cases d with
     |false=>rfl
     |true=>
      exfalso
      have q1:=HV.out
      have q2:zo s p true=(p,true,⟨#[]⟩):=jT (jx rfl) (.inl rfl)
      rw [q2] at q1
      injection q1 with e1 e2
      injection e2 with e2 e3
      cases e2
    subst hdn
    have hcn:1≤gk∧s.size≤n+p∧okN s (z64 s n p l)=okN s P0:=by
     rcases HC.out with⟨_,_,e1,e2,e3⟩|⟨_,e1,_⟩|⟨e1,_⟩
     ·exact⟨e1,e2,e3⟩
     ·cases e1
     ·cases e1
    obtain⟨hg1,hnp,hnx⟩:=hcn
    have hpn1:p+1≤pn:=by
     have q:=HV.out
     unfold zo jR at q
     simp only at q
     split at q
     ·injection q with _ q;injection q with q _;cases q
     ·rename_i hq
      injection q with q1 _
      have hne:run zp s false 8 p≠p:=fun e=>hq (by simp [e])
      have hge:=(z36 zp (by decide) s false 8 p hps).1
      omega
    have HNX:Hid (okN s (nmM s n pn false (l++[nm]))=okN s P0):=z8 (by
     rw [←hnx]
     unfold z64
     rw [HV.out])
    have hO2:w2.ownsRow (w.heap.size+1) 9 1 (.slice a l.length cap) l.length (l.map Value.string):=zb HO.out fun k e=>hs12.block k (by have:=(HO.out.lt k e).1;omega)
    have hw2z:w.heap.size<w2.heap.size:=by have:=hs12.size;omega
    have hlen9:l.length≤700:=by omega
    have HK3:=z8 (zeL hO2 hB2)
    clear hO2 hB2 hs12 HC hnx
    go_wp2_with (at_builtin;go_must (refine wpList_append_lies _ rfl (.tmp 24) (.tmp 26) 56 rfl (w.heap.size+1) 9 i0 _ 1 16 Tryz.underlying56 hii hz0' hz1 hz2 rfl (by omega) _ l.length _ rfl (HK3.out.1.alloc _) ⟨w2.heap.size,0,none⟩ 1 1 [.string nm] rfl rfl ?news ?one (by omega) ?mm ?bys ?base (w2.heap.size+1) (by simp) ?rest))
    case news=>exact World.news_of_block (heap_alloc_new w2 _)
    case one=>intro u hu;simp at hu;subst hu;rfl
    case mm=>unfold maxLen;omega
    case bys=>omega
    case base=>first|omega|(simp<;>omega)
    case rest=>
     intro gc cap8 w8 hown8 hgrow hat8 hlt8
     obtain⟨hO3,hB3⟩:=HK3.out
     clear HK3
     have hr8:Rd w8 w.heap.size s pn false:=hr2.other ((hgrow.block _ (by first|omega|(simp<;>omega)) (fun e=>by have:=(hO3.lt _ e.symm).1;omega)).trans (zeM _ _ _ hw2z))
     have hB8:=z8 (Below.grown (hB3.alloc hB3.size _) hgrow (by first|omega|(simp<;>omega)) fun q e=>by have:=(hO3.lt q e).1;omega)
     have hz8:w.heap.size<w8.heap.size:=by have:=hgrow.size;first|omega|(simp at this;omega)
     have hown9:Hid (w8.ownsRow (w.heap.size+1) 9 1 (.slice (some ⟨gc,0,none⟩) (l++[nm]).length cap8) (l++[nm]).length ((l++[nm]).map Value.string)):=z8 (by simpa using hown8)
     have HR8:=z8 hr8
     clear hown8 hgrow hat8 hO3 hB3 c0 c1 c2 f1 f2
     obtain⟨c0,c1,c2,f1,f2,_,_⟩:=hr8
     by_cases hlt:pn<s.size
     ·have hlt':(pn:Int)<s.size:=by omega
      have hW:=z8 (fun W h=>zK w.heap.size pn s ⟨#[44]⟩ false W h (by decide))
      rw [show(ByteArray.mk #[44]).data.toList=[44] from rfl] at hW
      cases hb1:(pk s pn false==44)
      case true=>
       have hpk44:pk s pn false=((44:UInt8).toNat:Int):=by simpa using hb1
       rw [z10 hpk44] at hW
       clear hpk44
       have HB1:=z8 hb1
       clear hb1
       go_wp2_with fail
       refine(hW.out _ HR8.out).mono ?_
       rintro e w9 ⟨rfl,hr9,hs9⟩
       have hO10:Hid (w9.ownsRow (w.heap.size+1) 9 1 (.slice (some ⟨gc,0,none⟩) (l++[nm]).length cap8) (l++[nm]).length ((l++[nm]).map Value.string)):=z8 (zb hown9.out fun q e=>hs9.block q (by have:=(hown9.out.lt q e).1;omega))
       have hB10:Hid (Below w.heap.size w w9):=z8 ⟨hs9.os.trans hB8.out.os,hs9.tape.trans hB8.out.tape,hs9.output.trans hB8.out.output,by have:=hs9.size;have:=hB8.out.size;omega,fun q hq=>(hs9.block q (by omega)).trans (hB8.out.block q hq)⟩
       have hz10:w.heap.size<w9.heap.size:=by have:=hs9.size;omega
       have hr10:Hid (Rd w9 w.heap.size s (pn+1) false):=z8 hr9
       clear hr9 hs9
       go_wp2_with fail
       obtain⟨n1,hn1⟩: ∃n1,n=n1+1:=⟨n - 1,by omega⟩
       go_roundg (gk - 1)
       case measure=>omega
       case rel=>exact⟨pn+1,false,true,l++[nm],some ⟨gc,0,none⟩,cap8,n1,by simp,by simp [hlt'],hO10,hB10,hz10,hr10,by simp;omega,by omega,by omega,z8 (.inl ⟨rfl,rfl,by omega,by omega,by rw [←HNX.out,hn1,zdf HB1.out]⟩)⟩
      case false=>
       have hpk44:pk s pn false≠((44:UInt8).toNat:Int):=by simpa using hb1
       rw [j8 hpk44] at hW
       clear hpk44
       have HB1:=z8 hb1
       clear hb1
       go_wp2_with fail
       refine(hW.out _ HR8.out).mono ?_
       rintro e w9 ⟨rfl,hr9,hs9⟩
       have hO10:Hid (w9.ownsRow (w.heap.size+1) 9 1 (.slice (some ⟨gc,0,none⟩) (l++[nm]).length cap8) (l++[nm]).length ((l++[nm]).map Value.string)):=z8 (zb hown9.out fun q e=>hs9.block q (by have:=(hown9.out.lt q e).1;omega))
       have hB10:Hid (Below w.heap.size w w9):=z8 ⟨hs9.os.trans hB8.out.os,hs9.tape.trans hB8.out.tape,hs9.output.trans hB8.out.output,by have:=hs9.size;have:=hB8.out.size;omega,fun q hq=>(hs9.block q (by omega)).trans (hB8.out.block q hq)⟩
       have hz10:w.heap.size<w9.heap.size:=by have:=hs9.size;omega
       have hr10:Hid (Rd w9 w.heap.size s pn true):=z8 hr9
       clear hr9 hs9
       go_wp2_with fail
       go_roundg (gk - 1)
       case measure=>omega
       case rel=>exact⟨pn,true,true,l++[nm],some ⟨gc,0,none⟩,cap8,n,by simp,by simp [hlt'],hO10,hB10,hz10,hr10,by simp;omega,by omega,by omega,z8 (.inr (.inl ⟨rfl,rfl,by
        rw [←HNX.out,z4M HB1.out]
        simp [okN,z1n,hlt]⟩))⟩
     ·have hlt': ¬(pn:Int)<s.size:=by omega
      have hks':pn=s.size:=by omega
      have HKS:=z8 hks'
      clear hks'
      go_wp2_with fail
      go_roundg (gk - 1)
      case measure=>omega
      case rel=>exact⟨pn,false,false,l++[nm],some ⟨gc,0,none⟩,cap8,n,by simp,by simp [hlt'],hown9,hB8,hz8,HR8,by simp;omega,by omega,by omega,z8 (.inr (.inr ⟨rfl,rfl,by
       rw [←HNX.out,z4M (by rw [HKS.out,z4x];rfl)]
       simp [okN,z1n,hlt]⟩))⟩
theorem z90 (s:zeV)(w:World)(hs:s.size≤600):Calls Tryz.prog 102 #[.string s,.int .i64 2,.int .i64 5] w fun e w'=>zd9 s w e w':=
 (z6g s 2 5 w hs (by omega) (by omega)).mono fun e w' ⟨a,n,k,l,ok,h1,h2,h3,h4,h5⟩=>⟨a,n,k,l,ok,h1,h2,h3,h4,by
  rcases h5 with⟨q1,q2,_⟩|⟨q1,_,q2⟩|⟨q1,q2,q3⟩
  ·exact .inl ⟨q1,q2⟩
  ·exact .inr ⟨q1,q2⟩
  ·exact .inl ⟨by rw [q3];rfl,by rw [z2u q1];exact zbf⟩⟩
end Go.Proofs.YtkoohcilbpdgeaaGreatDoor
