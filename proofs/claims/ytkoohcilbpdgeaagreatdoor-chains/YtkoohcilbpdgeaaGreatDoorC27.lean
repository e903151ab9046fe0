import Derived.Test.YtkoohcilbpdgeaaGreatDoorC26
set_option linter.all false
set_option linter.unusedVariables false
set_option linter.unusedSimpArgs false
set_option linter.unnecessarySimpa false
set_option linter.constructorNameAsVariable false
set_option linter.deprecated false
set_option maxRecDepth 100000
set_option maxHeartbeats 6400000
namespace Go.Proofs.YtkoohcilbpdgeaaGreatDoor
open Go Go.RowKit
attribute [local go_sem] wrap64_byte
def DaPost (s:ByteArray)(w:World)(e:Ending)(w':World):Prop:= ∃a n k,e= .returned (.tuple #[.slice a n k,.bool (!(raM s).2)])∧Below w.heap.size w w'∧((raM s).2=false→w'.ownsRow w.heap.size 144 2 (.slice a n k) (raM s).1.length (((raM s).1.map prCells).flatten))
theorem info144:(Tryz.prog.info? 144).map (fun i=>(i.zero,i.size,i.bytes))=some (some (.agg #[.string ⟨#[]⟩,.string ⟨#[]⟩]),2,32):=by kernel_rfl
theorem boxr3 {w:World}{g:Nat}{a b c:Value}{t:TypeId}(hh:w.heap[g]?=some (.cells #[a,b,c] t)):
  w.cell? ⟨g,0,none⟩=some a∧w.cell? ⟨g,1,none⟩=some b∧w.cell? ⟨g,2,none⟩=some c∧(∀o,w.frozen? ⟨g,o,none⟩=false):=by
 simp [World.cell?,World.frozen?,hh]
theorem rd_new {w:World}{g:Nat}{s:ByteArray}{t:TypeId}(hs:s.size≤600)(h:w.heap[g]?=some (.cells #[.string s,.int .i64 0,.bool false] t)):Rd w g s 0 false:=by
 obtain⟨q0,q1,q2,qf⟩:=boxr3 h
 exact⟨q0,q1,q2,qf _,qf _,Nat.zero_le _,hs⟩
theorem attributes_any (s:ByteArray)(w:World)(hs:s.size≤600):Calls Tryz.prog 54 #[.string s] w fun e w'=>DaPost s w e w':=by
 have hrd0:=rd_new hs (heap_alloc_new w (.cells #[.string s,.int .i64 0,.bool false] 94))
 have hB0:=(Below.refl w.heap.size w).alloc (Nat.le_refl _) (.cells #[.string s,.int .i64 0,.bool false] 94)
 have hz0:(w.alloc (.cells #[.string s,.int .i64 0,.bool false] 94)).heap.size=w.heap.size+1:=by simp
 have H0:=hide (And.intro hrd0 (And.intro hB0 hz0))
 clear hrd0 hB0 hz0
 obtain⟨i0,hi,hz0',hz1,hz2⟩:=info_parts info144
 by_cases h0:s.size=0
 ·have hs0:=ba_empty h0
  subst hs0
  have hra:Hid (raM ⟨#[]⟩=([],false)):=hide rfl
  go_enter Tryz.func54,Tryz.ntmps54
  go_wp2_with fail
  go_loopg [4,6] 1 (fun k lv mv wr=>lv= .slice none 0 0∧mv= .bool false∧wr=(w.alloc (.cells #[.string ⟨#[]⟩,.int .i64 0,.bool false] 94)))
  case atStart=>exact⟨rfl,rfl,rfl⟩
  case round=>
   obtain⟨rfl,rfl,rfl⟩:=hrel
   go_wp2_with fail
   go_quiet (fail)
   go_wp2_with fail
   go_ret2
   refine⟨none,0,0,by rw [hra.out];rfl,?_,fun _=>by rw [hra.out];exact⟨rfl,.inl ⟨rfl,rfl⟩⟩⟩
   have q:=(Below.refl w.heap.size w).alloc (Nat.le_refl _) (.cells #[.string ⟨#[]⟩,.int .i64 0,.bool false] 94)
   exact⟨q.os,q.tape,q.output,q.size,q.block⟩
 ·have hne:(s.toList==([]:List UInt8))=false:=by
   rw [ByteArray.toList_eq]
   cases hq:(s.data.toList==([]:List UInt8)) with
   |false=>rfl
   |true=>simp at hq;exact absurd (show s.size=0 by simp [ByteArray.size,hq]) h0
  have hnl: ¬s.toList=[]:=by simpa using hne
  have hra:=hide (raM_next h0)
  generalize hP0:nextM s (s.size+1) 0 []=P0 at*
  have HP0:=hide hP0
  clear hP0
  go_enter Tryz.func54,Tryz.ntmps54
  go_wp2_with fail
  obtain⟨hrd0,hB0,hz0⟩:=H0.out
  clear H0
  generalize (w.alloc (.cells #[.string s,.int .i64 0,.bool false] 94))=W0 at*
  go_loopg [4,6] (s.size+2) (fun k lv mv wr=> ∃(p:Nat) (d more:Bool) (l:List (ByteArray×ByteArray)) (a:Option Addr) (cap n:Nat),lv= .slice a l.length cap∧mv= .bool more∧Hid (wr.ownsRow (w.heap.size+1) 144 2 (.slice a l.length cap) l.length ((l.map prCells).flatten))∧Hid (Below w.heap.size w wr)∧w.heap.size<wr.heap.size∧Hid (Rd wr w.heap.size s p d)∧l.length+k≤s.size+2∧s.size+1≤k+p∧p≤s.size∧
   Hid ((more=true∧d=false∧1≤k∧s.size≤n+p∧okP s (nextM s n p l)=okP s P0)∨(more=true∧d=true∧(okP s P0).2=true)∨(more=false∧d=false∧okP s P0=(l,false))))
  case atStart=>
   refine⟨0,false,true,[],none,0,s.size+1,rfl,by simp,hide ?_,hide hB0,by omega,hide hrd0,by simp,by omega,by omega,hide (.inl ⟨rfl,rfl,by omega,by omega,by rw [HP0.out]⟩)⟩
   exact⟨rfl,.inl ⟨rfl,rfl⟩⟩
  case round=>
   obtain⟨p,d,more,l,a,cap,n,rfl,rfl,HO,HB,hwz,HR,hlk,hkp,hps,HC⟩:=hrel
   cases more
   ·have hfin:d=false∧okP s P0=(l,false):=by
     rcases HC.out with⟨e,_⟩|⟨e,_⟩|⟨_,e1,e2⟩
     ·cases e
     ·cases e
     ·exact⟨e1,e2⟩
    obtain⟨hd,hfin⟩:=hfin
    subst hd
    have hra2:Hid (raM s=(l,false)):=hide (by rw [hra.out,hfin])
    obtain⟨c0,c1,c2,f1,f2,_,_⟩:=HR.out
    clear hfin HC
    go_wp2_with fail
    go_quiet (fail)
    go_wp2_with fail
    go_ret2
    refine⟨a,l.length,cap,by rw [hra2.out];rfl,⟨HB.out.os,HB.out.tape,HB.out.output,HB.out.size,HB.out.block⟩,fun _=> ?_⟩
    rw [hra2.out]
    exact ownsRow_base (ownsRow_same HO.out fun k e=>rfl) (by omega)
   ·have hNm:=hide (nameR_any w.heap.size p s d)
    rw [show nameR s p d=bareName s p d from rfl] at hNm
    have HEQ:Hid (bareName s p d=bareName s p d):=hide rfl
    obtain⟨vn,hvn⟩: ∃vn,bareName s p d=vn:=⟨_,rfl⟩
    obtain⟨pn,dn,nm⟩:=vn
    rw [hvn] at hNm
    have HWd:=hide (fun W h=>eat_any w.heap.size pn s ⟨#[61]⟩ dn W h (by decide))
    rw [show(ByteArray.mk #[61]).data.toList=[61] from rfl] at HWd
    obtain⟨uw,huw⟩: ∃uw,wordM s dn [61] pn=uw:=⟨_,rfl⟩
    obtain⟨fr,du⟩:=uw
    rw [huw] at HWd
    simp only at hNm HWd
    have HV:=hide (And.intro hvn huw)
    clear hvn huw HEQ
    have hpn:pn≤s.size∧p≤pn:=by
     have q:=bareM_le (p:=isLetter) (by decide) (m:=8) (d:=d) hps
     have e:=HV.out.1
     unfold bareName at e
     rw [e] at q
     exact⟨q.2,q.1⟩
    have hfr:fr≤s.size∧pn≤fr:=by
     have q:=wordM_le s dn [61] pn hpn.1
     rw [HV.out.2] at q
     exact⟨q.2,q.1⟩
    go_wp2_with fail
    refine(hNm.out _ HR.out).mono ?_
    rintro e w1 ⟨rfl,hr1,hs1⟩
    go_wp2_with fail
    refine(HWd.out _ hr1).mono ?_
    rintro e w2 ⟨rfl,hr2,hs2⟩
    have hs12:=hs1.trans hs2
    clear hs1 hs2 hr1 hNm HWd
    obtain⟨c0,c1,c2,f1,f2,_,_⟩:=id hr2
    have hB2:Below w.heap.size w w2:=⟨hs12.os.trans HB.out.os,hs12.tape.trans HB.out.tape,hs12.output.trans HB.out.output,by have:=hs12.size;have:=HB.out.size;omega,fun k hk=>(hs12.block k (by omega)).trans (HB.out.block k hk)⟩
    cases du
    case true=>
     have hbad:Hid ((raM s).2=true):=hide (by
      rw [hra.out]
      rcases HC.out with⟨_,e1,_,_,e2⟩|⟨_,_,e2⟩|⟨e1,_⟩
      ·subst e1
       rw [←e2]
       exact next_bad (by rw [HV.out.1];simp only;rw [HV.out.2])
      ·exact e2
      ·cases e1)
     have HB2:=hide hB2
     clear hB2
     go_wp2_with fail
     go_ret2
     exact⟨none,0,0,by rw [hbad.out];rfl,HB2.out,fun e=>by rw [hbad.out] at e;cases e⟩
    case false=>
    have hdn:d=false:=by
     cases d with
     |false=>rfl
     |true=>
      exfalso
      have q1:=HV.out.1
      have q2:bareName s p true=(p,true,⟨#[]⟩):=bareM_bad (run_stop rfl) (.inl rfl)
      rw [q2] at q1
      injection q1 with e1 e2
      injection e2 with e2 e3
      have q3:=HV.out.2
      rw [←e1,←e2] at q3
      rw [wordM_cons_no (by show(-1:Int)≠_;decide)] at q3
      injection q3 with _ e4
      cases e4
    subst hdn
    have HFP:Hid (p+1≤fr):=hide (by
     have q:=HV.out.2
     by_cases hc:pk s pn dn=((61:UInt8).toNat:Int)
     ·rw [wordM_one hc] at q
      injection q with q1 q2
      omega
     ·rw [wordM_cons_no hc] at q
      injection q with q1 q2
      cases q2)
    have hcn:1≤gk∧s.size≤n+p∧okP s (nextM s n p l)=okP s P0:=by
     rcases HC.out with⟨_,_,e1,e2,e3⟩|⟨_,e1,_⟩|⟨e1,_⟩
     ·exact⟨e1,e2,e3⟩
     ·cases e1
     ·cases e1
    obtain⟨hg1,hnp,hnx⟩:=hcn
    have HNX:=hide hnx
    have hO2:w2.ownsRow (w.heap.size+1) 144 2 (.slice a l.length cap) l.length ((l.map prCells).flatten):=ownsRow_same HO.out fun k e=>hs12.block k (by have:=(HO.out.lt k e).1;omega)
    have hz2w:w2.heap.size=wr.heap.size:=hs12.size
    have hw2z:w.heap.size<w2.heap.size:=by omega
    have HK2:=hide (And.intro hO2 hB2)
    clear hO2 hB2 hz2w hs12 HC hnx
    go_wp2_with fail
    clear c0 c1 c2 f1 f2
    go_loopw [] (fun wr2=> ∃k,Rd wr2 w.heap.size s k false∧Sc w.heap.size w2 wr2∧fr≤k∧Hid (run isValue s false (s.size - k) k=valEnd s fr)) (fun wr2=>s.size - atOf wr2 w.heap.size)
    case atStart=>exact⟨fr,hr2,Sc.refl _ _,Nat.le_refl _,hide rfl⟩
    case round=>
     rename_i wq _
     obtain⟨k,hk,hsc,hfk,hsk⟩:=hrel
     have hat:=hide hk.atOf
     have hk':=hk
     obtain⟨c0,c1,c2,f1,f2,hks,_⟩:=hk
     by_cases hgo:isValue (pk s k false)=true
     ·have hlt:=(pk_lt (s:=s) (a:=k) (d:=false) (fun e=>by rw [e] at hgo;exact absurd hgo (by decide))).2
      have hlt':(k:Int)<s.size:=by omega
      have hpk:pk s k false=(s[k].toNat:Int):=by simp [pk,hlt]
      have hb1:((s[k].toNat:Int) !=59)=true:=by rw [hpk] at hgo;unfold isValue at hgo;simp only [Bool.and_eq_true] at hgo;exact hgo.1.2
      have hb2:((s[k].toNat:Int) !=34)=true:=by rw [hpk] at hgo;unfold isValue at hgo;simp only [Bool.and_eq_true] at hgo;exact hgo.2
      have hset:=hk'.setAt' (k+1) (k+1) (by omega) hlt
      have hst:Hid (run isValue s false (s.size -(k+1)) (k+1)=valEnd s fr):=hide (by
       rw [←hsk.out,show s.size - k=(s.size -(k+1))+1 by omega,run_go hgo])
      clear hpk hgo
      go_wp2_with fail
      go_roundw
      case rel=>exact⟨k+1,hset,hsc.setCell 1 (Or.inl rfl) _,by omega,hst⟩
      case measure=>rw [hset.atOf,hat.out];omega
     ·by_cases hlt:k<s.size
      ·have hlt':(k:Int)<s.size:=by omega
       have hpk:Hid (pk s k false=(s[k].toNat:Int)):=hide (by simp [pk,hlt])
       cases hb1:((s[k].toNat:Int) !=59)
       case false=>
        have hend:valEnd s fr=k:=by rw [←hsk.out];exact run_stop (by simpa using hgo)
        have HEND:=hide hend
        clear hend hsk hat hgo
        obtain⟨hO2,hB2⟩:=HK2.out
        have hO3:wr.ownsRow (w.heap.size+1) 144 2 (.slice a l.length cap) l.length ((l.map prCells).flatten):=ownsRow_same hO2 fun q e=>hsc.block q (by have:=(hO2.lt q e).1;omega)
        have hB3:Below w.heap.size w wr:=⟨hsc.os.trans hB2.os,hsc.tape.trans hB2.tape,hsc.output.trans hB2.output,by have:=hsc.size;have:=hB2.size;omega,fun q hq=>(hsc.block q (by omega)).trans (hB2.block q hq)⟩
        have hz3:w.heap.size<wr.heap.size:=by have:=hsc.size;omega
        have HK3:=hide (And.intro hO3 hB3)
        clear hO2 hB2 hO3 hB3 hsc HK2
        by_cases h20:fr+20<k
        ·have h20':(20:Int)<(k:Int)- fr:=by omega
         have hbad:Hid ((raM s).2=true):=hide (by
          rw [hra.out,←HNX.out]
          exact next_long (f:=fr) hps (by rw [HV.out.1];exact HV.out.2) hfr.1 (by rw [HEND.out];exact h20))
         go_wp2_with fail
         go_ret2
         exact⟨none,0,0,by rw [hbad.out];rfl,HK3.out.2,fun e=>by rw [hbad.out] at e;cases e⟩
        ·have h20': ¬(20:Int)<(k:Int)- fr:=by omega
         have hgk:Hid (1≤gk):=hide hg1
         have hlkk:Hid (l.length+gk≤s.size+2):=hide hlk
         have hkpk:Hid (s.size+1≤gk+p):=hide hkp
         obtain⟨gk0,hgk0⟩: ∃gk0,gk0=gk:=⟨_,rfl⟩
         have HGK0:=hide hgk0
         clear hgk0
         go_wp2_with fail
         go_loopg [9] (l.length+1) (fun k2 iv wr3=> ∃i:Nat,k2+i=l.length+1∧i≤l.length∧iv= .int .i64 i∧wr3=wr∧Hid (attrPlaceM nm (l.drop i) i=attrPlaceM nm l 0))
         case atStart=>exact⟨0,rfl,Nat.zero_le _,rfl,rfl,hide rfl⟩
         case round=>
          obtain⟨i,hki,hil,rfl,rfl,hfi⟩:=hrel
          have HKI:=hide hki
          clear hki
          by_cases hli:i<l.length
          ·have hlr:=HK3.out.1
           obtain⟨gr,capr,hvr,hbr,hgr⟩:=hlr.form (by omega)
           injection hvr with e1 e2 e3
           subst e1 e3
           obtain⟨x,hx⟩: ∃x,l[i]?=some x:=⟨l[i],List.getElem?_eq_getElem hli⟩
           have q0:wr.cell? ⟨gr,i*2,none⟩=some (.string x.1):=row_cell hlr _ _ (flat_get prCells 2 prCells_len l i 0 x hx (by omega))
           have hli':(i:Int)<l.length:=by omega
           have hst:Hid (attrPlaceM nm (l.drop i) i=if x.1.toList==nm.toList then(i:Int) else attrPlaceM nm (l.drop (i+1)) (i+1)):=hide (by
            obtain⟨hl,hx'⟩:=List.getElem?_eq_some_iff.1 hx
            rw [List.drop_eq_getElem_cons hl,hx']
            rfl)
           clear hlr hx
           cases hq:(x.1.toList==nm.toList)
           ·go_wp2_with fail
            have hk:=HKI.out
            go_roundg (l.length - i)
            case measure=>omega
            case rel=>exact⟨i+1,by omega,by omega,by go_num,rfl,hide (by rw [←hfi.out,hst.out,hq];rfl)⟩
           ·have hbad:Hid ((raM s).2=true):=hide (by
             rw [hra.out,←HNX.out]
             refine next_dup ?_
             rw [HV.out.1]
             simp only
             rw [←hfi.out,hst.out,hq]
             simp)
            go_wp2_with fail
            go_ret2
            exact⟨none,0,0,by rw [hbad.out];rfl,HK3.out.2,fun e=>by rw [hbad.out] at e;cases e⟩
          ·have hli': ¬(i:Int)<l.length:=by omega
           have hdup:Hid ((attrPlaceM nm l 0 != -1)=false):=hide (by rw [←hfi.out,List.drop_of_length_le (by omega)];rfl)
           have HNXT:=hide (next_one (s:=s) (n:=n) (p:=p) (f:=fr) (l:=l) (by rw [HV.out.1];exact HV.out.2) hfr.1 (by rw [HEND.out];omega) (by rw [HV.out.1];exact hdup.out))
           rw [HEND.out,HV.out.1] at HNXT
           simp only at HNXT
           have hlen9:l.length≤700:=by have:=hlkk.out;omega
           go_wp2_with (at_builtin;go_must (refine wpList_append_lies _ rfl (.tmp 80) (.tmp 90) 98 rfl (w.heap.size+1) 144 i0 _ 2 32 Tryz.underlying98 hi hz0' hz1 hz2 rfl (by omega) _ l.length _ rfl (HK3.out.1.alloc _) ⟨wr.heap.size,0,none⟩ 1 1 (prCells (nm,s.extract fr k)) rfl rfl ?news ?one (by omega) ?mm ?bys ?base (wr.heap.size+1) (by simp) ?rest))
           case news=>exact fun j u h=>h
           case one=>intro u hu;simp [prCells] at hu;rcases hu with rfl|rfl<;>rfl
           case mm=>unfold maxLen;omega
           case bys=>omega
           case base=>first|omega|(simp<;>omega)
           case rest=>
            intro gc cap8 w8 hown8 hgrow hat8 hlt8
            obtain⟨hO3,hB3⟩:=HK3.out
            clear HK3
            have hr8:Rd w8 w.heap.size s k false:=hk'.other ((hgrow.block _ (by first|omega|(simp<;>omega)) (fun e=>by have:=(hO3.lt _ e.symm).1;omega)).trans (Below.heap_alloc _ _ _ hz3))
            have hB8:=hide (Below.grown (hB3.alloc hB3.size _) hgrow (by first|omega|(simp<;>omega)) fun q e=>by have:=(hO3.lt q e).1;omega)
            have hz8:w.heap.size<w8.heap.size:=by have:=hgrow.size;first|omega|(simp at this;omega)
            have hown9:Hid (w8.ownsRow (w.heap.size+1) 144 2 (.slice (some ⟨gc,0,none⟩) (l++[(nm,s.extract fr k)]).length cap8) (l++[(nm,s.extract fr k)]).length (((l++[(nm,s.extract fr k)]).map prCells).flatten)):=hide (by simpa using hown8)
            have HR8:=hide hr8
            clear hown8 hgrow hat8 hO3 hB3 c0 c1 c2 f1 f2
            obtain⟨c0,c1,c2,f1,f2,_,_⟩:=hr8
            have hpk59:pk s k false=((59:UInt8).toNat:Int):=by rw [hpk.out];simpa using hb1
            have hW:=hide (fun W h=>eat_any w.heap.size k s ⟨#[59]⟩ false W h (by decide))
            rw [show(ByteArray.mk #[59]).data.toList=[59] from rfl,wordM_one hpk59] at hW
            have HP59:=hide hpk59
            clear hpk59
            go_wp2_with fail
            refine(hW.out _ HR8.out).mono ?_
            rintro e w9 ⟨rfl,hr9,hs9⟩
            have hO10:Hid (w9.ownsRow (w.heap.size+1) 144 2 (.slice (some ⟨gc,0,none⟩) (l++[(nm,s.extract fr k)]).length cap8) (l++[(nm,s.extract fr k)]).length (((l++[(nm,s.extract fr k)]).map prCells).flatten)):=hide (ownsRow_same hown9.out fun q e=>hs9.block q (by have:=(hown9.out.lt q e).1;omega))
            have hB10:Hid (Below w.heap.size w w9):=hide ⟨hs9.os.trans hB8.out.os,hs9.tape.trans hB8.out.tape,hs9.output.trans hB8.out.output,by have:=hs9.size;have:=hB8.out.size;omega,fun q hq=>(hs9.block q (by omega)).trans (hB8.out.block q hq)⟩
            have hz10:w.heap.size<w9.heap.size:=by have:=hs9.size;omega
            have hr10:Hid (Rd w9 w.heap.size s (k+1) false):=hide hr9
            clear hr9 hs9
            go_wp2_with fail
            have h1:=hgk.out
            have h2:=hlkk.out
            have h3:=hkpk.out
            have h4:=HFP.out
            have h5:=HGK0.out
            obtain⟨n1,hn1⟩: ∃n1,n=n1+1:=⟨n - 1,by omega⟩
            go_roundg (gk0 - 1)
            case measure=>omega
            case rel=>exact⟨k+1,false,true,l++[(nm,s.extract fr k)],some ⟨gc,0,none⟩,cap8,n1,by simp,by simp [hlt'],hO10,hB10,hz10,hr10,by simp;omega,by omega,by omega,hide (.inl ⟨rfl,rfl,by omega,by omega,by rw [←HNX.out,HNXT.out,hn1,paM_go (by rw [HP59.out];rfl)]⟩)⟩
       case true=>
       have hb2:((s[k].toNat:Int) !=34)=false:=by
        cases hq:((s[k].toNat:Int) !=34) with
        |false=>rfl
        |true=>exact absurd (by
          rw [hpk.out];unfold isValue;rw [hb1,hq];have:((s[k].toNat:Int) != -1)=true:=by simp
          rw [this];rfl) hgo
       have hend:valEnd s fr=k:=by rw [←hsk.out];exact run_stop (by simpa using hgo)
       have HEND:=hide hend
       clear hend hsk hat hgo
       obtain⟨hO2,hB2⟩:=HK2.out
       have hO3:wr.ownsRow (w.heap.size+1) 144 2 (.slice a l.length cap) l.length ((l.map prCells).flatten):=ownsRow_same hO2 fun q e=>hsc.block q (by have:=(hO2.lt q e).1;omega)
       have hB3:Below w.heap.size w wr:=⟨hsc.os.trans hB2.os,hsc.tape.trans hB2.tape,hsc.output.trans hB2.output,by have:=hsc.size;have:=hB2.size;omega,fun q hq=>(hsc.block q (by omega)).trans (hB2.block q hq)⟩
       have hz3:w.heap.size<wr.heap.size:=by have:=hsc.size;omega
       have HK3:=hide (And.intro hO3 hB3)
       clear hO2 hB2 hO3 hB3 hsc HK2
       by_cases h20:fr+20<k
       ·have h20':(20:Int)<(k:Int)- fr:=by omega
        have hbad:Hid ((raM s).2=true):=hide (by
         rw [hra.out,←HNX.out]
         exact next_long (f:=fr) hps (by rw [HV.out.1];exact HV.out.2) hfr.1 (by rw [HEND.out];exact h20))
        go_wp2_with fail
        go_ret2
        exact⟨none,0,0,by rw [hbad.out];rfl,HK3.out.2,fun e=>by rw [hbad.out] at e;cases e⟩
       ·have h20': ¬(20:Int)<(k:Int)- fr:=by omega
        have hgk:Hid (1≤gk):=hide hg1
        have hlkk:Hid (l.length+gk≤s.size+2):=hide hlk
        have hkpk:Hid (s.size+1≤gk+p):=hide hkp
        obtain⟨gk0,hgk0⟩: ∃gk0,gk0=gk:=⟨_,rfl⟩
        have HGK0:=hide hgk0
        clear hgk0
        go_wp2_with fail
        go_loopg [9] (l.length+1) (fun k2 iv wr3=> ∃i:Nat,k2+i=l.length+1∧i≤l.length∧iv= .int .i64 i∧wr3=wr∧Hid (attrPlaceM nm (l.drop i) i=attrPlaceM nm l 0))
        case atStart=>exact⟨0,rfl,Nat.zero_le _,rfl,rfl,hide rfl⟩
        case round=>
         obtain⟨i,hki,hil,rfl,rfl,hfi⟩:=hrel
         have HKI:=hide hki
         clear hki
         by_cases hli:i<l.length
         ·have hlr:=HK3.out.1
          obtain⟨gr,capr,hvr,hbr,hgr⟩:=hlr.form (by omega)
          injection hvr with e1 e2 e3
          subst e1 e3
          obtain⟨x,hx⟩: ∃x,l[i]?=some x:=⟨l[i],List.getElem?_eq_getElem hli⟩
          have q0:wr.cell? ⟨gr,i*2,none⟩=some (.string x.1):=row_cell hlr _ _ (flat_get prCells 2 prCells_len l i 0 x hx (by omega))
          have hli':(i:Int)<l.length:=by omega
          have hst:Hid (attrPlaceM nm (l.drop i) i=if x.1.toList==nm.toList then(i:Int) else attrPlaceM nm (l.drop (i+1)) (i+1)):=hide (by
           obtain⟨hl,hx'⟩:=List.getElem?_eq_some_iff.1 hx
           rw [List.drop_eq_getElem_cons hl,hx']
           rfl)
          clear hlr hx
          cases hq:(x.1.toList==nm.toList)
          ·go_wp2_with fail
           have hk:=HKI.out
           go_roundg (l.length - i)
           case measure=>omega
           case rel=>exact⟨i+1,by omega,by omega,by go_num,rfl,hide (by rw [←hfi.out,hst.out,hq];rfl)⟩
          ·have hbad:Hid ((raM s).2=true):=hide (by
            rw [hra.out,←HNX.out]
            refine next_dup ?_
            rw [HV.out.1]
            simp only
            rw [←hfi.out,hst.out,hq]
            simp)
           go_wp2_with fail
           go_ret2
           exact⟨none,0,0,by rw [hbad.out];rfl,HK3.out.2,fun e=>by rw [hbad.out] at e;cases e⟩
         ·have hli': ¬(i:Int)<l.length:=by omega
          have hdup:Hid ((attrPlaceM nm l 0 != -1)=false):=hide (by rw [←hfi.out,List.drop_of_length_le (by omega)];rfl)
          have HNXT:=hide (next_one (s:=s) (n:=n) (p:=p) (f:=fr) (l:=l) (by rw [HV.out.1];exact HV.out.2) hfr.1 (by rw [HEND.out];omega) (by rw [HV.out.1];exact hdup.out))
          rw [HEND.out,HV.out.1] at HNXT
          simp only at HNXT
          have hlen9:l.length≤700:=by have:=hlkk.out;omega
          go_wp2_with (at_builtin;go_must (refine wpList_append_lies _ rfl (.tmp 80) (.tmp 90) 98 rfl (w.heap.size+1) 144 i0 _ 2 32 Tryz.underlying98 hi hz0' hz1 hz2 rfl (by omega) _ l.length _ rfl (HK3.out.1.alloc _) ⟨wr.heap.size,0,none⟩ 1 1 (prCells (nm,s.extract fr k)) rfl rfl ?news ?one (by omega) ?mm ?bys ?base (wr.heap.size+1) (by simp) ?rest))
          case news=>exact fun j u h=>h
          case one=>intro u hu;simp [prCells] at hu;rcases hu with rfl|rfl<;>rfl
          case mm=>unfold maxLen;omega
          case bys=>omega
          case base=>first|omega|(simp<;>omega)
          case rest=>
           intro gc cap8 w8 hown8 hgrow hat8 hlt8
           obtain⟨hO3,hB3⟩:=HK3.out
           clear HK3
           have hr8:Rd w8 w.heap.size s k false:=hk'.other ((hgrow.block _ (by first|omega|(simp<;>omega)) (fun e=>by have:=(hO3.lt _ e.symm).1;omega)).trans (Below.heap_alloc _ _ _ hz3))
           have hB8:=hide (Below.grown (hB3.alloc hB3.size _) hgrow (by first|omega|(simp<;>omega)) fun q e=>by have:=(hO3.lt q e).1;omega)
           have hz8:w.heap.size<w8.heap.size:=by have:=hgrow.size;first|omega|(simp at this;omega)
           have hown9:Hid (w8.ownsRow (w.heap.size+1) 144 2 (.slice (some ⟨gc,0,none⟩) (l++[(nm,s.extract fr k)]).length cap8) (l++[(nm,s.extract fr k)]).length (((l++[(nm,s.extract fr k)]).map prCells).flatten)):=hide (by simpa using hown8)
           have HR8:=hide hr8
           clear hown8 hgrow hat8 hO3 hB3 c0 c1 c2 f1 f2
           obtain⟨c0,c1,c2,f1,f2,_,_⟩:=hr8
           have hpk59:pk s k false≠((59:UInt8).toNat:Int):=by rw [hpk.out];simpa using hb1
           have hW:=hide (fun W h=>eat_any w.heap.size k s ⟨#[59]⟩ false W h (by decide))
           rw [show(ByteArray.mk #[59]).data.toList=[59] from rfl,wordM_cons_no hpk59] at hW
           have HP59:=hide hpk59
           clear hpk59
           go_wp2_with fail
           refine(hW.out _ HR8.out).mono ?_
           rintro e w9 ⟨rfl,hr9,hs9⟩
           have hO10:Hid (w9.ownsRow (w.heap.size+1) 144 2 (.slice (some ⟨gc,0,none⟩) (l++[(nm,s.extract fr k)]).length cap8) (l++[(nm,s.extract fr k)]).length (((l++[(nm,s.extract fr k)]).map prCells).flatten)):=hide (ownsRow_same hown9.out fun q e=>hs9.block q (by have:=(hown9.out.lt q e).1;omega))
           have hB10:Hid (Below w.heap.size w w9):=hide ⟨hs9.os.trans hB8.out.os,hs9.tape.trans hB8.out.tape,hs9.output.trans hB8.out.output,by have:=hs9.size;have:=hB8.out.size;omega,fun q hq=>(hs9.block q (by omega)).trans (hB8.out.block q hq)⟩
           have hz10:w.heap.size<w9.heap.size:=by have:=hs9.size;omega
           have hr10:Hid (Rd w9 w.heap.size s k true):=hide hr9
           clear hr9 hs9
           go_wp2_with fail
           have h1:=hgk.out
           have h2:=hlkk.out
           have h3:=hkpk.out
           have h4:=HFP.out
           have h5:=HGK0.out
           go_roundg (gk0 - 1)
           case measure=>omega
           case rel=>exact⟨k,true,true,l++[(nm,s.extract fr k)],some ⟨gc,0,none⟩,cap8,n,by simp,by simp [hlt'],hO10,hB10,hz10,hr10,by simp;omega,by omega,by omega,hide (.inr (.inl ⟨rfl,rfl,by
            rw [←HNX.out,HNXT.out,paM_stop (by rw [beq_eq_false_iff_ne];exact HP59.out)]
            simp [okP,eofM,hlt]⟩))⟩
      ·have hlt': ¬(k:Int)<s.size:=by omega
       have hend:valEnd s fr=k:=by rw [←hsk.out];exact run_stop (by simpa using hgo)
       have HEND:=hide hend
       clear hend hsk hat hgo
       obtain⟨hO2,hB2⟩:=HK2.out
       have hO3:wr.ownsRow (w.heap.size+1) 144 2 (.slice a l.length cap) l.length ((l.map prCells).flatten):=ownsRow_same hO2 fun q e=>hsc.block q (by have:=(hO2.lt q e).1;omega)
       have hB3:Below w.heap.size w wr:=⟨hsc.os.trans hB2.os,hsc.tape.trans hB2.tape,hsc.output.trans hB2.output,by have:=hsc.size;have:=hB2.size;omega,fun q hq=>(hsc.block q (by omega)).trans (hB2.block q hq)⟩
       have hz3:w.heap.size<wr.heap.size:=by have:=hsc.size;omega
       have HK3:=hide (And.intro hO3 hB3)
       clear hO2 hB2 hO3 hB3 hsc HK2
       by_cases h20:fr+20<k
       ·have h20':(20:Int)<(k:Int)- fr:=by omega
        have hbad:Hid ((raM s).2=true):=hide (by
         rw [hra.out,←HNX.out]
         exact next_long (f:=fr) hps (by rw [HV.out.1];exact HV.out.2) hfr.1 (by rw [HEND.out];exact h20))
        go_wp2_with fail
        go_ret2
        exact⟨none,0,0,by rw [hbad.out];rfl,HK3.out.2,fun e=>by rw [hbad.out] at e;cases e⟩
       ·have h20': ¬(20:Int)<(k:Int)- fr:=by omega
        have hgk:Hid (1≤gk):=hide hg1
        have hlkk:Hid (l.length+gk≤s.size+2):=hide hlk
        have hkpk:Hid (s.size+1≤gk+p):=hide hkp
        obtain⟨gk0,hgk0⟩: ∃gk0,gk0=gk:=⟨_,rfl⟩
        have HGK0:=hide hgk0
        clear hgk0
        go_wp2_with fail
        go_loopg [9] (l.length+1) (fun k2 iv wr3=> ∃i:Nat,k2+i=l.length+1∧i≤l.length∧iv= .int .i64 i∧wr3=wr∧Hid (attrPlaceM nm (l.drop i) i=attrPlaceM nm l 0))
        case atStart=>exact⟨0,rfl,Nat.zero_le _,rfl,rfl,hide rfl⟩
        case round=>
         obtain⟨i,hki,hil,rfl,rfl,hfi⟩:=hrel
         have HKI:=hide hki
         clear hki
         by_cases hli:i<l.length
         ·have hlr:=HK3.out.1
          obtain⟨gr,capr,hvr,hbr,hgr⟩:=hlr.form (by omega)
          injection hvr with e1 e2 e3
          subst e1 e3
          obtain⟨x,hx⟩: ∃x,l[i]?=some x:=⟨l[i],List.getElem?_eq_getElem hli⟩
          have q0:wr.cell? ⟨gr,i*2,none⟩=some (.string x.1):=row_cell hlr _ _ (flat_get prCells 2 prCells_len l i 0 x hx (by omega))
          have hli':(i:Int)<l.length:=by omega
          have hst:Hid (attrPlaceM nm (l.drop i) i=if x.1.toList==nm.toList then(i:Int) else attrPlaceM nm (l.drop (i+1)) (i+1)):=hide (by
           obtain⟨hl,hx'⟩:=List.getElem?_eq_some_iff.1 hx
           rw [List.drop_eq_getElem_cons hl,hx']
           rfl)
          clear hlr hx
          cases hq:(x.1.toList==nm.toList)
          ·go_wp2_with fail
           have hk:=HKI.out
           go_roundg (l.length - i)
           case measure=>omega
           case rel=>exact⟨i+1,by omega,by omega,by go_num,rfl,hide (by rw [←hfi.out,hst.out,hq];rfl)⟩
          ·have hbad:Hid ((raM s).2=true):=hide (by
            rw [hra.out,←HNX.out]
            refine next_dup ?_
            rw [HV.out.1]
            simp only
            rw [←hfi.out,hst.out,hq]
            simp)
           go_wp2_with fail
           go_ret2
           exact⟨none,0,0,by rw [hbad.out];rfl,HK3.out.2,fun e=>by rw [hbad.out] at e;cases e⟩
         ·have hli': ¬(i:Int)<l.length:=by omega
          have hdup:Hid ((attrPlaceM nm l 0 != -1)=false):=hide (by rw [←hfi.out,List.drop_of_length_le (by omega)];rfl)
          have HNXT:=hide (next_one (s:=s) (n:=n) (p:=p) (f:=fr) (l:=l) (by rw [HV.out.1];exact HV.out.2) hfr.1 (by rw [HEND.out];omega) (by rw [HV.out.1];exact hdup.out))
          rw [HEND.out,HV.out.1] at HNXT
          simp only at HNXT
          have hlen9:l.length≤700:=by have:=hlkk.out;omega
          go_wp2_with (at_builtin;go_must (refine wpList_append_lies _ rfl (.tmp 80) (.tmp 90) 98 rfl (w.heap.size+1) 144 i0 _ 2 32 Tryz.underlying98 hi hz0' hz1 hz2 rfl (by omega) _ l.length _ rfl (HK3.out.1.alloc _) ⟨wr.heap.size,0,none⟩ 1 1 (prCells (nm,s.extract fr k)) rfl rfl ?news ?one (by omega) ?mm ?bys ?base (wr.heap.size+1) (by simp) ?rest))
          case news=>exact fun j u h=>h
          case one=>intro u hu;simp [prCells] at hu;rcases hu with rfl|rfl<;>rfl
          case mm=>unfold maxLen;omega
          case bys=>omega
          case base=>first|omega|(simp<;>omega)
          case rest=>
           intro gc cap8 w8 hown8 hgrow hat8 hlt8
           obtain⟨hO3,hB3⟩:=HK3.out
           clear HK3
           have hr8:Rd w8 w.heap.size s k false:=hk'.other ((hgrow.block _ (by first|omega|(simp<;>omega)) (fun e=>by have:=(hO3.lt _ e.symm).1;omega)).trans (Below.heap_alloc _ _ _ hz3))
           have hB8:=hide (Below.grown (hB3.alloc hB3.size _) hgrow (by first|omega|(simp<;>omega)) fun q e=>by have:=(hO3.lt q e).1;omega)
           have hz8:w.heap.size<w8.heap.size:=by have:=hgrow.size;first|omega|(simp at this;omega)
           have hown9:Hid (w8.ownsRow (w.heap.size+1) 144 2 (.slice (some ⟨gc,0,none⟩) (l++[(nm,s.extract fr k)]).length cap8) (l++[(nm,s.extract fr k)]).length (((l++[(nm,s.extract fr k)]).map prCells).flatten)):=hide (by simpa using hown8)
           have HR8:=hide hr8
           clear hown8 hgrow hat8 hO3 hB3 c0 c1 c2 f1 f2
           obtain⟨c0,c1,c2,f1,f2,_,_⟩:=hr8
           have hks':k=s.size:=by omega
           go_wp2_with fail
           have h1:=hgk.out
           have h2:=hlkk.out
           have h3:=hkpk.out
           have h4:=HFP.out
           have h5:=HGK0.out
           go_roundg (gk0 - 1)
           case measure=>omega
           case rel=>exact⟨k,false,false,l++[(nm,s.extract fr k)],some ⟨gc,0,none⟩,cap8,n,by simp,by simp [hlt'],hown9,hB8,hz8,HR8,by simp;omega,by omega,by omega,hide (.inr (.inr ⟨rfl,rfl,by
            rw [←HNX.out,HNXT.out,paM_stop (by rw [hks',pk_end];rfl)]
            simp [okP,eofM,hlt]⟩))⟩
end Go.Proofs.YtkoohcilbpdgeaaGreatDoor
