import Derived.Test.YtkoohcilbpdgeaaGreatDoorC09
set_option linter.all false
set_option linter.unusedVariables false
set_option linter.unusedSimpArgs false
set_option linter.unnecessarySimpa false
set_option linter.constructorNameAsVariable false
set_option linter.deprecated false
set_option maxRecDepth 100000
set_option maxHeartbeats 6400000
namespace Go.Proofs.YtkoohcilbpdgeaaGreatDoor
open Go Go.RowKit
attribute [local go_sem] wrap64_byte
theorem info5:(Tryz.prog.info? 5).map (fun i=>(i.zero,i.size,i.bytes))=some (some (.int .u8 0),1,1):=by kernel_rfl
def isLeafB (op:ByteArray):Bool:=op.toList==[110,117,109]||op.toList==[97,116]||op.toList==[115,116,114]||op.toList==[97,116,116,114]||op.toList==[116,114,117,101]||op.toList==[102,97,108,115,101]||op.toList==[110,97,109,101]
def allB (cs:List Int)(want gives:Int)(a:Int):Int×Int:=if cs.all (fun c=>c==want) then(gives,-1) else(98,a)
def endM (op:ByteArray)(a:Int)(cs:List Int):Int×Int:=
 if op.toList==[97,108,108]||op.toList==[105,102] then(98,-1)
 else if op.toList==[124,124]||op.toList==[38,38]||op.toList==[33] then allB cs 98 98 a
 else if op.toList==[46] then allB cs 115 115 a
 else if isCmp op then if cs.headD 0==98 then(98,a) else allB cs (cs.headD 0) 98 a
 else allB cs 110 110 a
theorem node_at {X:Nat→Prop}{w:World}{v:Value}{op tx:ByteArray}{a:Int}{kids:List Value}(h:NodeX X w v op tx a kids): ∃g kv,v= .pointer (some ⟨g,0,none⟩)∧w.heap[g]?=some (.cells #[.string op,.string tx,.int .i64 a,kv] 138)∧g<w.heap.size∧w.ownsRow 0 89 1 kv kids.length kids:=by
 obtain⟨g,kv,h1,h2,h3,h4,h5⟩:=h.ex
 exact⟨g,kv,h1,h3,(Array.getElem?_eq_some_iff.1 h3).1,h4⟩
theorem typed_leaf {X:Nat→Prop}{w:World}{v:Value}{op tx:ByteArray}{a:Int}{kids:List Value}(h:NodeX X w v op tx a kids)(c:Int)
  (hc:c=110∧(op.toList==[110,117,109]||op.toList==[97,116])=true∨c=115∧(op.toList==[115,116,114]||op.toList==[97,116,116,114])=true∨c=98∧(op.toList==[116,114,117,101]||op.toList==[102,97,108,115,101]||op.toList==[110,97,109,101])=true):
  Calls Tryz.prog 53 #[v] w fun e w'=>e= .returned (.tuple #[.int .u8 c,.int .i64 (-1)])∧w'=w:=by
 obtain⟨g,kv,rfl,hh,hg,_⟩:=node_at h
 obtain⟨y0,y1,y2,y3,yf⟩:=box4' hh
 clear h hh
 cases h0:(op.toList==[110,117,109])
 case true=>
  have hcc:c=110:=by
   have:=eq_of_beq h0
   rcases hc with⟨e,q⟩|⟨e,q⟩|⟨e,q⟩
   all_goals first|exact e|(rw [this] at q;exact absurd q (by decide))
  subst hcc
  clear hc
  go_enter Tryz.func53,Tryz.ntmps53
  go_wp2_with fail
  go_ret2
  exact⟨rfl,rfl⟩
 cases h1:(op.toList==[97,116])
 case true=>
  have hcc:c=110:=by
   have:=eq_of_beq h1
   rcases hc with⟨e,q⟩|⟨e,q⟩|⟨e,q⟩
   all_goals first|exact e|(rw [this] at q;exact absurd q (by decide))
  subst hcc
  clear hc
  go_enter Tryz.func53,Tryz.ntmps53
  go_wp2_with fail
  go_ret2
  exact⟨rfl,rfl⟩
 cases h2:(op.toList==[115,116,114])
 case true=>
  have hcc:c=115:=by
   have:=eq_of_beq h2
   rcases hc with⟨e,q⟩|⟨e,q⟩|⟨e,q⟩
   all_goals first|exact e|(rw [this] at q;exact absurd q (by decide))
  subst hcc
  clear hc
  go_enter Tryz.func53,Tryz.ntmps53
  go_wp2_with fail
  go_ret2
  exact⟨rfl,rfl⟩
 cases h3:(op.toList==[97,116,116,114])
 case true=>
  have hcc:c=115:=by
   have:=eq_of_beq h3
   rcases hc with⟨e,q⟩|⟨e,q⟩|⟨e,q⟩
   all_goals first|exact e|(rw [this] at q;exact absurd q (by decide))
  subst hcc
  clear hc
  go_enter Tryz.func53,Tryz.ntmps53
  go_wp2_with fail
  go_ret2
  exact⟨rfl,rfl⟩
 cases h4:(op.toList==[116,114,117,101])
 case true=>
  have hcc:c=98:=by
   have:=eq_of_beq h4
   rcases hc with⟨e,q⟩|⟨e,q⟩|⟨e,q⟩
   all_goals first|exact e|(rw [this] at q;exact absurd q (by decide))
  subst hcc
  clear hc
  go_enter Tryz.func53,Tryz.ntmps53
  go_wp2_with fail
  go_ret2
  exact⟨rfl,rfl⟩
 cases h5:(op.toList==[102,97,108,115,101])
 case true=>
  have hcc:c=98:=by
   have:=eq_of_beq h5
   rcases hc with⟨e,q⟩|⟨e,q⟩|⟨e,q⟩
   all_goals first|exact e|(rw [this] at q;exact absurd q (by decide))
  subst hcc
  clear hc
  go_enter Tryz.func53,Tryz.ntmps53
  go_wp2_with fail
  go_ret2
  exact⟨rfl,rfl⟩
 cases h6:(op.toList==[110,97,109,101])
 case true=>
  have hcc:c=98:=by
   have:=eq_of_beq h6
   rcases hc with⟨e,q⟩|⟨e,q⟩|⟨e,q⟩
   all_goals first|exact e|(rw [this] at q;exact absurd q (by decide))
  subst hcc
  clear hc
  go_enter Tryz.func53,Tryz.ntmps53
  go_wp2_with fail
  go_ret2
  exact⟨rfl,rfl⟩
 exact absurd hc (by simp [h0,h1,h2,h3,h4,h5,h6])
def TPost (w:World)(Q:Int→Int→Prop)(e:Ending)(w':World):Prop:=Below w.heap.size w w'∧ ∃c a:Int,e= .returned (.tuple #[.int .u8 c,.int .i64 a])∧Q c a
theorem allB_no {cs:List Int}{want gives a:Int}{i:Nat}{c:Int}(h:cs[i]?=some c)(hc:(c !=want)=true):allB cs want gives a=(98,a):=by
 unfold allB
 rw [if_neg]
 intro q
 have:=List.all_eq_true.1 q c (List.mem_of_getElem? h)
 simp at this hc
 exact hc this
theorem allB_yes {cs:List Int}{want gives a:Int}(h: ∀(j:Nat) (c:Int),cs[j]?=some c→c=want):allB cs want gives a=(gives,-1):=by
 unfold allB
 rw [if_pos]
 refine List.all_eq_true.2 fun c hc=> ?_
 obtain⟨j,hj⟩:=List.mem_iff_getElem?.1 hc
 simpa using h j c hj
theorem typed_node {X:Nat→Prop}{w:World}{v:Value}{op tx:ByteArray}{a:Int}{vs:List Value}(h:NodeX X w v op tx a vs)(hlen:vs.length≤100000)
  (S:Nat→List Int→Prop) (Q:Int→Int→Prop) (hS:S 0 [])
  (hl:isLeafB op=false) (hcmp:isCmp op=true→0<vs.length)
  (hk: ∀(i:Nat) (cs:List Int) (wr:World) (vi:Value),vs[i]?=some vi→S i cs→cs.length=i→Below w.heap.size w wr→Calls Tryz.prog 53 #[vi] wr fun e w'=>TPost wr (fun c at'=>(0≤at'∧Q 98 at')∨(at'= -1∧if(op.toList==[105,102])&&(i==0)&&(c !=98) then Q 98 a else S (i+1) (cs++[c]))) e w')
  (he: ∀cs,S vs.length cs→cs.length=vs.length→Q (endM op a cs).1 (endM op a cs).2):
  Calls Tryz.prog 53 #[v] w fun e w'=>TPost w Q e w':=by
 obtain⟨g,kv,rfl,hh,hg,how⟩:=node_at h
 obtain⟨a5,k5,rfl⟩:=ownsRow_slc how
 unfold isLeafB at hl
 simp only [Bool.or_eq_false_iff] at hl
 obtain⟨⟨⟨⟨⟨⟨l0,l1⟩,l2⟩,l3⟩,l4⟩,l5⟩,l6⟩:=hl
 have HK:=hide hk
 have HE:=hide he
 have HCMP:=hide hcmp
 have HH:=hide hh
 have HOW:=hide how
 obtain⟨i0,hi,hz0,hz1,hz2⟩:=info_parts info5
 obtain⟨y0,y1,y2,y3,yf⟩:=box4' hh
 clear hk he hcmp h hh how
 go_enter Tryz.func53,Tryz.ntmps53
 go_wp2_with fail
 clear y0 y1 y2 y3 yf
 go_loopg [4,5,6,7] (vs.length+1) (fun k lv iv _ _ wr=> ∃(i:Nat) (cs:List Int),k+i=vs.length+1∧i≤vs.length∧iv= .int .i64 i∧cs.length=i∧wr.ownsRow w.heap.size 5 1 lv cs.length (cs.map (Value.int .u8))∧Below w.heap.size w wr∧Hid (S i cs))
 case atStart=>exact⟨0,[],rfl,Nat.zero_le _,rfl,rfl,World.ownsRow_nil _ _ _ _,Below.refl _ _,hS⟩
 case round=>
  obtain⟨i,cs,hgk,hile,rfl,hcs,hown,hbel,hs⟩:=hrel
  obtain⟨y0,y1,y2,y3,yf⟩:=box4' ((hbel.block g hg).trans HH.out)
  have HGK:=hide hgk
  have hbz:w.heap.size≤wr.heap.size:=hbel.size
  clear hgk
  obtain⟨a6,k6,rfl⟩:=ownsRow_slc hown
  by_cases hlt:i<vs.length
  ·obtain⟨vi,hvi⟩: ∃vi,vs[i]?=some vi:=⟨vs[i],List.getElem?_eq_getElem hlt⟩
   obtain⟨gk,capk,hv,hb,hgl⟩:=HOW.out.form (by omega)
   injection hv with e1 e2 e3
   subst e1 e3
   have hcell:wr.cell? ⟨gk,i,none⟩=some vi:=by
    rw [hbel.cell (p:=⟨gk,i,none⟩) hgl]
    exact row_cell HOW.out _ _ hvi
   have hlti:(i:Int)<vs.length:=by omega
   have HC:=hide (HK.out i cs wr vi hvi hs.out hcs hbel)
   have hi100:i≤100000:=by omega
   have HCS:=hide hcs
   have HOWN:=hide hown
   have HB:=hide hbel
   clear hcs hown hbel hvi
   go_wp2_with fail
   refine HC.out.mono ?_
   rintro e w1 ⟨hb1,c,at2,rfl,hq⟩
   have hB1:Below w.heap.size w w1:=HB.out.trans (hb1.mono hbz)
   have hown1:w1.ownsRow w.heap.size 5 1 (.slice a6 cs.length k6) cs.length (cs.map (Value.int .u8)):=ownsRow_same HOWN.out fun k e=>hb1.block k (HOWN.out.lt k e).2
   obtain⟨y0,y1,y2,y3,yf⟩:=box4' ((hB1.block g hg).trans HH.out)
   have HB1:=hide hB1
   have hbz1:w.heap.size≤w1.heap.size:=hB1.size
   have hcl:cs.length≤100000:=by have:=HCS.out;omega
   clear hb1 hB1 HC HOWN HB hcell
   rcases hq with⟨hpos,hq⟩|⟨rfl,hq⟩
   ·go_wp2_with fail
    go_ret2
    exact⟨HB1.out,98,at2,by simp,hq⟩
   ·have HQ:=hide hq
    clear hq
    go_wp2_with (at_builtin;go_must (refine wpList_append_lies _ rfl (.tmp 48) (.tmp 50) 142 rfl w.heap.size 5 i0 _ 1 1 Tryz.underlying142 hi hz0 hz1 hz2 rfl (by omega) _ cs.length _ rfl (hown1.alloc _) ⟨w1.heap.size,0,none⟩ 1 1 [.int .u8 c] rfl rfl ?news ?one (by omega) ?mm ?bys ?base (w1.heap.size+1) (by simp) ?rest))
    case news=>exact World.news_of_block (heap_alloc_new w1 _)
    case one=>intro u hu;simp at hu;subst hu;rfl
    case mm=>unfold maxLen;omega
    case bys=>omega
    case base=>simp;omega
    case rest=>
     intro gb cap w3 hown3 hgrow hat hlt2
     have hB3:=Below.grown (HB1.out.alloc hbz1 _) hgrow (by simp;omega) fun k e=>(hown1.lt k e).1
     obtain⟨y0,y1,y2,y3,yf⟩:=box4' ((hB3.block g hg).trans HH.out)
     have HB3:=hide hB3
     have HO3:=hide hown3
     clear hgrow hat hown3 hB3 hown1
     have hq:=HQ.out
     clear HQ
     cases hif:(op.toList==[105,102])
     ·rw [hif] at hq
      simp only [Bool.false_and,Bool.false_eq_true,if_false] at hq
      have HQ:=hide hq
      clear hq
      go_wp2_with fail
      go_roundg (vs.length - i)
      case measure=>have:=HGK.out;omega
      case rel=>exact⟨i+1,cs++[c],by have:=HGK.out;omega,by omega,by go_num,by simp [HCS.out],by simpa using HO3.out,HB3.out,HQ⟩
     ·by_cases hi0:i=0
      ·subst hi0
       cases hc:(c !=98)
       ·rw [hif,hc] at hq
        simp only [Bool.and_false,Bool.false_eq_true,if_false] at hq
        have HQ:=hide hq
        clear hq
        go_wp2_with fail
        go_roundg (vs.length - 0)
        case measure=>have:=HGK.out;omega
        case rel=>exact⟨0+1,cs++[c],by have:=HGK.out;omega,by omega,by go_num,by simp [HCS.out],by simpa using HO3.out,HB3.out,HQ⟩
       ·rw [hif,hc] at hq
        have hq:Q 98 a:=hq
        have HQ:=hide hq
        clear hq
        go_wp2_with fail
        go_quiet (fail)
        go_wp2_with fail
        go_ret2
        exact⟨⟨HB3.out.os,HB3.out.tape,HB3.out.output,HB3.out.size,HB3.out.block⟩,98,a,by simp,HQ.out⟩
      ·have hib:((i:Int)==0)=false:=by rw [beq_eq_false_iff_ne];omega
       rw [if_neg (by simp [hi0])] at hq
       have HQ:=hide hq
       clear hq
       go_wp2_with fail
       go_roundg (vs.length - i)
       case measure=>have:=HGK.out;omega
       case rel=>exact⟨i+1,cs++[c],by have:=HGK.out;omega,by omega,by go_num,by simp [HCS.out],by simpa using HO3.out,HB3.out,HQ⟩
  ·have hin:i=vs.length:=by omega
   have hlti: ¬(i:Int)<vs.length:=by omega
   have HF:=hide (HE.out cs (hin▸hs.out) (hcs.trans hin))
   have HB:=hide hbel
   have HOWN:=hide hown
   have HCS:=hide (hcs.trans hin)
   have hcl:cs.length≤100000:=by omega
   clear HE hs hown hbel hcs hin HK
   cases o0:(op.toList==[97,108,108])
   case true=>
    have hfin:Hid (endM op a cs=(98,-1)):=hide (by
     unfold endM
     simp only [o0,Bool.or_false,Bool.or_true,Bool.true_or,Bool.false_or,if_true,if_false,Bool.false_eq_true])
    go_wp2_with fail
    go_ret2
    refine⟨HB.out,98,-1,by simp,?_⟩
    have hz:=HF.out
    rw [hfin.out] at hz
    exact hz
   cases o1:(op.toList==[105,102])
   case true=>
    have hfin:Hid (endM op a cs=(98,-1)):=hide (by
     unfold endM
     simp only [o0,o1,Bool.or_false,Bool.or_true,Bool.true_or,Bool.false_or,if_true,if_false,Bool.false_eq_true])
    go_wp2_with fail
    go_ret2
    refine⟨HB.out,98,-1,by simp,?_⟩
    have hz:=HF.out
    rw [hfin.out] at hz
    exact hz
   cases o2:(op.toList==[124,124])
   case true=>
    go_wp2_with fail
    go_loopg [10] (cs.length+1) (fun k iv wq=> ∃j:Nat,k+j=cs.length+1∧j≤cs.length∧iv= .int .i64 j∧wq=wr∧Hid (∀(m:Nat) (c:Int),m<j→cs[m]?=some c→c=98))
    case atStart=>exact⟨0,rfl,Nat.zero_le _,rfl,rfl,hide fun m c h=>absurd h (Nat.not_lt_zero _)⟩
    case round=>
     obtain⟨j,hjk,hjl,rfl,rfl,hall⟩:=hrel
     by_cases hjlt:j<cs.length
     ·obtain⟨c,hcj⟩: ∃c,cs[j]?=some c:=⟨cs[j],List.getElem?_eq_getElem hjlt⟩
      obtain⟨g6,cap6,hv,_,_⟩:=HOWN.out.form (by omega)
      injection hv with e1 e2 e3
      subst e1 e3
      have hc6:=row_cell HOWN.out j (.int .u8 c) (by simp [hcj])
      have hjl2:(j:Int)<cs.length:=by omega
      have HCJ:=hide hcj
      clear hcj
      cases hne:(c !=98)
      ·have hjk:=hide hjk
       go_wp2_with fail
       go_roundg (cs.length - j)
       case measure=>have:=hjk.out;omega
       case rel=>exact⟨j+1,by have:=hjk.out;omega,by omega,by go_num,rfl,hide fun m d hm hd=>by
         by_cases hmj:m=j
         ·subst hmj;have hx:=HCJ.out.symm.trans hd;injection hx with hx;subst hx;simpa using hne
         ·exact hall.out m d (by omega) hd⟩
      ·have hfin:Hid (endM op a cs=(98,a)):=hide (by
        have hno:=allB_no (gives:=98) (a:=a) HCJ.out hne
        unfold endM
        simp only [isCmp,o0,o1,o2,Bool.or_false,Bool.or_true,Bool.true_or,Bool.false_or,if_true,if_false,Bool.false_eq_true]
        exact hno)
       go_wp2_with fail
       go_quiet (fail)
       go_wp2_with fail
       go_ret2
       refine⟨⟨HB.out.os,HB.out.tape,HB.out.output,HB.out.size,HB.out.block⟩,98,a,by simp,?_⟩
       have hz:=HF.out
       rw [hfin.out] at hz
       exact hz
     ·have hfin:Hid (endM op a cs=(98,-1)):=hide (by
       have hyes:=allB_yes (gives:=98) (a:=a) (want:=98) (cs:=cs) fun m c h=>hall.out m c (by have:=(List.getElem?_eq_some_iff.1 h).1;omega) h
       unfold endM
       simp only [isCmp,o0,o1,o2,Bool.or_false,Bool.or_true,Bool.true_or,Bool.false_or,if_true,if_false,Bool.false_eq_true]
       exact hyes)
      have hjl2: ¬(j:Int)<cs.length:=by omega
      go_wp2_with fail
      go_ret2
      refine⟨HB.out,98,-1,by simp,?_⟩
      have hz:=HF.out
      rw [hfin.out] at hz
      exact hz
   cases o3:(op.toList==[38,38])
   case true=>
    go_wp2_with fail
    go_loopg [10] (cs.length+1) (fun k iv wq=> ∃j:Nat,k+j=cs.length+1∧j≤cs.length∧iv= .int .i64 j∧wq=wr∧Hid (∀(m:Nat) (c:Int),m<j→cs[m]?=some c→c=98))
    case atStart=>exact⟨0,rfl,Nat.zero_le _,rfl,rfl,hide fun m c h=>absurd h (Nat.not_lt_zero _)⟩
    case round=>
     obtain⟨j,hjk,hjl,rfl,rfl,hall⟩:=hrel
     by_cases hjlt:j<cs.length
     ·obtain⟨c,hcj⟩: ∃c,cs[j]?=some c:=⟨cs[j],List.getElem?_eq_getElem hjlt⟩
      obtain⟨g6,cap6,hv,_,_⟩:=HOWN.out.form (by omega)
      injection hv with e1 e2 e3
      subst e1 e3
      have hc6:=row_cell HOWN.out j (.int .u8 c) (by simp [hcj])
      have hjl2:(j:Int)<cs.length:=by omega
      have HCJ:=hide hcj
      clear hcj
      cases hne:(c !=98)
      ·have hjk:=hide hjk
       go_wp2_with fail
       go_roundg (cs.length - j)
       case measure=>have:=hjk.out;omega
       case rel=>exact⟨j+1,by have:=hjk.out;omega,by omega,by go_num,rfl,hide fun m d hm hd=>by
         by_cases hmj:m=j
         ·subst hmj;have hx:=HCJ.out.symm.trans hd;injection hx with hx;subst hx;simpa using hne
         ·exact hall.out m d (by omega) hd⟩
      ·have hfin:Hid (endM op a cs=(98,a)):=hide (by
        have hno:=allB_no (gives:=98) (a:=a) HCJ.out hne
        unfold endM
        simp only [isCmp,o0,o1,o2,o3,Bool.or_false,Bool.or_true,Bool.true_or,Bool.false_or,if_true,if_false,Bool.false_eq_true]
        exact hno)
       go_wp2_with fail
       go_quiet (fail)
       go_wp2_with fail
       go_ret2
       refine⟨⟨HB.out.os,HB.out.tape,HB.out.output,HB.out.size,HB.out.block⟩,98,a,by simp,?_⟩
       have hz:=HF.out
       rw [hfin.out] at hz
       exact hz
     ·have hfin:Hid (endM op a cs=(98,-1)):=hide (by
       have hyes:=allB_yes (gives:=98) (a:=a) (want:=98) (cs:=cs) fun m c h=>hall.out m c (by have:=(List.getElem?_eq_some_iff.1 h).1;omega) h
       unfold endM
       simp only [isCmp,o0,o1,o2,o3,Bool.or_false,Bool.or_true,Bool.true_or,Bool.false_or,if_true,if_false,Bool.false_eq_true]
       exact hyes)
      have hjl2: ¬(j:Int)<cs.length:=by omega
      go_wp2_with fail
      go_ret2
      refine⟨HB.out,98,-1,by simp,?_⟩
      have hz:=HF.out
      rw [hfin.out] at hz
      exact hz
   cases o4:(op.toList==[33])
   case true=>
    go_wp2_with fail
    go_loopg [10] (cs.length+1) (fun k iv wq=> ∃j:Nat,k+j=cs.length+1∧j≤cs.length∧iv= .int .i64 j∧wq=wr∧Hid (∀(m:Nat) (c:Int),m<j→cs[m]?=some c→c=98))
    case atStart=>exact⟨0,rfl,Nat.zero_le _,rfl,rfl,hide fun m c h=>absurd h (Nat.not_lt_zero _)⟩
    case round=>
     obtain⟨j,hjk,hjl,rfl,rfl,hall⟩:=hrel
     by_cases hjlt:j<cs.length
     ·obtain⟨c,hcj⟩: ∃c,cs[j]?=some c:=⟨cs[j],List.getElem?_eq_getElem hjlt⟩
      obtain⟨g6,cap6,hv,_,_⟩:=HOWN.out.form (by omega)
      injection hv with e1 e2 e3
      subst e1 e3
      have hc6:=row_cell HOWN.out j (.int .u8 c) (by simp [hcj])
      have hjl2:(j:Int)<cs.length:=by omega
      have HCJ:=hide hcj
      clear hcj
      cases hne:(c !=98)
      ·have hjk:=hide hjk
       go_wp2_with fail
       go_roundg (cs.length - j)
       case measure=>have:=hjk.out;omega
       case rel=>exact⟨j+1,by have:=hjk.out;omega,by omega,by go_num,rfl,hide fun m d hm hd=>by
         by_cases hmj:m=j
         ·subst hmj;have hx:=HCJ.out.symm.trans hd;injection hx with hx;subst hx;simpa using hne
         ·exact hall.out m d (by omega) hd⟩
      ·have hfin:Hid (endM op a cs=(98,a)):=hide (by
        have hno:=allB_no (gives:=98) (a:=a) HCJ.out hne
        unfold endM
        simp only [isCmp,o0,o1,o2,o3,o4,Bool.or_false,Bool.or_true,Bool.true_or,Bool.false_or,if_true,if_false,Bool.false_eq_true]
        exact hno)
       go_wp2_with fail
       go_quiet (fail)
       go_wp2_with fail
       go_ret2
       refine⟨⟨HB.out.os,HB.out.tape,HB.out.output,HB.out.size,HB.out.block⟩,98,a,by simp,?_⟩
       have hz:=HF.out
       rw [hfin.out] at hz
       exact hz
     ·have hfin:Hid (endM op a cs=(98,-1)):=hide (by
       have hyes:=allB_yes (gives:=98) (a:=a) (want:=98) (cs:=cs) fun m c h=>hall.out m c (by have:=(List.getElem?_eq_some_iff.1 h).1;omega) h
       unfold endM
       simp only [isCmp,o0,o1,o2,o3,o4,Bool.or_false,Bool.or_true,Bool.true_or,Bool.false_or,if_true,if_false,Bool.false_eq_true]
       exact hyes)
      have hjl2: ¬(j:Int)<cs.length:=by omega
      go_wp2_with fail
      go_ret2
      refine⟨HB.out,98,-1,by simp,?_⟩
      have hz:=HF.out
      rw [hfin.out] at hz
      exact hz
   cases o5:(op.toList==[46])
   case true=>
    go_wp2_with fail
    go_loopg [10] (cs.length+1) (fun k iv wq=> ∃j:Nat,k+j=cs.length+1∧j≤cs.length∧iv= .int .i64 j∧wq=wr∧Hid (∀(m:Nat) (c:Int),m<j→cs[m]?=some c→c=115))
    case atStart=>exact⟨0,rfl,Nat.zero_le _,rfl,rfl,hide fun m c h=>absurd h (Nat.not_lt_zero _)⟩
    case round=>
     obtain⟨j,hjk,hjl,rfl,rfl,hall⟩:=hrel
     by_cases hjlt:j<cs.length
     ·obtain⟨c,hcj⟩: ∃c,cs[j]?=some c:=⟨cs[j],List.getElem?_eq_getElem hjlt⟩
      obtain⟨g6,cap6,hv,_,_⟩:=HOWN.out.form (by omega)
      injection hv with e1 e2 e3
      subst e1 e3
      have hc6:=row_cell HOWN.out j (.int .u8 c) (by simp [hcj])
      have hjl2:(j:Int)<cs.length:=by omega
      have HCJ:=hide hcj
      clear hcj
      cases hne:(c !=115)
      ·have hjk:=hide hjk
       go_wp2_with fail
       go_roundg (cs.length - j)
       case measure=>have:=hjk.out;omega
       case rel=>exact⟨j+1,by have:=hjk.out;omega,by omega,by go_num,rfl,hide fun m d hm hd=>by
         by_cases hmj:m=j
         ·subst hmj;have hx:=HCJ.out.symm.trans hd;injection hx with hx;subst hx;simpa using hne
         ·exact hall.out m d (by omega) hd⟩
      ·have hfin:Hid (endM op a cs=(98,a)):=hide (by
        have hno:=allB_no (gives:=115) (a:=a) HCJ.out hne
        unfold endM
        simp only [isCmp,o0,o1,o2,o3,o4,o5,Bool.or_false,Bool.or_true,Bool.true_or,Bool.false_or,if_true,if_false,Bool.false_eq_true]
        exact hno)
       go_wp2_with fail
       go_quiet (fail)
       go_wp2_with fail
       go_ret2
       refine⟨⟨HB.out.os,HB.out.tape,HB.out.output,HB.out.size,HB.out.block⟩,98,a,by simp,?_⟩
       have hz:=HF.out
       rw [hfin.out] at hz
       exact hz
     ·have hfin:Hid (endM op a cs=(115,-1)):=hide (by
       have hyes:=allB_yes (gives:=115) (a:=a) (want:=115) (cs:=cs) fun m c h=>hall.out m c (by have:=(List.getElem?_eq_some_iff.1 h).1;omega) h
       unfold endM
       simp only [isCmp,o0,o1,o2,o3,o4,o5,Bool.or_false,Bool.or_true,Bool.true_or,Bool.false_or,if_true,if_false,Bool.false_eq_true]
       exact hyes)
      have hjl2: ¬(j:Int)<cs.length:=by omega
      go_wp2_with fail
      go_ret2
      refine⟨HB.out,115,-1,by simp,?_⟩
      have hz:=HF.out
      rw [hfin.out] at hz
      exact hz
   cases o6:(op.toList==[61,61])
   case true=>
    have hpos:0<cs.length:=by rw [HCS.out];exact HCMP.out (by unfold isCmp;simp only [o0,o1,o2,o3,o4,o5,o6,Bool.or_false,Bool.or_true,Bool.true_or,Bool.false_or])
    obtain⟨z,hz0c⟩: ∃z,cs[0]?=some z:=⟨cs[0],List.getElem?_eq_getElem hpos⟩
    have hhd:cs.headD 0=z:=by cases cs with|nil=>exact absurd hpos (by simp)|cons q qs=>simpa using hz0c
    obtain⟨g6,cap6,hv,_,_⟩:=HOWN.out.form hpos
    injection hv with e1 e2 e3
    subst e1 e3
    have hc60:=row_cell HOWN.out 0 (.int .u8 z) (by simp [hz0c])
    have hpos2:(0:Int)<cs.length:=by omega
    have HHD:=hide hhd
    clear hz0c hhd
    cases hzb:(z==98)
    ·go_wp2_with fail
     go_loopg [10] (cs.length+1) (fun k iv wq=> ∃j:Nat,k+j=cs.length+1∧j≤cs.length∧iv= .int .i64 j∧wq=wr∧Hid (∀(m:Nat) (c:Int),m<j→cs[m]?=some c→c=z))
     case atStart=>exact⟨0,rfl,Nat.zero_le _,rfl,rfl,hide fun m c h=>absurd h (Nat.not_lt_zero _)⟩
     case round=>
      obtain⟨j,hjk,hjl,rfl,rfl,hall⟩:=hrel
      by_cases hjlt:j<cs.length
      ·obtain⟨c,hcj⟩: ∃c,cs[j]?=some c:=⟨cs[j],List.getElem?_eq_getElem hjlt⟩
       have hc6:=row_cell HOWN.out j (.int .u8 c) (by simp [hcj])
       have hjl2:(j:Int)<cs.length:=by omega
       have HCJ:=hide hcj
       clear hcj
       cases hne:(c !=z)
       ·have hjk:=hide hjk
        go_wp2_with fail
        go_roundg (cs.length - j)
        case measure=>have:=hjk.out;omega
        case rel=>exact⟨j+1,by have:=hjk.out;omega,by omega,by go_num,rfl,hide fun m d hm hd=>by
          by_cases hmj:m=j
          ·subst hmj;have hx:=HCJ.out.symm.trans hd;injection hx with hx;subst hx;simpa using hne
          ·exact hall.out m d (by omega) hd⟩
       ·have hfin:Hid (endM op a cs=(98,a)):=hide (by
         have hno:=allB_no (gives:=98) (a:=a) HCJ.out hne
         unfold endM
         simp only [isCmp,o0,o1,o2,o3,o4,o5,o6,HHD.out,hzb,Bool.or_false,Bool.or_true,Bool.true_or,Bool.false_or,if_true,if_false,Bool.false_eq_true]
         exact hno)
        go_wp2_with fail
        go_quiet (fail)
        go_wp2_with fail
        go_ret2
        refine⟨⟨HB.out.os,HB.out.tape,HB.out.output,HB.out.size,HB.out.block⟩,98,a,by simp,?_⟩
        have hz:=HF.out
        rw [hfin.out] at hz
        exact hz
      ·have hfin:Hid (endM op a cs=(98,-1)):=hide (by
        have hyes:=allB_yes (gives:=98) (a:=a) (want:=z) (cs:=cs) fun m c h=>hall.out m c (by have:=(List.getElem?_eq_some_iff.1 h).1;omega) h
        unfold endM
        simp only [isCmp,o0,o1,o2,o3,o4,o5,o6,HHD.out,hzb,Bool.or_false,Bool.or_true,Bool.true_or,Bool.false_or,if_true,if_false,Bool.false_eq_true]
        exact hyes)
       have hjl2: ¬(j:Int)<cs.length:=by omega
       go_wp2_with fail
       go_ret2
       refine⟨HB.out,98,-1,by simp,?_⟩
       have hz:=HF.out
       rw [hfin.out] at hz
       exact hz
    ·have hfin:Hid (endM op a cs=(98,a)):=hide (by
      unfold endM
      simp only [isCmp,o0,o1,o2,o3,o4,o5,o6,HHD.out,hzb,Bool.or_false,Bool.or_true,Bool.true_or,Bool.false_or,if_true,if_false,Bool.false_eq_true])
     go_wp2_with fail
     go_quiet (fail)
     go_wp2_with fail
     go_ret2
     refine⟨⟨HB.out.os,HB.out.tape,HB.out.output,HB.out.size,HB.out.block⟩,98,a,by simp,?_⟩
     have hz:=HF.out
     rw [hfin.out] at hz
     exact hz
   cases o7:(op.toList==[33,61])
   case true=>
    have hpos:0<cs.length:=by rw [HCS.out];exact HCMP.out (by unfold isCmp;simp only [o0,o1,o2,o3,o4,o5,o6,o7,Bool.or_false,Bool.or_true,Bool.true_or,Bool.false_or])
    obtain⟨z,hz0c⟩: ∃z,cs[0]?=some z:=⟨cs[0],List.getElem?_eq_getElem hpos⟩
    have hhd:cs.headD 0=z:=by cases cs with|nil=>exact absurd hpos (by simp)|cons q qs=>simpa using hz0c
    obtain⟨g6,cap6,hv,_,_⟩:=HOWN.out.form hpos
    injection hv with e1 e2 e3
    subst e1 e3
    have hc60:=row_cell HOWN.out 0 (.int .u8 z) (by simp [hz0c])
    have hpos2:(0:Int)<cs.length:=by omega
    have HHD:=hide hhd
    clear hz0c hhd
    cases hzb:(z==98)
    ·go_wp2_with fail
     go_loopg [10] (cs.length+1) (fun k iv wq=> ∃j:Nat,k+j=cs.length+1∧j≤cs.length∧iv= .int .i64 j∧wq=wr∧Hid (∀(m:Nat) (c:Int),m<j→cs[m]?=some c→c=z))
     case atStart=>exact⟨0,rfl,Nat.zero_le _,rfl,rfl,hide fun m c h=>absurd h (Nat.not_lt_zero _)⟩
     case round=>
      obtain⟨j,hjk,hjl,rfl,rfl,hall⟩:=hrel
      by_cases hjlt:j<cs.length
      ·obtain⟨c,hcj⟩: ∃c,cs[j]?=some c:=⟨cs[j],List.getElem?_eq_getElem hjlt⟩
       have hc6:=row_cell HOWN.out j (.int .u8 c) (by simp [hcj])
       have hjl2:(j:Int)<cs.length:=by omega
       have HCJ:=hide hcj
       clear hcj
       cases hne:(c !=z)
       ·have hjk:=hide hjk
        go_wp2_with fail
        go_roundg (cs.length - j)
        case measure=>have:=hjk.out;omega
        case rel=>exact⟨j+1,by have:=hjk.out;omega,by omega,by go_num,rfl,hide fun m d hm hd=>by
          by_cases hmj:m=j
          ·subst hmj;have hx:=HCJ.out.symm.trans hd;injection hx with hx;subst hx;simpa using hne
          ·exact hall.out m d (by omega) hd⟩
       ·have hfin:Hid (endM op a cs=(98,a)):=hide (by
         have hno:=allB_no (gives:=98) (a:=a) HCJ.out hne
         unfold endM
         simp only [isCmp,o0,o1,o2,o3,o4,o5,o6,o7,HHD.out,hzb,Bool.or_false,Bool.or_true,Bool.true_or,Bool.false_or,if_true,if_false,Bool.false_eq_true]
         exact hno)
        go_wp2_with fail
        go_quiet (fail)
        go_wp2_with fail
        go_ret2
        refine⟨⟨HB.out.os,HB.out.tape,HB.out.output,HB.out.size,HB.out.block⟩,98,a,by simp,?_⟩
        have hz:=HF.out
        rw [hfin.out] at hz
        exact hz
      ·have hfin:Hid (endM op a cs=(98,-1)):=hide (by
        have hyes:=allB_yes (gives:=98) (a:=a) (want:=z) (cs:=cs) fun m c h=>hall.out m c (by have:=(List.getElem?_eq_some_iff.1 h).1;omega) h
        unfold endM
        simp only [isCmp,o0,o1,o2,o3,o4,o5,o6,o7,HHD.out,hzb,Bool.or_false,Bool.or_true,Bool.true_or,Bool.false_or,if_true,if_false,Bool.false_eq_true]
        exact hyes)
       have hjl2: ¬(j:Int)<cs.length:=by omega
       go_wp2_with fail
       go_ret2
       refine⟨HB.out,98,-1,by simp,?_⟩
       have hz:=HF.out
       rw [hfin.out] at hz
       exact hz
    ·have hfin:Hid (endM op a cs=(98,a)):=hide (by
      unfold endM
      simp only [isCmp,o0,o1,o2,o3,o4,o5,o6,o7,HHD.out,hzb,Bool.or_false,Bool.or_true,Bool.true_or,Bool.false_or,if_true,if_false,Bool.false_eq_true])
     go_wp2_with fail
     go_quiet (fail)
     go_wp2_with fail
     go_ret2
     refine⟨⟨HB.out.os,HB.out.tape,HB.out.output,HB.out.size,HB.out.block⟩,98,a,by simp,?_⟩
     have hz:=HF.out
     rw [hfin.out] at hz
     exact hz
   cases o8:(op.toList==[60])
   case true=>
    have hpos:0<cs.length:=by rw [HCS.out];exact HCMP.out (by unfold isCmp;simp only [o0,o1,o2,o3,o4,o5,o6,o7,o8,Bool.or_false,Bool.or_true,Bool.true_or,Bool.false_or])
    obtain⟨z,hz0c⟩: ∃z,cs[0]?=some z:=⟨cs[0],List.getElem?_eq_getElem hpos⟩
    have hhd:cs.headD 0=z:=by cases cs with|nil=>exact absurd hpos (by simp)|cons q qs=>simpa using hz0c
    obtain⟨g6,cap6,hv,_,_⟩:=HOWN.out.form hpos
    injection hv with e1 e2 e3
    subst e1 e3
    have hc60:=row_cell HOWN.out 0 (.int .u8 z) (by simp [hz0c])
    have hpos2:(0:Int)<cs.length:=by omega
    have HHD:=hide hhd
    clear hz0c hhd
    cases hzb:(z==98)
    ·go_wp2_with fail
     go_loopg [10] (cs.length+1) (fun k iv wq=> ∃j:Nat,k+j=cs.length+1∧j≤cs.length∧iv= .int .i64 j∧wq=wr∧Hid (∀(m:Nat) (c:Int),m<j→cs[m]?=some c→c=z))
     case atStart=>exact⟨0,rfl,Nat.zero_le _,rfl,rfl,hide fun m c h=>absurd h (Nat.not_lt_zero _)⟩
     case round=>
      obtain⟨j,hjk,hjl,rfl,rfl,hall⟩:=hrel
      by_cases hjlt:j<cs.length
      ·obtain⟨c,hcj⟩: ∃c,cs[j]?=some c:=⟨cs[j],List.getElem?_eq_getElem hjlt⟩
       have hc6:=row_cell HOWN.out j (.int .u8 c) (by simp [hcj])
       have hjl2:(j:Int)<cs.length:=by omega
       have HCJ:=hide hcj
       clear hcj
       cases hne:(c !=z)
       ·have hjk:=hide hjk
        go_wp2_with fail
        go_roundg (cs.length - j)
        case measure=>have:=hjk.out;omega
        case rel=>exact⟨j+1,by have:=hjk.out;omega,by omega,by go_num,rfl,hide fun m d hm hd=>by
          by_cases hmj:m=j
          ·subst hmj;have hx:=HCJ.out.symm.trans hd;injection hx with hx;subst hx;simpa using hne
          ·exact hall.out m d (by omega) hd⟩
       ·have hfin:Hid (endM op a cs=(98,a)):=hide (by
         have hno:=allB_no (gives:=98) (a:=a) HCJ.out hne
         unfold endM
         simp only [isCmp,o0,o1,o2,o3,o4,o5,o6,o7,o8,HHD.out,hzb,Bool.or_false,Bool.or_true,Bool.true_or,Bool.false_or,if_true,if_false,Bool.false_eq_true]
         exact hno)
        go_wp2_with fail
        go_quiet (fail)
        go_wp2_with fail
        go_ret2
        refine⟨⟨HB.out.os,HB.out.tape,HB.out.output,HB.out.size,HB.out.block⟩,98,a,by simp,?_⟩
        have hz:=HF.out
        rw [hfin.out] at hz
        exact hz
      ·have hfin:Hid (endM op a cs=(98,-1)):=hide (by
        have hyes:=allB_yes (gives:=98) (a:=a) (want:=z) (cs:=cs) fun m c h=>hall.out m c (by have:=(List.getElem?_eq_some_iff.1 h).1;omega) h
        unfold endM
        simp only [isCmp,o0,o1,o2,o3,o4,o5,o6,o7,o8,HHD.out,hzb,Bool.or_false,Bool.or_true,Bool.true_or,Bool.false_or,if_true,if_false,Bool.false_eq_true]
        exact hyes)
       have hjl2: ¬(j:Int)<cs.length:=by omega
       go_wp2_with fail
       go_ret2
       refine⟨HB.out,98,-1,by simp,?_⟩
       have hz:=HF.out
       rw [hfin.out] at hz
       exact hz
    ·have hfin:Hid (endM op a cs=(98,a)):=hide (by
      unfold endM
      simp only [isCmp,o0,o1,o2,o3,o4,o5,o6,o7,o8,HHD.out,hzb,Bool.or_false,Bool.or_true,Bool.true_or,Bool.false_or,if_true,if_false,Bool.false_eq_true])
     go_wp2_with fail
     go_quiet (fail)
     go_wp2_with fail
     go_ret2
     refine⟨⟨HB.out.os,HB.out.tape,HB.out.output,HB.out.size,HB.out.block⟩,98,a,by simp,?_⟩
     have hz:=HF.out
     rw [hfin.out] at hz
     exact hz
   cases o9:(op.toList==[60,61])
   case true=>
    have hpos:0<cs.length:=by rw [HCS.out];exact HCMP.out (by unfold isCmp;simp only [o0,o1,o2,o3,o4,o5,o6,o7,o8,o9,Bool.or_false,Bool.or_true,Bool.true_or,Bool.false_or])
    obtain⟨z,hz0c⟩: ∃z,cs[0]?=some z:=⟨cs[0],List.getElem?_eq_getElem hpos⟩
    have hhd:cs.headD 0=z:=by cases cs with|nil=>exact absurd hpos (by simp)|cons q qs=>simpa using hz0c
    obtain⟨g6,cap6,hv,_,_⟩:=HOWN.out.form hpos
    injection hv with e1 e2 e3
    subst e1 e3
    have hc60:=row_cell HOWN.out 0 (.int .u8 z) (by simp [hz0c])
    have hpos2:(0:Int)<cs.length:=by omega
    have HHD:=hide hhd
    clear hz0c hhd
    cases hzb:(z==98)
    ·go_wp2_with fail
     go_loopg [10] (cs.length+1) (fun k iv wq=> ∃j:Nat,k+j=cs.length+1∧j≤cs.length∧iv= .int .i64 j∧wq=wr∧Hid (∀(m:Nat) (c:Int),m<j→cs[m]?=some c→c=z))
     case atStart=>exact⟨0,rfl,Nat.zero_le _,rfl,rfl,hide fun m c h=>absurd h (Nat.not_lt_zero _)⟩
     case round=>
      obtain⟨j,hjk,hjl,rfl,rfl,hall⟩:=hrel
      by_cases hjlt:j<cs.length
      ·obtain⟨c,hcj⟩: ∃c,cs[j]?=some c:=⟨cs[j],List.getElem?_eq_getElem hjlt⟩
       have hc6:=row_cell HOWN.out j (.int .u8 c) (by simp [hcj])
       have hjl2:(j:Int)<cs.length:=by omega
       have HCJ:=hide hcj
       clear hcj
       cases hne:(c !=z)
       ·have hjk:=hide hjk
        go_wp2_with fail
        go_roundg (cs.length - j)
        case measure=>have:=hjk.out;omega
        case rel=>exact⟨j+1,by have:=hjk.out;omega,by omega,by go_num,rfl,hide fun m d hm hd=>by
          by_cases hmj:m=j
          ·subst hmj;have hx:=HCJ.out.symm.trans hd;injection hx with hx;subst hx;simpa using hne
          ·exact hall.out m d (by omega) hd⟩
       ·have hfin:Hid (endM op a cs=(98,a)):=hide (by
         have hno:=allB_no (gives:=98) (a:=a) HCJ.out hne
         unfold endM
         simp only [isCmp,o0,o1,o2,o3,o4,o5,o6,o7,o8,o9,HHD.out,hzb,Bool.or_false,Bool.or_true,Bool.true_or,Bool.false_or,if_true,if_false,Bool.false_eq_true]
         exact hno)
        go_wp2_with fail
        go_quiet (fail)
        go_wp2_with fail
        go_ret2
        refine⟨⟨HB.out.os,HB.out.tape,HB.out.output,HB.out.size,HB.out.block⟩,98,a,by simp,?_⟩
        have hz:=HF.out
        rw [hfin.out] at hz
        exact hz
      ·have hfin:Hid (endM op a cs=(98,-1)):=hide (by
        have hyes:=allB_yes (gives:=98) (a:=a) (want:=z) (cs:=cs) fun m c h=>hall.out m c (by have:=(List.getElem?_eq_some_iff.1 h).1;omega) h
        unfold endM
        simp only [isCmp,o0,o1,o2,o3,o4,o5,o6,o7,o8,o9,HHD.out,hzb,Bool.or_false,Bool.or_true,Bool.true_or,Bool.false_or,if_true,if_false,Bool.false_eq_true]
        exact hyes)
       have hjl2: ¬(j:Int)<cs.length:=by omega
       go_wp2_with fail
       go_ret2
       refine⟨HB.out,98,-1,by simp,?_⟩
       have hz:=HF.out
       rw [hfin.out] at hz
       exact hz
    ·have hfin:Hid (endM op a cs=(98,a)):=hide (by
      unfold endM
      simp only [isCmp,o0,o1,o2,o3,o4,o5,o6,o7,o8,o9,HHD.out,hzb,Bool.or_false,Bool.or_true,Bool.true_or,Bool.false_or,if_true,if_false,Bool.false_eq_true])
     go_wp2_with fail
     go_quiet (fail)
     go_wp2_with fail
     go_ret2
     refine⟨⟨HB.out.os,HB.out.tape,HB.out.output,HB.out.size,HB.out.block⟩,98,a,by simp,?_⟩
     have hz:=HF.out
     rw [hfin.out] at hz
     exact hz
   cases o10:(op.toList==[62])
   case true=>
    have hpos:0<cs.length:=by rw [HCS.out];exact HCMP.out (by unfold isCmp;simp only [o0,o1,o2,o3,o4,o5,o6,o7,o8,o9,o10,Bool.or_false,Bool.or_true,Bool.true_or,Bool.false_or])
    obtain⟨z,hz0c⟩: ∃z,cs[0]?=some z:=⟨cs[0],List.getElem?_eq_getElem hpos⟩
    have hhd:cs.headD 0=z:=by cases cs with|nil=>exact absurd hpos (by simp)|cons q qs=>simpa using hz0c
    obtain⟨g6,cap6,hv,_,_⟩:=HOWN.out.form hpos
    injection hv with e1 e2 e3
    subst e1 e3
    have hc60:=row_cell HOWN.out 0 (.int .u8 z) (by simp [hz0c])
    have hpos2:(0:Int)<cs.length:=by omega
    have HHD:=hide hhd
    clear hz0c hhd
    cases hzb:(z==98)
    ·go_wp2_with fail
     go_loopg [10] (cs.length+1) (fun k iv wq=> ∃j:Nat,k+j=cs.length+1∧j≤cs.length∧iv= .int .i64 j∧wq=wr∧Hid (∀(m:Nat) (c:Int),m<j→cs[m]?=some c→c=z))
     case atStart=>exact⟨0,rfl,Nat.zero_le _,rfl,rfl,hide fun m c h=>absurd h (Nat.not_lt_zero _)⟩
     case round=>
      obtain⟨j,hjk,hjl,rfl,rfl,hall⟩:=hrel
      by_cases hjlt:j<cs.length
      ·obtain⟨c,hcj⟩: ∃c,cs[j]?=some c:=⟨cs[j],List.getElem?_eq_getElem hjlt⟩
       have hc6:=row_cell HOWN.out j (.int .u8 c) (by simp [hcj])
       have hjl2:(j:Int)<cs.length:=by omega
       have HCJ:=hide hcj
       clear hcj
       cases hne:(c !=z)
       ·have hjk:=hide hjk
        go_wp2_with fail
        go_roundg (cs.length - j)
        case measure=>have:=hjk.out;omega
        case rel=>exact⟨j+1,by have:=hjk.out;omega,by omega,by go_num,rfl,hide fun m d hm hd=>by
          by_cases hmj:m=j
          ·subst hmj;have hx:=HCJ.out.symm.trans hd;injection hx with hx;subst hx;simpa using hne
          ·exact hall.out m d (by omega) hd⟩
       ·have hfin:Hid (endM op a cs=(98,a)):=hide (by
         have hno:=allB_no (gives:=98) (a:=a) HCJ.out hne
         unfold endM
         simp only [isCmp,o0,o1,o2,o3,o4,o5,o6,o7,o8,o9,o10,HHD.out,hzb,Bool.or_false,Bool.or_true,Bool.true_or,Bool.false_or,if_true,if_false,Bool.false_eq_true]
         exact hno)
        go_wp2_with fail
        go_quiet (fail)
        go_wp2_with fail
        go_ret2
        refine⟨⟨HB.out.os,HB.out.tape,HB.out.output,HB.out.size,HB.out.block⟩,98,a,by simp,?_⟩
        have hz:=HF.out
        rw [hfin.out] at hz
        exact hz
      ·have hfin:Hid (endM op a cs=(98,-1)):=hide (by
        have hyes:=allB_yes (gives:=98) (a:=a) (want:=z) (cs:=cs) fun m c h=>hall.out m c (by have:=(List.getElem?_eq_some_iff.1 h).1;omega) h
        unfold endM
        simp only [isCmp,o0,o1,o2,o3,o4,o5,o6,o7,o8,o9,o10,HHD.out,hzb,Bool.or_false,Bool.or_true,Bool.true_or,Bool.false_or,if_true,if_false,Bool.false_eq_true]
        exact hyes)
       have hjl2: ¬(j:Int)<cs.length:=by omega
       go_wp2_with fail
       go_ret2
       refine⟨HB.out,98,-1,by simp,?_⟩
       have hz:=HF.out
       rw [hfin.out] at hz
       exact hz
    ·have hfin:Hid (endM op a cs=(98,a)):=hide (by
      unfold endM
      simp only [isCmp,o0,o1,o2,o3,o4,o5,o6,o7,o8,o9,o10,HHD.out,hzb,Bool.or_false,Bool.or_true,Bool.true_or,Bool.false_or,if_true,if_false,Bool.false_eq_true])
     go_wp2_with fail
     go_quiet (fail)
     go_wp2_with fail
     go_ret2
     refine⟨⟨HB.out.os,HB.out.tape,HB.out.output,HB.out.size,HB.out.block⟩,98,a,by simp,?_⟩
     have hz:=HF.out
     rw [hfin.out] at hz
     exact hz
   cases o11:(op.toList==[62,61])
   case true=>
    have hpos:0<cs.length:=by rw [HCS.out];exact HCMP.out (by unfold isCmp;simp only [o0,o1,o2,o3,o4,o5,o6,o7,o8,o9,o10,o11,Bool.or_false,Bool.or_true,Bool.true_or,Bool.false_or])
    obtain⟨z,hz0c⟩: ∃z,cs[0]?=some z:=⟨cs[0],List.getElem?_eq_getElem hpos⟩
    have hhd:cs.headD 0=z:=by cases cs with|nil=>exact absurd hpos (by simp)|cons q qs=>simpa using hz0c
    obtain⟨g6,cap6,hv,_,_⟩:=HOWN.out.form hpos
    injection hv with e1 e2 e3
    subst e1 e3
    have hc60:=row_cell HOWN.out 0 (.int .u8 z) (by simp [hz0c])
    have hpos2:(0:Int)<cs.length:=by omega
    have HHD:=hide hhd
    clear hz0c hhd
    cases hzb:(z==98)
    ·go_wp2_with fail
     go_loopg [10] (cs.length+1) (fun k iv wq=> ∃j:Nat,k+j=cs.length+1∧j≤cs.length∧iv= .int .i64 j∧wq=wr∧Hid (∀(m:Nat) (c:Int),m<j→cs[m]?=some c→c=z))
     case atStart=>exact⟨0,rfl,Nat.zero_le _,rfl,rfl,hide fun m c h=>absurd h (Nat.not_lt_zero _)⟩
     case round=>
      obtain⟨j,hjk,hjl,rfl,rfl,hall⟩:=hrel
      by_cases hjlt:j<cs.length
      ·obtain⟨c,hcj⟩: ∃c,cs[j]?=some c:=⟨cs[j],List.getElem?_eq_getElem hjlt⟩
       have hc6:=row_cell HOWN.out j (.int .u8 c) (by simp [hcj])
       have hjl2:(j:Int)<cs.length:=by omega
       have HCJ:=hide hcj
       clear hcj
       cases hne:(c !=z)
       ·have hjk:=hide hjk
        go_wp2_with fail
        go_roundg (cs.length - j)
        case measure=>have:=hjk.out;omega
        case rel=>exact⟨j+1,by have:=hjk.out;omega,by omega,by go_num,rfl,hide fun m d hm hd=>by
          by_cases hmj:m=j
          ·subst hmj;have hx:=HCJ.out.symm.trans hd;injection hx with hx;subst hx;simpa using hne
          ·exact hall.out m d (by omega) hd⟩
       ·have hfin:Hid (endM op a cs=(98,a)):=hide (by
         have hno:=allB_no (gives:=98) (a:=a) HCJ.out hne
         unfold endM
         simp only [isCmp,o0,o1,o2,o3,o4,o5,o6,o7,o8,o9,o10,o11,HHD.out,hzb,Bool.or_false,Bool.or_true,Bool.true_or,Bool.false_or,if_true,if_false,Bool.false_eq_true]
         exact hno)
        go_wp2_with fail
        go_quiet (fail)
        go_wp2_with fail
        go_ret2
        refine⟨⟨HB.out.os,HB.out.tape,HB.out.output,HB.out.size,HB.out.block⟩,98,a,by simp,?_⟩
        have hz:=HF.out
        rw [hfin.out] at hz
        exact hz
      ·have hfin:Hid (endM op a cs=(98,-1)):=hide (by
        have hyes:=allB_yes (gives:=98) (a:=a) (want:=z) (cs:=cs) fun m c h=>hall.out m c (by have:=(List.getElem?_eq_some_iff.1 h).1;omega) h
        unfold endM
        simp only [isCmp,o0,o1,o2,o3,o4,o5,o6,o7,o8,o9,o10,o11,HHD.out,hzb,Bool.or_false,Bool.or_true,Bool.true_or,Bool.false_or,if_true,if_false,Bool.false_eq_true]
        exact hyes)
       have hjl2: ¬(j:Int)<cs.length:=by omega
       go_wp2_with fail
       go_ret2
       refine⟨HB.out,98,-1,by simp,?_⟩
       have hz:=HF.out
       rw [hfin.out] at hz
       exact hz
    ·have hfin:Hid (endM op a cs=(98,a)):=hide (by
      unfold endM
      simp only [isCmp,o0,o1,o2,o3,o4,o5,o6,o7,o8,o9,o10,o11,HHD.out,hzb,Bool.or_false,Bool.or_true,Bool.true_or,Bool.false_or,if_true,if_false,Bool.false_eq_true])
     go_wp2_with fail
     go_quiet (fail)
     go_wp2_with fail
     go_ret2
     refine⟨⟨HB.out.os,HB.out.tape,HB.out.output,HB.out.size,HB.out.block⟩,98,a,by simp,?_⟩
     have hz:=HF.out
     rw [hfin.out] at hz
     exact hz
   go_wp2_with fail
   go_loopg [10] (cs.length+1) (fun k iv wq=> ∃j:Nat,k+j=cs.length+1∧j≤cs.length∧iv= .int .i64 j∧wq=wr∧Hid (∀(m:Nat) (c:Int),m<j→cs[m]?=some c→c=110))
   case atStart=>exact⟨0,rfl,Nat.zero_le _,rfl,rfl,hide fun m c h=>absurd h (Nat.not_lt_zero _)⟩
   case round=>
    obtain⟨j,hjk,hjl,rfl,rfl,hall⟩:=hrel
    by_cases hjlt:j<cs.length
    ·obtain⟨c,hcj⟩: ∃c,cs[j]?=some c:=⟨cs[j],List.getElem?_eq_getElem hjlt⟩
     obtain⟨g6,cap6,hv,_,_⟩:=HOWN.out.form (by omega)
     injection hv with e1 e2 e3
     subst e1 e3
     have hc6:=row_cell HOWN.out j (.int .u8 c) (by simp [hcj])
     have hjl2:(j:Int)<cs.length:=by omega
     have HCJ:=hide hcj
     clear hcj
     cases hne:(c !=110)
     ·have hjk:=hide hjk
      go_wp2_with fail
      go_roundg (cs.length - j)
      case measure=>have:=hjk.out;omega
      case rel=>exact⟨j+1,by have:=hjk.out;omega,by omega,by go_num,rfl,hide fun m d hm hd=>by
        by_cases hmj:m=j
        ·subst hmj;have hx:=HCJ.out.symm.trans hd;injection hx with hx;subst hx;simpa using hne
        ·exact hall.out m d (by omega) hd⟩
     ·have hfin:Hid (endM op a cs=(98,a)):=hide (by
       have hno:=allB_no (gives:=110) (a:=a) HCJ.out hne
       unfold endM
       simp only [isCmp,o0,o1,o2,o3,o4,o5,o6,o7,o8,o9,o10,o11,Bool.or_false,Bool.or_true,Bool.true_or,Bool.false_or,if_true,if_false,Bool.false_eq_true]
       exact hno)
      go_wp2_with fail
      go_quiet (fail)
      go_wp2_with fail
      go_ret2
      refine⟨⟨HB.out.os,HB.out.tape,HB.out.output,HB.out.size,HB.out.block⟩,98,a,by simp,?_⟩
      have hz:=HF.out
      rw [hfin.out] at hz
      exact hz
    ·have hfin:Hid (endM op a cs=(110,-1)):=hide (by
      have hyes:=allB_yes (gives:=110) (a:=a) (want:=110) (cs:=cs) fun m c h=>hall.out m c (by have:=(List.getElem?_eq_some_iff.1 h).1;omega) h
      unfold endM
      simp only [isCmp,o0,o1,o2,o3,o4,o5,o6,o7,o8,o9,o10,o11,Bool.or_false,Bool.or_true,Bool.true_or,Bool.false_or,if_true,if_false,Bool.false_eq_true]
      exact hyes)
     have hjl2: ¬(j:Int)<cs.length:=by omega
     go_wp2_with fail
     go_ret2
     refine⟨HB.out,110,-1,by simp,?_⟩
     have hz:=HF.out
     rw [hfin.out] at hz
     exact hz
end Go.Proofs.YtkoohcilbpdgeaaGreatDoor
