import Derived.Test.YtkoohcilbpdgeaaGreatDoorProg
import Derived.Deep.LoopGhost
import Derived.Deep.AppendLies
import Derived.Test.YtkoohcilbpdgeaaGreatDoorC04
set_option linter.all false
set_option linter.unusedVariables false
set_option linter.unusedSimpArgs false
set_option linter.unnecessarySimpa false
set_option linter.constructorNameAsVariable false
set_option linter.deprecated false
set_option maxRecDepth 100000
set_option maxHeartbeats 6400000
namespace Go.Proofs.YtkoohcilbpdgeaaGreatDoor
open Go Go.RowKit
attribute [local go_sem] wrap64_byte
def hereM (s:ByteArray)(a:Nat)(d:Bool):Int:=if d then 0 else if h:a<s.size then(s[a].toNat:Int) else 0
theorem hereM_eq {s:ByteArray}{a:Nat}{d:Bool}{c:Int}(hc:0<c):(hereM s a d==c)=(pk s a d==c):=by
 have h1:((0:Int)==c)=false:=by rw [beq_eq_false_iff_ne];omega
 have h2:((-1:Int)==c)=false:=by rw [beq_eq_false_iff_ne];omega
 unfold hereM pk
 split
 ·rw [h1,h2]
 ·split
  ·rfl
  ·rw [h1,h2]
theorem hereM_range (s:ByteArray)(a:Nat)(d:Bool):0≤hereM s a d∧hereM s a d≤255:=by
 unfold hereM
 split
 ·omega
 ·split
  ·have:=(s[a]).toNat_lt;omega
  ·omega
theorem hereM_letter (s:ByteArray)(a:Nat)(d:Bool):isLetter (hereM s a d)=isLetter (pk s a d):=by
 unfold hereM pk
 split
 ·decide
 ·split
  ·rfl
  ·decide
theorem hereM_digit (s:ByteArray)(a:Nat)(d:Bool):isDigit (hereM s a d)=isDigit (pk s a d):=by
 unfold hereM pk
 split
 ·decide
 ·split
  ·rfl
  ·decide
theorem here_any (b a:Nat)(s:ByteArray)(d:Bool)(w:World)(h:Rd w b s a d):
  Calls Tryz.prog 96 #[.pointer (some ⟨b,0,none⟩),.int .i64 0] w fun e w'=>e= .returned (.int .u8 (hereM s a d))∧ ∃n,w'=w.drewN n:=by
 obtain⟨h0,h1,h2,_,_,ha,hs⟩:=h
 cases d with
 |true=>
  have hp:hereM s a true=0:=rfl
  rw [hp]
  clear hp
  go_enter Tryz.func96,Tryz.ntmps96
  go_wp2_with fail
  go_quiet (fail)
  go_wp2_with fail
  go_ret
  exact⟨rfl,_,rfl⟩
 |false=>
  by_cases hlt:a<s.size
  ·have hp:hereM s a false=s[a].toNat:=by simp [hereM,hlt]
   rw [hp]
   have hwr:IntKind.i64.wrap (a:Int)=(a:Int):=by rw [IntWalk.i64_left,IntWalk.wrap64_in _ (by omega)]
   clear hp ha
   go_enter Tryz.func96,Tryz.ntmps96
   go_wp2_with fail
   go_quiet (fail)
   go_wp2_with fail
   go_quiet (fail)
   go_wp2_with fail
   go_ret
   exact⟨by simp,_,World.drewN_drewN _ _ _⟩
  ·have hp:hereM s a false=0:=by simp [hereM,hlt]
   rw [hp]
   clear hp
   go_enter Tryz.func96,Tryz.ntmps96
   go_wp2_with fail
   go_quiet (fail)
   go_wp2_with fail
   go_ret
   exact⟨rfl,_,rfl⟩
theorem blanksR_any (b a:Nat)(s:ByteArray)(d:Bool)(w:World)(h:Rd w b s a d):
  Calls Tryz.prog 52 #[.pointer (some ⟨b,0,none⟩)] w fun e w'=>e= .returned (.tuple #[])∧Rd w' b s (skip s a d) d∧Sc b w w':=by
 go_enter Tryz.func52,Tryz.ntmps52
 go_wp2_with fail
 go_loopw [] (fun wr=> ∃k,Rd wr b s k d∧Sc b w wr∧Hid (skip s k d=skip s a d)) (fun wr=>s.size - atOf wr b)
 case atStart=>exact⟨a,h,Sc.refl _ _,rfl⟩
 case round=>
  obtain⟨k,hk,hsc,hsk⟩:=hrel
  have hat:=hide hk.atOf
  have hk':=hk
  by_cases hb:pk s k d=32
  ·have hlt:=(pk_lt (s:=s) (a:=k) (d:=d) (by omega)).2
   have hset:=fun n=>(hk.drewN n).setAt' (k+1) (k+1) (by omega) hlt
   have hst:=hide (skip_step hb)
   have hb':(hereM s k d==32)=true:=by rw [hereM_eq (by omega)];simp [hb]
   clear hb
   obtain⟨h0,h1,h2,f1,f2,ha,hs⟩:=hk
   go_wp2_with (go_at_call 96;refine(here_any _ _ _ _ _ hk').mono ?_;rintro e w1 ⟨rfl,n,rfl⟩)
   have hset:=hset n
   go_roundw
   case rel=>exact⟨k+1,hset,(hsc.drewN n).setCell 1 (Or.inl rfl) _,hst.out.trans hsk.out⟩
   case measure=>rw [hset.atOf,hat.out];omega
  ·have hst:=hide (skip_stop hb)
   have hb':(hereM s k d==32)=false:=by rw [hereM_eq (by omega)];simp [hb]
   clear hb
   obtain⟨h0,h1,h2,f1,f2,ha,hs⟩:=hk
   go_wp2_with (go_at_call 96;refine(here_any _ _ _ _ _ hk').mono ?_;rintro e w1 ⟨rfl,n,rfl⟩)
   go_end0
   exact⟨rfl,by rw [←hsk.out,hst.out];exact hk'.drewN n,hsc.drewN n⟩
theorem letter_any (c:Int)(w:World)(h:0≤c∧c≤255):Calls Tryz.prog 141 #[.int .u8 c] w fun e w'=>e= .returned (.bool (isLetter c))∧w'=w:=by
 obtain⟨_,_⟩:=h
 by_cases h1:97≤c
 all_goals by_cases h2:c≤122
 all_goals by_cases h3:65≤c
 all_goals by_cases h4:c≤90
 all_goals try omega
 all_goals
  go_enter Tryz.func141,Tryz.ntmps141
  go_wp2_with fail
  go_ret
  exact⟨by simp [isLetter];first|omega|(rw [Bool.eq_iff_iff];simp;omega),rfl⟩
theorem digit_any (c:Int)(w:World)(h:0≤c∧c≤255):Calls Tryz.prog 142 #[.int .u8 c] w fun e w'=>e= .returned (.bool (isDigit c))∧w'=w:=by
 obtain⟨_,_⟩:=h
 by_cases h1:48≤c
 all_goals by_cases h2:c≤57
 all_goals try omega
 all_goals
  go_enter Tryz.func142,Tryz.ntmps142
  go_wp2_with fail
  go_ret
  exact⟨by simp [isDigit];omega,rfl⟩
theorem eat_any (b a:Nat)(s t:ByteArray)(d:Bool)(w:World)(h:Rd w b s a d)(ht:t.size≤600):
  Calls Tryz.prog 95 #[.pointer (some ⟨b,0,none⟩),.string t] w fun e w'=>e= .returned (.tuple #[])∧Rd w' b s (wordM s d t.data.toList a).1 (wordM s d t.data.toList a).2∧Sc b w w':=by
 go_enter Tryz.func95,Tryz.ntmps95
 go_wp2_with fail
 go_loopw [4] (fun i wr=> ∃k ak:Nat,i= .int .i64 k∧k≤t.size∧Rd wr b s ak d∧Sc b w wr∧Hid (wordM s d (t.data.toList.drop k) ak=wordM s d t.data.toList a)) (fun i wr=>t.size -(intOf i).toNat)
 case atStart=>exact⟨0,a,rfl,Nat.zero_le _,h,Sc.refl _ _,rfl⟩
 case round=>
  obtain⟨k,ak,rfl,hkt,hk,hsc,hsk⟩:=hrel
  have hk':=hk
  obtain⟨h0,h1,h2,f1,f2,ha,hs⟩:=hk
  by_cases hlt:k<t.size
  ·have hlti:(k:Int)<t.size:=by omega
   cases d with
   |true=>
    have hst:Hid (wordM s true t.data.toList a=(ak,true)):=hide (by rw [←hsk.out,drop_cons t k hlt,wordM_cons_no (by simp [pk])])
    go_wp2_with fail
    go_end0
    exact⟨rfl,by rw [hst.out];exact hk',hsc⟩
   |false=>
    by_cases hp:ak<s.size
    ·have hpi:(ak:Int)<s.size:=by omega
     have hpk:pk s ak false=s[ak].toNat:=by simp [pk,hp]
     by_cases hb:pk s ak false=(t[k].toNat:Int)
     ·have hset:=fun n=>(hk'.drewN n).setAt' (ak+1) (ak+1) (by omega) hp
      have hst:Hid (wordM s false (t.data.toList.drop (k+1)) (ak+1)=wordM s false t.data.toList a):=hide (by rw [←hsk.out,drop_cons t k hlt,wordM_cons_yes hb])
      have hb':((s[ak].toNat:Int) !=(t[k].toNat:Int))=false:=by rw [←hpk];simp [hb]
      clear hb hpk
      go_wp2_with fail
      go_quiet (fail)
      go_wp2_with fail
      have hset:=hset nq
      go_roundw
      case rel=>exact⟨k+1,ak+1,by go_num,by omega,hset,(hsc.drewN nq).setCell 1 (Or.inl rfl) _,hst⟩
      case measure=>simp [intOf];omega
     ·have hst:Hid (wordM s false t.data.toList a=(ak,true)):=hide (by rw [←hsk.out,drop_cons t k hlt,wordM_cons_no hb])
      have hb':((s[ak].toNat:Int) !=(t[k].toNat:Int))=true:=by rw [←hpk];simp [hb]
      have hset:=fun n=>(hk'.drewN n).setBad true
      clear hb hpk
      go_wp2_with fail
      go_quiet (fail)
      go_wp2_with fail
      refine bodyPost_ret (results_none rfl _ _ _) rfl ?_
      exact⟨rfl,by rw [hst.out];exact hset _,(hsc.drewN _).setCell 2 (Or.inr rfl) _⟩
    ·have hpi: ¬(ak:Int)<s.size:=by omega
     have hst:Hid (wordM s false t.data.toList a=(ak,true)):=hide (by rw [←hsk.out,drop_cons t k hlt,wordM_cons_no (by simp [pk,hp])])
     have hset:=fun n=>(hk'.drewN n).setBad true
     go_wp2_with fail
     go_quiet (fail)
     go_wp2_with fail
     refine bodyPost_ret (results_none rfl _ _ _) rfl ?_
     exact⟨rfl,by rw [hst.out];exact hset _,(hsc.drewN _).setCell 2 (Or.inr rfl) _⟩
  ·have hst:Hid (wordM s d t.data.toList a=(ak,d)):=hide (by rw [←hsk.out,List.drop_of_length_le (by simpa using hlt)];rfl)
   have hlti: ¬(k:Int)<t.size:=by omega
   go_wp2_with fail
   go_end0
   exact⟨rfl,by rw [hst.out];exact hk',hsc⟩
theorem line_any (b a:Nat)(s t:ByteArray)(d:Bool)(w:World)(h:Rd w b s a d)(ht:t.size≤600):
  Calls Tryz.prog 134 #[.pointer (some ⟨b,0,none⟩),.string t] w fun e w'=>e= .returned (.tuple #[])∧
   Rd w' b s (signM s (wordM s d t.data.toList a).2 [32] (wordM s d t.data.toList a).1).1 (signM s (wordM s d t.data.toList a).2 [32] (wordM s d t.data.toList a).1).2∧Sc b w w':=by
 go_enter Tryz.func134,Tryz.ntmps134
 go_wp2_with fail
 refine(eat_any _ _ _ _ _ _ h ht).mono ?_
 rintro e w1 ⟨rfl,hr1,hs1⟩
 go_wp2_with fail
 refine(eat_any _ _ _ _ _ _ hr1 (by decide)).mono ?_
 rintro e w2 ⟨rfl,hr2,hs2⟩
 go_wp2_with fail
 refine(blanksR_any _ _ _ _ _ hr2).mono ?_
 rintro e w3 ⟨rfl,hr3,hs3⟩
 go_wp2_with fail
 go_end0
 exact⟨rfl,hr3,(hs1.trans hs2).trans hs3⟩
theorem end_any (b a:Nat)(s:ByteArray)(d:Bool)(w:World)(h:Rd w b s a d):
  Calls Tryz.prog 135 #[.pointer (some ⟨b,0,none⟩)] w fun e w'=>e= .returned (.tuple #[])∧Rd w' b s (wordM s d [10] (skip s a d)).1 (wordM s d [10] (skip s a d)).2∧Sc b w w':=by
 go_enter Tryz.func135,Tryz.ntmps135
 go_wp2_with fail
 refine(blanksR_any _ _ _ _ _ h).mono ?_
 rintro e w1 ⟨rfl,hr1,hs1⟩
 go_wp2_with fail
 refine(eat_any _ _ _ _ _ _ hr1 (by decide)).mono ?_
 rintro e w2 ⟨rfl,hr2,hs2⟩
 go_wp2_with fail
 go_end0
 exact⟨rfl,hr2,hs1.trans hs2⟩
theorem ext_list (s:ByteArray)(i j:Nat):(s.extract i j).toList=(s.data.toList.drop i).take (j - i):=by
 rw [ByteArray.toList_eq,ByteArray.data_extract,Array.toList_extract,List.extract_eq_take_drop]
theorem drop_at (s:ByteArray)(p:Nat)(h:p<s.size):s.data.toList.drop p=s[p]::s.data.toList.drop (p+1):=drop_cons s p h
theorem ext1 {s:ByteArray}{p:Nat}(h:p+1≤s.size):(s.extract p (p+1)).toList=[s[p]]:=by
 rw [ext_list,drop_at s p (by omega),show p+1 - p=1 by omega]
 rfl
theorem ext2 {s:ByteArray}{p:Nat}(h:p+2≤s.size):(s.extract p (p+2)).toList=[s[p],s[p+1]]:=by
 rw [ext_list,drop_at s p (by omega),drop_at s (p+1) (by omega),show p+2 - p=2 by omega]
 rfl
theorem u8_beq (x c:UInt8):(x==c)=((x.toNat:Int)==(c.toNat:Int)):=by
 rw [Bool.eq_iff_iff]
 simp only [beq_iff_eq]
 constructor
 ·intro h;rw [h]
 ·intro h;exact UInt8.toNat_inj.1 (by omega)
theorem sig1 {s:ByteArray}{p:Nat}(c:UInt8)(h:p+1≤s.size):((s.extract p (p+1)).toList==[c])=(pk s p false==(c.toNat:Int)):=by
 rw [ext1 h,show pk s p false=(s[p].toNat:Int) by simp [pk,show p<s.size by omega],←u8_beq]
 simp
theorem sig2 {s:ByteArray}{p:Nat}(h:p+2≤s.size):((s.extract p (p+2)).toList==[45,62])=arrowM s p false:=by
 unfold arrowM
 rw [ext2 h,show pk s p false=(s[p].toNat:Int) by simp [pk,show p<s.size by omega],show pk s (p+1) false=(s[p+1].toNat:Int) by simp [pk,show p+1<s.size by omega]]
 rw [show((s[p].toNat:Int)==45)=(s[p]==45) from(u8_beq s[p] 45).symm,show((s[p+1].toNat:Int)==62)=(s[p+1]==62) from(u8_beq s[p+1] 62).symm]
 simp
theorem sign1_any (b a:Nat)(s:ByteArray)(c:UInt8)(d:Bool)(w:World)(h:Rd w b s a d):
  Calls Tryz.prog 138 #[.pointer (some ⟨b,0,none⟩),.string ⟨#[c]⟩] w fun e w'=>e= .returned (.bool (pk s (skip s a d) d==(c.toNat:Int)))∧Rd w' b s (skip s a d) d∧Sc b w w':=by
 have HB:=hide (blanksR_any b a s d w h)
 clear h
 generalize skip s a d=p at*
 go_enter Tryz.func138,Tryz.ntmps138
 go_wp2_with fail
 refine HB.out.mono ?_
 rintro e w1 ⟨rfl,hr1,hs1⟩
 obtain⟨h0,h1,h2,f1,f2,ha,hs⟩:=id hr1
 cases d with
 |true=>
  have hv:Hid ((pk s p true==(c.toNat:Int))=false):=hide (by simp [pk])
  go_wp2_with fail
  go_quiet (fail)
  go_wp2_with fail
  go_ret
  exact⟨by rw [hv.out];simp,hr1.drewN _,hs1.drewN _⟩
 |false=>
  by_cases hp:p+1≤s.size
  ·have hpi:(p:Int)+1≤s.size:=by omega
   have hwr:IntKind.i64.wrap ((p:Int)+1)=(p:Int)+1:=by rw [IntWalk.i64_left,IntWalk.wrap64_in _ (by omega)]
   go_wp2_with fail
   go_quiet (fail)
   go_wp2_with fail
   go_ret
   exact⟨by rw [←sig1 c hp];simp,hr1.drewN _,hs1.drewN _⟩
  ·have hpi: ¬(p:Int)+1≤s.size:=by omega
   have hv:Hid ((pk s p false==(c.toNat:Int))=false):=hide (by simp [pk,show ¬p<s.size by omega])
   have hwr:IntKind.i64.wrap ((p:Int)+1)=(p:Int)+1:=by rw [IntWalk.i64_left,IntWalk.wrap64_in _ (by omega)]
   have hd:decide ((p:Int)+1≤s.size)=false:=by simp;omega
   go_wp2_with fail
   go_quiet (fail)
   go_wp2_with fail
   go_ret
   exact⟨by rw [hv.out];simp,hr1.drewN _,hs1.drewN _⟩
theorem sign2_any (b a:Nat)(s:ByteArray)(d:Bool)(w:World)(h:Rd w b s a d):
  Calls Tryz.prog 138 #[.pointer (some ⟨b,0,none⟩),.string ⟨#[45,62]⟩] w fun e w'=>e= .returned (.bool (arrowM s (skip s a d) d))∧Rd w' b s (skip s a d) d∧Sc b w w':=by
 have HB:=hide (blanksR_any b a s d w h)
 clear h
 generalize skip s a d=p at*
 go_enter Tryz.func138,Tryz.ntmps138
 go_wp2_with fail
 refine HB.out.mono ?_
 rintro e w1 ⟨rfl,hr1,hs1⟩
 obtain⟨h0,h1,h2,f1,f2,ha,hs⟩:=id hr1
 cases d with
 |true=>
  have hv:Hid (arrowM s p true=false):=hide (by simp [arrowM,pk])
  go_wp2_with fail
  go_quiet (fail)
  go_wp2_with fail
  go_ret
  exact⟨by rw [hv.out];simp,hr1.drewN _,hs1.drewN _⟩
 |false=>
  have hwr:IntKind.i64.wrap ((p:Int)+2)=(p:Int)+2:=by rw [IntWalk.i64_left,IntWalk.wrap64_in _ (by omega)]
  by_cases hp:p+2≤s.size
  ·have hpi:(p:Int)+2≤s.size:=by omega
   go_wp2_with fail
   go_quiet (fail)
   go_wp2_with fail
   go_ret
   exact⟨by rw [←sig2 hp];simp,hr1.drewN _,hs1.drewN _⟩
  ·have hpi: ¬(p:Int)+2≤s.size:=by omega
   have hv:Hid (arrowM s p false=false):=hide (by simp [arrowM,pk,show ¬p+1<s.size by omega])
   have hd:decide ((p:Int)+2≤s.size)=false:=by simp;omega
   go_wp2_with fail
   go_quiet (fail)
   go_wp2_with fail
   go_ret
   exact⟨by rw [hv.out];simp,hr1.drewN _,hs1.drewN _⟩
def nameR (s:ByteArray)(a:Nat)(d:Bool):Nat×Bool×ByteArray:=
 let r:=run isLetter s d 8 a
 if r==a||isLetter (pk s r d) then(r,true,⟨#[]⟩) else(r,d,s.extract a r)
theorem nameR_bad {s:ByteArray}{a k:Nat}{d:Bool}(hr:run isLetter s d 8 a=k)(h:k=a∨isLetter (pk s k d)=true):nameR s a d=(k,true,⟨#[]⟩):=by
 unfold nameR
 simp only [hr]
 rw [if_pos]
 rcases h with rfl|h<;>simp [*]
theorem nameR_ok {s:ByteArray}{a k:Nat}{d:Bool}(hr:run isLetter s d 8 a=k)(h:k≠a)(h2:isLetter (pk s k d)=false):nameR s a d=(k,d,s.extract a k):=by
 unfold nameR
 simp only [hr]
 rw [if_neg]
 simp [*]
theorem nameR_any (b a:Nat)(s:ByteArray)(d:Bool)(w:World)(h:Rd w b s a d):
  Calls Tryz.prog 97 #[.pointer (some ⟨b,0,none⟩)] w fun e w'=>e= .returned (.string (nameR s a d).2.2)∧Rd w' b s (nameR s a d).1 (nameR s a d).2.1∧Sc b w w':=by
 have hle:=h.le
 have hsz:=h.sz
 obtain⟨h0,h1,h2,f1,f2,_,_⟩:=id h
 go_enter Tryz.func97,Tryz.ntmps97
 go_wp2_with fail
 go_loopw [] (fun wr=> ∃k,Rd wr b s k d∧Sc b w wr∧a≤k∧k≤a+8∧Hid (run isLetter s d (8 -(k - a)) k=run isLetter s d 8 a)) (fun wr=>s.size - atOf wr b)
 case atStart=>exact⟨a,h,Sc.refl _ _,Nat.le_refl _,by omega,by simp [Hid]⟩
 case round=>
  obtain⟨k,hk,hsc,hak,hk8,hsk⟩:=hrel
  have hat:=hide hk.atOf
  have hk':=hk
  clear h0 h1 h2 f1 f2
  obtain⟨h0,h1,h2,f1,f2,ha,hs⟩:=hk
  have hend:k - a<8→isLetter (pk s k d)=true∨Hid (run isLetter s d 8 a=k):=by
   intro h8
   cases hb:isLetter (pk s k d)
   ·exact .inr (hide (by rw [←hsk.out];exact run_stop hb))
   ·exact .inl rfl
  by_cases hgo:k - a<8∧isLetter (pk s k d)=true
  ·obtain⟨h8,hb⟩:=hgo
   have h8':(k:Int)- a<8:=by omega
   have hne:pk s k d≠ -1:=fun e=>by rw [e] at hb;exact absurd hb (by decide)
   have hlt:=(pk_lt hne).2
   have hset:=fun n=>(hk'.drewN n).setAt' (k+1) (k+1) (by omega) hlt
   have hst:Hid (run isLetter s d (8 -(k+1 - a)) (k+1)=run isLetter s d 8 a):=hide (by
    rw [←hsk.out,show 8 -(k - a)=(8 -(k+1 - a))+1 by omega,run_go hb])
   have hb2:isLetter (hereM s k d)=true:=(hereM_letter s k d).trans hb
   clear hne hend
   go_wp2_with (first|(go_at_call 96;refine(here_any b k s d _ (by first|exact hk'|exact hk'.drewN _)).mono ?_;rintro e w1 ⟨rfl,n,rfl⟩)|(go_at_call 141;refine(letter_any _ _ (hereM_range _ _ _)).mono ?_;rintro e w1 ⟨rfl,rfl⟩))
   have hset:=hset n
   go_roundw
   case rel=>exact⟨k+1,hset,(hsc.drewN n).setCell 1 (Or.inl rfl) _,by omega,by omega,hst⟩
   case measure=>rw [hset.atOf,hat.out];omega
  ·have hrun:Hid (run isLetter s d 8 a=k):=by
    by_cases h8:k - a<8
    ·exact(hend h8).resolve_left fun e=>hgo ⟨h8,e⟩
    ·exact hide (by rw [←hsk.out,show 8 -(k - a)=0 by omega];rfl)
   clear hend hsk hat hk8
   by_cases h8:k - a<8
   ·have h8':(k:Int)- a<8:=by omega
    have hb:isLetter (pk s k d)=false:=by cases hc:isLetter (pk s k d) with|false=>rfl|true=>exact absurd ⟨h8,hc⟩ hgo
    have hb2:isLetter (hereM s k d)=false:=(hereM_letter s k d).trans hb
    clear hgo
    by_cases hka:k=a
    ·have hfin:=hide (nameR_bad hrun.out (.inl hka))
     have hka':((k:Int)==a)=true:=by simp [hka]
     clear hka
     go_wp2_with (first|(go_at_call 96;refine(here_any b k s d _ (by first|exact hk'|exact hk'.drewN _)).mono ?_;rintro e w1 ⟨rfl,n,rfl⟩)|(go_at_call 141;refine(letter_any _ _ (hereM_range _ _ _)).mono ?_;rintro e w1 ⟨rfl,rfl⟩))
     go_ret
     exact⟨by rw [hfin.out];rfl,by rw [hfin.out];exact(hk'.drewN _).setBad true,(hsc.drewN _).setCell 2 (Or.inr rfl) _⟩
    ·have hfin:=hide (nameR_ok hrun.out hka hb)
     have hka':((k:Int)==a)=false:=by simp;omega
     clear hka
     go_wp2_with (first|(go_at_call 96;refine(here_any b k s d _ (by first|exact hk'|exact hk'.drewN _)).mono ?_;rintro e w1 ⟨rfl,n,rfl⟩)|(go_at_call 141;refine(letter_any _ _ (hereM_range _ _ _)).mono ?_;rintro e w1 ⟨rfl,rfl⟩))
     go_quiet (fail)
     go_wp2_with fail
     go_ret
     exact⟨by rw [hfin.out];simp,by rw [hfin.out];exact(hk'.drewN _).drewN _,(hsc.drewN _).drewN _⟩
   ·have h8': ¬(k:Int)- a<8:=by omega
    clear hgo
    have hka':((k:Int)==a)=false:=by simp;omega
    cases hb:isLetter (pk s k d)
    ·have hfin:=hide (nameR_ok hrun.out (by omega) hb)
     have hb2:isLetter (hereM s k d)=false:=(hereM_letter s k d).trans hb
     go_wp2_with (first|(go_at_call 96;refine(here_any b k s d _ (by first|exact hk'|exact hk'.drewN _)).mono ?_;rintro e w1 ⟨rfl,n,rfl⟩)|(go_at_call 141;refine(letter_any _ _ (hereM_range _ _ _)).mono ?_;rintro e w1 ⟨rfl,rfl⟩))
     go_quiet (fail)
     go_wp2_with fail
     go_ret
     exact⟨by rw [hfin.out];simp,by rw [hfin.out];exact(hk'.drewN _).drewN _,(hsc.drewN _).drewN _⟩
    ·have hfin:=hide (nameR_bad hrun.out (.inr hb))
     have hb2:isLetter (hereM s k d)=true:=(hereM_letter s k d).trans hb
     go_wp2_with (first|(go_at_call 96;refine(here_any b k s d _ (by first|exact hk'|exact hk'.drewN _)).mono ?_;rintro e w1 ⟨rfl,n,rfl⟩)|(go_at_call 141;refine(letter_any _ _ (hereM_range _ _ _)).mono ?_;rintro e w1 ⟨rfl,rfl⟩))
     go_ret
     exact⟨by rw [hfin.out];rfl,by rw [hfin.out];exact(hk'.drewN _).setBad true,(hsc.drewN _).setCell 2 (Or.inr rfl) _⟩
structure Rf (b:Nat)(w w':World):Prop where
 os:w'.os=w.os
 tape:w'.tape=w.tape
 output:w'.output=w.output
 size:w.heap.size≤w'.heap.size
 block: ∀k,k<w.heap.size→k≠b→w'.heap[k]?=w.heap[k]?
theorem Rf.refl (b:Nat)(w:World):Rf b w w:=⟨rfl,rfl,rfl,Nat.le_refl _,fun _ _ _=>rfl⟩
theorem Rf.trans {b:Nat}{u v w:World}(h:Rf b u v)(k:Rf b v w):Rf b u w:=
 ⟨k.os.trans h.os,k.tape.trans h.tape,k.output.trans h.output,Nat.le_trans h.size k.size,fun i hi hn=>(k.block i (Nat.lt_of_lt_of_le hi h.size) hn).trans (h.block i hi hn)⟩
theorem Rf.drewN {b:Nat}{u w:World}(h:Rf b u w)(n:Nat):Rf b u (w.drewN n):=⟨h.os,h.tape,h.output,h.size,h.block⟩
theorem Rf.alloc {b:Nat}{u w:World}(h:Rf b u w)(o:Obj):Rf b u (w.alloc o):=h.trans ⟨rfl,rfl,rfl,by simp,fun k hk _=>Below.heap_alloc _ _ _ hk⟩
theorem Sc.rf {b:Nat}{w w':World}(h:Sc b w w'):Rf b w w':=⟨h.os,h.tape,h.output,Nat.le_of_eq h.size.symm,fun k _ hn=>h.block k hn⟩
theorem Rf.setCell {b:Nat}{u w:World}(h:Rf b u w){a:Addr}(ha:u.heap.size≤a.block)(v:Value):Rf b u (w.setCell a v):=
 ⟨h.os,h.tape,h.output,by simpa [World.setCell] using h.size,fun k hk hn=>(Below.heap_setCell _ _ _ _ (by omega)).trans (h.block k hk hn)⟩
theorem Rf.grown {b:Nat}{u w w':World}{row:Option Nat}(h:Rf b u w)(hg:w.grownBy w' row)(hr: ∀k,row=some k→u.heap.size≤k):Rf b u w':=
 ⟨hg.os.trans h.os,hg.tape.trans h.tape,hg.output.trans h.output,Nat.le_trans h.size hg.size,fun k hk hn=>(hg.block k (Nat.lt_of_lt_of_le hk h.size) fun e=>by have:=hr k e.symm;omega).trans (h.block k hk hn)⟩
structure Node (b B:Nat)(w:World)(v:Value)(op tx:ByteArray)(at_:Int)(kids:List Value):Prop where
 ex: ∃g kv,v= .pointer (some ⟨g,0,none⟩)∧g≠b∧B≤g∧w.heap[g]?=some (.cells #[.string op,.string tx,.int .i64 at_,kv] 138)∧w.ownsRow B 89 1 kv kids.length kids∧kv.ownBlock≠some b
def SameFrom (b B:Nat)(w w':World):Prop:= ∀k,B≤k→k<w.heap.size→k≠b→w'.heap[k]?=w.heap[k]?
theorem Rf.same {b:Nat}{w w':World}(h:Rf b w w')(B:Nat):SameFrom b B w w':=fun k _ hk hn=>h.block k hk hn
theorem Node.keepS {b B:Nat}{w w':World}{v:Value}{op tx:ByteArray}{a:Int}{kids:List Value}(h:Node b B w v op tx a kids)(hr:SameFrom b B w w'):Node b B w' v op tx a kids:=by
 obtain⟨g,kv,h1,h2,h0,h3,h4,h5⟩:=h.ex
 refine⟨g,kv,h1,h2,h0,(hr g h0 (Array.getElem?_eq_some_iff.1 h3).1 h2).trans h3,ownsRow_same h4 fun k e=>hr k (h4.lt k e).1 (h4.lt k e).2 fun q=>h5 (q▸e),h5⟩
theorem ownsRow_low {w:World}{base base' e size n:Nat}{v:Value}{xs:List Value}(h:w.ownsRow base e size v n xs)(hb:base'≤base):w.ownsRow base' e size v n xs:=by
 refine⟨h.1,?_⟩
 rcases h.2 with hn|⟨g,cap,cur,hv,hg,r⟩
 ·exact .inl hn
 ·exact .inr ⟨g,cap,cur,hv,Nat.le_trans hb hg,r⟩
theorem Node.low {b B B':Nat}{w:World}{v:Value}{op tx:ByteArray}{a:Int}{kids:List Value}(h:Node b B w v op tx a kids)(hB:B'≤B):Node b B' w v op tx a kids:=by
 obtain⟨g,kv,h1,h2,h0,h3,h4,h5⟩:=h.ex
 exact⟨g,kv,h1,h2,Nat.le_trans hB h0,h3,ownsRow_low h4 hB,h5⟩
def sNum:ByteArray:=⟨#[110,117,109]⟩
def sStr:ByteArray:=⟨#[115,116,114]⟩
def sAttr:ByteArray:=⟨#[97,116,116,114]⟩
def sAt:ByteArray:=⟨#[97,116]⟩
def sName:ByteArray:=⟨#[110,97,109,101]⟩
def sOf:ByteArray:=⟨#[111,102]⟩
def sIf:ByteArray:=⟨#[105,102]⟩
def sAll:ByteArray:=⟨#[97,108,108]⟩
def sN:ByteArray:=⟨#[110]⟩
def sNot:ByteArray:=⟨#[33]⟩
def RefE (b B:Nat)(w:World)(E:List Ex):Nat→Value→Nat→Nat→Prop
 |0,_,_,_=>False
 |f+1,v,a,i=> ∃x,E[i]?=some x∧(
   (x.form=0∧a=i∧ ∃p,Node b B w v sNum x.text p [])∨
   (x.form=1∧a=i∧ ∃p,Node b B w v sStr x.text p [])∨
   (x.form=2∧a=i∧(x.text.data.toList=[116,114,117,101]∨x.text.data.toList=[102,97,108,115,101])∧ ∃p,Node b B w v x.text x.text p [])∨
   (x.form=3∧a=i∧ ∃p,Node b B w v sAttr x.text p [])∨
   (x.form=4∧a=i∧ ∃p,Node b B w v sAt x.text p [])∨
   (x.form=5∧ ∃(v1:Value) (j:Nat),i=j+1∧x.left=(j:Int)∧(x.text=⟨#[33]⟩∧Node b B w v sNot ⟨#[]⟩ x.place [v1]∨x.text=⟨#[45]⟩∧Node b B w v sN ⟨#[]⟩ x.place [v1])∧RefE b B w E f v1 a j)∨
   (x.form=6∧ ∃(v1 v2:Value) (j k:Nat),i=k+1∧x.left=(j:Int)∧x.right=(k:Int)∧Node b B w v x.text ⟨#[]⟩ x.place [v1,v2]∧RefE b B w E f v1 a j∧RefE b B w E f v2 (j+1) k))
theorem RefE.keepS {b B:Nat}{w w':World}{E:List Ex}(hr:SameFrom b B w w'): ∀{f:Nat} {v:Value} {a i:Nat},RefE b B w E f v a i→RefE b B w' E f v a i:=by
 intro f
 induction f with
 |zero=>intro v a i h;exact h
 |succ f ih=>
  intro v a i h
  obtain⟨x,hx,h⟩:=h
  refine⟨x,hx,?_⟩
  rcases h with⟨h1,h2,p,h3⟩|⟨h1,h2,p,h3⟩|⟨h1,h2,h4,p,h3⟩|⟨h1,h2,p,h3⟩|⟨h1,h2,p,h3⟩|⟨h1,v1,j,h2,h3,h4,h5⟩|⟨h1,v1,v2,j,k,h2,h3,h4,h5,h6,h7⟩
  ·exact .inl ⟨h1,h2,p,h3.keepS hr⟩
  ·exact .inr (.inl ⟨h1,h2,p,h3.keepS hr⟩)
  ·exact .inr (.inr (.inl ⟨h1,h2,h4,p,h3.keepS hr⟩))
  ·exact .inr (.inr (.inr (.inl ⟨h1,h2,p,h3.keepS hr⟩)))
  ·exact .inr (.inr (.inr (.inr (.inl ⟨h1,h2,p,h3.keepS hr⟩))))
  ·exact .inr (.inr (.inr (.inr (.inr (.inl ⟨h1,v1,j,h2,h3,h4.imp (fun q=>⟨q.1,q.2.keepS hr⟩) (fun q=>⟨q.1,q.2.keepS hr⟩),ih h5⟩)))))
  ·exact .inr (.inr (.inr (.inr (.inr (.inr ⟨h1,v1,v2,j,k,h2,h3,h4,h5.keepS hr,ih h6,ih h7⟩)))))
theorem RefE.low {b B B':Nat}{w:World}{E:List Ex}(hr:B'≤B): ∀{f:Nat} {v:Value} {a i:Nat},RefE b B w E f v a i→RefE b B' w E f v a i:=by
 intro f
 induction f with
 |zero=>intro v a i h;exact h
 |succ f ih=>
  intro v a i h
  obtain⟨x,hx,h⟩:=h
  refine⟨x,hx,?_⟩
  rcases h with⟨h1,h2,p,h3⟩|⟨h1,h2,p,h3⟩|⟨h1,h2,h4,p,h3⟩|⟨h1,h2,p,h3⟩|⟨h1,h2,p,h3⟩|⟨h1,v1,j,h2,h3,h4,h5⟩|⟨h1,v1,v2,j,k,h2,h3,h4,h5,h6,h7⟩
  ·exact .inl ⟨h1,h2,p,h3.low hr⟩
  ·exact .inr (.inl ⟨h1,h2,p,h3.low hr⟩)
  ·exact .inr (.inr (.inl ⟨h1,h2,h4,p,h3.low hr⟩))
  ·exact .inr (.inr (.inr (.inl ⟨h1,h2,p,h3.low hr⟩)))
  ·exact .inr (.inr (.inr (.inr (.inl ⟨h1,h2,p,h3.low hr⟩))))
  ·exact .inr (.inr (.inr (.inr (.inr (.inl ⟨h1,v1,j,h2,h3,h4.imp (fun q=>⟨q.1,q.2.low hr⟩) (fun q=>⟨q.1,q.2.low hr⟩),ih h5⟩)))))
  ·exact .inr (.inr (.inr (.inr (.inr (.inr ⟨h1,v1,v2,j,k,h2,h3,h4,h5.low hr,ih h6,ih h7⟩)))))
theorem RefE.keep {b B:Nat}{w w':World}{E:List Ex}(hr:Rf b w w'){f:Nat}{v:Value}{a i:Nat}(h:RefE b B w E f v a i):RefE b B w' E f v a i:=h.keepS (hr.same B)
theorem RefE.more {b B:Nat}{w:World}{E:List Ex}(F:List Ex): ∀{f:Nat} {v:Value} {a i:Nat},RefE b B w E f v a i→RefE b B w (E++F) f v a i:=by
 intro f
 induction f with
 |zero=>intro v a i h;exact h
 |succ f ih=>
  intro v a i h
  obtain⟨x,hx,h⟩:=h
  refine⟨x,by rw [List.getElem?_append_left (List.getElem?_eq_some_iff.1 hx).1];exact hx,?_⟩
  rcases h with h|h|h|h|h|⟨h1,v1,j,h2,h3,h4,h5⟩|⟨h1,v1,v2,j,k,h2,h3,h4,h5,h6,h7⟩
  ·exact .inl h
  ·exact .inr (.inl h)
  ·exact .inr (.inr (.inl h))
  ·exact .inr (.inr (.inr (.inl h)))
  ·exact .inr (.inr (.inr (.inr (.inl h))))
  ·exact .inr (.inr (.inr (.inr (.inr (.inl ⟨h1,v1,j,h2,h3,h4,ih h5⟩)))))
  ·exact .inr (.inr (.inr (.inr (.inr (.inr ⟨h1,v1,v2,j,k,h2,h3,h4,h5,ih h6,ih h7⟩)))))
theorem RefE.up {b B:Nat}{w:World}{E:List Ex}: ∀{f:Nat} {v:Value} {a i:Nat},RefE b B w E f v a i→RefE b B w E (f+1) v a i:=by
 intro f
 induction f with
 |zero=>intro v a i h;exact absurd h id
 |succ f ih=>
  intro v a i h
  obtain⟨x,hx,h⟩:=h
  refine⟨x,hx,?_⟩
  rcases h with h|h|h|h|h|⟨h1,v1,j,h2,h3,h4,h5⟩|⟨h1,v1,v2,j,k,h2,h3,h4,h5,h6,h7⟩
  ·exact .inl h
  ·exact .inr (.inl h)
  ·exact .inr (.inr (.inl h))
  ·exact .inr (.inr (.inr (.inl h)))
  ·exact .inr (.inr (.inr (.inr (.inl h))))
  ·exact .inr (.inr (.inr (.inr (.inr (.inl ⟨h1,v1,j,h2,h3,h4,ih h5⟩)))))
  ·exact .inr (.inr (.inr (.inr (.inr (.inr ⟨h1,v1,v2,j,k,h2,h3,h4,h5,ih h6,ih h7⟩)))))
theorem RefE.ups {b B:Nat}{w:World}{E:List Ex}{f:Nat}(g:Nat){v:Value}{a i:Nat}(h:RefE b B w E f v a i):RefE b B w E (f+g) v a i:=by
 induction g with
 |zero=>exact h
 |succ g ih=>exact ih.up
def levelsM (k:Nat):List ByteArray:=
 if k=0 then [⟨#[124,124]⟩] else if k=1 then [⟨#[38,38]⟩] else if k=3 then [⟨#[43]⟩,⟨#[45]⟩,⟨#[46]⟩] else if k=4 then [⟨#[42]⟩,⟨#[47]⟩,⟨#[37]⟩] else []
def firstOf (o:ByteArray):UInt8:=o.data.toList.headD 0
def nextL (s:ByteArray)(a:Nat)(d:Bool):List ByteArray→ByteArray
 |[]=>⟨#[]⟩
 |o::os=>if(pk s a d==((firstOf o).toNat:Int))&& !arrowM s a d then o else nextL s a d os
theorem levels_any (k:Nat)(hk:k=0∨k=1∨k=3∨k=4)(w:World):
  Calls Tryz.prog 140 #[.int .i64 k] w fun e w'=>e= .returned (.slice (some ⟨w.heap.size,0,none⟩) (levelsM k).length (levelsM k).length)∧w'=w.alloc (.cells ((levelsM k).map Value.string).toArray 9):=by
 rcases hk with rfl|rfl|rfl|rfl
 all_goals
  go_enter Tryz.func140,Tryz.ntmps140
  go_wp2_with fail
  go_ret
  exact⟨rfl,rfl⟩
theorem skip_idem (s:ByteArray)(a:Nat)(d:Bool)(h:a≤s.size):skip s (skip s a d) d=skip s a d:=by
 have key: ∀k a,a≤s.size→s.size - a=k→skip s (skip s a d) d=skip s a d:=by
  intro k
  induction k with
  |zero=>
   intro a h hk
   have e:skip s a d=a:=by have:=skip_le (s:=s) (a:=a) (d:=d) h;omega
   rw [e,e]
  |succ k ih=>
   intro a h hk
   by_cases hp:pk s a d=32
   ·have hl:=(pk_lt (s:=s) (a:=a) (d:=d) (by omega)).2
    rw [←skip_step hp]
    exact ih (a+1) hl (by omega)
   ·rw [skip_stop hp,skip_stop hp]
 exact key _ a h rfl
theorem levels_first (k:Nat)(hk:k=0∨k=1∨k=3∨k=4)(o:ByteArray)(h:o∈levelsM k):o.extract 0 1=⟨#[firstOf o]⟩∧1≤o.size∧o.size≤2:=by
 rcases hk with rfl|rfl|rfl|rfl
 ·have:o=⟨#[124,124]⟩:=by simpa [levelsM] using h
  subst this
  decide
 ·have:o=⟨#[38,38]⟩:=by simpa [levelsM] using h
  subst this
  decide
 ·have:o=⟨#[43]⟩∨o=⟨#[45]⟩∨o=⟨#[46]⟩:=by simpa [levelsM] using h
  rcases this with rfl|rfl|rfl<;>decide
 ·have:o=⟨#[42]⟩∨o=⟨#[47]⟩∨o=⟨#[37]⟩:=by simpa [levelsM] using h
  rcases this with rfl|rfl|rfl<;>decide
theorem nextL_step {s:ByteArray}{a:Nat}{d:Bool}{L:List ByteArray}{i:Nat}{o:ByteArray}(h:L[i]?=some o):nextL s a d (L.drop i)=if(pk s a d==((firstOf o).toNat:Int))&& !arrowM s a d then o else nextL s a d (L.drop (i+1)):=by
 obtain⟨hl,hx⟩:=List.getElem?_eq_some_iff.1 h
 rw [List.drop_eq_getElem_cons hl,hx]
 rfl
theorem next_any (k:Nat)(hk:k=0∨k=1∨k=3∨k=4)(b p:Nat)(s:ByteArray)(d:Bool)(w:World)(h:Rd w b s p d):
  Calls Tryz.prog 94 #[.pointer (some ⟨b,0,none⟩),.int .i64 k] w fun e w'=>e= .returned (.string (nextL s (skip s p d) d (levelsM k)))∧Rd w' b s (skip s p d) d∧Rf b w w':=by
 have hple:=h.le
 have hblt:=block_lt_of_cell h.c0
 have hlen:(levelsM k).length≤3∧1≤(levelsM k).length:=by rcases hk with rfl|rfl|rfl|rfl<;>decide
 obtain⟨hlen,hlen1⟩:=hlen
 have hmem:=levels_first k hk
 have HL:=hide (levels_any k hk w)
 have HM:=hide hmem
 clear hmem
 generalize levelsM k=L at*
 have hR0:Rd (w.alloc (.cells (L.map Value.string).toArray 9)) b s p d:=h.other (Below.heap_alloc _ _ _ hblt)
 have hF0:Rf b w (w.alloc (.cells (L.map Value.string).toArray 9)):=(Rf.refl b w).alloc _
 have hcells: ∀i o,L[i]?=some o→(w.alloc (.cells (L.map Value.string).toArray 9)).cell? ⟨w.heap.size,i,none⟩=some (.string o):=fun i o hi=>by
  rw [cell_of_row _ _ _ _ _ _ (heap_alloc_new w _)]
  simp [hi]
 have HC:=hide hcells
 clear hcells
 go_enter Tryz.func94,Tryz.ntmps94
 go_wp2_with fail
 refine HL.out.mono ?_
 rintro e w1 ⟨rfl,rfl⟩
 go_wp2_with fail
 go_loopg [6] (L.length+1) (fun k iv wr=> ∃(i q:Nat),k+i=L.length+1∧i≤L.length∧iv= .int .i64 i∧Rd wr b s q d∧Hid (skip s q d=skip s p d)∧(0<i→q=skip s p d)∧Rf b w wr∧Sc b (w.alloc (.cells (L.map Value.string).toArray 9)) wr∧Hid (nextL s (skip s p d) d (L.drop i)=nextL s (skip s p d) d L))
 case atStart=>exact⟨0,p,rfl,Nat.zero_le _,rfl,hR0,rfl,fun h=>absurd h (Nat.lt_irrefl _),hF0,Sc.refl _ _,rfl⟩
 case round=>
  obtain⟨i,q,hgk,hiL,rfl,hr,hq,hq0,hf,hsc,hn⟩:=hrel
  have HGK:=hide hgk
  have HQ0:=hide hq0
  clear hgk hq0
  by_cases hlt:i<L.length
  ·obtain⟨o,ho⟩: ∃o,L[i]?=some o:=⟨L[i],List.getElem?_eq_getElem hlt⟩
   obtain⟨he,ho1,ho2⟩:=HM.out o (List.mem_of_getElem? ho)
   have hc:wr.cell? ⟨w.heap.size,i,none⟩=some (.string o):=(World.cell?_of_block (w:=w.alloc (.cells (L.map Value.string).toArray 9)) (hsc.block w.heap.size (by omega))).trans (HC.out i o ho)
   have hlti:(i:Int)<L.length:=by omega
   have hst:=hide ((nextL_step (s:=s) (a:=skip s p d) (d:=d) ho).symm.trans hn.out)
   have hsi:=hide (skip_idem s p d hple)
   clear hn ho
   have HS1:Hid (Calls Tryz.prog 138 #[.pointer (some ⟨b,0,none⟩),.string ⟨#[firstOf o]⟩] wr fun e w'=>e= .returned (.bool (pk s (skip s p d) d==((firstOf o).toNat:Int)))∧Rd w' b s (skip s p d) d∧Sc b wr w'):=hide (by
    have h:=sign1_any b q s (firstOf o) d wr hr
    rw [hq.out] at h
    exact h)
   have HS2:Hid (∀w2,Rd w2 b s (skip s p d) d→Calls Tryz.prog 138 #[.pointer (some ⟨b,0,none⟩),.string ⟨#[45,62]⟩] w2 fun e w'=>e= .returned (.bool (arrowM s (skip s p d) d))∧Rd w' b s (skip s p d) d∧Sc b w2 w'):=hide (fun w2 h2=>by
    have h:=sign2_any b (skip s p d) s d w2 h2
    rw [hsi.out] at h
    exact h)
   have hst':=hst.out
   have HSI:=hsi
   clear hst hsi hq
   cases hA:(pk s (skip s p d) d==((firstOf o).toNat:Int))
   ·rw [hA,if_neg (by simp)] at hst'
    have hst2:=hide hst'
    clear hst'
    go_wp2_with fail
    refine HS1.out.mono ?_
    rintro e w2 ⟨rfl,hr2,hs2⟩
    have hc2:w2.cell? ⟨w.heap.size,i,none⟩=some (.string o):=(World.cell?_of_block (w:=wr) (hs2.block w.heap.size (by omega))).trans hc
    go_wp2_with fail
    refine(HS2.out _ hr2).mono ?_
    rintro e w3 ⟨rfl,hr3,hs3⟩
    have hc3:w3.cell? ⟨w.heap.size,i,none⟩=some (.string o):=(World.cell?_of_block (w:=w2) (hs3.block w.heap.size (by omega))).trans hc2
    have hf3:=hide (hf.trans (hs2.trans hs3).rf)
    have hsc3:=hide (hsc.trans (hs2.trans hs3))
    clear hc hc2 hs2 hs3 hr2 hf hsc hr
    go_wp2_with fail
    go_roundg (L.length - i)
    case measure=>have:=HGK.out;omega
    case rel=>exact⟨i+1,_,by have:=HGK.out;omega,by omega,by go_num,hr3,hide HSI.out,fun _=>rfl,hf3.out,hsc3.out,hst2⟩
   ·cases hB:arrowM s (skip s p d) d
    ·rw [hA,hB,if_pos (by simp)] at hst'
     have hst2:=hide hst'
     clear hst'
     go_wp2_with fail
     refine HS1.out.mono ?_
     rintro e w2 ⟨rfl,hr2,hs2⟩
     have hc2:w2.cell? ⟨w.heap.size,i,none⟩=some (.string o):=(World.cell?_of_block (w:=wr) (hs2.block w.heap.size (by omega))).trans hc
     go_wp2_with fail
     refine(HS2.out _ hr2).mono ?_
     rintro e w3 ⟨rfl,hr3,hs3⟩
     have hc3:w3.cell? ⟨w.heap.size,i,none⟩=some (.string o):=(World.cell?_of_block (w:=w2) (hs3.block w.heap.size (by omega))).trans hc2
     have hf3:=hide (hf.trans (hs2.trans hs3).rf)
     have hsc3:=hide (hsc.trans (hs2.trans hs3))
     clear hc hc2 hs2 hs3 hr2 hf hsc hr
     go_wp2_with fail
     go_ret
     exact⟨by rw [←hst2.out];simp,hr3,hf3.out⟩
    ·rw [hA,hB,if_neg (by simp)] at hst'
     have hst2:=hide hst'
     clear hst'
     go_wp2_with fail
     refine HS1.out.mono ?_
     rintro e w2 ⟨rfl,hr2,hs2⟩
     have hc2:w2.cell? ⟨w.heap.size,i,none⟩=some (.string o):=(World.cell?_of_block (w:=wr) (hs2.block w.heap.size (by omega))).trans hc
     go_wp2_with fail
     refine(HS2.out _ hr2).mono ?_
     rintro e w3 ⟨rfl,hr3,hs3⟩
     have hc3:w3.cell? ⟨w.heap.size,i,none⟩=some (.string o):=(World.cell?_of_block (w:=w2) (hs3.block w.heap.size (by omega))).trans hc2
     have hf3:=hide (hf.trans (hs2.trans hs3).rf)
     have hsc3:=hide (hsc.trans (hs2.trans hs3))
     clear hc hc2 hs2 hs3 hr2 hf hsc hr
     go_wp2_with fail
     go_roundg (L.length - i)
     case measure=>have:=HGK.out;omega
     case rel=>exact⟨i+1,_,by have:=HGK.out;omega,by omega,by go_num,hr3,hide HSI.out,fun _=>rfl,hf3.out,hsc3.out,hst2⟩
  ·have hz:Hid (nextL s (skip s p d) d L=⟨#[]⟩):=hide (by rw [←hn.out,List.drop_of_length_le (by omega)];rfl)
   have hlti: ¬(i:Int)<L.length:=by omega
   have hqe:=hide (HQ0.out (by omega))
   go_wp2_with fail
   go_ret
   exact⟨by rw [hz.out];simp,by rw [←hqe.out];exact hr,hf⟩
def ExtE (st st':St):Prop:=(∃F,st'.E=st.E++F)∧st'.A=st.A∧st'.L=st.L∧st'.C=st.C
theorem ExtE.refl (st:St):ExtE st st:=⟨⟨[],by simp⟩,rfl,rfl,rfl⟩
theorem ExtE.trans {a b c:St}(h:ExtE a b)(k:ExtE b c):ExtE a c:=by
 obtain⟨⟨F,h1⟩,h2,h3,h4⟩:=h
 obtain⟨⟨G,k1⟩,k2,k3,k4⟩:=k
 exact⟨⟨F++G,by rw [k1,h1,List.append_assoc]⟩,k2.trans h2,k3.trans h3,k4.trans h4⟩
theorem ExtE.put {st st':St}(p:Nat×Bool)(h:ExtE (st.put p) st'):ExtE st st':=h
theorem ExtE.put3 {st st':St}(p:Nat×Bool×ByteArray)(h:ExtE (st.put3 p) st'):ExtE st st':=h
theorem ExtE.sgn {s:ByteArray}{l:List UInt8}{st st':St}(h:ExtE (sgn s l st) st'):ExtE st st':=h
theorem addE_ext {st:St}{x:Ex}{r:Int×St}(h:addE st x=some r):ExtE st r.2:=by
 obtain⟨_,rfl⟩:=addE_some h
 exact⟨⟨[x],rfl⟩,rfl,rfl,rfl⟩
theorem M_ext (s:ByteArray): ∀n tag l st r,M s n tag l st=some r→ExtE st r.2:=by
 intro n
 induction n with
 |zero=>intro tag l st r h;simp [M] at h
 |succ n ih=>
  intro tag l st r h
  have two: ∀{t1 t2:Nat} {st0:St},((M s n t1 0 st0).bind fun r=>M s n t2 r.1 r.2)=some r→ExtE st0 r.2:=fun h=>by
   obtain⟨q,h1,h2⟩:=Option.bind_eq_some_iff.1 h
   exact(ih _ _ _ _ h1).trans (ih _ _ _ _ h2)
  have three: ∀{t1 t2:Nat} {st0:St} {x:Int×St→Ex},((M s n t1 0 st0).bind fun r=>(addE r.2 (x r)).bind fun q=>M s n t2 q.1 q.2)=some r→ExtE st0 r.2:=fun h=>by
   obtain⟨q,h1,h2⟩:=Option.bind_eq_some_iff.1 h
   obtain⟨q2,h3,h4⟩:=Option.bind_eq_some_iff.1 h2
   exact((ih _ _ _ _ h1).trans (addE_ext h3)).trans (ih _ _ _ _ h4)
  have one: ∀{t1:Nat} {st0:St} {x:Int×St→Ex},((M s n t1 0 st0).bind fun r=>addE r.2 (x r))=some r→ExtE st0 r.2:=fun h=>by
   obtain⟨q,h1,h2⟩:=Option.bind_eq_some_iff.1 h
   exact(ih _ _ _ _ h1).trans (addE_ext h2)
  match tag,h with
  |0,h=>rw [M_0] at h;exact two h
  |1,h=>rw [M_1] at h;exact two h
  |4,h=>rw [M_4] at h;exact two h
  |5,h=>rw [M_5] at h;exact two h
  |10,h=>
   rw [M_10] at h
   split at h
   ·exact(three h).sgn
   ·cases h;exact .refl _
  |11,h=>
   rw [M_11] at h
   split at h
   ·exact(three h).sgn
   ·cases h;exact .refl _
  |14,h=>
   rw [M_14] at h
   simp only at h
   split at h
   ·cases h;exact .refl _
   ·exact(three h).sgn
  |15,h=>
   rw [M_15] at h
   simp only at h
   split at h
   ·cases h;exact .refl _
   ·exact(three h).sgn
  |2,h=>
   rw [M_2] at h
   split at h
   ·exact ih _ _ _ _ h
   ·exact(one h).sgn
  |6,h=>
   rw [M_6] at h
   split at h
   ·exact ih _ _ _ _ h
   ·exact(one h).sgn
  |3,h=>
   rw [M_3] at h
   obtain⟨q,h1,h2⟩:=Option.bind_eq_some_iff.1 h
   simp only at h2
   split at h2
   ·have k:=ih _ _ _ _ h1;cases h2;exact k
   ·exact(ih _ _ _ _ h1).trans ((one h2).put3)
  |7,h=>
   rw [M_7] at h
   simp only at h
   split at h
   ·exact(addE_ext h).put3
   ·split at h
    ·exact(addE_ext h).put3
    ·split at h
     ·have k:=addE_ext h;exact k
     ·split at h
      ·obtain⟨q,h1,h2⟩:=Option.bind_eq_some_iff.1 h
       have k:=ih _ _ _ _ h1
       cases h2
       exact k
      ·split at h
       ·exact(addE_ext h).put3
       ·exact(addE_ext h).put3
  |8,h=>simp [M] at h
  |9,h=>simp [M] at h
  |12,h=>simp [M] at h
  |13,h=>simp [M] at h
  |t+16,h=>simp [M] at h
theorem wordM_bad (s:ByteArray)(c:UInt8)(cs:List UInt8)(a:Nat):wordM s true (c::cs) a=(a,true):=wordM_cons_no (by simp [pk])
theorem signM_bad (s:ByteArray)(c:UInt8)(cs:List UInt8)(a:Nat):signM s true (c::cs) a=(a,true):=by
 unfold signM
 rw [wordM_bad]
 simp [skip_bad]
def Stay (st st':St):Prop:=st'.bad=true∧st'.at_=st.at_
theorem nameM_badst (s:ByteArray)(a:Nat):nameM s a true=(a,true,⟨#[]⟩):=tokM_bad (run_stop (by simp [pk];decide)) (.inl rfl)
theorem sgn_bad {s:ByteArray}{c:UInt8}{cs:List UInt8}{st:St}(h:st.bad=true):(sgn s (c::cs) st).bad=true∧(sgn s (c::cs) st).at_=st.at_:=by
 unfold sgn St.put
 rw [h,signM_bad]
 exact⟨rfl,rfl⟩
theorem wrd_bad {s:ByteArray}{c:UInt8}{cs:List UInt8}{st:St}(h:st.bad=true):(wrd s (c::cs) st).bad=true∧(wrd s (c::cs) st).at_=st.at_:=by
 unfold wrd St.put
 rw [h,wordM_bad]
 exact⟨rfl,rfl⟩
theorem pkS_bad {s:ByteArray}{st:St}(h:st.bad=true):pkS s st= -1:=by simp [pkS,pk,h]
theorem addE_at {st:St}{x:Ex}{r:Int×St}(h:addE st x=some r):r.2.bad=st.bad∧r.2.at_=st.at_:=by
 obtain⟨_,rfl⟩:=addE_some h
 exact⟨rfl,rfl⟩
theorem addL_at {st:St}{x:Lc}{r:Int×St}(h:addL st x=some r):r.2.bad=st.bad∧r.2.at_=st.at_:=by
 obtain⟨_,rfl⟩:=addL_some h
 exact⟨rfl,rfl⟩
theorem M_bad (s:ByteArray): ∀n tag l st r,M s n tag l st=some r→st.bad=true→Stay st r.2:=by
 intro n
 induction n with
 |zero=>intro tag l st r h;simp [M] at h
 |succ n ih=>
  intro tag l st r h hb
  have hpk:=pkS_bad (s:=s) hb
  have two: ∀{t1 t2:Nat},((M s n t1 0 st).bind fun r=>M s n t2 r.1 r.2)=some r→Stay st r.2:=fun h=>by
   obtain⟨q,h1,h2⟩:=Option.bind_eq_some_iff.1 h
   have k1:=ih _ _ _ _ h1 hb
   have k2:=ih _ _ _ _ h2 k1.1
   exact⟨k2.1,k2.2.trans k1.2⟩
  match tag,h with
  |0,h=>rw [M_0] at h;exact two h
  |1,h=>rw [M_1] at h;exact two h
  |4,h=>rw [M_4] at h;exact two h
  |5,h=>rw [M_5] at h;exact two h
  |10,h=>
   rw [M_10,if_neg (by rw [hpk];decide)] at h
   cases h;exact⟨hb,rfl⟩
  |11,h=>
   rw [M_11,if_neg (by rw [hpk];decide)] at h
   cases h;exact⟨hb,rfl⟩
  |14,h=>
   rw [M_14] at h
   simp only at h
   rw [if_pos (by simp [sumSignM,arrowM,pk,hb];decide)] at h
   cases h;exact⟨hb,rfl⟩
  |15,h=>
   rw [M_15] at h
   simp only at h
   rw [if_pos (by simp [productSignM,pk,hb];decide)] at h
   cases h;exact⟨hb,rfl⟩
  |2,h=>
   rw [M_2,if_pos (by rw [hpk];decide)] at h
   exact ih _ _ _ _ h hb
  |6,h=>
   rw [M_6,if_pos (by rw [hpk];decide)] at h
   exact ih _ _ _ _ h hb
  |3,h=>
   rw [M_3] at h
   obtain⟨q,h1,h2⟩:=Option.bind_eq_some_iff.1 h
   have k1:=ih _ _ _ _ h1 hb
   simp only at h2
   have hc:comparingM s q.2.at_ q.2.bad=(q.2.at_,true,⟨#[]⟩):=by simp [comparingM,pk,k1.1]
   rw [hc,if_pos (show(((q.snd.at_,true,(⟨#[]⟩:ByteArray)).snd.snd.size==0)=true) from rfl)] at h2
   cases h2
   exact⟨rfl,k1.2⟩
  |7,h=>
   rw [M_7] at h
   simp only at h
   rw [if_neg (by rw [hpk];decide),if_neg (by rw [hpk];decide),if_neg (by rw [hpk];decide),if_neg (by rw [hpk];decide)] at h
   rw [hb,nameM_badst,if_neg (by simp)] at h
   have:=addE_at h
   exact⟨this.1,this.2⟩
  |8,h=>simp [M] at h
  |9,h=>simp [M] at h
  |12,h=>simp [M] at h
  |13,h=>simp [M] at h
  |t+16,h=>simp [M] at h
def RPost (b:Nat)(s:ByteArray)(st st':St)(r:Int)(w:World)(e:Ending)(w':World):Prop:= ∃(ao:Option Addr) (p':Nat),e= .returned (.pointer ao)∧Rd w' b s p' st'.bad∧Rf b w w'∧skip s p' st'.bad=st'.at_∧
 (st'.bad=false→ ∃(f i:Nat),r=(i:Int)∧i+1=st'.E.length∧RefE b w.heap.size w' st'.E f (.pointer ao) st.E.length i)
def OKR (s:ByteArray)(k tag n:Nat):Prop:= ∀(b:Nat) (st:St) (w:World) (p:Nat) (r:Int) (st':St),M s n tag 0 st=some (r,st')→Rd w b s p st.bad→skip s p st.bad=st.at_→
 Calls Tryz.prog 51 #[.pointer (some ⟨b,0,none⟩),.int .i64 k] w fun e w'=>RPost b s st st' r w e w'
def OKRf (s:ByteArray)(f tag n:Nat):Prop:= ∀(b:Nat) (st:St) (w:World) (p:Nat) (r:Int) (st':St),M s n tag 0 st=some (r,st')→Rd w b s p st.bad→skip s p st.bad=st.at_→
 Calls Tryz.prog f #[.pointer (some ⟨b,0,none⟩)] w fun e w'=>RPost b s st st' r w e w'
theorem nextL_bad (s:ByteArray)(a:Nat): ∀L:List ByteArray,nextL s a true L=⟨#[]⟩:=by
 intro L
 induction L with
 |nil=>rfl
 |cons o os ih=>
  unfold nextL
  rw [if_neg (by simp [pk]),ih]
theorem nextL_mem (s:ByteArray)(a:Nat)(d:Bool): ∀L:List ByteArray,nextL s a d L=⟨#[]⟩∨nextL s a d L∈L:=by
 intro L
 induction L with
 |nil=>exact .inl rfl
 |cons o os ih=>
  unfold nextL
  split
  ·exact .inr (List.mem_cons_self ..)
  ·rcases ih with h|h
   ·exact .inl h
   ·exact .inr (List.mem_cons_of_mem _ h)
theorem nextL_size (s:ByteArray)(a:Nat)(d:Bool)(k:Nat)(hk:k=0∨k=1∨k=3∨k=4):(nextL s a d (levelsM k)).size≤600:=by
 rcases nextL_mem s a d (levelsM k) with h|h
 ·rw [h];decide
 ·have:=levels_first k hk _ h;omega
theorem node_new {W:World}{b:Nat}(hb:b<W.heap.size)(kids:List Value)(op tx:ByteArray)(a:Int)(hm:kids.length≤2):
  Node b W.heap.size ((W.alloc (.cells kids.toArray 89)).alloc (.cells #[.string op,.string tx,.int .i64 a,.slice (some ⟨W.heap.size,0,none⟩) kids.length kids.length] 138)) (.pointer (some ⟨W.heap.size+1,0,none⟩)) op tx a kids:=by
 have h1:=heap_alloc_new (W.alloc (.cells kids.toArray 89)) (.cells #[.string op,.string tx,.int .i64 a,.slice (some ⟨W.heap.size,0,none⟩) kids.length kids.length] 138)
 simp only [World.alloc,Array.size_push] at h1
 refine⟨W.heap.size+1,_,rfl,by omega,by omega,h1,⟨by simp,.inr ⟨W.heap.size,kids.length,kids.toArray,rfl,Nat.le_refl _,?_,Nat.le_refl _,?_,by simp,by simp⟩⟩,?_⟩
 ·exact(Below.heap_alloc _ _ _ (by simp)).trans (heap_alloc_new W _)
 ·unfold maxLen;omega
 ·simp [Value.ownBlock];omega
theorem kids_lit {W:World}{a c:Value}:(W.alloc (.cells #[a,c] 89)).ownsRow 0 89 1 (.slice (some ⟨W.heap.size,0,none⟩) 2 2) 2 [a,c]:=
 ⟨rfl,.inr ⟨W.heap.size,2,#[a,c],rfl,Nat.zero_le _,heap_alloc_new W _,Nat.le_refl _,by decide,rfl,rfl⟩⟩
theorem exprR_step (s:ByteArray)(k tag loop ctag n:Nat)(hk:k=0∨k=1∨k=3∨k=4)
  (hT: ∀n st,M s (n+1) tag 0 st=(M s n ctag 0 st).bind fun r=>M s n loop r.1 r.2)
  (hL: ∀n l st,M s (n+1) loop l st=if(nextL s st.at_ st.bad (levelsM k)).size==0 then some (l,st) else(M s n ctag 0 (sgn s (nextL s st.at_ st.bad (levelsM k)).data.toList st)).bind fun r=>(addE r.2 ⟨6,st.at_,nextL s st.at_ st.bad (levelsM k),l,r.1⟩).bind fun q=>M s n loop q.1 q.2)
  (ih: ∀m,m≤n→OKR s (k+1) ctag m):OKR s k tag (n+1):=by
 intro b st w p r st' hM hR hp
 rw [hT] at hM
 obtain⟨⟨l1,st1⟩,h1,h2⟩:=Option.bind_eq_some_iff.1 hM
 have IH:=hide ih
 have H1:=hide h1
 have H2:=hide h2
 have HL:=hide hL
 have HX1:=hide (M_ext s _ _ _ _ _ h1)
 clear hM h1 h2 ih hT hL
 have k2:((k:Int)==2)=false:=by rw [beq_eq_false_iff_ne];omega
 have k5:((k:Int)==5)=false:=by rw [beq_eq_false_iff_ne];omega
 have k4:k≤4:=by omega
 go_enter Tryz.func51,Tryz.ntmps51
 go_wp2_with fail
 have hcast:((k:Int)+1)=((k+1:Nat):Int):=by omega
 rw [hcast]
 refine(IH.out n (Nat.le_refl _) b st w p l1 st1 H1.out hR hp).mono ?_
 rintro e w1 ⟨ao1,p1,rfl,hR1,hF1,hp1,ht1⟩
 clear hcast
 go_wp2_with fail
 go_loopg [5] n (fun g tv wr=>g≤n∧ ∃(ao:Option Addr) (q:Nat) (lv:Int) (sv:St),tv= .pointer ao∧Hid (M s g loop lv sv=some (r,st'))∧Rd wr b s q sv.bad∧Hid (skip s q sv.bad=sv.at_)∧Rf b w wr∧Hid (ExtE st sv)∧Hid (sv.bad=false→ ∃(f i:Nat),lv=(i:Int)∧i+1=sv.E.length∧RefE b w.heap.size wr sv.E f (.pointer ao) st.E.length i))
 case atStart=>exact⟨Nat.le_refl _,ao1,p1,l1,st1,rfl,H2,hR1,hp1,hF1,HX1,ht1⟩
 case round=>
  obtain⟨hgn,ao,q,lv,sv,rfl,hm,hRq,hq,hF,hX,ht⟩:=hrel
  cases gk with
  |zero=>exact absurd hm.out (by simp [M])
  |succ g=>
   have hm':=hm.out
   rw [HL.out] at hm'
   clear hm
   obtain⟨c0,c1,c2,f1,f2,hle,hsz⟩:=id hRq
   obtain⟨bd,HBD⟩: ∃bd,Hid (sv.bad=bd):=⟨_,rfl⟩
   rw [HBD.out] at c2
   cases bd with
   |true=>
    rw [HBD.out,nextL_bad,if_pos (by decide)] at hm'
    simp at hm'
    obtain⟨rfl,rfl⟩:=hm'
    go_wp2_with fail
    go_ret
    exact⟨ao,q,rfl,hRq,hF,hq.out,ht.out⟩
   |false=>
    have hnx:=next_any k hk b q s sv.bad wr hRq
    rw [hq.out] at hnx
    have hnsz:(nextL s sv.at_ sv.bad (levelsM k)).size≤600:=nextL_size s _ _ k hk
    generalize nextL s sv.at_ sv.bad (levelsM k)=op at*
    have HNX:=hide hnx
    clear hnx
    cases hc:(op.size==0)
    ·rw [hc,if_neg (by decide)] at hm'
     have hc2:=isEmpty_no hc
     obtain⟨⟨r2,st2⟩,h2,h3⟩:=Option.bind_eq_some_iff.1 hm'
     obtain⟨⟨r3,st3⟩,h4,h5⟩:=Option.bind_eq_some_iff.1 h3
     obtain⟨hl,h6⟩:=addE_some h4
     cases h6
     have HH:=hide (And.intro h2 h5)
     have HX2:=hide (M_ext s _ _ _ _ _ h2)
     clear hm' h2 h3 h4 h5
     go_wp2_with fail
     refine HNX.out.mono ?_
     rintro e w2 ⟨rfl,hR2,hF2⟩
     obtain⟨d0,d1,d2,g1,g2,_,_⟩:=id hR2
     go_wp2_with fail
     refine(eat_any b sv.at_ s op sv.bad _ hR2 hnsz).mono ?_
     rintro e w3 ⟨rfl,hR3,hs3⟩
     go_wp2_with fail
     have hcast:((k:Int)+1)=((k+1:Nat):Int):=by omega
     rw [hcast]
     refine(IH.out g (by omega) b _ _ _ r2 st2 HH.out.1 hR3 rfl).mono ?_
     rintro e w4 ⟨ao4,p4,rfl,hR4,hF4,hp4,ht4⟩
     clear hcast
     have hF24:=(hF2.trans hs3.rf).trans hF4
     have hbl:b<w4.heap.size:=block_lt_of_cell hR4.c0
     have HP4:=hide hp4
     have HT4:=hide ht4
     clear hp4 ht4
     go_wp2_with fail
     go_roundg g
     case measure=>omega
     case rel=>
      refine⟨by omega,_,p4,_,_,rfl,HH.out.2,?_,HP4,?_,hide (hX.out.trans ?_),hide fun hb=> ?_⟩
      ·exact hR4.other ((Below.heap_alloc _ _ _ (by simp;omega)).trans (Below.heap_alloc _ _ _ hbl))
      ·exact((hF.trans hF24).alloc _).alloc _
      ·exact HX2.out.trans ⟨⟨[_],rfl⟩,rfl,rfl,rfl⟩
      ·obtain⟨f4,i4,e4,l4,t4⟩:=HT4.out hb
       obtain⟨f0,i0,e0,l0,t0⟩:=ht.out HBD.out
       obtain⟨⟨F,hFE⟩,_,_,_⟩:=HX2.out
       have hFE:st2.E=sv.E++F:=hFE
       have hnode:=node_new hbl [.pointer ao,.pointer ao4] op ⟨#[]⟩ sv.at_ (by simp)
       refine⟨f0+f4+1,st2.E.length,rfl,by simp,⟨6,sv.at_,op,lv,r2⟩,by simp,?_⟩
       refine .inr (.inr (.inr (.inr (.inr (.inr ⟨rfl,.pointer ao,.pointer ao4,i0,i4,l4.symm,e0,e4,hnode.low (Nat.le_trans hF.size hF24.size),?_,?_⟩)))))
       ·have q1:=((t0.keep hF24).more F).ups f4
        rw [←hFE] at q1
        exact((q1.keep (((Rf.refl b w4).alloc _).alloc _)).more _)
       ·have q2:=t4.ups f0
        rw [Nat.add_comm f0 f4,l0]
        exact(((q2.low (Nat.le_trans hF.size (hF2.trans hs3.rf).size)).keep (((Rf.refl b w4).alloc _).alloc _)).more _)
    ·rw [hc,if_pos rfl] at hm'
     have hc2:=isEmpty_yes hc
     simp at hm'
     obtain⟨rfl,rfl⟩:=hm'
     go_wp2_with (go_at_call 94;refine HNX.out.mono ?_;rintro e w2 ⟨rfl,hR2,hF2⟩)
     go_ret
     refine⟨ao,sv.at_,rfl,hR2,hF.trans hF2,?_,fun hb=> ?_⟩
     ·have hi:=skip_idem s q sv.bad hle
      rw [hq.out] at hi
      exact hi
     ·obtain⟨f,i,h1,h2,h3⟩:=ht.out hb
      exact⟨f,i,h1,h2,h3.keep hF2⟩
theorem info89:(Tryz.prog.info? 89).map (fun i=>(i.zero,i.size,i.bytes))=some (some (.pointer none),1,8):=by kernel_rfl
theorem node_set {W:World}{b B g:Nat}{op tx:ByteArray}{a:Int}{kv0 kv:Value}{kids:List Value}(hg:W.heap[g]?=some (.cells #[.string op,.string tx,.int .i64 a,kv0] 138))(hb:g≠b)(hB:B≤g)
  (how:W.ownsRow B 89 1 kv kids.length kids) (h1:kv.ownBlock≠some b) (h2:kv.ownBlock≠some g):Node b B (W.setCell ⟨g,3,none⟩ kv) (.pointer (some ⟨g,0,none⟩)) op tx a kids:=by
 refine⟨g,kv,rfl,hb,hB,?_,ownsRow_same how fun k e=>Below.heap_setCell _ _ _ _ fun q=>h2 (e.trans (congrArg some q)),h1⟩
 simp [World.setCell,Array.getElem?_modify,hg]
theorem next0 (s:ByteArray)(a:Nat)(d:Bool):nextL s a d (levelsM 0)=if pk s a d==124 then⟨#[124,124]⟩ else⟨#[]⟩:=by
 unfold levelsM nextL nextL arrowM
 cases h:(pk s a d==124)
 ·simp [firstOf] at h ⊢;intro h2;exact absurd h2 h
 ·have:pk s a d=124:=by simpa using h
  simp [firstOf,this]
theorem next1 (s:ByteArray)(a:Nat)(d:Bool):nextL s a d (levelsM 1)=if pk s a d==38 then⟨#[38,38]⟩ else⟨#[]⟩:=by
 unfold levelsM nextL nextL arrowM
 cases h:(pk s a d==38)
 ·simp [firstOf] at h ⊢;intro h2;exact absurd h2 h
 ·have:pk s a d=38:=by simpa using h
  simp [firstOf,this]
theorem next3 (s:ByteArray)(a:Nat)(d:Bool):nextL s a d (levelsM 3)=sumSignM s a d:=by
 unfold levelsM sumSignM
 simp only [show ¬(3:Nat)=0 by omega,show ¬(3:Nat)=1 by omega,if_false,if_true]
 unfold nextL nextL nextL nextL
 cases arrowM s a d<;>simp [firstOf]
theorem next4 (s:ByteArray)(a:Nat)(d:Bool):nextL s a d (levelsM 4)=productSignM s a d:=by
 unfold levelsM productSignM
 simp only [show ¬(4:Nat)=0 by omega,show ¬(4:Nat)=1 by omega,show ¬(4:Nat)=3 by omega,if_false,if_true]
 unfold nextL nextL nextL nextL arrowM
 by_cases h1:pk s a d=42
 ·simp [firstOf,h1]
 ·by_cases h2:pk s a d=47
  ·simp [firstOf,h2]
  ·by_cases h3:pk s a d=37
   ·simp [firstOf,h3]
   ·simp [firstOf,h1,h2,h3]
theorem lev0 (s:ByteArray)(n:Nat)(ih: ∀m,m≤n→OKR s 1 1 m):OKR s 0 0 (n+1):=
 exprR_step s 0 0 10 1 n (.inl rfl) (fun n st=>M_0 s n 0 st) (fun n l st=>by
  rw [M_10,next0]
  unfold pkS
  cases pk s st.at_ st.bad==124<;>rfl) ih
theorem lev1 (s:ByteArray)(n:Nat)(ih: ∀m,m≤n→OKR s 2 2 m):OKR s 1 1 (n+1):=
 exprR_step s 1 1 11 2 n (.inr (.inl rfl)) (fun n st=>M_1 s n 0 st) (fun n l st=>by
  rw [M_11,next1]
  unfold pkS
  cases pk s st.at_ st.bad==38<;>rfl) ih
theorem lev3 (s:ByteArray)(n:Nat)(ih: ∀m,m≤n→OKR s 4 5 m):OKR s 3 4 (n+1):=
 exprR_step s 3 4 14 5 n (.inr (.inr (.inl rfl))) (fun n st=>M_4 s n 0 st) (fun n l st=>by rw [M_14,next3]) ih
theorem lev4 (s:ByteArray)(n:Nat)(ih: ∀m,m≤n→OKR s 5 6 m):OKR s 4 5 (n+1):=
 exprR_step s 4 5 15 6 n (.inr (.inr (.inr rfl))) (fun n st=>M_5 s n 0 st) (fun n l st=>by rw [M_15,next4]) ih
theorem lev2 (s:ByteArray)(n:Nat)(ih:OKRf s 92 2 n):OKR s 2 2 n:=by
 intro b st w p r st' hM hR hp
 have H:=hide (ih b st w p r st' hM hR hp)
 clear hM ih
 go_enter Tryz.func51,Tryz.ntmps51
 go_wp2_with fail
 refine H.out.mono ?_
 rintro e w1 ⟨ao1,p1,rfl,hR1,hF1,hp1,ht1⟩
 go_wp2_with fail
 go_ret
 exact⟨ao1,p1,rfl,hR1,hF1,hp1,ht1⟩
theorem lev5 (s:ByteArray)(n:Nat)(ih:OKRf s 93 6 n):OKR s 5 6 n:=by
 intro b st w p r st' hM hR hp
 have H:=hide (ih b st w p r st' hM hR hp)
 clear hM ih
 go_enter Tryz.func51,Tryz.ntmps51
 go_wp2_with fail
 refine H.out.mono ?_
 rintro e w1 ⟨ao1,p1,rfl,hR1,hF1,hp1,ht1⟩
 go_wp2_with fail
 go_ret
 exact⟨ao1,p1,rfl,hR1,hF1,hp1,ht1⟩
theorem box4' {w:World}{g:Nat}{a b c d:Value}{t:TypeId}(h:w.heap[g]?=some (.cells #[a,b,c,d] t)):
  w.cell? ⟨g,0,none⟩=some a∧w.cell? ⟨g,1,none⟩=some b∧w.cell? ⟨g,2,none⟩=some c∧w.cell? ⟨g,3,none⟩=some d∧(∀o,w.frozen? ⟨g,o,none⟩=false):=by
 simp [World.cell?,World.frozen?,h]
theorem prefix_fin {b:Nat}{w w1 w4 w5:World}{s:ByteArray}{st st2:St}{p4:Nat}{op tx:ByteArray}{r2:Int}{ao4:Option Addr}{gb cap:Nat}
  (hop:tx=⟨#[33]⟩∧op=sNot∨tx=⟨#[45]⟩∧op=sN)
  (hF1:Rf b w w1) (hb1:b<w1.heap.size) (hF4:Rf b (w1.alloc (.cells #[.string op,.string ⟨#[]⟩,.int .i64 st.at_,.slice none 0 0] 138)) w4) (hR4:Rd w4 b s p4 st2.bad) (hp4:skip s p4 st2.bad=st2.at_)
  (ht4:st2.bad=false→ ∃(f i:Nat),r2=(i:Int)∧i+1=st2.E.length∧RefE b (w1.heap.size+1) w4 st2.E f (.pointer ao4) st.E.length i)
  (hown:w5.ownsRow (w1.heap.size+1) 89 1 (.slice (some ⟨gb,0,none⟩) 1 cap) 1 [.pointer ao4]) (hgrow:(w4.alloc (.cells #[.pointer ao4] 89)).grownBy w5 none) (hat:gb=w4.heap.size+1):
  RPost b s st {st2 with E:=st2.E++[⟨5,st.at_,tx,r2,-1⟩]} st2.E.length w (.returned (.pointer (some ⟨w1.heap.size,0,none⟩))) (w5.setCell ⟨w1.heap.size,3,none⟩ (.slice (some ⟨gb,0,none⟩) 1 cap)):=by
 have hs4:=hF4.size
 simp only [World.alloc,Array.size_push] at hs4
 have hgr:Rf b w4 w5:=((Rf.refl b w4).alloc _).grown hgrow (fun k e=>by cases e)
 have hg4:w4.heap[w1.heap.size]?=some (.cells #[.string op,.string ⟨#[]⟩,.int .i64 st.at_,.slice none 0 0] 138):=(hF4.block w1.heap.size (by simp) (by omega)).trans (heap_alloc_new w1 _)
 have hb4:w5.heap[b]?=w4.heap[b]?:=by
  rw [hgrow.block b (by simp;omega) (by simp)]
  exact Below.heap_alloc _ _ _ (by omega)
 have hg5:w5.heap[w1.heap.size]?=some (.cells #[.string op,.string ⟨#[]⟩,.int .i64 st.at_,.slice none 0 0] 138):=(hgr.block _ (by omega) (by omega)).trans hg4
 have hnode:Node b w.heap.size (w5.setCell ⟨w1.heap.size,3,none⟩ (.slice (some ⟨gb,0,none⟩) 1 cap)) (.pointer (some ⟨w1.heap.size,0,none⟩)) op ⟨#[]⟩ st.at_ [.pointer ao4]:=
  node_set hg5 (by omega) hF1.size (ownsRow_low hown (by have:=hF1.size;omega)) (by simp [Value.ownBlock];omega) (by simp [Value.ownBlock];omega)
 have hF:Rf b w (w5.setCell ⟨w1.heap.size,3,none⟩ (.slice (some ⟨gb,0,none⟩) 1 cap)):=by
  have h1:=((hF1.alloc (.cells #[.string op,.string ⟨#[]⟩,.int .i64 st.at_,.slice none 0 0] 138)).trans hF4).trans hgr
  exact h1.setCell (a:=⟨w1.heap.size,3,none⟩) hF1.size _
 refine⟨_,p4,rfl,(hR4.other hb4).other (Below.heap_setCell _ _ _ _ (by simp;omega)),hF,hp4,fun hb=> ?_⟩
 obtain⟨f,i,h1,h2,h3⟩:=ht4 hb
 refine⟨f+1,st2.E.length,rfl,by simp,⟨5,st.at_,tx,r2,-1⟩,by simp,?_⟩
 have hsm:SameFrom b (w1.heap.size+1) w4 (w5.setCell ⟨w1.heap.size,3,none⟩ (.slice (some ⟨gb,0,none⟩) 1 cap)):=fun k hk1 hk2 hk3=>(Below.heap_setCell _ _ _ _ (by simp;omega)).trans (hgr.block k hk2 hk3)
 have hE:RefE b w.heap.size (w5.setCell ⟨w1.heap.size,3,none⟩ (.slice (some ⟨gb,0,none⟩) 1 cap)) (st2.E++[⟨5,st.at_,tx,r2,-1⟩]) f (.pointer ao4) st.E.length i:=((h3.keepS hsm).low (by have:=hF1.size;omega)).more _
 refine .inr (.inr (.inr (.inr (.inr (.inl ⟨rfl,.pointer ao4,i,h2.symm,h1,?_,hE⟩)))))
 rcases hop with⟨e1,e2⟩|⟨e1,e2⟩
 ·exact .inl ⟨e1,e2▸hnode⟩
 ·exact .inr ⟨e1,e2▸hnode⟩
theorem un_step (s:ByteArray)(n:Nat)(ihs:OKRf s 93 6 n)(ihn:OKRf s 139 7 n):OKRf s 93 6 (n+1):=by
 intro b st w p r st' hM hR hp
 rw [M_6] at hM
 have hs1:=sign1_any b p s 45 st.bad w hR
 rw [hp] at hs1
 have HS1:=hide hs1
 have hple:=hR.le
 have hidem:Hid (skip s st.at_ st.bad=st.at_):=hide (by have h:=skip_idem s p st.bad hple;rw [hp] at h;exact h)
 clear hs1 hp hR
 cases hc:(pkS s st !=45)
 ·rw [hc,if_neg (by decide)] at hM
  have hc2:(pk s st.at_ st.bad==((45:UInt8).toNat:Int))=true:=by simpa [pkS] using hc
  obtain⟨⟨r2,st2⟩,h2,h3⟩:=Option.bind_eq_some_iff.1 hM
  obtain⟨hl,h6⟩:=addE_some h3
  cases h6
  have HH:=hide h2
  clear hM h2 h3
  obtain⟨i0,hi,hz0,hz1,hz2⟩:=info_parts info89
  go_enter Tryz.func93,Tryz.ntmps93
  go_wp2_with fail
  refine HS1.out.mono ?_
  rintro e w1 ⟨rfl,hR1,hsc1⟩
  rw [hc2]
  obtain⟨c0,c1,c2,f1,f2,_,_⟩:=id hR1
  have hbl:b<w1.heap.size:=block_lt_of_cell hR1.c0
  have hRa:Rd (w1.alloc (.cells #[.string ⟨#[110]⟩,.string ⟨#[]⟩,.int .i64 st.at_,.slice none 0 0] 138)) b s st.at_ st.bad:=hR1.other (Below.heap_alloc _ _ _ hbl)
  go_wp2_with fail
  refine(eat_any b st.at_ s _ st.bad _ hRa (by decide)).mono ?_
  rintro e w3 ⟨rfl,hR3,hs3⟩
  have hz3:w3.heap.size=w1.heap.size+1:=by have:=hs3.size;simpa using this
  go_wp2_with fail
  refine(ihs b (sgn s [45] st) _ _ r2 st2 HH.out hR3 rfl).mono ?_
  rintro e w4 ⟨ao4,p4,rfl,hR4,hF4,hp4,ht4⟩
  rw [hz3] at ht4
  have hF34:=hs3.rf.trans hF4
  have hg4:w4.heap[w1.heap.size]?=some (.cells #[.string ⟨#[110]⟩,.string ⟨#[]⟩,.int .i64 st.at_,.slice none 0 0] 138):=(hF34.block w1.heap.size (by simp) (by omega)).trans (heap_alloc_new w1 _)
  obtain⟨d0,d1,d2,d3,df⟩:=box4' hg4
  have hz4:=hF34.size
  simp at hz4
  have HX:=hide (And.intro hsc1.rf (And.intro hF34 (And.intro hR4 (And.intro hp4 ht4))))
  clear hp4 ht4 hF4 hs3 hR3 hRa hF34 hsc1 hR4
  go_wp2_with (at_builtin;go_must (refine wpList_append_lies _ rfl (.tmp 23) (.tmp 25) 136 rfl (w1.heap.size+1) 89 i0 _ 1 8 Tryz.underlying136 hi hz0 hz1 hz2 rfl (by omega) (.slice none 0 0) 0 [] rfl (World.ownsRow_nil _ _ _ _) ⟨w4.heap.size,0,none⟩ 1 1 [.pointer ao4] rfl rfl ?news ?one (by omega) ?mm ?bys ?base (w4.heap.size+1) (by simp) ?rest))
  case news=>exact World.news_of_block (heap_alloc_new w4 _)
  case one=>intro u hu;simp at hu;subst hu;rfl
  case mm=>unfold maxLen;omega
  case bys=>omega
  case base=>simp;omega
  case rest=>
   intro gb cap w5 hown hgrow hat hlt2
   have hat:gb=w4.heap.size+1:=by
    rcases hat with q|q
    ·simp [Value.ownBlock] at q
    ·exact q
   have hgrow:(w4.alloc (.cells #[.pointer ao4] 89)).grownBy w5 none:=hgrow
   have hfin:=prefix_fin (tx:=⟨#[45]⟩) (op:=sN) (st:=st) (.inr ⟨rfl,rfl⟩) HX.out.1 hbl HX.out.2.1 HX.out.2.2.1 HX.out.2.2.2.1 HX.out.2.2.2.2 hown hgrow hat
   have HF:=hide hfin
   have hcell5:w5.cell? ⟨w1.heap.size,3,none⟩=some (.slice none 0 0)∧w5.frozen? ⟨w1.heap.size,3,none⟩=false:=by
    have e1:w5.heap[w1.heap.size]?=w4.heap[w1.heap.size]?:=(hgrow.block _ (by simp;omega) (by simp)).trans (Below.heap_alloc _ _ _ (by omega))
    exact⟨(World.cell?_of_block (w:=w4) e1).trans d3,(World.frozen?_of_block (w:=w4) e1).trans (df 3)⟩
   obtain⟨z1,z2⟩:=hcell5
   clear hfin hgrow hown hat d0 d1 d2 d3 df
   go_wp2_with fail
   go_ret
   exact HF.out
 ·rw [hc,if_pos rfl] at hM
  have hc2:(pk s st.at_ st.bad==((45:UInt8).toNat:Int))=false:=by simpa [pkS] using hc
  have HM:=hide hM
  clear hM
  go_enter Tryz.func93,Tryz.ntmps93
  go_wp2_with fail
  refine HS1.out.mono ?_
  rintro e w1 ⟨rfl,hR1,hsc1⟩
  rw [hc2]
  go_wp2_with fail
  refine(ihn b st _ _ r st' HM.out hR1 hidem.out).mono ?_
  rintro e w4 ⟨ao4,p4,rfl,hR4,hF4,hp4,ht4⟩
  rw [hsc1.size] at ht4
  go_wp2_with fail
  go_ret
  exact⟨ao4,p4,rfl,hR4,hsc1.rf.trans hF4,hp4,ht4⟩
theorem pair_fin {b g B:Nat}{w w1 w6 w7:World}{s:ByteArray}{st st1 st2:St}{p6:Nat}{op:ByteArray}{at_ l1 r2:Int}{ao1 ao2:Option Addr}{gb cap:Nat}
  (hF1:Rf b w w1) (ht1:st1.bad=false→ ∃(f i:Nat),l1=(i:Int)∧i+1=st1.E.length∧RefE b w.heap.size w1 st1.E f (.pointer ao1) st.E.length i)
  (hF16:Rf b w1 w6) (hg1:w1.heap.size≤g) (hgb:g≠b) (hg6:w6.heap[g]?=some (.cells #[.string op,.string ⟨#[]⟩,.int .i64 at_,.slice none 0 0] 138)) (hb6:b<w6.heap.size)
  (hR6:Rd w6 b s p6 st2.bad) (hp6:skip s p6 st2.bad=st2.at_) (hbad:st2.bad=false→st1.bad=false) (hext:ExtE st1 st2)
  (ht6:st2.bad=false→ ∃(f i:Nat),r2=(i:Int)∧i+1=st2.E.length∧RefE b B w6 st2.E f (.pointer ao2) st1.E.length i) (hgB:g<B)
  (hown:w7.ownsRow (w1.heap.size) 89 1 (.slice (some ⟨gb,0,none⟩) 2 cap) 2 [.pointer ao1,.pointer ao2]) (hgrow:(w6.alloc (.cells #[.pointer ao1,.pointer ao2] 89)).grownBy w7 none) (hat:gb=w6.heap.size+1):
  RPost b s st {st2 with E:=st2.E++[⟨6,at_,op,l1,r2⟩]} st2.E.length w (.returned (.pointer (some ⟨g,0,none⟩))) (w7.setCell ⟨g,3,none⟩ (.slice (some ⟨gb,0,none⟩) 2 cap)):=by
 have hgl:g<w6.heap.size:=(Array.getElem?_eq_some_iff.1 hg6).1
 have hgr:Rf b w6 w7:=((Rf.refl b w6).alloc _).grown hgrow (fun k e=>by cases e)
 have hb7:w7.heap[b]?=w6.heap[b]?:=by
  rw [hgrow.block b (by simp;omega) (by simp)]
  exact Below.heap_alloc _ _ _ (by omega)
 have hg7:=(hgr.block g hgl hgb).trans hg6
 have hnode:Node b w.heap.size (w7.setCell ⟨g,3,none⟩ (.slice (some ⟨gb,0,none⟩) 2 cap)) (.pointer (some ⟨g,0,none⟩)) op ⟨#[]⟩ at_ [.pointer ao1,.pointer ao2]:=
  node_set hg7 hgb (Nat.le_trans hF1.size hg1) (ownsRow_low hown hF1.size) (by simp [Value.ownBlock];omega) (by simp [Value.ownBlock];omega)
 have hF17:Rf b w1 (w7.setCell ⟨g,3,none⟩ (.slice (some ⟨gb,0,none⟩) 2 cap)):=(hF16.trans hgr).setCell (a:=⟨g,3,none⟩) hg1 _
 refine⟨_,p6,rfl,(hR6.other hb7).other (Below.heap_setCell _ _ _ _ (by simp;omega)),hF1.trans hF17,hp6,fun hb=> ?_⟩
 obtain⟨f2,i2,e2,l2,t2⟩:=ht6 hb
 obtain⟨f1,i1,e1,k1,t1⟩:=ht1 (hbad hb)
 obtain⟨⟨F,hFE⟩,_,_,_⟩:=hext
 have hsm:SameFrom b B w6 (w7.setCell ⟨g,3,none⟩ (.slice (some ⟨gb,0,none⟩) 2 cap)):=fun k hk1 hk2 hk3=>(Below.heap_setCell _ _ _ _ (by simp;omega)).trans (hgr.block k hk2 hk3)
 refine⟨f1+f2+1,st2.E.length,rfl,by simp,⟨6,at_,op,l1,r2⟩,by simp,?_⟩
 refine .inr (.inr (.inr (.inr (.inr (.inr ⟨rfl,.pointer ao1,.pointer ao2,i1,i2,l2.symm,e1,e2,hnode,?_,?_⟩)))))
 ·have q1:=((t1.keep hF17).more F).ups f2
  rw [←hFE] at q1
  exact q1.more _
 ·have q2:=((t2.keepS hsm).low (Nat.le_trans hF1.size (Nat.le_trans hg1 (Nat.le_of_lt hgB)))).ups f1
  rw [Nat.add_comm f1 f2,k1]
  exact q2.more _
theorem comparingM_eq {s:ByteArray}{a:Nat}(h:a<s.size)(hc:(pk s a false==61)=true∨(pk s a false==33)=true∨(pk s a false==60)=true∨(pk s a false==62)=true):
  comparingM s a false=if(pk s a false==61||pk s a false==33||pk s (a+1) false==61) then(skip s (wordM s false [61] (a+1)).1 (wordM s false [61] (a+1)).2,(wordM s false [61] (a+1)).2,⟨#[s[a],61]⟩) else(skip s (a+1) false,false,⟨#[s[a]]⟩):=by
 have hpk:pk s a false=(s[a].toNat:Int):=by simp [pk,h]
 have hb: ∀c:UInt8,(pk s a false==(c.toNat:Int))=true→s[a]=c:=fun c hc=>by
  rw [hpk,←u8_beq] at hc
  simpa using hc
 have hword: ∀(c:UInt8) (cs:List UInt8),(pk s a false==(c.toNat:Int))=true→wordM s false (c::cs) a=wordM s false cs (a+1):=fun c cs hc=>wordM_cons_yes (by simpa using hc)
 unfold comparingM orderingM signM
 rcases hc with h1|h1|h1|h1
 ·rw [h1,hword 61 [61] h1,hb 61 h1]
  simp
 ·have e:pk s a false=33:=by simpa using h1
  have n1:(pk s a false==61)=false:=by simp [e]
  rw [n1,h1,hword 33 [61] h1,hb 33 h1]
  simp
 ·have e:pk s a false=60:=by simpa using h1
  have n1:(pk s a false==61)=false:=by simp [e]
  have n2:(pk s a false==33)=false:=by simp [e]
  rw [n1,n2,h1,hb 60 h1]
  simp only [Bool.false_eq_true,if_false,if_true,Bool.or_false,Bool.false_or]
  rw [show wordM s false (⟨#[60]⟩:ByteArray).data.toList a=(a+1,false) from hword 60 [] h1]
  cases h2:(pk s (a+1) false==61)
  ·simp only [bne,h2,Bool.not_false,if_true];simp
  ·simp only [bne,h2,Bool.not_true];simp
 ·have e:pk s a false=62:=by simpa using h1
  have n1:(pk s a false==61)=false:=by simp [e]
  have n2:(pk s a false==33)=false:=by simp [e]
  have n3:(pk s a false==60)=false:=by simp [e]
  rw [n1,n2,n3,h1,hb 62 h1]
  simp only [Bool.false_eq_true,if_false,if_true,Bool.or_false,Bool.false_or]
  rw [show wordM s false (⟨#[62]⟩:ByteArray).data.toList a=(a+1,false) from hword 62 [] h1]
  cases h2:(pk s (a+1) false==61)
  ·simp only [bne,h2,Bool.not_false,if_true];simp
  ·simp only [bne,h2,Bool.not_true];simp
theorem comparingM_none {s:ByteArray}{a:Nat}{d:Bool}(h1:(pk s a d==61)=false)(h2:(pk s a d==33)=false)(h3:(pk s a d==60)=false)(h4:(pk s a d==62)=false):comparingM s a d=(a,d,⟨#[]⟩):=by
 unfold comparingM
 rw [h1,h2,h3,h4]
 simp
end Go.Proofs.YtkoohcilbpdgeaaGreatDoor
