import Derived.Test.YtkoohcilbpdgeaaGreatDoorCards
import Derived.Test.YtkoohcilbpdgeaaGreatDoorTie
import Derived.Stop.LaidErr
import Derived.Test.YtkoohcilbpdgeaaGreatDoorC10
set_option linter.all false
set_option linter.unusedVariables false
set_option linter.unusedSimpArgs false
set_option linter.unnecessarySimpa false
set_option linter.constructorNameAsVariable false
set_option linter.deprecated false
set_option maxRecDepth 100000
set_option maxHeartbeats 6400000
namespace Go.Proofs.YtkoohcilbpdgeaaGreatDoor
open Go Go.ChangeShapes Go.WideShapes Go.ChangeAt Go.RowKit Go.Deep
theorem zcD {W:World}(h:laidMetH Tryz.prog Rows.moreRow.laid W):Tab W:=by
 have h1:laidMet Tryz.prog Rows.moreRow.laid W:=h
 have h2:=h1.tail.tail
 exact Lib.tabIs_of_head (g:=0) (t:=195) (e:=186) (n:=20) (by kernel_rfl) (by kernel_rfl) (by kernel_rfl) (by kernel_rfl) (by kernel_rfl) (by kernel_rfl) h2
theorem z3K {H:Type}{P:Program}{e:TypeId}: ∀{l:List (DataW H)} {d:DataW H} {n:Nat},d∈l→n∈d.weights P e→n∈DataW.weightsAll P e l:=by
 intro l
 induction l with
 |nil=>intro d n h;cases h
 |cons x l ih=>
  intro d n h hn
  unfold DataW.weightsAll
  rcases List.mem_cons.1 h with rfl|h
  ·exact List.mem_append.2 (.inl hn)
  ·exact List.mem_append.2 (.inr (ih h hn))
theorem z8K {H:Type}{enc:TypeId×Value→H}{w:World}{base:Nat}{spare:Nat→Bool}{held:Bool}{n:Nat}{cs:List Value}{x:DataW H×List MemPlace}(h:DataW.trod enc Tryz.prog w base spare held n 27 cs=some x){s:zej}(hs:cs[2]?=some (.string s)):s.size∈x.1.weights Tryz.prog 27:=by
 obtain⟨xs,j,_,hx,hlen,hxl,hf⟩:=DataW.trod_struct Tryz.underlying27 h
 rw [z4F] at hlen
 match cs,hlen,hs with
 |[c0,c1,c2,c3,c4,c5],_,hs=>
  match xs,hxl,hx,hf with
  |[y0,y1,y2,y3,y4,y5],_,hx,hf=>
   have g2:=hf 2 _ rfl
   simp [zaD] at g2
   obtain⟨s',e2,e3,_⟩:=DataW.trod_string Tryz.underlying9 g2
   simp at e2 hs
   rw [e2] at hs
   injection hs with hs
   subst hs
   rw [hx,e3]
   show s'.size∈DataW.weights Tryz.prog 27 (.agg _)
   unfold DataW.weights
   rw [Tryz.underlying27]
   refine DataW.weights_mem_each (j:=2) (t:=9) (d:= .lit (.string s'.data.toList)) rfl rfl _ ?_
   have e:s'.size=s'.data.toList.length:=by rw [Array.length_toList];rfl
   rw [e]
   simp [DataW.weights]
theorem z5z {H:Type}{enc:TypeId×Value→H}{W:World}{b off len cap:Nat}{d:DataW H}{p:List MemPlace}{K N:Nat→Int}{S A V Q:Nat→zej}(h:DataW.Trod enc Tryz.prog W 0 (fun _=>true) true 22 (.slice (some ⟨b,off,none⟩) len cap) d p)(hwt:(d.weights Tryz.prog 22).all (·≤reachBytes)=true)(ho:Ops W b off len K N S A V Q): ∀i,i<len→(S i).size≤reachBytes:=by
 obtain⟨fuel,hf⟩:=h
 rcases open_slice Tryz.underlying22 hf with⟨hcs,hx⟩|⟨a,len',cap',m,n,D,Pl,hcs,_,hl,hm,hmm,hx,hel⟩
 ·simp [Value.cells] at hcs
 ·simp [Value.cells] at hcs
  obtain⟨rfl,rfl,rfl⟩:=hcs
  simp only [if_true] at hmm
  subst hmm
  intro i hi
  obtain⟨cs',h1,h2⟩:=hel i (by omega)
  rw [z4F] at h1
  obtain⟨hl6,_,hcell⟩:=World.cells?_some h1
  have hc2:=hcell 2 (by omega)
  rw [Go.Deep.add_add] at hc2
  have hadd:(⟨b,off,none⟩:Addr).add (i*6+2)=⟨b,off+i*6+2,none⟩:=by unfold Addr.add;simp<;>omega
  rw [hadd,ho.c2 i hi] at hc2
  have hw:=z8K h2 hc2.symm
  have hd:d= .slice ((List.range len).map D) _:=congrArg Prod.fst hx
  have hin:(S i).size∈d.weights Tryz.prog 22:=by
   rw [hd]
   unfold DataW.weights
   rw [Tryz.underlying22]
   exact List.mem_cons_of_mem _ (List.mem_append.2 (.inl (z3K (List.mem_map.2 ⟨i,List.mem_range.2 hi,rfl⟩) hw)))
  simpa using List.all_eq_true.1 hwt _ hin
theorem z5t (a:Option Addr)(cap:Nat)(w:World)(ht:Tab w):Calls Tryz.prog 9 #[.slice a 0 cap] w fun e w'=>e= .returned (.bool true)∧Below w.heap.size w w':=by
 have HT:=z8 ht
 clear ht
 go_enter Tryz.func9,Tryz.ntmps9
 go_wp2_with fail
 refine(z5u _ HT.out).mono ?_
 rintro e w1 ⟨rfl,hB1⟩
 have HB1:=z8 (hB1.alloc hB1.size (.cells #[.int .i64 0,.int .i64 0,.string ⟨#[]⟩,.string ⟨#[]⟩,.string ⟨#[]⟩,.string ⟨#[]⟩] 27))
 clear hB1
 go_wp2_with fail
 go_loopg [5,6] 1 (fun g iv _ wr=>iv= .int .i64 0∧Below w.heap.size w wr)
 case atStart=>exact⟨rfl,HB1.out⟩
 case round=>
  obtain⟨rfl,hB⟩:=hrel
  have HB:=z8 hB
  clear hB
  go_wp2_with fail
  go_ret
  exact⟨rfl,HB.out⟩
theorem z65 {H:Type}{enc:TypeId×Value→H}{W:World}{base:Nat}{v:Value}{d:DataW H}{p:List MemPlace}(hval:Value.okWide Tryz.prog W .any base 22 v)(h:DataW.Trod enc Tryz.prog W 0 (fun _=>true) true 22 v d p)(hlt: ∀x∈p,x.block<W.heap.size)(ht:Tab W)(hwt:(d.weights Tryz.prog 22).all (·≤reachBytes)=true):
  Calls Tryz.prog 9 #[v] W fun e w'=>e= .returned (.bool true)∧Below W.heap.size W w':=by
 rcases z6i hval h hlt with rfl|⟨b,off,len,cap,K,N,S,A,V,Q,rfl,hl,ho,hs⟩|⟨a,cap,rfl⟩
 ·exact z5t none 0 W ht
 ·have hsm:=z5z h hwt ho
  refine z81 b off len cap K N S A V Q W ho hl ht fun i hi=> ?_
  obtain⟨q1,q2,q3,q4⟩:=hs i hi
  exact⟨zeg (hsm i hi) (by decide),q2,q3,q4⟩
 ·exact z5t _ cap W ht
theorem z4v (H:Type)(enc:TypeId×Value→H)(W:World)(base:Nat)(args:Array Value)(ds gs:List (DataW H))(before:List MemPlace)
  (hval: ∀(j:Nat) t v,Tryz.f9.params[j]?=some t→args[j]?=some v→Value.okWide Tryz.prog W .any base t v)
  (hW:DataW.Whole enc Tryz.prog Tryz.f9.params.toList Rows.moreSpec.vars false W args.toList ds gs before) (hT:Tab W) (hz:(DataW.weightsEach Tryz.prog (Tryz.f9.params.toList++(OpenSpec.ofChange Rows.moreSpec).bare.plain.varTypes Tryz.prog) (ds++gs)).all (·≤reachBytes)=true):
  Calls Tryz.prog 9 args W fun e W'=> ∃v,e= .returned v∧Rows.moreSpec.post enc Tryz.prog Tryz.f9 false true false false W args v W':=by
 have hW':=hW
 obtain⟨p,q,hA0,hV,rfl,_,_⟩:=hW
 have hA:DataW.TrodAll enc Tryz.prog W 0 (fun _=>true) true Tryz.f9.params.toList args.toList ds p:=hA0
 rw [Tryz.params9] at hA hval
 obtain⟨v0,d0,rfl,rfl,h0⟩:=trodAll_one hA
 obtain⟨rfl,rfl⟩:=trodVars_none hV
 clear hA0
 simp only [List.append_nil] at hW'
 have hlt: ∀x∈p,x.block<W.heap.size:=fun x hx=>by simpa using hW'.lt x hx
 have hwt:(d0.weights Tryz.prog 22).all (·≤reachBytes)=true:=List.all_eq_true.2 fun n hn=>List.all_eq_true.1 hz n (DataW.weights_mem_each (j:=0) (t:=22) (d:=d0) (by rw [Tryz.params9];rfl) rfl n hn)
 have hcall:=z65 (hval 0 22 v0 rfl rfl) h0 hlt hT hwt
 refine hcall.mono fun e W' ⟨he,hb⟩=> ?_
 subst he
 exact⟨_,rfl,⟨_,_,_,[],_,[],hW',trodAll_mk1 (shut_bool Tryz.underlying4 true),trodAll_mk1 (Below.trod zb3 (by kernel_rfl) (of_decide_eq_true (by kernel_rfl)) h0 hb hlt),rfl,hb.frame _,fun h=>by cases h⟩⟩
theorem z48 (os:Os):laidMet Tryz.prog Rows.moreRow.laid (({World.holding Tryz.prog os ⟨#[],#[],[]⟩ with heap:=(((World.holding Tryz.prog os ⟨#[],#[],[]⟩).heap.modify 0 (z22 #[.int .u64 1,.int .u64 10,.int .u64 100,.int .u64 1000,.int .u64 10000,.int .u64 100000,.int .u64 1000000,.int .u64 10000000,.int .u64 100000000,.int .u64 1000000000,.int .u64 10000000000,.int .u64 100000000000,.int .u64 1000000000000,.int .u64 10000000000000,.int .u64 100000000000000,.int .u64 1000000000000000,.int .u64 10000000000000000,.int .u64 100000000000000000,.int .u64 1000000000000000000,.int .u64 10000000000000000000])).modify 1 (z22 #[.int .u8 0,.int .u8 1,.int .u8 28,.int .u8 2,.int .u8 29,.int .u8 14,.int .u8 24,.int .u8 3,.int .u8 30,.int .u8 22,.int .u8 20,.int .u8 15,.int .u8 25,.int .u8 17,.int .u8 4,.int .u8 8,.int .u8 31,.int .u8 27,.int .u8 13,.int .u8 23,.int .u8 21,.int .u8 19,.int .u8 16,.int .u8 7,.int .u8 26,.int .u8 12,.int .u8 18,.int .u8 6,.int .u8 11,.int .u8 5,.int .u8 10,.int .u8 9])).modify 2 (z22 #[.int .u8 0,.int .u8 1,.int .u8 56,.int .u8 2,.int .u8 57,.int .u8 49,.int .u8 28,.int .u8 3,.int .u8 61,.int .u8 58,.int .u8 42,.int .u8 50,.int .u8 38,.int .u8 29,.int .u8 17,.int .u8 4,.int .u8 62,.int .u8 47,.int .u8 59,.int .u8 36,.int .u8 45,.int .u8 43,.int .u8 51,.int .u8 22,.int .u8 53,.int .u8 39,.int .u8 33,.int .u8 30,.int .u8 24,.int .u8 18,.int .u8 12,.int .u8 5,.int .u8 63,.int .u8 55,.int .u8 48,.int .u8 27,.int .u8 60,.int .u8 41,.int .u8 37,.int .u8 16,.int .u8 46,.int .u8 35,.int .u8 44,.int .u8 21,.int .u8 52,.int .u8 32,.int .u8 23,.int .u8 11,.int .u8 54,.int .u8 26,.int .u8 40,.int .u8 15,.int .u8 34,.int .u8 20,.int .u8 31,.int .u8 10,.int .u8 25,.int .u8 14,.int .u8 19,.int .u8 9,.int .u8 13,.int .u8 8,.int .u8 7,.int .u8 6])}:World).forCall (fun _ _=>0) ⟨#[],#[.slice none 0 0],[]⟩).memory:=
 laidMet_of_run' 8 (by kernel_rfl) (by kernel_rfl)
theorem z7F (os:Os){H:Type}(enc:TypeId×Value→H): ∃places,DataW.whole enc Tryz.prog (({World.holding Tryz.prog os ⟨#[],#[],[]⟩ with heap:=(((World.holding Tryz.prog os ⟨#[],#[],[]⟩).heap.modify 0 (z22 #[.int .u64 1,.int .u64 10,.int .u64 100,.int .u64 1000,.int .u64 10000,.int .u64 100000,.int .u64 1000000,.int .u64 10000000,.int .u64 100000000,.int .u64 1000000000,.int .u64 10000000000,.int .u64 100000000000,.int .u64 1000000000000,.int .u64 10000000000000,.int .u64 100000000000000,.int .u64 1000000000000000,.int .u64 10000000000000000,.int .u64 100000000000000000,.int .u64 1000000000000000000,.int .u64 10000000000000000000])).modify 1 (z22 #[.int .u8 0,.int .u8 1,.int .u8 28,.int .u8 2,.int .u8 29,.int .u8 14,.int .u8 24,.int .u8 3,.int .u8 30,.int .u8 22,.int .u8 20,.int .u8 15,.int .u8 25,.int .u8 17,.int .u8 4,.int .u8 8,.int .u8 31,.int .u8 27,.int .u8 13,.int .u8 23,.int .u8 21,.int .u8 19,.int .u8 16,.int .u8 7,.int .u8 26,.int .u8 12,.int .u8 18,.int .u8 6,.int .u8 11,.int .u8 5,.int .u8 10,.int .u8 9])).modify 2 (z22 #[.int .u8 0,.int .u8 1,.int .u8 56,.int .u8 2,.int .u8 57,.int .u8 49,.int .u8 28,.int .u8 3,.int .u8 61,.int .u8 58,.int .u8 42,.int .u8 50,.int .u8 38,.int .u8 29,.int .u8 17,.int .u8 4,.int .u8 62,.int .u8 47,.int .u8 59,.int .u8 36,.int .u8 45,.int .u8 43,.int .u8 51,.int .u8 22,.int .u8 53,.int .u8 39,.int .u8 33,.int .u8 30,.int .u8 24,.int .u8 18,.int .u8 12,.int .u8 5,.int .u8 63,.int .u8 55,.int .u8 48,.int .u8 27,.int .u8 60,.int .u8 41,.int .u8 37,.int .u8 16,.int .u8 46,.int .u8 35,.int .u8 44,.int .u8 21,.int .u8 52,.int .u8 32,.int .u8 23,.int .u8 11,.int .u8 54,.int .u8 26,.int .u8 40,.int .u8 15,.int .u8 34,.int .u8 20,.int .u8 31,.int .u8 10,.int .u8 25,.int .u8 14,.int .u8 19,.int .u8 9,.int .u8 13,.int .u8 8,.int .u8 7,.int .u8 6])}:World).forCall (fun _ _=>0) ⟨#[],#[.slice none 0 0],[]⟩).memory Tryz.f9.params.toList Rows.moreSpec.vars false #[Value.slice none 0 0].toList 8=some ([.nil],[],places):=
 ⟨[],by kernel_rfl⟩
theorem z6r (os:Os)(started:os.Started)(H:Type)(enc:TypeId×Value→H)(F:Stop.Interp):
  ReturnsInHanded {} Tryz.checked os 9 .any ((OpenSpec.ofChange Rows.moreSpec).preRow enc Tryz.prog Tryz.f9 Rows.moreRow.domain false Rows.moreRow.laid) (((OpenSpec.ofChange Rows.moreSpec).at F).post enc Tryz.prog Tryz.f9 false true false false):=by
 obtain⟨places,hx⟩:=z7F os enc
 refine returnsInHanded_of_row (C:=Tryz.checked) (s:=OpenSpec.ofChange Rows.moreSpec) own started (by kernel_rfl) Tryz.func9
  (witness_row_at (enc:=enc) (C:=Tryz.checked) false ({World.holding Tryz.prog os ⟨#[],#[],[]⟩ with heap:=(((World.holding Tryz.prog os ⟨#[],#[],[]⟩).heap.modify 0 (z22 #[.int .u64 1,.int .u64 10,.int .u64 100,.int .u64 1000,.int .u64 10000,.int .u64 100000,.int .u64 1000000,.int .u64 10000000,.int .u64 100000000,.int .u64 1000000000,.int .u64 10000000000,.int .u64 100000000000,.int .u64 1000000000000,.int .u64 10000000000000,.int .u64 100000000000000,.int .u64 1000000000000000,.int .u64 10000000000000000,.int .u64 100000000000000000,.int .u64 1000000000000000000,.int .u64 10000000000000000000])).modify 1 (z22 #[.int .u8 0,.int .u8 1,.int .u8 28,.int .u8 2,.int .u8 29,.int .u8 14,.int .u8 24,.int .u8 3,.int .u8 30,.int .u8 22,.int .u8 20,.int .u8 15,.int .u8 25,.int .u8 17,.int .u8 4,.int .u8 8,.int .u8 31,.int .u8 27,.int .u8 13,.int .u8 23,.int .u8 21,.int .u8 19,.int .u8 16,.int .u8 7,.int .u8 26,.int .u8 12,.int .u8 18,.int .u8 6,.int .u8 11,.int .u8 5,.int .u8 10,.int .u8 9])).modify 2 (z22 #[.int .u8 0,.int .u8 1,.int .u8 56,.int .u8 2,.int .u8 57,.int .u8 49,.int .u8 28,.int .u8 3,.int .u8 61,.int .u8 58,.int .u8 42,.int .u8 50,.int .u8 38,.int .u8 29,.int .u8 17,.int .u8 4,.int .u8 62,.int .u8 47,.int .u8 59,.int .u8 36,.int .u8 45,.int .u8 43,.int .u8 51,.int .u8 22,.int .u8 53,.int .u8 39,.int .u8 33,.int .u8 30,.int .u8 24,.int .u8 18,.int .u8 12,.int .u8 5,.int .u8 63,.int .u8 55,.int .u8 48,.int .u8 27,.int .u8 60,.int .u8 41,.int .u8 37,.int .u8 16,.int .u8 46,.int .u8 35,.int .u8 44,.int .u8 21,.int .u8 52,.int .u8 32,.int .u8 23,.int .u8 11,.int .u8 54,.int .u8 26,.int .u8 40,.int .u8 15,.int .u8 34,.int .u8 20,.int .u8 31,.int .u8 10,.int .u8 25,.int .u8 14,.int .u8 19,.int .u8 9,.int .u8 13,.int .u8 8,.int .u8 7,.int .u8 6])}:World) #[.slice none 0 0] rfl (by kernel_rfl) (by kernel_rfl) (by kernel_rfl)
   (OpenSpec.preRow_of_cond 8 hx (by kernel_rfl) (fun k hk=>by cases hk) (by kernel_rfl) (z48 os))) ?_
 intro W base args ds gs before hval hW _ _ hz hL _ _
 exact z4v H enc W base args ds gs before hval hW (zcD hL) hz
theorem z96:Rows.MoreSaid:=
 OpenClaim.holds_of_cond 9 Tryz.f9 rfl rfl rfl rfl rfl rfl rfl ⟨rfl,rfl,rfl,rfl,rfl⟩ rfl rfl rfl rfl rfl (by kernel_rfl) Tryz.func9 (by kernel_rfl)
  (of_decide_eq_true (by kernel_rfl)) (by unfold Func.isWrapper;first|(rw [if_pos (by decide+kernel)];kernel_rfl)|(rw [if_neg (by decide+kernel)];exact⟨rfl,rfl⟩))
  (fun os started H enc _ F=>by rw [OpenClaim.pre_eq_preRow];exact z6r os started H enc F)
theorem z7I (f:FuncId)(fn:Func)(hf:Tryz.pinned.checked.prog.funcNamed "trustquery/trustquerylaw.More" =some f)(hfn:Tryz.pinned.checked.prog.funcs[f]?=some fn):
  false=Tryz.pinned.checked.prog.looks []∧ ∀(j:Nat) t,fn.params[j]?=some t→Tryz.pinned.checked.prog.wantsStandIn t=false:=by
 obtain rfl:f=9:=Option.some.inj ((show Tryz.prog.funcNamed "trustquery/trustquerylaw.More" =some 9 by kernel_rfl).symm.trans hf)|>.symm
 obtain rfl:fn=Tryz.f9:=(Option.some.inj (Tryz.func9.symm.trans hfn)).symm
 refine⟨by kernel_rfl,fun j t ht=> ?_⟩
 rw [Tryz.params9] at ht
 obtain rfl:t=22:=by simpa using Array.mem_of_getElem? ht
 exact(show Tryz.prog.wantsStandIn 22=false by kernel_rfl)
theorem more_card:Rows.MoreCardSaid:=
 Claim7.holds_tied_plain_at .later [] _ _ _ _ z96 (fun _ h=>by cases h) (by kernel_rfl) (fun _ h=>by cases h) more_row_tie rfl ⟨rfl,rfl⟩ (by kernel_rfl) rfl z7I (by kernel_rfl)
end Go.Proofs.YtkoohcilbpdgeaaGreatDoor
