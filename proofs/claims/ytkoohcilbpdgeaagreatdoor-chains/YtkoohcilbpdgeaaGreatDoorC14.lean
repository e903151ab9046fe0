import Derived.Test.YtkoohcilbpdgeaaGreatDoorCards
import Derived.Test.YtkoohcilbpdgeaaGreatDoorTie
import Derived.ProofKit
import Derived.OpenShut
import Derived.Deep.DeepHandedRow
import Derived.Deep.Slices
import Derived.Test.YtkoohcilbpdgeaaGreatDoorC13
set_option linter.all false
set_option linter.unusedVariables false
set_option linter.unusedSimpArgs false
set_option linter.unnecessarySimpa false
set_option linter.constructorNameAsVariable false
set_option linter.deprecated false
set_option maxRecDepth 100000
set_option maxHeartbeats 6400000
namespace Go.Proofs.YtkoohcilbpdgeaaGreatDoor
open Go Go.ChangeShapes Go.WideShapes Go.ChangeAt Go.RowKit Go.Deep
theorem own:ownKnob Tryz.prog.godebug=none:=by kernel_rfl
theorem laidOut:laidOutB Tryz.prog=true:=by kernel_rfl
theorem cells27:Tryz.prog.cellsOf 27=6:=by kernel_rfl
theorem cells3:Tryz.prog.cellsOf 3=1:=by kernel_rfl
theorem cells9:Tryz.prog.cellsOf 9=1:=by kernel_rfl
theorem open_op {H:Type}{enc:TypeId×Value→H}{w:World}{base:Nat}{spare:Nat→Bool}{held:Bool}{n:Nat}{cs:List Value}{x:DataW H×List MemPlace}(h:DataW.trod enc Tryz.prog w base spare held n 27 cs=some x):
  ∃(k m:Int) (s a v q:ByteArray),cs=[.int .i64 k,.int .i64 m,.string s,.string a,.string v,.string q]∧s.size≤maxLen∧a.size≤maxLen∧v.size≤maxLen∧q.size≤maxLen:=by
 obtain⟨xs,j,_,_,hlen,hxl,hf⟩:=DataW.trod_struct Tryz.underlying27 h
 rw [cells27] at hlen
 match cs,hlen with
 |[c0,c1,c2,c3,c4,c5],_=>
  match xs,hxl with
  |[y0,y1,y2,y3,y4,y5],_=>
   have g0:=hf 0 _ rfl
   have g1:=hf 1 _ rfl
   have g2:=hf 2 _ rfl
   have g3:=hf 3 _ rfl
   have g4:=hf 4 _ rfl
   have g5:=hf 5 _ rfl
   simp [cells3,cells9] at g0 g1 g2 g3 g4 g5
   obtain⟨k,e0,_,_⟩:=DataW.trod_int Tryz.underlying3 g0
   obtain⟨m,e1,_,_⟩:=DataW.trod_int Tryz.underlying3 g1
   obtain⟨s,e2,_,l2⟩:=DataW.trod_string Tryz.underlying9 g2
   obtain⟨a,e3,_,l3⟩:=DataW.trod_string Tryz.underlying9 g3
   obtain⟨v,e4,_,l4⟩:=DataW.trod_string Tryz.underlying9 g4
   obtain⟨q,e5,_,l5⟩:=DataW.trod_string Tryz.underlying9 g5
   simp at e0 e1 e2 e3 e4 e5
   exact⟨k,m,s,a,v,q,by rw [e0,e1,e2,e3,e4,e5],l2,l3,l4,l5⟩
theorem open_script {H:Type}{enc:TypeId×Value→H}{W:World}{base:Nat}{v:Value}{d:DataW H}{p:List MemPlace}(hval:Value.okWide Tryz.prog W .any base 22 v)(h:DataW.Trod enc Tryz.prog W 0 (fun _=>true) true 22 v d p)(hlt: ∀x∈p,x.block<W.heap.size):
  v= .slice none 0 0∨(∃(b off len cap:Nat) (K N:Nat→Int) (S A V Q:Nat→ByteArray),v= .slice (some ⟨b,off,none⟩) len cap∧len≤maxLen∧Ops W b off len K N S A V Q∧(∀i,i<len→(S i).size≤maxLen∧(A i).size≤maxLen∧(V i).size≤maxLen∧(Q i).size≤maxLen))∨ ∃a cap,v= .slice (some a) 0 cap:=by
 obtain⟨a0,len,cap,rfl⟩:=okWide_slice Tryz.underlying22 hval
 obtain⟨fuel,hf⟩:=h
 rcases open_slice Tryz.underlying22 hf with⟨hcs,hx⟩|⟨a,len',cap',m,n,D,Pl,hcs,_,hl,hm,hmm,hx,hel⟩
 ·simp [Value.cells] at hcs
  obtain⟨rfl,rfl,rfl⟩:=hcs
  exact .inl rfl
 ·simp [Value.cells] at hcs
  obtain⟨rfl,rfl,rfl⟩:=hcs
  simp only [if_true] at hmm
  subst hmm
  by_cases h0:len=0
  ·subst h0
   exact .inr (.inr ⟨a,_,rfl⟩)
  ·refine .inr (.inl ?_)
   have each: ∀i,i<len→ ∃q:Int×Int×ByteArray×ByteArray×ByteArray×ByteArray,W.cells? 0 (a.add (i*6)) 6=some [.int .i64 q.1,.int .i64 q.2.1,.string q.2.2.1,.string q.2.2.2.1,.string q.2.2.2.2.1,.string q.2.2.2.2.2]∧q.2.2.1.size≤maxLen∧q.2.2.2.1.size≤maxLen∧q.2.2.2.2.1.size≤maxLen∧q.2.2.2.2.2.size≤maxLen:=fun i hi=>by
    obtain⟨cs',h1,h2⟩:=hel i (by omega)
    rw [cells27] at h1
    obtain⟨k,m,s,a',v',q,rfl,l1,l2,l3,l4⟩:=open_op h2
    exact⟨(k,m,s,a',v',q),h1,l1,l2,l3,l4⟩
   obtain⟨q,hq⟩:=choose_lt (α:=Int×Int×ByteArray×ByteArray×ByteArray×ByteArray) each
   obtain⟨b,off,spot⟩:=a
   have hc0: ∀i,i<len→ ∀j,j<6→W.cell? ((⟨b,off,spot⟩:Addr).add (i*6+j))=[Value.int .i64 (q i).1,.int .i64 (q i).2.1,.string (q i).2.2.1,.string (q i).2.2.2.1,.string (q i).2.2.2.2.1,.string (q i).2.2.2.2.2][j]?:=fun i hi j hj=>by
    obtain⟨_,_,hcell⟩:=World.cells?_some (hq i hi).1
    have:=hcell j hj
    rw [Go.Deep.add_add] at this
    exact this
   have hspot:spot=none:=by
    have h00:W.cell? ((⟨b,off,spot⟩:Addr).add 0)=some (.int .i64 (q 0).1):=hc0 0 (by omega) 0 (by omega)
    simpa [Addr.add] using World.cell?_spot h00
   subst hspot
   have hadd: ∀j,(⟨b,off,none⟩:Addr).add j=⟨b,off+j,none⟩:=fun j=>by unfold Addr.add;split<;>simp_all
   have hc: ∀i,i<len→ ∀j,j<6→W.cell? ⟨b,off+(i*6+j),none⟩=[Value.int .i64 (q i).1,.int .i64 (q i).2.1,.string (q i).2.2.1,.string (q i).2.2.2.1,.string (q i).2.2.2.2.1,.string (q i).2.2.2.2.2][j]?:=fun i hi j hj=>by
    rw [←hadd];exact hc0 i hi j hj
   refine⟨b,off,len,_,fun i=>(q i).1,fun i=>(q i).2.1,fun i=>(q i).2.2.1,fun i=>(q i).2.2.2.1,fun i=>(q i).2.2.2.2.1,fun i=>(q i).2.2.2.2.2,rfl,by omega,⟨fun _=>block_lt_of_cell (hc 0 (by omega) 0 (by omega)),?_,?_,?_,?_,?_,?_⟩,fun i hi=>(hq i hi).2⟩
   ·exact fun i hi=>hc i hi 0 (by omega)
   ·exact fun i hi=>hc i hi 1 (by omega)
   ·exact fun i hi=>hc i hi 2 (by omega)
   ·exact fun i hi=>hc i hi 3 (by omega)
   ·exact fun i hi=>hc i hi 4 (by omega)
   ·exact fun i hi=>hc i hi 5 (by omega)
theorem upTo_empty (k:Int)(a:Option Addr)(cap:Nat)(w:World):Calls Tryz.prog 13 #[.slice a 0 cap,.int .i64 k,.int .i64 k] w fun e w'=>e= .returned (.int .i64 (-1))∧Below w.heap.size w w':=by
 go_enter Tryz.func13,Tryz.ntmps13
 go_wp2_with fail
 go_loopg [7,8,9] 1 (fun g iv _ _ wr=>iv= .int .i64 0∧wr=w)
 case atStart=>exact⟨rfl,rfl⟩
 case round=>
  obtain⟨rfl,rfl⟩:=hrel
  go_wp2_with fail
  go_ret
  exact⟨by simp,Below.refl _ _⟩
theorem upTo_script {H:Type}{enc:TypeId×Value→H}{W:World}{base:Nat}{v:Value}{d:DataW H}{p:List MemPlace}(hval:Value.okWide Tryz.prog W .any base 22 v)(h:DataW.Trod enc Tryz.prog W 0 (fun _=>true) true 22 v d p)(hlt: ∀x∈p,x.block<W.heap.size)(k:Int)
  (hp: ∀(n:Int) (S A V Q:ByteArray) (wr:World),S.size≤maxLen→A.size≤maxLen→V.size≤maxLen→Q.size≤maxLen→Calls Tryz.prog 18 #[.agg #[.int .i64 k,.int .i64 n,.string S,.string A,.string V,.string Q]] wr fun e w'=>e= .returned (.bool true)∧Below wr.heap.size wr w'):
  Calls Tryz.prog 13 #[v,.int .i64 k,.int .i64 k] W fun e w'=>e= .returned (.int .i64 (-1))∧Below W.heap.size W w':=by
 rcases open_script hval h hlt with rfl|⟨b,off,len,cap,K,N,S,A,V,Q,rfl,hl,ho,hs⟩|⟨a,cap,rfl⟩
 ·exact upTo_nil k W
 ·refine upTo_any k b off len cap K N S A V Q W ho hl fun i wr hi hk=> ?_
  rw [hk]
  obtain⟨h1,h2,h3,h4⟩:=hs i hi
  exact hp _ _ _ _ _ _ h1 h2 h3 h4
 ·exact upTo_empty k _ cap W
def refill (cs:Array Value):Obj→Obj
 | .cells _ t frozen=> .cells cs t frozen
 |o=>o
theorem checks_contract (H:Type)(enc:TypeId×Value→H)(W:World)(base:Nat)(args:Array Value)(ds gs:List (DataW H))(before:List MemPlace)
  (hval: ∀(j:Nat) t v,Tryz.f3.params[j]?=some t→args[j]?=some v→Value.okWide Tryz.prog W .any base t v)
  (hW:DataW.Whole enc Tryz.prog Tryz.f3.params.toList Rows.checksSpec.vars false W args.toList ds gs before):
  Calls Tryz.prog 3 args W fun e W'=> ∃v,e= .returned v∧Rows.checksSpec.post enc Tryz.prog Tryz.f3 false true false false W args v W':=by
 have hW':=hW
 obtain⟨p,q,hA0,hV,rfl,_,_⟩:=hW
 have hA:DataW.TrodAll enc Tryz.prog W 0 (fun _=>true) true Tryz.f3.params.toList args.toList ds p:=hA0
 rw [Tryz.params3] at hA hval
 obtain⟨v0,d0,rfl,rfl,h0⟩:=trodAll_one hA
 obtain⟨rfl,rfl⟩:=trodVars_none hV
 clear hA0
 simp only [List.append_nil] at hW'
 have hlt: ∀x∈p,x.block<W.heap.size:=fun x hx=>by simpa using hW'.lt x hx
 have hcall:=checks_of v0 W (upTo_script (hval 0 22 v0 rfl rfl) h0 hlt 1 fun n S A V Q wr h _ _ _=>plays_check n S A V Q h wr)
 refine hcall.mono fun e W' ⟨he,hb⟩=> ?_
 subst he
 exact⟨_,rfl,⟨_,_,_,[],_,[],hW',trodAll_mk1 (shut_bool Tryz.underlying4 true),trodAll_mk1 (Below.trod laidOut (by kernel_rfl) (of_decide_eq_true (by kernel_rfl)) h0 hb hlt),rfl,hb.frame _,fun h=>by cases h⟩⟩
theorem checks_laid_met (os:Os):laidMet Tryz.prog Rows.checksRow.laid (({World.holding Tryz.prog os ⟨#[],#[],[]⟩ with heap:=(((World.holding Tryz.prog os ⟨#[],#[],[]⟩).heap.modify 0 (refill #[.int .u64 1,.int .u64 10,.int .u64 100,.int .u64 1000,.int .u64 10000,.int .u64 100000,.int .u64 1000000,.int .u64 10000000,.int .u64 100000000,.int .u64 1000000000,.int .u64 10000000000,.int .u64 100000000000,.int .u64 1000000000000,.int .u64 10000000000000,.int .u64 100000000000000,.int .u64 1000000000000000,.int .u64 10000000000000000,.int .u64 100000000000000000,.int .u64 1000000000000000000,.int .u64 10000000000000000000])).modify 1 (refill #[.int .u8 0,.int .u8 1,.int .u8 28,.int .u8 2,.int .u8 29,.int .u8 14,.int .u8 24,.int .u8 3,.int .u8 30,.int .u8 22,.int .u8 20,.int .u8 15,.int .u8 25,.int .u8 17,.int .u8 4,.int .u8 8,.int .u8 31,.int .u8 27,.int .u8 13,.int .u8 23,.int .u8 21,.int .u8 19,.int .u8 16,.int .u8 7,.int .u8 26,.int .u8 12,.int .u8 18,.int .u8 6,.int .u8 11,.int .u8 5,.int .u8 10,.int .u8 9])).modify 2 (refill #[.int .u8 0,.int .u8 1,.int .u8 56,.int .u8 2,.int .u8 57,.int .u8 49,.int .u8 28,.int .u8 3,.int .u8 61,.int .u8 58,.int .u8 42,.int .u8 50,.int .u8 38,.int .u8 29,.int .u8 17,.int .u8 4,.int .u8 62,.int .u8 47,.int .u8 59,.int .u8 36,.int .u8 45,.int .u8 43,.int .u8 51,.int .u8 22,.int .u8 53,.int .u8 39,.int .u8 33,.int .u8 30,.int .u8 24,.int .u8 18,.int .u8 12,.int .u8 5,.int .u8 63,.int .u8 55,.int .u8 48,.int .u8 27,.int .u8 60,.int .u8 41,.int .u8 37,.int .u8 16,.int .u8 46,.int .u8 35,.int .u8 44,.int .u8 21,.int .u8 52,.int .u8 32,.int .u8 23,.int .u8 11,.int .u8 54,.int .u8 26,.int .u8 40,.int .u8 15,.int .u8 34,.int .u8 20,.int .u8 31,.int .u8 10,.int .u8 25,.int .u8 14,.int .u8 19,.int .u8 9,.int .u8 13,.int .u8 8,.int .u8 7,.int .u8 6])}:World).forCall (fun _ _=>0) ⟨#[],#[.slice none 0 0],[]⟩).memory:=
 laidMet_of_run' 8 (by kernel_rfl) (by kernel_rfl)
theorem checks_reads (os:Os){H:Type}(enc:TypeId×Value→H): ∃places,DataW.whole enc Tryz.prog (({World.holding Tryz.prog os ⟨#[],#[],[]⟩ with heap:=(((World.holding Tryz.prog os ⟨#[],#[],[]⟩).heap.modify 0 (refill #[.int .u64 1,.int .u64 10,.int .u64 100,.int .u64 1000,.int .u64 10000,.int .u64 100000,.int .u64 1000000,.int .u64 10000000,.int .u64 100000000,.int .u64 1000000000,.int .u64 10000000000,.int .u64 100000000000,.int .u64 1000000000000,.int .u64 10000000000000,.int .u64 100000000000000,.int .u64 1000000000000000,.int .u64 10000000000000000,.int .u64 100000000000000000,.int .u64 1000000000000000000,.int .u64 10000000000000000000])).modify 1 (refill #[.int .u8 0,.int .u8 1,.int .u8 28,.int .u8 2,.int .u8 29,.int .u8 14,.int .u8 24,.int .u8 3,.int .u8 30,.int .u8 22,.int .u8 20,.int .u8 15,.int .u8 25,.int .u8 17,.int .u8 4,.int .u8 8,.int .u8 31,.int .u8 27,.int .u8 13,.int .u8 23,.int .u8 21,.int .u8 19,.int .u8 16,.int .u8 7,.int .u8 26,.int .u8 12,.int .u8 18,.int .u8 6,.int .u8 11,.int .u8 5,.int .u8 10,.int .u8 9])).modify 2 (refill #[.int .u8 0,.int .u8 1,.int .u8 56,.int .u8 2,.int .u8 57,.int .u8 49,.int .u8 28,.int .u8 3,.int .u8 61,.int .u8 58,.int .u8 42,.int .u8 50,.int .u8 38,.int .u8 29,.int .u8 17,.int .u8 4,.int .u8 62,.int .u8 47,.int .u8 59,.int .u8 36,.int .u8 45,.int .u8 43,.int .u8 51,.int .u8 22,.int .u8 53,.int .u8 39,.int .u8 33,.int .u8 30,.int .u8 24,.int .u8 18,.int .u8 12,.int .u8 5,.int .u8 63,.int .u8 55,.int .u8 48,.int .u8 27,.int .u8 60,.int .u8 41,.int .u8 37,.int .u8 16,.int .u8 46,.int .u8 35,.int .u8 44,.int .u8 21,.int .u8 52,.int .u8 32,.int .u8 23,.int .u8 11,.int .u8 54,.int .u8 26,.int .u8 40,.int .u8 15,.int .u8 34,.int .u8 20,.int .u8 31,.int .u8 10,.int .u8 25,.int .u8 14,.int .u8 19,.int .u8 9,.int .u8 13,.int .u8 8,.int .u8 7,.int .u8 6])}:World).forCall (fun _ _=>0) ⟨#[],#[.slice none 0 0],[]⟩).memory Tryz.f3.params.toList Rows.checksSpec.vars false #[Value.slice none 0 0].toList 8=some ([.nil],[],places):=
 ⟨[],by kernel_rfl⟩
theorem checks_lifted (os:Os)(started:os.Started)(H:Type)(enc:TypeId×Value→H)(F:Stop.Interp):
  ReturnsInHanded {} Tryz.checked os 3 .any ((OpenSpec.ofChange Rows.checksSpec).preRow enc Tryz.prog Tryz.f3 Rows.checksRow.domain false Rows.checksRow.laid) (((OpenSpec.ofChange Rows.checksSpec).at F).post enc Tryz.prog Tryz.f3 false true false false):=by
 obtain⟨places,hx⟩:=checks_reads os enc
 refine returnsInHanded_of_row (C:=Tryz.checked) (s:=OpenSpec.ofChange Rows.checksSpec) own started (by kernel_rfl) Tryz.func3
  (witness_row_at (enc:=enc) (C:=Tryz.checked) false ({World.holding Tryz.prog os ⟨#[],#[],[]⟩ with heap:=(((World.holding Tryz.prog os ⟨#[],#[],[]⟩).heap.modify 0 (refill #[.int .u64 1,.int .u64 10,.int .u64 100,.int .u64 1000,.int .u64 10000,.int .u64 100000,.int .u64 1000000,.int .u64 10000000,.int .u64 100000000,.int .u64 1000000000,.int .u64 10000000000,.int .u64 100000000000,.int .u64 1000000000000,.int .u64 10000000000000,.int .u64 100000000000000,.int .u64 1000000000000000,.int .u64 10000000000000000,.int .u64 100000000000000000,.int .u64 1000000000000000000,.int .u64 10000000000000000000])).modify 1 (refill #[.int .u8 0,.int .u8 1,.int .u8 28,.int .u8 2,.int .u8 29,.int .u8 14,.int .u8 24,.int .u8 3,.int .u8 30,.int .u8 22,.int .u8 20,.int .u8 15,.int .u8 25,.int .u8 17,.int .u8 4,.int .u8 8,.int .u8 31,.int .u8 27,.int .u8 13,.int .u8 23,.int .u8 21,.int .u8 19,.int .u8 16,.int .u8 7,.int .u8 26,.int .u8 12,.int .u8 18,.int .u8 6,.int .u8 11,.int .u8 5,.int .u8 10,.int .u8 9])).modify 2 (refill #[.int .u8 0,.int .u8 1,.int .u8 56,.int .u8 2,.int .u8 57,.int .u8 49,.int .u8 28,.int .u8 3,.int .u8 61,.int .u8 58,.int .u8 42,.int .u8 50,.int .u8 38,.int .u8 29,.int .u8 17,.int .u8 4,.int .u8 62,.int .u8 47,.int .u8 59,.int .u8 36,.int .u8 45,.int .u8 43,.int .u8 51,.int .u8 22,.int .u8 53,.int .u8 39,.int .u8 33,.int .u8 30,.int .u8 24,.int .u8 18,.int .u8 12,.int .u8 5,.int .u8 63,.int .u8 55,.int .u8 48,.int .u8 27,.int .u8 60,.int .u8 41,.int .u8 37,.int .u8 16,.int .u8 46,.int .u8 35,.int .u8 44,.int .u8 21,.int .u8 52,.int .u8 32,.int .u8 23,.int .u8 11,.int .u8 54,.int .u8 26,.int .u8 40,.int .u8 15,.int .u8 34,.int .u8 20,.int .u8 31,.int .u8 10,.int .u8 25,.int .u8 14,.int .u8 19,.int .u8 9,.int .u8 13,.int .u8 8,.int .u8 7,.int .u8 6])}:World) #[.slice none 0 0] rfl (by kernel_rfl) (by kernel_rfl) (by kernel_rfl)
   (OpenSpec.preRow_of_cond 8 hx (by kernel_rfl) (fun k hk=>by cases hk) (by kernel_rfl) (checks_laid_met os))) ?_
 intro W base args ds gs before hval hW _ _ _ _ _ _
 exact checks_contract H enc W base args ds gs before hval hW
theorem checks_said:Rows.ChecksSaid:=
 OpenClaim.holds_of_cond 3 Tryz.f3 rfl rfl rfl rfl rfl rfl rfl ⟨rfl,rfl,rfl,rfl,rfl⟩ rfl rfl rfl rfl rfl (by kernel_rfl) Tryz.func3 (by kernel_rfl)
  (of_decide_eq_true (by kernel_rfl)) (by unfold Func.isWrapper;first|(rw [if_pos (by decide+kernel)];kernel_rfl)|(rw [if_neg (by decide+kernel)];exact⟨rfl,rfl⟩))
  (fun os started H enc _ F=>by rw [OpenClaim.pre_eq_preRow];exact checks_lifted os started H enc F)
theorem checks_plain (f:FuncId)(fn:Func)(hf:Tryz.pinned.checked.prog.funcNamed "trustquery/trustquerylaw.Checks" =some f)(hfn:Tryz.pinned.checked.prog.funcs[f]?=some fn):
  false=Tryz.pinned.checked.prog.looks []∧ ∀(j:Nat) t,fn.params[j]?=some t→Tryz.pinned.checked.prog.wantsStandIn t=false:=by
 obtain rfl:f=3:=Option.some.inj ((show Tryz.prog.funcNamed "trustquery/trustquerylaw.Checks" =some 3 by kernel_rfl).symm.trans hf)|>.symm
 obtain rfl:fn=Tryz.f3:=(Option.some.inj (Tryz.func3.symm.trans hfn)).symm
 refine⟨by kernel_rfl,fun j t ht=> ?_⟩
 rw [Tryz.params3] at ht
 obtain rfl:t=22:=by simpa using Array.mem_of_getElem? ht
 exact(show Tryz.prog.wantsStandIn 22=false by kernel_rfl)
theorem checks_card:Rows.ChecksCardSaid:=
 Claim7.holds_tied_plain_at .later [] _ _ _ _ checks_said (fun _ h=>by cases h) (by kernel_rfl) (fun _ h=>by cases h) checks_row_tie rfl ⟨rfl,rfl⟩ (by kernel_rfl) rfl checks_plain (by kernel_rfl)
end Go.Proofs.YtkoohcilbpdgeaaGreatDoor
