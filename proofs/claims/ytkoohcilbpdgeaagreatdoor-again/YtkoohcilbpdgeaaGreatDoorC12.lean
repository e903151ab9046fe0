import Derived.Test.YtkoohcilbpdgeaaGreatDoorCards
import Derived.Test.YtkoohcilbpdgeaaGreatDoorTie
import Derived.Stop.LaidErr
import Derived.Test.YtkoohcilbpdgeaaGreatDoorC11
set_option linter.all false
set_option linter.unusedVariables false
set_option linter.unusedSimpArgs false
set_option linter.unnecessarySimpa false
set_option linter.constructorNameAsVariable false
set_option linter.deprecated false
set_option maxRecDepth 100000
set_option maxHeartbeats 6400000
namespace Go.Proofs.YtkoohcilbpdgeaaGreatDoor
open Go Go.RowKit
attribute [local go_sem] wrap64_byte
theorem z5T (kk n:Int)(S A V Q:zgS)(e p:Int)(he: ¬e=0)
  (h1: ∀w,Calls Tryz.prog 25 #[.string S] w fun r w'=>r= .returned (.tuple #[.int .i64 e,.int .i64 p])∧Below w.heap.size w w')
  (h2: ∀w,Calls Tryz.prog 22 #[.string S] w fun r w'=>z3J ⟨#[]⟩ e w r w') (w:World):
  Calls Tryz.prog 16 #[.agg #[.int .i64 kk,.int .i64 n,.string S,.string A,.string V,.string Q]] w fun e w'=>e= .returned (.bool true)∧Below w.heap.size w w':=by
 have H:=z8 (zgI h1 h2)
 clear h1 h2
 have heb:(e==0)=false:=by simpa using he
 have hB0:Below w.heap.size w (w.alloc (.cells #[.int .i64 kk,.int .i64 n,.string S,.string A,.string V,.string Q] 27)):=(zgR _ _).alloc (zgH _) _
 have hg0:(w.alloc (.cells #[.int .i64 kk,.int .i64 n,.string S,.string A,.string V,.string Q] 27)).heap[w.heap.size]?=some (.cells #[.int .i64 kk,.int .i64 n,.string S,.string A,.string V,.string Q] 27):=heap_alloc_new w _
 have hz0:w.heap.size<(w.alloc (.cells #[.int .i64 kk,.int .i64 n,.string S,.string A,.string V,.string Q] 27)).heap.size:=by simp
 have HB0:=z8 (zgI hB0 (zgI hg0 hz0))
 obtain⟨y0,y1,y2,y3,y4,y5⟩:=z2u hg0
 clear hB0 hg0 hz0
 go_enter Tryz.func16,Tryz.ntmps16
 go_wp2_with fail
 refine(H.out.1 _).mono ?_
 rintro e' w1 ⟨rfl,hB1⟩
 obtain⟨hB00,hg0,hz0⟩:=HB0.out
 clear HB0
 have hg1:=(hB1.block _ hz0).trans hg0
 have hB01:Below w.heap.size w w1:=hB00.trans (hB1.mono (Nat.le_of_lt hz0))
 have hz1:w.heap.size<w1.heap.size:=zgN hz0 hB1.size
 clear y0 y1 y2 y3 y4 y5
 obtain⟨y0,y1,y2,y3,y4,y5⟩:=z2u hg1
 have HB1:=z8 (zgI hB01 (zgI hg1 hz1))
 clear hB1 hB00 hg0 hz0 hB01 hg1 hz1
 go_wp2_with fail
 refine(H.out.2 _).mono ?_
 rintro e' w2 ⟨rfl,hB2⟩
 obtain⟨hB01,hg1,hz1⟩:=HB1.out
 clear HB1
 have hg2:=(hB2.block _ hz1).trans hg1
 have hB02:Below w.heap.size w w2:=hB01.trans (hB2.mono (Nat.le_of_lt hz1))
 have hz2:w.heap.size<w2.heap.size:=zgN hz1 hB2.size
 clear y0 y1 y2 y3 y4 y5
 obtain⟨y0,y1,y2,y3,y4,y5⟩:=z2u hg2
 have HB2:=z8 (zgI hB02 (zgI hg2 hz2))
 clear hB2 hB01 hg1 hz1 hB02 hg2 hz2
 go_wp2_with fail
 refine(jw _ _).mono ?_
 rintro e' wn ⟨rfl,rfl⟩
 go_wp2_with fail
 refine(jw _ _).mono ?_
 rintro e' wn ⟨rfl,rfl⟩
 go_wp2_with fail
 refine(jw _ _).mono ?_
 rintro e' wn ⟨rfl,rfl⟩
 go_wp2_with fail
 refine(jw _ _).mono ?_
 rintro e' wn ⟨rfl,rfl⟩
 go_wp2_with fail
 go_ret
 exact⟨rfl,HB2.out.1⟩
theorem z8j (kk n:Int)(S A V Q t:zgS)(p:Int)(ht:600<(t.size:Int))
  (h1: ∀w,Calls Tryz.prog 25 #[.string S] w fun r w'=>r= .returned (.tuple #[.int .i64 0,.int .i64 p])∧Below w.heap.size w w')
  (h2: ∀w,Calls Tryz.prog 22 #[.string S] w fun r w'=>z3J t 0 w r w') (w:World):
  Calls Tryz.prog 16 #[.agg #[.int .i64 kk,.int .i64 n,.string S,.string A,.string V,.string Q]] w fun e w'=>e= .returned (.bool true)∧Below w.heap.size w w':=by
 have H:=z8 (zgI h1 h2)
 clear h1 h2
 have hB0:Below w.heap.size w (w.alloc (.cells #[.int .i64 kk,.int .i64 n,.string S,.string A,.string V,.string Q] 27)):=(zgR _ _).alloc (zgH _) _
 have hg0:(w.alloc (.cells #[.int .i64 kk,.int .i64 n,.string S,.string A,.string V,.string Q] 27)).heap[w.heap.size]?=some (.cells #[.int .i64 kk,.int .i64 n,.string S,.string A,.string V,.string Q] 27):=heap_alloc_new w _
 have hz0:w.heap.size<(w.alloc (.cells #[.int .i64 kk,.int .i64 n,.string S,.string A,.string V,.string Q] 27)).heap.size:=by simp
 have HB0:=z8 (zgI hB0 (zgI hg0 hz0))
 obtain⟨y0,y1,y2,y3,y4,y5⟩:=z2u hg0
 clear hB0 hg0 hz0
 go_enter Tryz.func16,Tryz.ntmps16
 go_wp2_with fail
 refine(H.out.1 _).mono ?_
 rintro e' w1 ⟨rfl,hB1⟩
 obtain⟨hB00,hg0,hz0⟩:=HB0.out
 clear HB0
 have hg1:=(hB1.block _ hz0).trans hg0
 have hB01:Below w.heap.size w w1:=hB00.trans (hB1.mono (Nat.le_of_lt hz0))
 have hz1:w.heap.size<w1.heap.size:=zgN hz0 hB1.size
 clear y0 y1 y2 y3 y4 y5
 obtain⟨y0,y1,y2,y3,y4,y5⟩:=z2u hg1
 have HB1:=z8 (zgI hB01 (zgI hg1 hz1))
 clear hB1 hB00 hg0 hz0 hB01 hg1 hz1
 go_wp2_with fail
 refine(H.out.2 _).mono ?_
 rintro e' w2 ⟨rfl,hB2⟩
 obtain⟨hB01,hg1,hz1⟩:=HB1.out
 clear HB1
 have hg2:=(hB2.block _ hz1).trans hg1
 have hB02:Below w.heap.size w w2:=hB01.trans (hB2.mono (Nat.le_of_lt hz1))
 have hz2:w.heap.size<w2.heap.size:=zgN hz1 hB2.size
 clear y0 y1 y2 y3 y4 y5
 obtain⟨y0,y1,y2,y3,y4,y5⟩:=z2u hg2
 have HB2:=z8 (zgI hB02 (zgI hg2 hz2))
 clear hB2 hB01 hg1 hz1 hB02 hg2 hz2
 go_wp2_with fail
 refine(jw _ _).mono ?_
 rintro e' wn ⟨rfl,rfl⟩
 go_wp2_with fail
 refine(jw _ _).mono ?_
 rintro e' wn ⟨rfl,rfl⟩
 go_wp2_with fail
 refine(jw _ _).mono ?_
 rintro e' wn ⟨rfl,rfl⟩
 go_wp2_with fail
 refine(jw _ _).mono ?_
 rintro e' wn ⟨rfl,rfl⟩
 go_wp2_with fail
 go_ret
 exact⟨rfl,HB2.out.1⟩
theorem zaW (kk n:Int)(S A V Q t c:zgS)(p x z:Int)(ht: ¬600<(t.size:Int))(hz: ¬z= -2)(eb:Bool)(he1:t.toList.isEmpty=eb)(he2:S.toList.isEmpty=eb)
  (h1: ∀w,Calls Tryz.prog 25 #[.string S] w fun r w'=>r= .returned (.tuple #[.int .i64 0,.int .i64 p])∧Below w.heap.size w w')
  (h2: ∀w,Calls Tryz.prog 22 #[.string S] w fun r w'=>z3J t 0 w r w')
  (h3: ∀w,Calls Tryz.prog 22 #[.string t] w fun r w'=>z3J t 0 w r w')
  (h4: ∀w,Calls Tryz.prog 26 #[.string S,.int .i64 n,.string A,.string V] w fun r w'=>z0o c x w r w')
  (h5: ∀w,Calls Tryz.prog 26 #[.string t,.int .i64 n,.string A,.string V] w fun r w'=>z0o c x w r w')
  (h6: ∀w,Calls Tryz.prog 24 #[.string S,.string A,.string V,.string Q] w fun r w'=>r= .returned (.int .i64 z)∧Below w.heap.size w w')
  (h7: ∀w,Calls Tryz.prog 24 #[.string t,.string A,.string V,.string Q] w fun r w'=>r= .returned (.int .i64 z)∧Below w.heap.size w w') (w:World):
  Calls Tryz.prog 16 #[.agg #[.int .i64 kk,.int .i64 n,.string S,.string A,.string V,.string Q]] w fun e w'=>e= .returned (.bool true)∧Below w.heap.size w w':=by
 have H:=z8 (zgI h1 (zgI h2 (zgI h3 (zgI h4 (zgI h5 (zgI h6 h7))))))
 clear h1 h2 h3 h4 h5 h6 h7
 have hzb:(z== -2)=false:=by simpa using hz
 have hB0:Below w.heap.size w (w.alloc (.cells #[.int .i64 kk,.int .i64 n,.string S,.string A,.string V,.string Q] 27)):=(zgR _ _).alloc (zgH _) _
 have hg0:(w.alloc (.cells #[.int .i64 kk,.int .i64 n,.string S,.string A,.string V,.string Q] 27)).heap[w.heap.size]?=some (.cells #[.int .i64 kk,.int .i64 n,.string S,.string A,.string V,.string Q] 27):=heap_alloc_new w _
 have hz0:w.heap.size<(w.alloc (.cells #[.int .i64 kk,.int .i64 n,.string S,.string A,.string V,.string Q] 27)).heap.size:=by simp
 have HB0:=z8 (zgI hB0 (zgI hg0 hz0))
 obtain⟨y0,y1,y2,y3,y4,y5⟩:=z2u hg0
 clear hB0 hg0 hz0
 go_enter Tryz.func16,Tryz.ntmps16
 go_wp2_with fail
 refine(H.out.1 _).mono ?_
 rintro e' w1 ⟨rfl,hB1⟩
 obtain⟨hB00,hg0,hz0⟩:=HB0.out
 clear HB0
 have hg1:=(hB1.block _ hz0).trans hg0
 have hB01:Below w.heap.size w w1:=hB00.trans (hB1.mono (Nat.le_of_lt hz0))
 have hz1:w.heap.size<w1.heap.size:=zgN hz0 hB1.size
 clear y0 y1 y2 y3 y4 y5
 obtain⟨y0,y1,y2,y3,y4,y5⟩:=z2u hg1
 have HB1:=z8 (zgI hB01 (zgI hg1 hz1))
 clear hB1 hB00 hg0 hz0 hB01 hg1 hz1
 go_wp2_with fail
 refine(H.out.2.1 _).mono ?_
 rintro e' w2 ⟨rfl,hB2⟩
 obtain⟨hB01,hg1,hz1⟩:=HB1.out
 clear HB1
 have hg2:=(hB2.block _ hz1).trans hg1
 have hB02:Below w.heap.size w w2:=hB01.trans (hB2.mono (Nat.le_of_lt hz1))
 have hz2:w.heap.size<w2.heap.size:=zgN hz1 hB2.size
 clear y0 y1 y2 y3 y4 y5
 obtain⟨y0,y1,y2,y3,y4,y5⟩:=z2u hg2
 have HB2:=z8 (zgI hB02 (zgI hg2 hz2))
 clear hB2 hB01 hg1 hz1 hB02 hg2 hz2
 go_wp2_with fail
 refine(jw _ _).mono ?_
 rintro e' wn ⟨rfl,rfl⟩
 go_wp2_with fail
 refine(jw _ _).mono ?_
 rintro e' wn ⟨rfl,rfl⟩
 go_wp2_with fail
 refine(jw _ _).mono ?_
 rintro e' wn ⟨rfl,rfl⟩
 go_wp2_with fail
 refine(H.out.2.2.1 _).mono ?_
 rintro e' w3 ⟨rfl,hB3⟩
 obtain⟨hB02,hg2,hz2⟩:=HB2.out
 clear HB2
 have hg3:=(hB3.block _ hz2).trans hg2
 have hB03:Below w.heap.size w w3:=hB02.trans (hB3.mono (Nat.le_of_lt hz2))
 have hz3:w.heap.size<w3.heap.size:=zgN hz2 hB3.size
 clear y0 y1 y2 y3 y4 y5
 obtain⟨y0,y1,y2,y3,y4,y5⟩:=z2u hg3
 have HB3:=z8 (zgI hB03 (zgI hg3 hz3))
 clear hB3 hB02 hg2 hz2 hB03 hg3 hz3
 go_wp2_with fail
 cases eb
 all_goals
  refine(jw _ _).mono ?_
  rintro e' wn ⟨rfl,rfl⟩
  go_wp2_with fail
  refine(H.out.2.2.2.1 _).mono ?_
  rintro e' w4 ⟨rfl,hB4⟩
  obtain⟨hB03,hg3,hz3⟩:=HB3.out
  clear HB3
  have hg4:=(hB4.block _ hz3).trans hg3
  have hB04:Below w.heap.size w w4:=hB03.trans (hB4.mono (Nat.le_of_lt hz3))
  have hz4:w.heap.size<w4.heap.size:=zgN hz3 hB4.size
  clear y0 y1 y2 y3 y4 y5
  obtain⟨y0,y1,y2,y3,y4,y5⟩:=z2u hg4
  have HB4:=z8 (zgI hB04 (zgI hg4 hz4))
  clear hB4 hB03 hg3 hz3 hB04 hg4 hz4
  go_wp2_with fail
  refine(H.out.2.2.2.2.1 _).mono ?_
  rintro e' w5 ⟨rfl,hB5⟩
  obtain⟨hB04,hg4,hz4⟩:=HB4.out
  clear HB4
  have hg5:=(hB5.block _ hz4).trans hg4
  have hB05:Below w.heap.size w w5:=hB04.trans (hB5.mono (Nat.le_of_lt hz4))
  have hz5:w.heap.size<w5.heap.size:=zgN hz4 hB5.size
  clear y0 y1 y2 y3 y4 y5
  obtain⟨y0,y1,y2,y3,y4,y5⟩:=z2u hg5
  have HB5:=z8 (zgI hB05 (zgI hg5 hz5))
  clear hB5 hB04 hg4 hz4 hB05 hg5 hz5
  go_wp2_with fail
  refine(H.out.2.2.2.2.2.1 _).mono ?_
  rintro e' w6 ⟨rfl,hB6⟩
  obtain⟨hB05,hg5,hz5⟩:=HB5.out
  clear HB5
  have hg6:=(hB6.block _ hz5).trans hg5
  have hB06:Below w.heap.size w w6:=hB05.trans (hB6.mono (Nat.le_of_lt hz5))
  have hz6:w.heap.size<w6.heap.size:=zgN hz5 hB6.size
  clear y0 y1 y2 y3 y4 y5
  obtain⟨y0,y1,y2,y3,y4,y5⟩:=z2u hg6
  have HB6:=z8 (zgI hB06 (zgI hg6 hz6))
  clear hB6 hB05 hg5 hz5 hB06 hg6 hz6
  go_wp2_with fail
  refine(H.out.2.2.2.2.2.2 _).mono ?_
  rintro e' w7 ⟨rfl,hB7⟩
  obtain⟨hB06,hg6,hz6⟩:=HB6.out
  clear HB6
  have hg7:=(hB7.block _ hz6).trans hg6
  have hB07:Below w.heap.size w w7:=hB06.trans (hB7.mono (Nat.le_of_lt hz6))
  have hz7:w.heap.size<w7.heap.size:=zgN hz6 hB7.size
  clear y0 y1 y2 y3 y4 y5
  obtain⟨y0,y1,y2,y3,y4,y5⟩:=z2u hg7
  have HB7:=z8 (zgI hB07 (zgI hg7 hz7))
  clear hB7 hB06 hg6 hz6 hB07 hg7 hz7
  go_wp2_with fail
  refine(jw _ _).mono ?_
  rintro e' wn ⟨rfl,rfl⟩
  go_wp2_with fail
  refine(jw _ _).mono ?_
  rintro e' wn ⟨rfl,rfl⟩
  go_wp2_with fail
  go_ret
  exact⟨congrArg (fun b=>Ending.returned (.bool b)) (show(z != -2)=true by simpa using hz),HB7.out.1⟩
theorem zaD (s a v:zgS)(k:Int)(st:St)(w:World)(h:Calls Tryz.prog 34 #[.string s,.string a,.string v,.string ⟨#[]⟩] w fun e w'=>z2d s a v ⟨#[]⟩ st w e w')(E:Int)(hE:grM s a v ⟨#[]⟩ st=E)(hn:(E !=0)=true):
  Calls Tryz.prog 26 #[.string s,.int .i64 k,.string a,.string v] w fun e w'=>z0o ⟨#[]⟩ E w e w':=by
 have HC:=z8 h
 have HE:=z8 hE
 clear h hE
 go_enter Tryz.func26,Tryz.ntmps26
 go_wp2_with fail
 refine HC.out.mono ?_
 rintro e w1 ⟨x1,x2,x3,x4,x5,x6,x7,rfl,hB1,⟨a1,n1,k1,rfl⟩,⟨a2,n2,k2,rfl⟩,⟨a3,n3,k3,rfl⟩,⟨a4,n4,k4,rfl⟩,⟨a5,n5,k5,rfl⟩,⟨a6,n6,k6,rfl⟩,⟨a7,n7,k7,rfl⟩,hG⟩
 rw [HE.out] at*
 have HB2:=z8 (hB1.alloc hB1.size (.cells #[.int .i64 E,.slice a1 n1 k1,.slice a2 n2 k2,.slice a3 n3 k3,.slice a4 n4 k4,.slice a5 n5 k5,.slice a6 n6 k6,.slice a7 n7 k7] 58))
 clear hG hB1 HC HE
 go_wp2_with fail
 go_quiet (fail)
 go_wp2_with fail
 go_ret2
 exact⟨rfl,⟨HB2.out.os,HB2.out.tape,HB2.out.output,HB2.out.size,HB2.out.block⟩⟩
theorem z7A (s a v:zgS)(k:Int){n:Nat}{st:St}(hs:s.size≤600)(ha:a.size≤maxLen)(hv:v.size≤maxLen)(hM:MR s n st0=some st)(hA:st.A.length≤10010)(hL:st.L.length≤10010)(hE:st.E.length≤10010)(hC:st.C.length≤10010)(w:World):Calls Tryz.prog 26 #[.string s,.int .i64 k,.string a,.string v] w fun e w'=>z0o (coM s a v k st).1 (coM s a v k st).2 w e w':=by
 by_cases h:a.size≤100∧v.size≤60
 ·have hz:Sz st:=z8O s hs n st0 st hM ⟨fun x h=>(by cases h),fun x h=>(by cases h),fun x h=>(by cases h),fun x h=>(by cases h)⟩
  have hcl:=z9F s n st0 st hM (fun c h=>by cases h)
  have hra:=z2i a (by omega)
  have hvl:=z3s v
  have hW:=fun h0=>z3L (a:=a) (v:=v) (q:=⟨#[]⟩) hM (by omega) h0
  have h1: ∀w,Calls Tryz.prog 45 #[.string s] w fun e w'=>z2t s w st e w':=fun w=>jz s n st w hM hs (by omega) (by omega) (by omega)
  exact zdo s a v k st w (z1p s a v ⟨#[]⟩ st w hs h.1 h.2 (zgO _) h1 (by omega) hcl hvl) (by omega) (by omega) (by omega) hcl hvl hra.2 hra.1 hz.1 (fun h0 x hx=>(hW h0 x hx).1)
 ·have e0:(⟨#[]⟩:zgS).size=0:=rfl
  have h1:grM s a v ⟨#[]⟩ st=1:=by unfold grM;rw [if_pos];simp [e0];omega
  have e:coM s a v k st=(⟨#[]⟩,1):=by unfold coM;rw [h1];rfl
  rw [e]
  have hm:(600:Nat)≤maxLen:=by unfold maxLen;omega
  exact zaD s a v k st w (z3x s a v ⟨#[]⟩ st w (by omega) ha hv (zgO _) (by omega)) 1 h1 rfl
theorem zf4 {s a v q:zgS}{z:Int}{n:Nat}{st:St}(h:LQ s a v q z)(hs:s.size≤600)(hM:MR s n st0=some st)(hb:st.bad=false):z=lqM s a v q st:=by
 rcases h with⟨m,u,h1,h2⟩|⟨h1,_⟩
 ·rw [zf2 hM hb h1] at h2;exact h2
 ·omega
theorem z5V (c:zgS):c.toList.isEmpty=decide (c.size=0):=by
 rw [z2M]
 cases h:(c.size==0) with
 |true=>rw [decide_eq_true (by simpa using h)]
 |false=>rw [decide_eq_false (by simpa using h)]
theorem z94 (kk n:Int)(S A V Q:zgS)(hS:S.size≤maxLen)(hA:A.size≤maxLen)(hV:V.size≤maxLen)(hQ:Q.size≤maxLen)(w:World):
  Calls Tryz.prog 16 #[.agg #[.int .i64 kk,.int .i64 n,.string S,.string A,.string V,.string Q]] w fun e w'=>e= .returned (.bool true)∧Below w.heap.size w w':=by
 by_cases hs:S.size≤600
 ·obtain⟨m,st,hM,g1,g2,g3,g4⟩:=z7B S hs
  have c1: ∀w,Calls Tryz.prog 45 #[.string S] w fun e w'=>z2t S w st e w':=fun w=>jz S m st w hM hs (by omega) (by omega) (by omega)
  have k1:=fun w=>z7T S st w (c1 w)
  by_cases h0:(ckM S st).1=0
  ·rw [h0] at k1
   obtain⟨t,hp⟩:=zbv hM hs (by omega) (by omega) h0 (World.holding Tryz.prog default ⟨#[],#[],[]⟩)
   have k2:=fun w=>z47 S st t w (c1 w) h0 hp (by omega) (by omega) (by omega) (by omega)
   by_cases ht:t.size≤600
   ·obtain⟨m2,u,hM2,f1,f2,f3,f4⟩:=z7B t ht
    have ag:=z8k hM h0 hp ht hM2
    have c2: ∀w,Calls Tryz.prog 45 #[.string t] w fun e w'=>z2t t w u e w':=fun w=>jz t m2 u w hM2 ht (by omega) (by omega) (by omega)
    obtain⟨t',hp'⟩:=zbv hM2 ht (by omega) (by omega) ag.ck (World.holding Tryz.prog default ⟨#[],#[],[]⟩)
    obtain rfl:=ag.pr t' hp'
    have k3:=fun w=>z47 t' u t' w (c2 w) ag.ck hp' (by omega) (by omega) (by omega) (by omega)
    have k4:=fun w=>z7A S A V n hs hA hV hM g1 g2 g3 g4 w
    have k5:=fun w=>z7A t' A V n ht hA hV hM2 f1 f2 f3 f4 w
    rw [ag.co] at k5
    obtain⟨z,lz,k6⟩:=zbR S A V Q hS hA hV hQ
    obtain⟨z',lz',k7⟩:=zbR t' A V Q (zgP ht (by unfold maxLen;omega)) hA hV hQ
    have e1:=zf4 lz hs hM (z4F.1 h0).2.1
    have e2:=zf4 lz' ht hM2 (z4F.1 ag.ck).2.1
    rw [ag.lq,←e1] at e2
    subst e2
    exact zaW kk n S A V Q t' _ _ _ z' (by omega) (by have:=lz.ge;omega) (decide (t'.size=0)) (z5V _) (by rw [z5V];exact decide_eq_decide.2 ag.e.symm) k1 k2 k3 k4 k5 k6 k7 w
   ·exact z8j kk n S A V Q t _ (by omega) k1 k2 w
  ·exact z5T kk n S A V Q _ _ h0 k1 (fun w=>z7Y S st w (c1 w) h0) w
 ·have h0:(ckM S st0).1≠0:=by unfold ckM;rw [if_pos (by omega)];decide
  exact z5T kk n S A V Q _ _ h0 (fun w=>z7T S st0 w (z2B S st0 w (by omega) hS)) (fun w=>z7Y S st0 w (z2B S st0 w (by omega) hS) h0) w
theorem z8f (b off len cap:Nat)(K N:Nat→Int)(S A V Q:Nat→zgS)(w:World)(h:Ops w b off len K N S A V Q)(hlen:len≤maxLen)(ht:Tab w)
  (hp: ∀i wr,i<len→Below w.heap.size w wr→Calls Tryz.prog 16 #[.agg #[.int .i64 (K i),.int .i64 (N i),.string (S i),.string (A i),.string (V i),.string (Q i)]] wr fun e w'=>e= .returned (.bool true)∧Below wr.heap.size wr w'):
  Calls Tryz.prog 10 #[.slice (some ⟨b,off,none⟩) len cap] w fun e w'=>e= .returned (.bool true)∧Below w.heap.size w w':=by
 have HO:=z8 h
 have HP:=z8 hp
 have HT:=z8 ht
 clear h hp ht
 have hl63:len≤9223372036854775807:=by unfold maxLen at hlen;omega
 clear hlen
 go_enter Tryz.func10,Tryz.ntmps10
 go_wp2_with fail
 refine(z5Z _ HT.out).mono ?_
 rintro e w1 ⟨rfl,hB1⟩
 have HB1:=z8 hB1
 clear hB1
 go_wp2_with fail
 go_loopg [4,5] (1152921504606846976+1) (fun g iv _ wr=> ∃i:Nat,g+i=1152921504606846976+1∧i≤1152921504606846976∧i≤len∧iv= .int .i64 i∧Below w.heap.size w wr)
 case atStart=>exact⟨0,rfl,zgO _,zgO _,rfl,HB1.out⟩
 case round=>
  obtain⟨i,hgk,hi60,hil,rfl,hB⟩:=hrel
  have HGK:=z8 hgk
  have HB:=z8 hB
  clear hgk
  by_cases hlt:i<len
  ·by_cases h60:i<1152921504606846976
   ·have hb:=HO.out.lt (by omega)
    have c0:=(hB.cell (p:=⟨b,off+i*6,none⟩) hb).trans (HO.out.c0 i hlt)
    have c1:=(hB.cell (p:=⟨b,off+i*6+1,none⟩) hb).trans (HO.out.c1 i hlt)
    have c2:=(hB.cell (p:=⟨b,off+i*6+2,none⟩) hb).trans (HO.out.c2 i hlt)
    have c3:=(hB.cell (p:=⟨b,off+i*6+3,none⟩) hb).trans (HO.out.c3 i hlt)
    have c4:=(hB.cell (p:=⟨b,off+i*6+4,none⟩) hb).trans (HO.out.c4 i hlt)
    have c5:=(hB.cell (p:=⟨b,off+i*6+5,none⟩) hb).trans (HO.out.c5 i hlt)
    have hli:(i:Int)<len:=by omega
    have h60i:(i:Int)<1152921504606846976:=by omega
    have hPi:=z8 (HP.out i)
    have hz1:w.heap.size≤wr.heap.size:=hB.size
    clear hB
    generalize K i=ki at*
    generalize N i=ni at*
    generalize S i=si at*
    generalize A i=ai at*
    generalize V i=vi at*
    generalize Q i=qi at*
    go_wp2_with fail
    refine(hPi.out _ hlt HB.out).mono ?_
    rintro e w1 ⟨rfl,hb1⟩
    have HB2:=z8 (HB.out.trans (hb1.mono HB.out.size))
    clear hb1
    go_wp2_with fail
    go_roundg (1152921504606846976 - i)
    case measure=>have:=HGK.out;omega
    case rel=>exact⟨i+1,by have:=HGK.out;omega,by omega,by omega,by go_num,HB2.out⟩
   ·have hli:(i:Int)<len:=by omega
    have h60i: ¬(i:Int)<1152921504606846976:=by omega
    go_wp2_with fail
    go_ret
    exact⟨rfl,HB.out⟩
  ·have hli: ¬(i:Int)<len:=by omega
   go_wp2_with fail
   go_ret
   exact⟨rfl,HB.out⟩
end Go.Proofs.YtkoohcilbpdgeaaGreatDoor
namespace Go.Proofs.YtkoohcilbpdgeaaGreatDoor
open Go Go.ChangeShapes Go.WideShapes Go.ChangeAt Go.RowKit Go.Deep
theorem zdC {W:World}(h:laidMetH Tryz.prog Rows.againRow.laid W):Tab W:=by
 have h1:laidMet Tryz.prog Rows.againRow.laid W:=h
 have h2:=h1.tail.tail
 exact Lib.tabIs_of_head (g:=0) (t:=195) (e:=186) (n:=20) (by kernel_rfl) (by kernel_rfl) (by kernel_rfl) (by kernel_rfl) (by kernel_rfl) (by kernel_rfl) h2
theorem z4A (a:Option Addr)(cap:Nat)(w:World)(ht:Tab w):Calls Tryz.prog 10 #[.slice a 0 cap] w fun e w'=>e= .returned (.bool true)∧Below w.heap.size w w':=by
 have HT:=z8 ht
 clear ht
 go_enter Tryz.func10,Tryz.ntmps10
 go_wp2_with fail
 refine(z5Z _ HT.out).mono ?_
 rintro e w1 ⟨rfl,hB1⟩
 have HB1:=z8 hB1
 clear hB1
 go_wp2_with fail
 go_loopg [4,5] 1 (fun g iv _ wr=>iv= .int .i64 0∧Below w.heap.size w wr)
 case atStart=>exact⟨rfl,HB1.out⟩
 case round=>
  obtain⟨rfl,hB⟩:=hrel
  have HB:=z8 hB
  clear hB
  go_wp2_with fail
  go_ret
  exact⟨rfl,HB.out⟩
theorem z5Q {H:Type}{enc:TypeId×Value→H}{W:World}{base:Nat}{v:Value}{d:DataW H}{p:List MemPlace}(hval:Value.okWide Tryz.prog W .any base 22 v)(h:DataW.Trod enc Tryz.prog W 0 (fun _=>true) true 22 v d p)(hlt: ∀x∈p,x.block<W.heap.size)(ht:Tab W):
  Calls Tryz.prog 10 #[v] W fun e w'=>e= .returned (.bool true)∧Below W.heap.size W w':=by
 rcases z76 hval h hlt with rfl|⟨b,off,len,cap,K,N,S,A,V,Q,rfl,hl,ho,hs⟩|⟨a,cap,rfl⟩
 ·exact z4A none 0 W ht
 ·refine z8f b off len cap K N S A V Q W ho hl ht fun i wr hi hb=> ?_
  obtain⟨q1,q2,q3,q4⟩:=hs i hi
  exact z94 _ _ _ _ _ _ q1 q2 q3 q4 wr
 ·exact z4A _ cap W ht
theorem z4k (H:Type)(enc:TypeId×Value→H)(W:World)(base:Nat)(args:Array Value)(ds gs:List (DataW H))(before:List MemPlace)
  (hval: ∀(j:Nat) t v,Tryz.f10.params[j]?=some t→args[j]?=some v→Value.okWide Tryz.prog W .any base t v)
  (hW:DataW.Whole enc Tryz.prog Tryz.f10.params.toList Rows.againSpec.vars false W args.toList ds gs before) (hT:Tab W):
  Calls Tryz.prog 10 args W fun e W'=> ∃v,e= .returned v∧Rows.againSpec.post enc Tryz.prog Tryz.f10 false true false false W args v W':=by
 have hW':=hW
 obtain⟨p,q,hA0,hV,rfl,_,_⟩:=hW
 have hA:DataW.TrodAll enc Tryz.prog W 0 (fun _=>true) true Tryz.f10.params.toList args.toList ds p:=hA0
 rw [Tryz.params10] at hA hval
 obtain⟨v0,d0,rfl,rfl,h0⟩:=trodAll_one hA
 obtain⟨rfl,rfl⟩:=trodVars_none hV
 clear hA0
 simp only [List.append_nil] at hW'
 have hlt: ∀x∈p,x.block<W.heap.size:=fun x hx=>by simpa using hW'.lt x hx
 have hcall:=z5Q (hval 0 22 v0 rfl rfl) h0 hlt hT
 refine hcall.mono fun e W' ⟨he,hb⟩=> ?_
 subst he
 exact⟨_,rfl,⟨_,_,_,[],_,[],hW',trodAll_mk1 (shut_bool Tryz.underlying4 true),trodAll_mk1 (Below.trod zdr (by kernel_rfl) (of_decide_eq_true (by kernel_rfl)) h0 hb hlt),rfl,hb.frame _,fun h=>by cases h⟩⟩
theorem z4q (os:Os):laidMet Tryz.prog Rows.againRow.laid (({World.holding Tryz.prog os ⟨#[],#[],[]⟩ with heap:=(((World.holding Tryz.prog os ⟨#[],#[],[]⟩).heap.modify 0 (z2C #[.int .u64 1,.int .u64 10,.int .u64 100,.int .u64 1000,.int .u64 10000,.int .u64 100000,.int .u64 1000000,.int .u64 10000000,.int .u64 100000000,.int .u64 1000000000,.int .u64 10000000000,.int .u64 100000000000,.int .u64 1000000000000,.int .u64 10000000000000,.int .u64 100000000000000,.int .u64 1000000000000000,.int .u64 10000000000000000,.int .u64 100000000000000000,.int .u64 1000000000000000000,.int .u64 10000000000000000000])).modify 1 (z2C #[.int .u8 0,.int .u8 1,.int .u8 28,.int .u8 2,.int .u8 29,.int .u8 14,.int .u8 24,.int .u8 3,.int .u8 30,.int .u8 22,.int .u8 20,.int .u8 15,.int .u8 25,.int .u8 17,.int .u8 4,.int .u8 8,.int .u8 31,.int .u8 27,.int .u8 13,.int .u8 23,.int .u8 21,.int .u8 19,.int .u8 16,.int .u8 7,.int .u8 26,.int .u8 12,.int .u8 18,.int .u8 6,.int .u8 11,.int .u8 5,.int .u8 10,.int .u8 9])).modify 2 (z2C #[.int .u8 0,.int .u8 1,.int .u8 56,.int .u8 2,.int .u8 57,.int .u8 49,.int .u8 28,.int .u8 3,.int .u8 61,.int .u8 58,.int .u8 42,.int .u8 50,.int .u8 38,.int .u8 29,.int .u8 17,.int .u8 4,.int .u8 62,.int .u8 47,.int .u8 59,.int .u8 36,.int .u8 45,.int .u8 43,.int .u8 51,.int .u8 22,.int .u8 53,.int .u8 39,.int .u8 33,.int .u8 30,.int .u8 24,.int .u8 18,.int .u8 12,.int .u8 5,.int .u8 63,.int .u8 55,.int .u8 48,.int .u8 27,.int .u8 60,.int .u8 41,.int .u8 37,.int .u8 16,.int .u8 46,.int .u8 35,.int .u8 44,.int .u8 21,.int .u8 52,.int .u8 32,.int .u8 23,.int .u8 11,.int .u8 54,.int .u8 26,.int .u8 40,.int .u8 15,.int .u8 34,.int .u8 20,.int .u8 31,.int .u8 10,.int .u8 25,.int .u8 14,.int .u8 19,.int .u8 9,.int .u8 13,.int .u8 8,.int .u8 7,.int .u8 6])}:World).forCall (fun _ _=>0) ⟨#[],#[.slice none 0 0],[]⟩).memory:=
 laidMet_of_run' 8 (by kernel_rfl) (by kernel_rfl)
theorem z6t (os:Os){H:Type}(enc:TypeId×Value→H): ∃places,DataW.whole enc Tryz.prog (({World.holding Tryz.prog os ⟨#[],#[],[]⟩ with heap:=(((World.holding Tryz.prog os ⟨#[],#[],[]⟩).heap.modify 0 (z2C #[.int .u64 1,.int .u64 10,.int .u64 100,.int .u64 1000,.int .u64 10000,.int .u64 100000,.int .u64 1000000,.int .u64 10000000,.int .u64 100000000,.int .u64 1000000000,.int .u64 10000000000,.int .u64 100000000000,.int .u64 1000000000000,.int .u64 10000000000000,.int .u64 100000000000000,.int .u64 1000000000000000,.int .u64 10000000000000000,.int .u64 100000000000000000,.int .u64 1000000000000000000,.int .u64 10000000000000000000])).modify 1 (z2C #[.int .u8 0,.int .u8 1,.int .u8 28,.int .u8 2,.int .u8 29,.int .u8 14,.int .u8 24,.int .u8 3,.int .u8 30,.int .u8 22,.int .u8 20,.int .u8 15,.int .u8 25,.int .u8 17,.int .u8 4,.int .u8 8,.int .u8 31,.int .u8 27,.int .u8 13,.int .u8 23,.int .u8 21,.int .u8 19,.int .u8 16,.int .u8 7,.int .u8 26,.int .u8 12,.int .u8 18,.int .u8 6,.int .u8 11,.int .u8 5,.int .u8 10,.int .u8 9])).modify 2 (z2C #[.int .u8 0,.int .u8 1,.int .u8 56,.int .u8 2,.int .u8 57,.int .u8 49,.int .u8 28,.int .u8 3,.int .u8 61,.int .u8 58,.int .u8 42,.int .u8 50,.int .u8 38,.int .u8 29,.int .u8 17,.int .u8 4,.int .u8 62,.int .u8 47,.int .u8 59,.int .u8 36,.int .u8 45,.int .u8 43,.int .u8 51,.int .u8 22,.int .u8 53,.int .u8 39,.int .u8 33,.int .u8 30,.int .u8 24,.int .u8 18,.int .u8 12,.int .u8 5,.int .u8 63,.int .u8 55,.int .u8 48,.int .u8 27,.int .u8 60,.int .u8 41,.int .u8 37,.int .u8 16,.int .u8 46,.int .u8 35,.int .u8 44,.int .u8 21,.int .u8 52,.int .u8 32,.int .u8 23,.int .u8 11,.int .u8 54,.int .u8 26,.int .u8 40,.int .u8 15,.int .u8 34,.int .u8 20,.int .u8 31,.int .u8 10,.int .u8 25,.int .u8 14,.int .u8 19,.int .u8 9,.int .u8 13,.int .u8 8,.int .u8 7,.int .u8 6])}:World).forCall (fun _ _=>0) ⟨#[],#[.slice none 0 0],[]⟩).memory Tryz.f10.params.toList Rows.againSpec.vars false #[Value.slice none 0 0].toList 8=some ([.nil],[],places):=
 ⟨[],by kernel_rfl⟩
theorem z5I (os:Os)(started:os.Started)(H:Type)(enc:TypeId×Value→H)(F:Stop.Interp):
  ReturnsInHanded {} Tryz.checked os 10 .any ((OpenSpec.ofChange Rows.againSpec).preRow enc Tryz.prog Tryz.f10 Rows.againRow.domain false Rows.againRow.laid) (((OpenSpec.ofChange Rows.againSpec).at F).post enc Tryz.prog Tryz.f10 false true false false):=by
 obtain⟨places,hx⟩:=z6t os enc
 refine returnsInHanded_of_row (C:=Tryz.checked) (s:=OpenSpec.ofChange Rows.againSpec) own started (by kernel_rfl) Tryz.func10
  (witness_row_at (enc:=enc) (C:=Tryz.checked) false ({World.holding Tryz.prog os ⟨#[],#[],[]⟩ with heap:=(((World.holding Tryz.prog os ⟨#[],#[],[]⟩).heap.modify 0 (z2C #[.int .u64 1,.int .u64 10,.int .u64 100,.int .u64 1000,.int .u64 10000,.int .u64 100000,.int .u64 1000000,.int .u64 10000000,.int .u64 100000000,.int .u64 1000000000,.int .u64 10000000000,.int .u64 100000000000,.int .u64 1000000000000,.int .u64 10000000000000,.int .u64 100000000000000,.int .u64 1000000000000000,.int .u64 10000000000000000,.int .u64 100000000000000000,.int .u64 1000000000000000000,.int .u64 10000000000000000000])).modify 1 (z2C #[.int .u8 0,.int .u8 1,.int .u8 28,.int .u8 2,.int .u8 29,.int .u8 14,.int .u8 24,.int .u8 3,.int .u8 30,.int .u8 22,.int .u8 20,.int .u8 15,.int .u8 25,.int .u8 17,.int .u8 4,.int .u8 8,.int .u8 31,.int .u8 27,.int .u8 13,.int .u8 23,.int .u8 21,.int .u8 19,.int .u8 16,.int .u8 7,.int .u8 26,.int .u8 12,.int .u8 18,.int .u8 6,.int .u8 11,.int .u8 5,.int .u8 10,.int .u8 9])).modify 2 (z2C #[.int .u8 0,.int .u8 1,.int .u8 56,.int .u8 2,.int .u8 57,.int .u8 49,.int .u8 28,.int .u8 3,.int .u8 61,.int .u8 58,.int .u8 42,.int .u8 50,.int .u8 38,.int .u8 29,.int .u8 17,.int .u8 4,.int .u8 62,.int .u8 47,.int .u8 59,.int .u8 36,.int .u8 45,.int .u8 43,.int .u8 51,.int .u8 22,.int .u8 53,.int .u8 39,.int .u8 33,.int .u8 30,.int .u8 24,.int .u8 18,.int .u8 12,.int .u8 5,.int .u8 63,.int .u8 55,.int .u8 48,.int .u8 27,.int .u8 60,.int .u8 41,.int .u8 37,.int .u8 16,.int .u8 46,.int .u8 35,.int .u8 44,.int .u8 21,.int .u8 52,.int .u8 32,.int .u8 23,.int .u8 11,.int .u8 54,.int .u8 26,.int .u8 40,.int .u8 15,.int .u8 34,.int .u8 20,.int .u8 31,.int .u8 10,.int .u8 25,.int .u8 14,.int .u8 19,.int .u8 9,.int .u8 13,.int .u8 8,.int .u8 7,.int .u8 6])}:World) #[.slice none 0 0] rfl (by kernel_rfl) (by kernel_rfl) (by kernel_rfl)
   (OpenSpec.preRow_of_cond 8 hx (by kernel_rfl) (fun k hk=>by cases hk) (by kernel_rfl) (z4q os))) ?_
 intro W base args ds gs before hval hW _ _ _ hL _ _
 exact z4k H enc W base args ds gs before hval hW (zdC hL)
theorem z8d:Rows.AgainSaid:=
 OpenClaim.holds_of_cond 10 Tryz.f10 rfl rfl rfl rfl rfl rfl rfl ⟨rfl,rfl,rfl,rfl,rfl⟩ rfl rfl rfl rfl rfl (by kernel_rfl) Tryz.func10 (by kernel_rfl)
  (of_decide_eq_true (by kernel_rfl)) (by unfold Func.isWrapper;first|(rw [if_pos (by decide+kernel)];kernel_rfl)|(rw [if_neg (by decide+kernel)];exact⟨rfl,rfl⟩))
  (fun os started H enc _ F=>by rw [OpenClaim.pre_eq_preRow];exact z5I os started H enc F)
theorem z6C (f:FuncId)(fn:Func)(hf:Tryz.pinned.checked.prog.funcNamed "trustquery/trustquerylaw.Again" =some f)(hfn:Tryz.pinned.checked.prog.funcs[f]?=some fn):
  false=Tryz.pinned.checked.prog.looks []∧ ∀(j:Nat) t,fn.params[j]?=some t→Tryz.pinned.checked.prog.wantsStandIn t=false:=by
 obtain rfl:f=10:=Option.some.inj ((show Tryz.prog.funcNamed "trustquery/trustquerylaw.Again" =some 10 by kernel_rfl).symm.trans hf)|>.symm
 obtain rfl:fn=Tryz.f10:=(Option.some.inj (Tryz.func10.symm.trans hfn)).symm
 refine⟨by kernel_rfl,fun j t ht=> ?_⟩
 rw [Tryz.params10] at ht
 obtain rfl:t=22:=by simpa using Array.mem_of_getElem? ht
 exact(show Tryz.prog.wantsStandIn 22=false by kernel_rfl)
theorem again_card:Rows.AgainCardSaid:=
 Claim7.holds_tied_plain_at .later [] _ _ _ _ z8d (fun _ h=>by cases h) (by kernel_rfl) (fun _ h=>by cases h) again_row_tie rfl ⟨rfl,rfl⟩ (by kernel_rfl) rfl z6C (by kernel_rfl)
end Go.Proofs.YtkoohcilbpdgeaaGreatDoor
