import Derived.Test.YtkoohcilbpdgeaaGreatDoorC17
set_option linter.all false
set_option linter.unusedVariables false
set_option linter.unusedSimpArgs false
set_option linter.unnecessarySimpa false
set_option linter.constructorNameAsVariable false
set_option linter.deprecated false
namespace Go.Proofs.YtkoohcilbpdgeaaGreatDoor
open Go Go.RowKit

theorem beq_l {op : ByteArray} {l : List UInt8} (h : op.data.toList = l) (m : List UInt8) : (op.toList == m) = (l == m) := by rw [ByteArray.toList_eq, h]
/-- A node without parts that is shown by its text. -/
theorem shn_leaf {w : World} {op tx : ByteArray} (l : List UInt8) (h : op.data.toList = l) (htx : tx.size ≤ 600) (hl : l.length ≤ 600)
    (h0 : (l == [110] || l == [33]) = false) (h1 : (l == [111, 102]) = false) (h2 : (l == [97, 108, 108]) = false) (h3 : (l == [105, 102]) = false) (h4 : plain op = true) : ShN w op tx [] [] false := by
  refine ⟨htx, ?_, rfl, by simp, fun i => by simp; decide, fun e => ?_, fun e => ?_, fun e => ?_, fun e => ?_, fun e => ?_⟩
  · have : op.size = op.data.toList.length := by simp
    rw [this, h]; exact hl
  · rw [beq_l h, beq_l h, h0] at e; cases e
  · rw [beq_l h, h1] at e; cases e
  · rw [beq_l h, h2] at e; cases e
  · rw [beq_l h, h3] at e; cases e
  · rw [h4] at e; cases e
theorem no_kids {w : World} {ts : List ByteArray} : ∀ (i : Nat) (vi : Value) (wr : World), ([] : List Value)[i]? = some vi → Below w.heap.size w wr → Calls Tryz.prog 50 #[vi] wr fun e w' => StrPost (ts.getD i ⟨#[]⟩) wr e w' := fun i vi wr h => by simp at h
theorem leaf5_l {op : ByteArray} {l : List UInt8} (h : op.data.toList = l) : leaf5 op = (l == [110, 97, 109, 101] || l == [97, 116, 116, 114] || l == [110, 117, 109] || l == [116, 114, 117, 101] || l == [102, 97, 108, 115, 101]) := by
  unfold leaf5; simp only [beq_l h]
theorem endS_leaf {op tx : ByteArray} {l : List UInt8} (h : op.data.toList = l) (ts : List ByteArray) (ak : Bool) (hl : (l == [110, 97, 109, 101] || l == [97, 116, 116, 114] || l == [110, 117, 109] || l == [116, 114, 117, 101] || l == [102, 97, 108, 115, 101]) = true) : endS op tx ts ak = tx := by
  unfold endS; rw [leaf5_l h, hl]; rfl
theorem plain_leaf {op : ByteArray} (h : leaf5 op = true) : plain op = true := by unfold plain; rw [h]; simp
theorem shown_leaf {X : Nat → Prop} {w : World} {v : Value} {op tx : ByteArray} {a : Int} (h : NodeX X w v op tx a []) (l : List UInt8) (hl : op.data.toList = l) (htx : tx.size ≤ 600) (hlen : l.length ≤ 600)
    (h0 : (l == [110] || l == [33]) = false) (h1 : (l == [111, 102]) = false) (h2 : (l == [97, 108, 108]) = false) (h3 : (l == [105, 102]) = false) (h5 : (l == [110, 97, 109, 101] || l == [97, 116, 116, 114] || l == [110, 117, 109] || l == [116, 114, 117, 101] || l == [102, 97, 108, 115, 101]) = true) :
    Calls Tryz.prog 50 #[v] w fun e w' => StrPost tx w e w' := by
  have := shown_node h [] false (shn_leaf l hl htx hlen h0 h1 h2 h3 (plain_leaf (by rw [leaf5_l hl]; exact h5))) no_kids
  rw [endS_leaf hl _ _ h5] at this
  exact this
theorem sign_ne {op : ByteArray} (h : isSignB op = true) (l : List UInt8) (hl : (l == [124, 124] || l == [38, 38] || l == [61, 61] || l == [33, 61] || l == [60] || l == [60, 61] || l == [62] || l == [62, 61] || l == [43] || l == [45] || l == [46] || l == [42] || l == [47] || l == [37]) = false) : (op.toList == l) = false := by
  cases e : (op.toList == l)
  · rfl
  · have := eq_of_beq e
    unfold isSignB at h
    rw [this, hl] at h
    cases h
theorem sign_plain {op : ByteArray} (h : isSignB op = true) : leaf5 op = false ∧ plain op = false := by
  have e : leaf5 op = false := by
    unfold leaf5
    rw [sign_ne h _ (by decide), sign_ne h _ (by decide), sign_ne h _ (by decide), sign_ne h _ (by decide), sign_ne h _ (by decide)]; rfl
  refine ⟨e, ?_⟩
  unfold plain
  rw [e, sign_ne h _ (by decide), sign_ne h _ (by decide), sign_ne h _ (by decide), sign_ne h _ (by decide), sign_ne h _ (by decide), sign_ne h _ (by decide), sign_ne h _ (by decide)]; rfl
theorem endS_pair {op tx : ByteArray} (h : isSignB op = true) (ts : List ByteArray) (ak : Bool) : endS op tx ts ak = pairB (ts.getD 0 ⟨#[]⟩) op (ts.getD 1 ⟨#[]⟩) := by
  unfold endS
  rw [(sign_plain h).1, sign_ne h [115, 116, 114] (by decide), sign_ne h [97, 116] (by decide), sign_ne h [110] (by decide), sign_ne h [33] (by decide), sign_ne h [111, 102] (by decide), sign_ne h [97, 108, 108] (by decide), sign_ne h [105, 102] (by decide)]
  rfl
theorem getD2 {t1 t2 : ByteArray} (h1 : t1.size ≤ 1000000000) (h2 : t2.size ≤ 1000000000) (i : Nat) : (([t1, t2] : List ByteArray).getD i ⟨#[]⟩).size ≤ 1000000000 := by
  match i with
  | 0 => exact h1
  | 1 => exact h2
  | i + 2 => show ByteArray.size ⟨#[]⟩ ≤ _; decide
theorem getD1 {t1 : ByteArray} (h1 : t1.size ≤ 1000000000) (i : Nat) : (([t1] : List ByteArray).getD i ⟨#[]⟩).size ≤ 1000000000 := by
  match i with
  | 0 => exact h1
  | i + 1 => show ByteArray.size ⟨#[]⟩ ≤ _; decide
theorem shown_pair {X : Nat → Prop} {w : World} {v v1 v2 : Value} {op : ByteArray} {a : Int} {t1 t2 : ByteArray} (h : NodeX X w v op ⟨#[]⟩ a [v1, v2]) (hs : isSignB op = true) (hop : op.size ≤ 600) (hs1 : t1.size ≤ 1000000000) (hs2 : t2.size ≤ 1000000000)
    (hk1 : ∀ wr, Below w.heap.size w wr → Calls Tryz.prog 50 #[v1] wr fun e w' => StrPost t1 wr e w') (hk2 : ∀ wr, Below w.heap.size w wr → Calls Tryz.prog 50 #[v2] wr fun e w' => StrPost t2 wr e w') :
    Calls Tryz.prog 50 #[v] w fun e w' => StrPost (pairB t1 op t2) w e w' := by
  have := shown_node h [t1, t2] false ⟨by decide, hop, rfl, by simp, getD2 hs1 hs2, fun _ => by simp, fun e => (by rw [sign_ne hs _ (by decide)] at e; cases e), fun e => (by rw [sign_ne hs _ (by decide)] at e; cases e), fun e => (by rw [sign_ne hs _ (by decide)] at e; cases e), fun _ => by simp⟩ (fun i vi wr hvi hb => by
    match i, hvi with
    | 0, hvi => have e : v1 = vi := by simpa using hvi
                subst e; exact hk1 wr hb
    | 1, hvi => have e : v2 = vi := by simpa using hvi
                subst e; exact hk2 wr hb
    | i + 2, hvi => simp at hvi)
  rw [endS_pair hs] at this
  exact this

theorem shown_E {X : Nat → Prop} {E : List Ex} (hg : GoodE E) : ∀ (f g : Nat) (v : Value) (a i : Nat) (t : ByteArray) (w : World), RefEX X w E f v a i → PrE E g (i : Int) t → Calls Tryz.prog 50 #[v] w fun e w' => StrPost t w e w' := by
  intro f
  induction f with
  | zero => intro g v a i t w h; exact absurd h id
  | succ f ih =>
    intro g v a i t w ⟨x, hx, h⟩ hp
    cases g with
    | zero => exact absurd hp id
    | succ g =>
      obtain ⟨hsz, n, y, hi, hy, hys, hp⟩ := hp
      have hi : i = n := by omega
      subst hi
      have hxy : x = y := by rw [hx] at hy; exact Option.some.inj hy
      subst hxy
      rcases h with ⟨h1, h2, p, h3⟩ | ⟨h1, h2, p, h3⟩ | ⟨h1, h2, h4, p, h3⟩ | ⟨h1, h2, p, h3⟩ | ⟨h1, h2, p, h3⟩ | ⟨h1, v1, j, h2, h3, h4, h5⟩ | ⟨h1, v1, v2, j, k, h2, h3, h4, h5, h6, h7⟩
      · obtain rfl : t = x.text := by
          rcases hp with ⟨_, q⟩ | ⟨q, _⟩ | ⟨q, _⟩ | ⟨q, _⟩ | ⟨q, _⟩ | ⟨q, _⟩
          · exact q
          all_goals rw [h1] at q; cases q
        exact shown_leaf h3 [110, 117, 109] rfl hys (by decide) (by decide) (by decide) (by decide) (by decide) (by decide)
      · obtain rfl : t = ((⟨#[34]⟩ : ByteArray) ++ x.text) ++ ⟨#[34]⟩ := by
          rcases hp with ⟨q, _⟩ | ⟨_, q⟩ | ⟨q, _⟩ | ⟨q, _⟩ | ⟨q, _⟩ | ⟨q, _⟩
          · rcases q with q | q | q <;> rw [h1] at q <;> cases q
          · exact q
          all_goals rw [h1] at q; cases q
        have := shown_node h3 [] false (shn_leaf [115, 116, 114] rfl hys (by decide) (by decide) (by decide) (by decide) (by decide) (by unfold plain; rw [leaf5_l (op := sStr) (l := [115, 116, 114]) rfl]; simp only [beq_l (op := sStr) (l := [115, 116, 114]) rfl]; decide)) no_kids
        have e : endS sStr x.text [] false = ((⟨#[34]⟩ : ByteArray) ++ x.text) ++ ⟨#[34]⟩ := by
          unfold endS; rw [leaf5_l (op := sStr) (l := [115, 116, 114]) rfl, beq_l (op := sStr) (l := [115, 116, 114]) rfl [115, 116, 114]]; rfl
        rw [e] at this
        exact this
      · obtain rfl : t = x.text := by
          rcases hp with ⟨_, q⟩ | ⟨q, _⟩ | ⟨q, _⟩ | ⟨q, _⟩ | ⟨q, _⟩ | ⟨q, _⟩
          · exact q
          all_goals rw [h1] at q; cases q
        rcases h4 with h4 | h4
        · exact shown_leaf h3 _ h4 hys (by decide) (by decide) (by decide) (by decide) (by decide) (by decide)
        · exact shown_leaf h3 _ h4 hys (by decide) (by decide) (by decide) (by decide) (by decide) (by decide)
      · obtain rfl : t = x.text := by
          rcases hp with ⟨_, q⟩ | ⟨q, _⟩ | ⟨q, _⟩ | ⟨q, _⟩ | ⟨q, _⟩ | ⟨q, _⟩
          · exact q
          all_goals rw [h1] at q; cases q
        exact shown_leaf h3 [97, 116, 116, 114] rfl hys (by decide) (by decide) (by decide) (by decide) (by decide) (by decide)
      · obtain rfl : t = (⟨#[64]⟩ : ByteArray) ++ x.text := by
          rcases hp with ⟨q, _⟩ | ⟨q, _⟩ | ⟨_, q⟩ | ⟨q, _⟩ | ⟨q, _⟩ | ⟨q, _⟩
          · rcases q with q | q | q <;> rw [h1] at q <;> cases q
          · rw [h1] at q; cases q
          · exact q
          all_goals rw [h1] at q; cases q
        have := shown_node h3 [] false (shn_leaf [97, 116] rfl hys (by decide) (by decide) (by decide) (by decide) (by decide) (by unfold plain; rw [leaf5_l (op := sAt) (l := [97, 116]) rfl]; simp only [beq_l (op := sAt) (l := [97, 116]) rfl]; decide)) no_kids
        have e : endS sAt x.text [] false = (⟨#[64]⟩ : ByteArray) ++ x.text := by
          unfold endS; rw [leaf5_l (op := sAt) (l := [97, 116]) rfl, beq_l (op := sAt) (l := [97, 116]) rfl [115, 116, 114], beq_l (op := sAt) (l := [97, 116]) rfl [97, 116]]; rfl
        rw [e] at this
        exact this
      · obtain ⟨t1, hp1, ht⟩ : ∃ t1, PrE E g x.left t1 ∧ t = x.text ++ t1 := by
          rcases hp with ⟨q, _⟩ | ⟨q, _⟩ | ⟨q, _⟩ | ⟨_, q⟩ | ⟨q, _⟩ | ⟨q, _⟩
          · rcases q with q | q | q <;> rw [h1] at q <;> cases q
          · rw [h1] at q; cases q
          · rw [h1] at q; cases q
          · exact q
          all_goals rw [h1] at q; cases q
        subst ht
        rw [h3] at hp1
        have hk : ∀ (i : Nat) (vi : Value) (wr : World), [v1][i]? = some vi → Below w.heap.size w wr → Calls Tryz.prog 50 #[vi] wr fun e w' => StrPost (([t1] : List ByteArray).getD i ⟨#[]⟩) wr e w' := fun i vi wr hvi hb => by
          match i, hvi with
          | 0, hvi =>
            have e : v1 = vi := by simpa using hvi
            subst e
            exact ih g v1 a j t1 wr (h5.keepX (below_same hb)) hp1
          | i + 1, hvi => simp at hvi
        have hs1 := hp1.sz
        rcases h4 with ⟨q1, q2⟩ | ⟨q1, q2⟩
        · have e : ∀ m, (sNot.toList == m) = (([33] : List UInt8) == m) := beq_l (op := sNot) (l := [33]) rfl
          have := shown_node q2 [t1] false ⟨by decide, by decide, rfl, by simp, getD1 hs1, fun _ => by simp, fun q => (by rw [e] at q; cases q), fun q => (by rw [e] at q; cases q), fun q => (by rw [e] at q; cases q), fun q => by unfold plain at q; rw [leaf5_l (op := sNot) (l := [33]) rfl] at q; simp only [e] at q; exact absurd q (by decide)⟩ hk
          have e2 : endS sNot ⟨#[]⟩ [t1] false = x.text ++ t1 := by
            rw [q1]; unfold endS; rw [leaf5_l (op := sNot) (l := [33]) rfl]; simp only [e]; rfl
          rw [e2] at this
          exact this
        · have e : ∀ m, (sN.toList == m) = (([110] : List UInt8) == m) := beq_l (op := sN) (l := [110]) rfl
          have := shown_node q2 [t1] false ⟨by decide, by decide, rfl, by simp, getD1 hs1, fun _ => by simp, fun q => (by rw [e] at q; cases q), fun q => (by rw [e] at q; cases q), fun q => (by rw [e] at q; cases q), fun q => by unfold plain at q; rw [leaf5_l (op := sN) (l := [110]) rfl] at q; simp only [e] at q; exact absurd q (by decide)⟩ hk
          have e2 : endS sN ⟨#[]⟩ [t1] false = x.text ++ t1 := by
            rw [q1]; unfold endS; rw [leaf5_l (op := sN) (l := [110]) rfl]; simp only [e]; rfl
          rw [e2] at this
          exact this
      · obtain ⟨t1, t2, hp1, hp2, ht⟩ : ∃ t1 t2, PrE E g x.left t1 ∧ PrE E g x.right t2 ∧ t = pairB t1 x.text t2 := by
          rcases hp with ⟨q, _⟩ | ⟨q, _⟩ | ⟨q, _⟩ | ⟨q, _⟩ | ⟨_, q⟩ | ⟨q, _⟩
          · rcases q with q | q | q <;> rw [h1] at q <;> cases q
          · rw [h1] at q; cases q
          · rw [h1] at q; cases q
          · rw [h1] at q; cases q
          · exact q
          · rw [h1] at q; cases q
        subst ht
        rw [h3] at hp1
        rw [h4] at hp2
        exact shown_pair h5 ((hg x (mem_of_get hx)).2 h1) hys hp1.sz hp2.sz (fun wr hb => ih g v1 a j t1 wr (h6.keepX (below_same hb)) hp1) (fun wr hb => ih g v2 (j + 1) k t2 wr (h7.keepX (below_same hb)) hp2)
end Go.Proofs.YtkoohcilbpdgeaaGreatDoor

namespace Go.Proofs.YtkoohcilbpdgeaaGreatDoor
open Go Go.RowKit

theorem segV_get {P : Value → Nat → Nat → Prop} : ∀ (vs : List Value) (is : List Int) (a e k : Nat) (v : Value), SegV P vs is a e → vs[k]? = some v → ∃ a' j : Nat, is[k]? = some (j : Int) ∧ P v a' j := by
  intro vs
  induction vs with
  | nil => intro is a e k v _ h; simp at h
  | cons u vs ih =>
    intro is a e k v h hv
    cases is with
    | nil => exact absurd h id
    | cons i is =>
      obtain ⟨j, h1, h2, h3⟩ := h
      cases k with
      | zero =>
        have : u = v := by simpa using hv
        subst this
        exact ⟨a, j, by simp [h1], h2⟩
      | succ k => exact ih is _ _ k v h3 (by simpa using hv)
theorem all2_sz {α : Type} {P : α → ByteArray → Prop} (hP : ∀ x t, P x t → t.size ≤ 1000000000) : ∀ {xs : List α} {ts : List ByteArray}, All2 P xs ts → ∀ i, (ts.getD i ⟨#[]⟩).size ≤ 1000000000 := by
  intro xs ts h i
  by_cases hi : i < xs.length
  · exact hP _ _ (h.get i xs[i] (List.getElem?_eq_getElem hi))
  · rw [List.getD_eq_getElem?_getD, List.getElem?_eq_none (by rw [← h.len]; omega)]
    show ByteArray.size ⟨#[]⟩ ≤ _
    decide

theorem shown_L {X : Nat → Prop} {L : List Lc} : ∀ (f g : Nat) (v : Value) (a i : Nat) (t : ByteArray) (w : World), RefLX X w L f v a i → PrL L g (i : Int) t → Calls Tryz.prog 50 #[v] w fun e w' => StrPost t w e w' := by
  intro f
  induction f with
  | zero => intro g v a i t w h; exact absurd h id
  | succ f ih =>
    intro g v a i t w ⟨x, hx, h⟩ hp
    cases g with
    | zero => exact absurd hp id
    | succ g =>
      obtain ⟨hsz, n, y, hi, hy, hys, hp⟩ := hp
      have hi : i = n := by omega
      subst hi
      have hxy : x = y := by rw [hx] at hy; exact Option.some.inj hy
      subst hxy
      rcases h with ⟨h1, h2, p, h3⟩ | ⟨h1, v1, v2, j, k, p, h2, h3, h4, h8, h5, h6, h7⟩ | ⟨h1, vs, c, h2, h3, h4, h5, h6⟩
      · obtain rfl : t = x.text := by
          rcases hp with ⟨_, q⟩ | ⟨q, _⟩ | ⟨q, _⟩
          · exact q
          all_goals rw [h1] at q; cases q
        exact shown_leaf h3 [110, 97, 109, 101] rfl hys (by decide) (by decide) (by decide) (by decide) (by decide) (by decide)
      · obtain ⟨t1, t2, hp1, hp2, ht⟩ : ∃ t1 t2, PrL L g x.left t1 ∧ PrL L g x.right t2 ∧ t = pairB t1 x.text t2 := by
          rcases hp with ⟨q, _⟩ | ⟨_, q⟩ | ⟨q, _⟩
          · rw [h1] at q; cases q
          · exact q
          · rw [h1] at q; cases q
        subst ht
        rw [h3] at hp1
        rw [h4] at hp2
        have hs : isSignB x.text = true := by
          rcases h8 with q | q
          · rw [q]; unfold isSignB; rw [ByteArray.toList_eq]; rfl
          · rw [q]; unfold isSignB; rw [ByteArray.toList_eq]; rfl
        exact shown_pair h5 hs hys hp1.sz hp2.sz (fun wr hb => ih g v1 a j t1 wr (h6.keepX (below_same hb)) hp1) (fun wr hb => ih g v2 (j + 1) k t2 wr (h7.keepX (below_same hb)) hp2)
      · obtain ⟨c', ts, g1, g2, g3, g4, hall, hj, ht⟩ : ∃ (c : UInt8) (ts : List ByteArray), (c.toNat : Int) - 48 = x.count ∧ 48 ≤ c.toNat ∧ c.toNat ≤ 57 ∧ x.items.length ≤ 100000 ∧ All2 (fun i t => PrL L g i t) x.items ts ∧ (jk ⟨#[44, 32]⟩ ts ts.length).size ≤ 1000000000 ∧ t = (((⟨#[c]⟩ : ByteArray) ++ ⟨#[45, 111, 102, 40]⟩) ++ jk ⟨#[44, 32]⟩ ts ts.length) ++ ⟨#[41]⟩ := by
          rcases hp with ⟨q, _⟩ | ⟨q, _⟩ | ⟨_, q⟩
          · rw [h1] at q; cases q
          · rw [h1] at q; cases q
          · exact q
        have hcc : c = c' := by
          apply UInt8.toNat_inj.1
          omega
        subst hcc
        have hl := SegV.length _ _ _ _ h6
        have hl2 := hall.len
        have e : ∀ m, (sOf.toList == m) = (([111, 102] : List UInt8) == m) := beq_l (op := sOf) (l := [111, 102]) rfl
        have := shown_node h5 ts false ⟨by show ByteArray.size ⟨#[c]⟩ ≤ 600; show (1 : Nat) ≤ 600; decide, by decide, by omega, by omega, all2_sz (fun _ _ q => q.sz) hall, fun q => (by rw [e, e] at q; exact absurd q (by decide)), fun _ => hj, fun q => (by rw [e] at q; cases q), fun q => (by rw [e] at q; cases q), fun q => (by unfold plain at q; rw [leaf5_l (op := sOf) (l := [111, 102]) rfl] at q; simp only [e] at q; exact absurd q (by decide))⟩ (fun k vi wr hvi hb => by
          obtain ⟨a', j, q1, q2⟩ := segV_get _ _ _ _ k vi h6 hvi
          exact ih g vi a' j _ wr (q2.keepX (below_same hb)) (hall.get k _ q1))
        have e2 : endS sOf ⟨#[c]⟩ ts false = t := by
          rw [ht]; unfold endS; rw [leaf5_l (op := sOf) (l := [111, 102]) rfl]; simp only [e]; rfl
        rw [e2] at this
        exact this

theorem sec_of {X : Nat → Prop} {w : World} {v1 v2 : Value} {op tx : ByteArray} {a : Int} {kids : List Value} {ak : Bool} (h : NodeX X w v2 op tx a kids) (hk : (op.toList == [97, 108, 108]) = ak) : Sec w [v1, v2] ak := by
  obtain ⟨g, kv, h1, hh, _, _⟩ := node_at h
  obtain ⟨y0, _⟩ := box4' hh
  exact ⟨v2, g, op, rfl, h1, y0, hk⟩

theorem shown_Cl {X : Nat → Prop} {E : List Ex} (hg : GoodE E) {C : List (List Cl)} {f g : Nat} (ih : ∀ (v : Value) (ci a e : Nat) (t : ByteArray) (w : World), RefCX X w E C f v ci a e → PrC E C g (ci : Int) t → Calls Tryz.prog 50 #[v] w fun e w' => StrPost t w e w')
    (v : Value) (c : Cl) (a e : Nat) (t : ByteArray) (w : World) (h : ClX X w E f (fun v ci a e => RefCX X w E C f v ci a e) v c a e) (hp : PrCl E (fun i t => PrC E C g i t) g c t) : Calls Tryz.prog 50 #[v] w fun e w' => StrPost t w e w' := by
  obtain ⟨v1, i, x, h1, h2, h3, h4, h5, h6⟩ := h
  obtain ⟨hsz, t1, hp1, hp⟩ := hp
  have hs1 := hp1.sz
  rw [h5] at hp1
  have hk1 : ∀ wr, Below w.heap.size w wr → Calls Tryz.prog 50 #[v1] wr fun e w' => StrPost t1 wr e w' := by
    intro wr hb
    cases g with
    | zero => exact absurd hp1 id
    | succ g =>
      obtain ⟨_, n, y, hi, hy, _, hq⟩ := hp1
      have hi : i + 1 = n := by omega
      subst hi
      have hxy : x = y := by rw [h2] at hy; exact Option.some.inj hy
      subst hxy
      have hq : PrE E g x.left t1 := by
        rcases hq with ⟨q, _⟩ | ⟨q, _⟩ | ⟨q, _⟩ | ⟨q, _⟩ | ⟨q, _⟩ | ⟨_, q⟩
        · rcases q with q | q | q <;> rw [h3] at q <;> cases q
        · rw [h3] at q; cases q
        · rw [h3] at q; cases q
        · rw [h3] at q; cases q
        · rw [h3] at q; cases q
        · exact q
      rw [h4] at hq
      exact shown_E hg f g v1 a i t1 wr (h1.keepX (below_same hb)) hq
  have hb : ∀ m, (sIf.toList == m) = (([105, 102] : List UInt8) == m) := beq_l (op := sIf) (l := [105, 102]) rfl
  rcases h6 with ⟨q1, q2, q3⟩ | ⟨q1, v2, p, q2, q3, q4⟩ | ⟨q1, v2, ci, q2, q3, q4⟩
  · obtain rfl : t = t1 := by
      rcases hp with ⟨_, q⟩ | ⟨q, _⟩ | ⟨q, _⟩
      · exact q
      all_goals rw [q1] at q; cases q
    have := shown_node q2 [t] false ⟨by decide, by decide, rfl, by simp, getD1 hs1, fun _ => by simp, fun q => (by rw [hb] at q; cases q), fun q => (by rw [hb] at q; cases q), fun _ => .inl rfl, fun q => (by unfold plain at q; rw [leaf5_l (op := sIf) (l := [105, 102]) rfl] at q; simp only [hb] at q; exact absurd q (by decide))⟩ (fun k vi wr hvi hbel => by
      match k, hvi with
      | 0, hvi =>
        have e : v1 = vi := by simpa using hvi
        subst e
        exact hk1 wr hbel
      | k + 1, hvi => simp at hvi)
    have e2 : endS sIf ⟨#[]⟩ [t] false = t := by
      unfold endS; rw [leaf5_l (op := sIf) (l := [105, 102]) rfl]; simp only [hb]; rfl
    rw [e2] at this
    exact this
  · obtain ⟨hr, ht⟩ : c.result.size ≤ 600 ∧ t = (t1 ++ (⟨#[32, 45, 62, 32]⟩ : ByteArray)) ++ c.result := by
      rcases hp with ⟨q, _⟩ | ⟨_, q⟩ | ⟨q, _⟩
      · rw [q1] at q; cases q
      · exact q
      · rw [q1] at q; cases q
    have := shown_node q2 [t1, c.result] false ⟨by decide, by decide, rfl, by simp, getD2 hs1 (by omega), fun _ => by simp, fun q => (by rw [hb] at q; cases q), fun q => (by rw [hb] at q; cases q), fun _ => .inr ⟨rfl, sec_of q3 (by rw [beq_l (op := sName) (l := [110, 97, 109, 101]) rfl]; rfl)⟩, fun q => (by unfold plain at q; rw [leaf5_l (op := sIf) (l := [105, 102]) rfl] at q; simp only [hb] at q; exact absurd q (by decide))⟩ (fun k vi wr hvi hbel => by
      match k, hvi with
      | 0, hvi =>
        have e : v1 = vi := by simpa using hvi
        subst e
        exact hk1 wr hbel
      | 1, hvi =>
        have e : v2 = vi := by simpa using hvi
        subst e
        exact shown_leaf (q3.keepX (below_same hbel)) [110, 97, 109, 101] rfl hr (by decide) (by decide) (by decide) (by decide) (by decide) (by decide)
      | k + 2, hvi => simp at hvi)
    have e2 : endS sIf ⟨#[]⟩ [t1, c.result] false = t := by
      rw [ht]; unfold endS; rw [leaf5_l (op := sIf) (l := [105, 102]) rfl]; simp only [hb]; rfl
    rw [e2] at this
    exact this
  · obtain ⟨t2, hp2, hr, ht⟩ : ∃ t2, PrC E C g c.inner t2 ∧ t2.size ≤ 1000000000 ∧ t = ((t1 ++ (⟨#[32, 45, 62, 32, 123]⟩ : ByteArray)) ++ t2) ++ ⟨#[125]⟩ := by
      rcases hp with ⟨q, _⟩ | ⟨q, _⟩ | ⟨_, q⟩
      · rw [q1] at q; cases q
      · rw [q1] at q; cases q
      · exact q
    rw [q2] at hp2
    have hsec : Sec w [v1, v2] true := by
      cases f with
      | zero => exact absurd q4 id
      | succ f =>
        obtain ⟨cls, vs, p, _, hn, _⟩ := q4
        exact sec_of hn (by rw [beq_l (op := sAll) (l := [97, 108, 108]) rfl]; rfl)
    have := shown_node q3 [t1, t2] true ⟨by decide, by decide, rfl, by simp, getD2 hs1 hr, fun _ => by simp, fun q => (by rw [hb] at q; cases q), fun q => (by rw [hb] at q; cases q), fun _ => .inr ⟨rfl, hsec⟩, fun q => (by unfold plain at q; rw [leaf5_l (op := sIf) (l := [105, 102]) rfl] at q; simp only [hb] at q; exact absurd q (by decide))⟩ (fun k vi wr hvi hbel => by
      match k, hvi with
      | 0, hvi =>
        have e : v1 = vi := by simpa using hvi
        subst e
        exact hk1 wr hbel
      | 1, hvi =>
        have e : v2 = vi := by simpa using hvi
        subst e
        exact ih v2 ci _ _ t2 wr (q4.keepX (below_same hbel)) hp2
      | k + 2, hvi => simp at hvi)
    have e2 : endS sIf ⟨#[]⟩ [t1, t2] true = t := by
      rw [ht]; unfold endS; rw [leaf5_l (op := sIf) (l := [105, 102]) rfl]; simp only [hb]; rfl
    rw [e2] at this
    exact this

theorem shown_C {X : Nat → Prop} {E : List Ex} (hg : GoodE E) {C : List (List Cl)} : ∀ (f g : Nat) (v : Value) (ci a e : Nat) (t : ByteArray) (w : World), RefCX X w E C f v ci a e → PrC E C g (ci : Int) t → Calls Tryz.prog 50 #[v] w fun e w' => StrPost t w e w' := by
  intro f
  induction f with
  | zero => intro g v ci a e t w h; exact absurd h id
  | succ f ih =>
    intro g v ci a e t w ⟨cls, vs, p, h1, h2, h3⟩ hp
    cases g with
    | zero => exact absurd hp id
    | succ g =>
      obtain ⟨hsz, n, cls', ts, hi, hc, hlen, hall, ht⟩ := hp
      have hi : ci = n := by omega
      subst hi
      have hcc : cls = cls' := by rw [h1] at hc; exact Option.some.inj hc
      subst hcc
      have hl := segC_len _ _ _ _ h3
      have hl2 := hall.len
      have hb : ∀ m, (sAll.toList == m) = (([97, 108, 108] : List UInt8) == m) := beq_l (op := sAll) (l := [97, 108, 108]) rfl
      have := shown_node h2 ts false ⟨by decide, by decide, by omega, by omega, all2_sz (fun _ _ q => q.1) hall, fun q => (by rw [hb, hb] at q; exact absurd q (by decide)), fun q => (by rw [hb] at q; cases q), fun _ => by rw [← ht]; exact hsz, fun q => (by rw [hb] at q; cases q), fun q => (by unfold plain at q; rw [leaf5_l (op := sAll) (l := [97, 108, 108]) rfl] at q; simp only [hb] at q; exact absurd q (by decide))⟩ (fun k vi wr hvi hbel => by
        obtain ⟨c, a', e', q1, q2⟩ := segC_get _ _ _ _ k vi h3 hvi
        exact shown_Cl hg (ih g) vi c a' e' _ wr (q2.keepX (below_same hbel) fun _ _ _ _ q => q.keepX (below_same hbel)) (hall.get k c q1))
      have e2 : endS sAll ⟨#[]⟩ ts false = t := by
        rw [ht]; unfold endS; rw [leaf5_l (op := sAll) (l := [97, 108, 108]) rfl]; simp only [hb]; rfl
      rw [e2] at this
      exact this
end Go.Proofs.YtkoohcilbpdgeaaGreatDoor

namespace Go.Proofs.YtkoohcilbpdgeaaGreatDoor
open Go Go.RowKit

theorem pairB_size (l s r : ByteArray) : (pairB l s r).size = l.size + s.size + r.size + 4 := by
  unfold pairB
  simp only [ByteArray.size_append]
  have e1 : ByteArray.size ⟨#[40]⟩ = 1 := rfl
  have e2 : ByteArray.size ⟨#[32]⟩ = 1 := rfl
  have e3 : ByteArray.size ⟨#[41]⟩ = 1 := rfl
  omega
theorem exE {X : Nat → Prop} {w : World} {E : List Ex} (hs : ∀ x ∈ E, x.text.size ≤ 600) (hl : E.length ≤ 100000) : ∀ (f : Nat) (v : Value) (a i : Nat), RefEX X w E f v a i → a ≤ i ∧ ∃ t, PrE E f (i : Int) t ∧ t.size + 10 ≤ 700 * (i + 1 - a) := by
  intro f
  induction f with
  | zero => intro v a i h; exact absurd h id
  | succ f ih =>
    intro v a i ⟨x, hx, h⟩
    have hxs := hs x (List.mem_of_getElem? hx)
    have hil : i < E.length := (List.getElem?_eq_some_iff.1 hx).1
    have e1 : ByteArray.size ⟨#[34]⟩ = 1 := rfl
    have e2 : ByteArray.size ⟨#[64]⟩ = 1 := rfl
    rcases h with ⟨h1, h2, p, h3⟩ | ⟨h1, h2, p, h3⟩ | ⟨h1, h2, h4, p, h3⟩ | ⟨h1, h2, p, h3⟩ | ⟨h1, h2, p, h3⟩ | ⟨h1, v1, j, h2, h3, h4, h5⟩ | ⟨h1, v1, v2, j, k, h2, h3, h4, h5, h6, h7⟩
    · exact ⟨by omega, x.text, ⟨by omega, i, x, rfl, hx, hxs, .inl ⟨.inl h1, rfl⟩⟩, by omega⟩
    · have hz : (((⟨#[34]⟩ : ByteArray) ++ x.text) ++ ⟨#[34]⟩).size = x.text.size + 2 := by simp only [ByteArray.size_append]; omega
      exact ⟨by omega, _, ⟨by omega, i, x, rfl, hx, hxs, .inr (.inl ⟨h1, rfl⟩)⟩, by omega⟩
    · exact ⟨by omega, x.text, ⟨by omega, i, x, rfl, hx, hxs, .inl ⟨.inr (.inl h1), rfl⟩⟩, by omega⟩
    · exact ⟨by omega, x.text, ⟨by omega, i, x, rfl, hx, hxs, .inl ⟨.inr (.inr h1), rfl⟩⟩, by omega⟩
    · have hz : ((⟨#[64]⟩ : ByteArray) ++ x.text).size = x.text.size + 1 := by simp only [ByteArray.size_append]; omega
      exact ⟨by omega, _, ⟨by omega, i, x, rfl, hx, hxs, .inr (.inr (.inl ⟨h1, rfl⟩))⟩, by omega⟩
    · obtain ⟨hle, t1, q1, q2⟩ := ih v1 a j h5
      have hz : (x.text ++ t1).size = x.text.size + t1.size := by simp only [ByteArray.size_append]
      exact ⟨by omega, _, ⟨by omega, i, x, rfl, hx, hxs, .inr (.inr (.inr (.inl ⟨h1, t1, by rw [h3]; exact q1, rfl⟩)))⟩, by omega⟩
    · obtain ⟨hle, t1, q1, q2⟩ := ih v1 a j h6
      obtain ⟨hle2, t2, q3, q4⟩ := ih v2 (j + 1) k h7
      have hz := pairB_size t1 x.text t2
      exact ⟨by omega, _, ⟨by omega, i, x, rfl, hx, hxs, .inr (.inr (.inr (.inr (.inl ⟨h1, t1, t2, by rw [h3]; exact q1, by rw [h4]; exact q3, rfl⟩))))⟩, by omega⟩

/-- The lengths of the first k, with two more each. -/
def sm (ts : List ByteArray) : Nat → Nat
  | 0 => 0
  | k + 1 => sm ts k + (ts.getD k ⟨#[]⟩).size + 2
theorem jk_le (sep : ByteArray) (ts : List ByteArray) (h : sep.size ≤ 2) : ∀ k, (jk sep ts k).size ≤ sm ts k := by
  intro k
  induction k with
  | zero => exact Nat.le_refl _
  | succ k ih =>
    simp only [jk, sm]
    split <;> simp only [ByteArray.size_append] <;> omega
theorem sm_cons (t : ByteArray) (ts : List ByteArray) : ∀ k, sm (t :: ts) (k + 1) = t.size + 2 + sm ts k := by
  intro k
  induction k with
  | zero => simp [sm]
  | succ k ih =>
    have e : sm (t :: ts) (k + 2) = sm (t :: ts) (k + 1) + ((t :: ts).getD (k + 1) ⟨#[]⟩).size + 2 := rfl
    have e2 : (t :: ts).getD (k + 1) ⟨#[]⟩ = ts.getD k ⟨#[]⟩ := by simp [List.getD_eq_getElem?_getD]
    rw [e, ih, e2]
    show _ = t.size + 2 + (sm ts k + (ts.getD k ⟨#[]⟩).size + 2)
    omega

theorem exSeg {P : Value → Nat → Nat → Prop} {Q : Int → ByteArray → Prop} (h : ∀ v a i, P v a i → a ≤ i ∧ ∃ t, Q (i : Int) t ∧ t.size + 10 ≤ 700 * (i + 1 - a)) : ∀ (vs : List Value) (is : List Int) (a e : Nat), SegV P vs is a e → a ≤ e ∧ ∃ ts, All2 Q is ts ∧ sm ts ts.length ≤ 700 * (e - a) := by
  intro vs
  induction vs with
  | nil => intro is a e hq; cases is with
    | nil => have hq : a = e := hq
             exact ⟨by omega, [], trivial, Nat.zero_le _⟩
    | cons i is => exact absurd hq id
  | cons v vs ih =>
    intro is a e hq
    cases is with
    | nil => exact absurd hq id
    | cons i is =>
      obtain ⟨j, h1, h2, h3⟩ := hq
      obtain ⟨k1, t, k2, k3⟩ := h _ _ _ h2
      obtain ⟨k4, ts, k5, k6⟩ := ih is _ _ h3
      refine ⟨by omega, t :: ts, ⟨by rw [h1]; exact k2, k5⟩, ?_⟩
      rw [List.length_cons, sm_cons]
      omega
theorem exL {X : Nat → Prop} {w : World} {L : List Lc} (hs : ∀ x ∈ L, x.text.size ≤ 600) (hg : GoodL L) (hl : L.length ≤ 100000) : ∀ (f : Nat) (v : Value) (a i : Nat), RefLX X w L f v a i → a ≤ i ∧ ∃ t, PrL L f (i : Int) t ∧ t.size + 10 ≤ 700 * (i + 1 - a) := by
  intro f
  induction f with
  | zero => intro v a i h; exact absurd h id
  | succ f ih =>
    intro v a i ⟨x, hx, h⟩
    have hxs := hs x (List.mem_of_getElem? hx)
    have hil : i < L.length := (List.getElem?_eq_some_iff.1 hx).1
    rcases h with ⟨h1, h2, p, h3⟩ | ⟨h1, v1, v2, j, k, p, h2, h3, h4, h8, h5, h6, h7⟩ | ⟨h1, vs, c, h2, h3, h4, h5, h6⟩
    · exact ⟨by omega, x.text, ⟨by omega, i, x, rfl, hx, hxs, .inl ⟨h1, rfl⟩⟩, by omega⟩
    · obtain ⟨hle, t1, q1, q2⟩ := ih v1 a j h6
      obtain ⟨hle2, t2, q3, q4⟩ := ih v2 (j + 1) k h7
      have hz := pairB_size t1 x.text t2
      exact ⟨by omega, _, ⟨by omega, i, x, rfl, hx, hxs, .inr (.inl ⟨h1, t1, t2, by rw [h3]; exact q1, by rw [h4]; exact q3, rfl⟩)⟩, by omega⟩
    · obtain ⟨hle, ts, q1, q2⟩ := exSeg (Q := fun i t => PrL L f i t) (fun v a i q => ih v a i q) _ _ _ _ h6
      have hj := jk_le ⟨#[44, 32]⟩ ts (by decide) ts.length
      have hz : ((((⟨#[c]⟩ : ByteArray) ++ ⟨#[45, 111, 102, 40]⟩) ++ jk ⟨#[44, 32]⟩ ts ts.length) ++ ⟨#[41]⟩).size = (jk ⟨#[44, 32]⟩ ts ts.length).size + 6 := by
        simp only [ByteArray.size_append]
        have e1 : ByteArray.size ⟨#[c]⟩ = 1 := rfl
        have e2 : ByteArray.size ⟨#[45, 111, 102, 40]⟩ = 4 := rfl
        have e3 : ByteArray.size ⟨#[41]⟩ = 1 := rfl
        omega
      exact ⟨hle, _, ⟨by omega, i, x, rfl, hx, hxs, .inr (.inr ⟨h1, c, ts, h2, h3, h4, (hg x (List.mem_of_getElem? hx)).1, q1, by omega, rfl⟩)⟩, by omega⟩

theorem All2.imp {α : Type} {P Q : α → ByteArray → Prop} (h : ∀ x t, P x t → Q x t) : ∀ {xs : List α} {ts : List ByteArray}, All2 P xs ts → All2 Q xs ts := by
  intro xs
  induction xs with
  | nil => intro ts q; cases ts with
    | nil => trivial
    | cons t ts => exact absurd q id
  | cons x xs ih => intro ts q; cases ts with
    | nil => exact absurd q id
    | cons t ts => exact ⟨h _ _ q.1, ih q.2⟩
theorem PrL_up {L : List Lc} : ∀ {f : Nat} {i : Int} {t : ByteArray}, PrL L f i t → PrL L (f + 1) i t := by
  intro f
  induction f with
  | zero => intro i t h; exact absurd h id
  | succ f ih =>
    intro i t ⟨h0, n, x, h1, h2, h3, h⟩
    refine ⟨h0, n, x, h1, h2, h3, ?_⟩
    rcases h with q | ⟨q, t1, t2, q1, q2, q3⟩ | ⟨q, c, ts, q1, q2, q3, q4, q5, q6, q7⟩
    · exact .inl q
    · exact .inr (.inl ⟨q, t1, t2, ih q1, ih q2, q3⟩)
    · exact .inr (.inr ⟨q, c, ts, q1, q2, q3, q4, q5.imp fun _ _ => ih, q6, q7⟩)

theorem exSegC {P : Value → Cl → Nat → Nat → Prop} {Q : Cl → ByteArray → Prop} {N : Nat} : ∀ (vs : List Value) (cs : List Cl) (a e : Nat), (∀ v c a e, c ∈ cs → a ≤ N → P v c a e → a ≤ e ∧ e ≤ N ∧ ∃ t, Q c t ∧ t.size + 10 ≤ 700 * (e - a)) → a ≤ N → SegC P vs cs a e → a ≤ e ∧ e ≤ N ∧ ∃ ts, All2 Q cs ts ∧ sm ts ts.length ≤ 700 * (e - a) := by
  intro vs
  induction vs with
  | nil => intro cs a e h ha hq; cases cs with
    | nil => have hq : a = e := hq
             exact ⟨by omega, by omega, [], trivial, Nat.zero_le _⟩
    | cons i is => exact absurd hq id
  | cons v vs ih =>
    intro cs a e h ha hq
    cases cs with
    | nil => exact absurd hq id
    | cons c cs =>
      obtain ⟨m, h2, h3⟩ := hq
      obtain ⟨k1, k0, t, k2, k3⟩ := h _ _ _ _ (by simp) ha h2
      obtain ⟨k4, k7, ts, k5, k6⟩ := ih cs _ _ (fun v c a e hc => h v c a e (by simp [hc])) k0 h3
      refine ⟨by omega, k7, t :: ts, ⟨k2, k5⟩, ?_⟩
      rw [List.length_cons, sm_cons]
      omega
theorem exC {X : Nat → Prop} {w : World} {E : List Ex} {C : List (List Cl)} (hs : ∀ x ∈ E, x.text.size ≤ 600) (hl : E.length ≤ 100000) (hr : ∀ cls ∈ C, ∀ c ∈ cls, c.result.size ≤ 600) (hg : GoodC C) : ∀ (f : Nat) (v : Value) (ci a e : Nat), a ≤ E.length → RefCX X w E C f v ci a e → a ≤ e ∧ e ≤ E.length ∧ ∃ t, PrC E C (f + 1) (ci : Int) t ∧ t.size ≤ 700 * (e - a) := by
  intro f
  induction f with
  | zero => intro v ci a e _ h; exact absurd h id
  | succ f ih =>
    intro v ci a e he ⟨cls, vs, p, h1, h2, h3⟩
    have hmem := List.mem_of_getElem? h1
    have each : ∀ v c a e, c ∈ cls → a ≤ E.length → ClX X w E f (fun v ci a e => RefCX X w E C f v ci a e) v c a e → a ≤ e ∧ e ≤ E.length ∧ ∃ t, PrCl E (fun i t => PrC E C (f + 1) i t) (f + 1) c t ∧ t.size + 10 ≤ 700 * (e - a) := by
      intro v c a e hc ha ⟨v1, i, x, q1, q2, q3, q4, q5, q6⟩
      obtain ⟨k1, t1, k2, k3⟩ := exE hs hl f v1 a i q1
      have hi : i + 1 < E.length := (List.getElem?_eq_some_iff.1 q2).1
      have hp : PrE E (f + 1) c.test t1 := ⟨by omega, i + 1, x, q5, q2, hs x (List.mem_of_getElem? q2), .inr (.inr (.inr (.inr (.inr ⟨q3, by rw [q4]; exact k2⟩))))⟩
      have hres := hr cls hmem c hc
      rcases q6 with ⟨r1, r2, r3⟩ | ⟨r1, v2, p, r2, r3, r4⟩ | ⟨r1, v2, ci, r2, r3, r4⟩
      · exact ⟨by omega, by omega, t1, ⟨by omega, t1, hp, .inl ⟨r1, rfl⟩⟩, by omega⟩
      · have hz : ((t1 ++ (⟨#[32, 45, 62, 32]⟩ : ByteArray)) ++ c.result).size = t1.size + 4 + c.result.size := by
          simp only [ByteArray.size_append]
          have e1 : ByteArray.size ⟨#[32, 45, 62, 32]⟩ = 4 := rfl
          omega
        exact ⟨by omega, by omega, _, ⟨by omega, t1, hp, .inr (.inl ⟨r1, hres, rfl⟩)⟩, by omega⟩
      · obtain ⟨g1, g2, t2, g3, g4⟩ := ih v2 ci (i + 2) e (by omega) r4
        have hz : (((t1 ++ (⟨#[32, 45, 62, 32, 123]⟩ : ByteArray)) ++ t2) ++ ⟨#[125]⟩).size = t1.size + 6 + t2.size := by
          simp only [ByteArray.size_append]
          have e1 : ByteArray.size ⟨#[32, 45, 62, 32, 123]⟩ = 5 := rfl
          have e2 : ByteArray.size ⟨#[125]⟩ = 1 := rfl
          omega
        exact ⟨by omega, by omega, _, ⟨by omega, t1, hp, .inr (.inr ⟨r1, t2, by rw [r2]; exact g3, by omega, rfl⟩)⟩, by omega⟩
    obtain ⟨k1, k0, ts, k2, k3⟩ := exSegC vs cls a e each he h3
    have hj := jk_le ⟨#[59, 32]⟩ ts (by decide) ts.length
    have hlt := hg cls hmem
    exact ⟨k1, k0, _, ⟨by omega, ci, cls, ts, rfl, h1, by omega, k2, rfl⟩, by omega⟩
theorem exA {X : Nat → Prop} {w : World} {st : St} (hz : Sz st) (hg : GoodS st) (hE : st.E.length ≤ 100000) (hL : st.L.length ≤ 100000) (f : Nat) : ∀ (ps : List PP) (xs : List As) (a b e g : Nat), (∀ x ∈ xs, x.by_.size ≤ 600) → b ≤ st.E.length → SegA (fun p x a b e g => AsX X w st.L st.E st.C f p x a b e g) ps xs a b e g → ∃ ts, All2 (fun x t => PrA st (f + 1) x t) xs ts := by
  intro ps
  induction ps with
  | nil => intro xs a b e g hx hb hq; cases xs with
    | nil => exact ⟨[], trivial⟩
    | cons i is => exact absurd hq id
  | cons p ps ih =>
    intro xs a b e g hx hb hq
    cases xs with
    | nil => exact absurd hq id
    | cons x xs =>
      obtain ⟨m, n, ⟨i, ci, q1, q2, q3, q4, q5⟩, h3⟩ := hq
      obtain ⟨_, t1, k1, _⟩ := exL hz.2.1 hg.l hL f _ _ _ q4
      obtain ⟨_, k0, t2, k2, _⟩ := exC hz.1 hE hz.2.2.1 hg.c f _ _ _ _ hb q5
      obtain ⟨ts, k3⟩ := ih xs _ _ _ _ (fun y hy => hx y (by simp [hy])) k0 h3
      exact ⟨_ :: ts, ⟨hx x (by simp), t1, t2, by rw [q1]; exact PrL_up k1, by rw [q2]; exact k2, rfl⟩, k3⟩
/-- A set that was read is printed in one way. -/
theorem PrS_ex {s : ByteArray} {n : Nat} {st : St} (hM : MR s n st0 = some st) (hs : s.size ≤ 600) (hE : st.E.length ≤ 100000) (hL : st.L.length ≤ 100000) (h0 : (ckM s st).1 = 0) (w : World) : ∃ t, PrS st t := by
  obtain ⟨e, w', fr, ⟨lv, _, _, _, h⟩, _⟩ := read_short s n st w hM hs []
  obtain ⟨f, ps, _, h⟩ := h h0
  have hz : Sz st := MR_sz s hs n st0 st hM ⟨fun x h => (by cases h), fun x h => (by cases h), fun x h => (by cases h), fun x h => (by cases h)⟩
  have hg : GoodS st := MR_good s n st0 st hM good0
  obtain ⟨ts, hts⟩ := exA hz hg hE hL f ps st.A 0 0 _ _ hz.2.2.2 (Nat.zero_le _) h
  exact ⟨_, f + 1, ts, hts, rfl⟩
end Go.Proofs.YtkoohcilbpdgeaaGreatDoor

namespace Go.Proofs.YtkoohcilbpdgeaaGreatDoor
open Go Go.RowKit
attribute [local go_sem] wrap64_byte

set_option maxHeartbeats 1600000 in
theorem printR_no (s : ByteArray) (st : St) (w : World) (h : Calls Tryz.prog 49 #[.string s] w fun e w' => RdPost s st w e w') (hn : (ckM s st).1 ≠ 0) :
    Calls Tryz.prog 29 #[.string s] w fun e w' => PtPost ⟨#[]⟩ (ckM s st).1 w e w' := by
  have H := hide h
  clear h
  go_enter Tryz.func29, Tryz.ntmps29
  go_wp2_with fail
  refine H.out.mono ?_
  rintro e w1 ⟨lv, rfl, hB, ⟨a1, n1, k1, rfl⟩, _⟩
  have HB := hide hB
  clear hB
  go_wp2_with fail
  go_ret2
  exact ⟨by simp, HB.out⟩

theorem piece_eq (p b t1 t2 : ByteArray) : ((((((p ++ (⟨#[98, 121, 32]⟩ : ByteArray)) ++ b) ++ ⟨#[10, 116, 111, 32]⟩) ++ t1) ++ ⟨#[10, 105, 102, 32]⟩) ++ t2) ++ ⟨#[10]⟩ = p ++ pieceB b t1 t2 := by
  unfold pieceB; simp only [ByteArray.append_assoc]

set_option maxRecDepth 100000 in
set_option maxHeartbeats 3200000 in
theorem printR_yes (s : ByteArray) (st : St) (t : ByteArray) (w : World) (h : Calls Tryz.prog 49 #[.string s] w fun e w' => RdPost s st w e w') (hn : (ckM s st).1 = 0) (hp : PrS st t) (hg : GoodE st.E) (hA : st.A.length ≤ 100000) :
    Calls Tryz.prog 29 #[.string s] w fun e w' => PtPost t 0 w e w' := by
  obtain ⟨f, ts, hall, ht⟩ := hp
  subst ht
  have H := hide h
  have HG := hide hg
  have HA := hide hall
  have hl2 := hide hall.len
  clear h hall
  go_enter Tryz.func29, Tryz.ntmps29
  go_wp2_with fail
  refine H.out.mono ?_
  rintro e w1 ⟨lv, rfl, hB, ⟨a1, n1, k1, hlv⟩, htr⟩
  obtain ⟨f2, ps, how, hseg⟩ := htr hn
  have hn1 : n1 = st.A.length := by
    obtain ⟨a2, k2, e2⟩ := ownsRow_slc how
    rw [hlv] at e2
    injection e2
  subst hn1
  rw [hlv] at how
  subst hlv
  rw [hn]
  have HW := hide how
  have HS := hide hseg
  have HB1 := hide hB
  have hpl := hide (SegA.len _ _ _ _ _ _ hseg)
  clear how hseg hB htr hn
  go_wp2_with fail
  go_loopg [7, 8, 9, 10] (st.A.length + 1) (fun n ov nv _ _ wr => ∃ i : Nat, n + i = st.A.length + 1 ∧ i ≤ st.A.length ∧ ov = .string (cat ts i) ∧ (cat ts i).size ≤ i * 2100000000 ∧ nv = .int .i64 i ∧ Below w1.heap.size w1 wr)
  case atStart => exact ⟨0, rfl, Nat.zero_le _, rfl, Nat.zero_le _, rfl, Below.refl _ _⟩
  case round =>
    obtain ⟨i, hk, hiE, rfl, hs0, rfl, hbel⟩ := hrel
    have hHK := hide hk
    clear hk
    by_cases hlt : i < st.A.length
    · obtain ⟨g, cap, hv, hb, hgl⟩ := HW.out.form (by omega)
      injection hv with e1 e2 e3
      subst e1 e3
      obtain ⟨pp, hpp⟩ : ∃ pp, ps[i]? = some pp := ⟨ps[i]'(by have := hpl.out; omega), List.getElem?_eq_getElem _⟩
      obtain ⟨x, a', b', e', g', hx, li, ci, r1, r2, r3, r4, r5⟩ := SegA.get _ _ _ _ _ _ i pp HS.out hpp
      have hcw : ∀ j u, (cellsA (pp, x.by_))[j]? = some u → j < 3 → w1.cell? ⟨g, i * 3 + j, none⟩ = some u := fun j u hu hj =>
        row_cell HW.out _ _ ((rowA_get hpp hx hj).trans hu)
      have c0 : w1.cell? ⟨g, i * 3, none⟩ = some (.string x.by_) := hcw 0 _ rfl (by omega)
      have c1 := hcw 1 _ rfl (by omega)
      have c2 := hcw 2 _ rfl (by omega)
      have q0 := (hbel.cell (p := ⟨g, i * 3, none⟩) hgl).trans c0
      have q1 := (hbel.cell (p := ⟨g, i * 3 + 1, none⟩) hgl).trans c1
      have hlt' : (i : Int) < st.A.length := by omega
      obtain ⟨hby, t1, t2, hP1, hP2, hpc⟩ := HA.out.get i x hx
      have hs1 := hP1.sz
      have hs2 := hP2.sz
      rw [r1] at hP1
      rw [r2] at hP2
      have hj := hide (show cat ts (i + 1) = cat ts i ++ pieceB x.by_ t1 t2 from by show cat ts i ++ ts.getD i ⟨#[]⟩ = _; rw [hpc])
      have HB2 := hide hbel
      have HC := hide (shown_L f2 f _ a' li t1 wr (r4.keepX (below_same hbel)) hP1)
      have HR5 := hide r5
      have HP2 := hide hP2
      have C0 := hide c0
      have C2 := hide c2
      clear hbel hx hcw hpc hpp r4 r5 hP1 hP2 c0 c1 c2
      generalize cat ts i = p at *
      go_wp2_with fail
      refine HC.out.mono ?_
      rintro e w2 ⟨rfl, hB2⟩
      have hB2' := hide (HB2.out.trans (hB2.mono HB2.out.size))
      have q2 := (hB2'.out.cell (p := ⟨g, i * 3 + 2, none⟩) hgl).trans C2.out
      have HC2 := hide (shown_C HG.out f2 f _ ci b' g' t2 w2 (HR5.out.keepX (below_same hB2'.out)) HP2.out)
      clear hB2 q0 q1
      go_wp2_with fail
      refine HC2.out.mono ?_
      rintro e w3 ⟨rfl, hB3⟩
      have hB3' := hide (hB2'.out.trans (hB3.mono hB2'.out.size))
      have q0 := (hB3'.out.cell (p := ⟨g, i * 3, none⟩) hgl).trans C0.out
      clear hB3 q2
      go_wp2_with fail
      go_roundg (st.A.length - i)
      case measure => have := hHK.out; omega
      case rel => exact ⟨i + 1, by have := hHK.out; omega, by omega, by rw [hj.out, piece_eq], by rw [hj.out]; unfold pieceB; simp only [ByteArray.size_append]; have e1 : ByteArray.size ⟨#[98, 121, 32]⟩ = 3 := rfl; have e2 : ByteArray.size ⟨#[10, 116, 111, 32]⟩ = 4 := rfl; have e3 : ByteArray.size ⟨#[10, 105, 102, 32]⟩ = 4 := rfl; have e4 : ByteArray.size ⟨#[10]⟩ = 1 := rfl; omega, by go_num, hB3'.out⟩
    · have hz : Hid (i = ts.length) := hide (by have := hl2.out; omega)
      have HB2 := hide (HB1.out.trans (hbel.mono HB1.out.size))
      go_wp2_with fail
      go_ret2
      exact ⟨by rw [hz.out]; simp, HB2.out⟩
end Go.Proofs.YtkoohcilbpdgeaaGreatDoor

namespace Go.Proofs.YtkoohcilbpdgeaaGreatDoor
open Go Go.RowKit
attribute [local go_sem] wrap64_byte

/-- Both answer alike. -/
theorem print_both (s : ByteArray) (hmax : s.size ≤ maxLen) : ∃ (t : ByteArray) (k : Int), (∀ w, Calls Tryz.prog 22 #[.string s] w fun e w' => PtPost t k w e w') ∧ (∀ w, Calls Tryz.prog 29 #[.string s] w fun e w' => PtPost t k w e w') := by
  by_cases hs : s.size ≤ 600
  · obtain ⟨n, st, hM, hA, hL, hE, hC⟩ := MR_all s hs
    have h1 : ∀ w, Calls Tryz.prog 45 #[.string s] w fun e w' => CkPost s w st e w' := fun w => checkSet_short s n st w hM hs (by omega) (by omega) (by omega)
    have h2 : ∀ w, Calls Tryz.prog 49 #[.string s] w fun e w' => RdPost s st w e w' := fun w => read_short s n st w hM hs
    by_cases h0 : (ckM s st).1 = 0
    · obtain ⟨t, ht⟩ := PrS_ex hM hs (by omega) (by omega) h0 (World.holding Tryz.prog default ⟨#[], #[], []⟩)
      exact ⟨t, 0, fun w => print_yes s st t w (h1 w) h0 ht (by omega) (by omega) (by omega) (by omega), fun w => printR_yes s st t w (h2 w) h0 ht (MR_good s n st0 st hM good0).e (by omega)⟩
    · exact ⟨⟨#[]⟩, (ckM s st).1, fun w => print_no s st w (h1 w) h0, fun w => printR_no s st w (h2 w) h0⟩
  · have h0 : (ckM s st0).1 ≠ 0 := by
      unfold ckM; rw [if_pos (by omega)]; decide
    exact ⟨⟨#[]⟩, (ckM s st0).1, fun w => print_no s st0 w (checkSet_long s st0 w (by omega) hmax) h0, fun w => printR_no s st0 w (read_long s st0 w (by omega) hmax) h0⟩

set_option maxRecDepth 100000 in
set_option maxHeartbeats 1600000 in
theorem plays_print (n : Int) (S A V Q : ByteArray) (hmax : S.size ≤ maxLen) (w : World) :
    Calls Tryz.prog 18 #[.agg #[.int .i64 2, .int .i64 n, .string S, .string A, .string V, .string Q]] w fun e w' => e = .returned (.bool true) ∧ Below w.heap.size w w' := by
  obtain ⟨t, k, h7, h8⟩ := print_both S hmax
  have H := hide (And.intro h7 h8)
  clear h7 h8 hmax
  have hB0 : Below w.heap.size w (w.alloc (.cells #[.int .i64 2, .int .i64 n, .string S, .string A, .string V, .string Q] 27)) := (Below.refl _ _).alloc (Nat.le_refl _) _
  have hg0 := heap_alloc_new w (.cells #[.int .i64 2, .int .i64 n, .string S, .string A, .string V, .string Q] 27)
  have hz0 : w.heap.size < (w.alloc (.cells #[.int .i64 2, .int .i64 n, .string S, .string A, .string V, .string Q] 27)).heap.size := by simp
  have H0 := hide (And.intro hB0 (And.intro hg0 hz0))
  clear hB0 hg0 hz0
  go_enter Tryz.func18, Tryz.ntmps18
  go_wp2_with fail
  obtain ⟨hB0, hg0, hz0⟩ := H0.out
  clear H0
  generalize (w.alloc (.cells #[.int .i64 2, .int .i64 n, .string S, .string A, .string V, .string Q] 27)) = W0 at *
  refine (H.out.1 W0).mono ?_
  rintro e w1 ⟨rfl, hB1⟩
  have hg1 := (hB1.block _ hz0).trans hg0
  have hB01 := hB0.trans (hB1.mono (Nat.le_of_lt hz0))
  obtain ⟨y0, y1, y2, y3, y4, y5⟩ := box6' hg1
  have HB1 := hide hB01
  have hz1 : w.heap.size ≤ w1.heap.size := hB01.size
  clear hB1 hB01 hg1 hg0 hB0 hz0
  go_wp2_with fail
  refine (H.out.2 w1).mono ?_
  rintro e w2 ⟨rfl, hB2⟩
  have HB2 := hide (HB1.out.trans (hB2.mono hz1))
  clear hB2
  go_wp2_with (go_at_call 23; refine (num_any _ _).mono ?_; rintro e w3 ⟨rfl, rfl⟩)
  go_ret
  exact ⟨by simp, HB2.out⟩

set_option maxHeartbeats 800000 in
theorem prints_of (v : Value) (w : World) (h : Calls Tryz.prog 13 #[v, .int .i64 2, .int .i64 2] w fun e w' => e = .returned (.int .i64 (-1)) ∧ Below w.heap.size w w') :
    Calls Tryz.prog 4 #[v] w fun e w' => e = .returned (.bool true) ∧ Below w.heap.size w w' := by
  have H := hide h
  clear h
  go_enter Tryz.func4, Tryz.ntmps4
  go_wp2_with fail
  refine H.out.mono ?_
  rintro e w1 ⟨rfl, hB⟩
  go_wp2_with fail
  go_ret
  exact ⟨by simp, hB⟩
end Go.Proofs.YtkoohcilbpdgeaaGreatDoor
