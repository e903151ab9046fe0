import Derived.Deep.RegionWith
import Derived.Test.YtkoohcilbpdgeaaGreatDoorC14
set_option linter.all false
set_option linter.unusedVariables false
set_option linter.unusedSimpArgs false
set_option linter.unnecessarySimpa false
set_option linter.constructorNameAsVariable false
set_option linter.deprecated false
namespace Go.Proofs.YtkoohcilbpdgeaaGreatDoor
open Go Go.RowKit

theorem info9 : (Tryz.prog.info? 9).map (fun i => (i.zero, i.size, i.bytes)) = some (some (.string ⟨#[]⟩), 1, 16) := by kernel_rfl
theorem segC_get {P : Value → Cl → Nat → Nat → Prop} : ∀ (vs : List Value) (cs : List Cl) (a e k : Nat) (v : Value), SegC P vs cs a e → vs[k]? = some v → ∃ (c : Cl) (a' e' : Nat), cs[k]? = some c ∧ P v c a' e' := by
  intro vs
  induction vs with
  | nil => intro is a e k v _ h; simp at h
  | cons u vs ih =>
    intro is a e k v h hv
    cases is with
    | nil => exact absurd h id
    | cons i is =>
      obtain ⟨j, h2, h3⟩ := h
      cases k with
      | zero =>
        have : u = v := by simpa using hv
        subst this
        exact ⟨i, a, j, rfl, h2⟩
      | succ k => exact ih is _ _ k v h3 (by simpa using hv)
theorem segC_len {P : Value → Cl → Nat → Nat → Prop} : ∀ (vs : List Value) (cs : List Cl) (a e : Nat), SegC P vs cs a e → vs.length = cs.length := by
  intro vs
  induction vs with
  | nil => intro is a e h; cases is with
    | nil => rfl
    | cons i is => exact absurd h id
  | cons v vs ih =>
    intro is a e h
    cases is with
    | nil => exact absurd h id
    | cons i is => obtain ⟨j, _, h3⟩ := h; simp [ih is _ _ h3]

end Go.Proofs.YtkoohcilbpdgeaaGreatDoor

namespace Go.Proofs.YtkoohcilbpdgeaaGreatDoor
open Go Go.RowKit

/-- No text in the rows is longer than a set. -/
def Sz (st : St) : Prop := (∀ x ∈ st.E, x.text.size ≤ 600) ∧ (∀ x ∈ st.L, x.text.size ≤ 600) ∧ (∀ cls ∈ st.C, ∀ c ∈ cls, c.result.size ≤ 600) ∧ (∀ x ∈ st.A, x.by_.size ≤ 600)
theorem sz_addE {st : St} {x : Ex} {r : Int × St} (h : addE st x = some r) (hg : Sz st) (hx : x.text.size ≤ 600) : Sz r.2 := by
  obtain ⟨_, rfl⟩ := addE_some h
  refine ⟨fun y hy => ?_, hg.2⟩
  rcases List.mem_append.1 hy with hy | hy
  · exact hg.1 y hy
  · have : y = x := by simpa using hy
    rw [this]; exact hx
theorem sz_addL {st : St} {x : Lc} {r : Int × St} (h : addL st x = some r) (hg : Sz st) (hx : x.text.size ≤ 600) : Sz r.2 := by
  obtain ⟨_, rfl⟩ := addL_some h
  refine ⟨hg.1, fun y hy => ?_, hg.2.2⟩
  rcases List.mem_append.1 hy with hy | hy
  · exact hg.2.1 y hy
  · have : y = x := by simpa using hy
    rw [this]; exact hx
theorem sz_addC {st : St} {x : List Cl} {r : Int × St} (h : addC st x = some r) (hg : Sz st) (hx : ∀ c ∈ x, c.result.size ≤ 600) : Sz r.2 := by
  obtain ⟨_, rfl⟩ := addC_some h
  refine ⟨hg.1, hg.2.1, fun y hy => ?_, hg.2.2.2⟩
  rcases List.mem_append.1 hy with hy | hy
  · exact hg.2.2.1 y hy
  · have : y = x := by simpa using hy
    rw [this]; exact hx
theorem sz_addA {st : St} {x : As} {r : St} (h : addA st x = some r) (hg : Sz st) (hx : x.by_.size ≤ 600) : Sz r := by
  obtain ⟨_, rfl⟩ := addA_some h
  refine ⟨hg.1, hg.2.1, hg.2.2.1, fun y hy => ?_⟩
  rcases List.mem_append.1 hy with hy | hy
  · exact hg.2.2.2 y hy
  · have : y = x := by simpa using hy
    rw [this]; exact hx
theorem ext_sz (s : ByteArray) (a b : Nat) (h : s.size ≤ 600) : (s.extract a b).size ≤ 600 := by
  rw [ByteArray.size_extract]; omega
theorem tokM_sz (p : Int → Bool) (m : Nat) (s : ByteArray) (a : Nat) (d : Bool) (h : s.size ≤ 600) : (tokM p m s a d).2.2.size ≤ 600 := by
  unfold tokM
  simp only
  split
  · show ByteArray.size ⟨#[]⟩ ≤ 600; decide
  · exact ext_sz s _ _ h
theorem nameM_sz (s : ByteArray) (a : Nat) (d : Bool) (h : s.size ≤ 600) : (nameM s a d).2.2.size ≤ 600 := tokM_sz _ _ _ _ _ h
theorem numberM_sz (s : ByteArray) (a : Nat) (d : Bool) (h : s.size ≤ 600) : (numberM s a d).2.2.size ≤ 600 := tokM_sz _ _ _ _ _ h
theorem quotedM_sz (s : ByteArray) (a : Nat) (d : Bool) (h : s.size ≤ 600) : (quotedM s a d).2.2.size ≤ 600 := ext_sz s _ _ h
theorem orderingM_sz (s x y : ByteArray) (a : Nat) (d : Bool) (hx : x.size ≤ 600) (hy : y.size ≤ 600) : (orderingM s x y a d).2.2.size ≤ 600 := by
  unfold orderingM
  simp only
  split
  · exact hx
  · exact hy
theorem comparingM_sz (s : ByteArray) (a : Nat) (d : Bool) : (comparingM s a d).2.2.size ≤ 600 := by
  unfold comparingM
  split
  · show ByteArray.size ⟨#[61, 61]⟩ ≤ 600; decide
  · split
    · show ByteArray.size ⟨#[33, 61]⟩ ≤ 600; decide
    · split
      · exact orderingM_sz _ _ _ _ _ (by decide) (by decide)
      · split
        · exact orderingM_sz _ _ _ _ _ (by decide) (by decide)
        · show ByteArray.size ⟨#[]⟩ ≤ 600; decide

set_option maxHeartbeats 1600000 in
theorem M_sz (s : ByteArray) (h600 : s.size ≤ 600) : ∀ n tag l st r, M s n tag l st = some r → Sz st → Sz r.2 := by
  intro n
  induction n with
  | zero => intro tag l st r h; simp [M] at h
  | succ n ih =>
    intro tag l st r h hg
    have two : ∀ {t1 t2 : Nat} {st0 : St}, Sz st0 → ((M s n t1 0 st0).bind fun r => M s n t2 r.1 r.2) = some r → Sz r.2 := fun hg h => by
      obtain ⟨q, h1, h2⟩ := Option.bind_eq_some_iff.1 h
      exact ih _ _ _ _ h2 (ih _ _ _ _ h1 hg)
    have three : ∀ {t1 t2 : Nat} {st0 : St} {x : Int × St → Ex}, Sz st0 → (∀ r, (x r).text.size ≤ 600) → ((M s n t1 0 st0).bind fun r => (addE r.2 (x r)).bind fun q => M s n t2 q.1 q.2) = some r → Sz r.2 := fun hg hx h => by
      obtain ⟨q, h1, h2⟩ := Option.bind_eq_some_iff.1 h
      obtain ⟨q2, h3, h4⟩ := Option.bind_eq_some_iff.1 h2
      exact ih _ _ _ _ h4 (sz_addE h3 (ih _ _ _ _ h1 hg) (hx q))
    match tag, h with
    | 0, h => rw [M_0] at h; exact two hg h
    | 1, h => rw [M_1] at h; exact two hg h
    | 4, h => rw [M_4] at h; exact two hg h
    | 5, h => rw [M_5] at h; exact two hg h
    | 10, h =>
      rw [M_10] at h
      split at h
      · exact three (st0 := sgn s [124, 124] st) (x := fun r => ⟨6, st.at_, ⟨#[124, 124]⟩, l, r.1⟩) hg (fun r => by show ByteArray.size ⟨#[124, 124]⟩ ≤ 600; decide) h
      · cases h; exact hg
    | 11, h =>
      rw [M_11] at h
      split at h
      · exact three (st0 := sgn s [38, 38] st) (x := fun r => ⟨6, st.at_, ⟨#[38, 38]⟩, l, r.1⟩) hg (fun r => by show ByteArray.size ⟨#[38, 38]⟩ ≤ 600; decide) h
      · cases h; exact hg
    | 14, h =>
      rw [M_14] at h
      simp only at h
      split at h
      · cases h; exact hg
      · rename_i hs
        exact three (st0 := sgn s (sumSignM s st.at_ st.bad).data.toList st) (x := fun r => ⟨6, st.at_, sumSignM s st.at_ st.bad, l, r.1⟩) hg (fun r => sumSignM_size _ _ _) h
    | 15, h =>
      rw [M_15] at h
      simp only at h
      split at h
      · cases h; exact hg
      · rename_i hs
        exact three (st0 := sgn s (productSignM s st.at_ st.bad).data.toList st) (x := fun r => ⟨6, st.at_, productSignM s st.at_ st.bad, l, r.1⟩) hg (fun r => productSignM_size _ _ _) h
    | 2, h =>
      rw [M_2] at h
      split at h
      · exact ih _ _ _ _ h hg
      · obtain ⟨q, h1, h2⟩ := Option.bind_eq_some_iff.1 h
        have hq := ih _ _ _ _ h1 (show Sz (sgn s [33] st) from hg)
        exact sz_addE h2 hq (by show ByteArray.size ⟨#[33]⟩ ≤ 600; decide)
    | 6, h =>
      rw [M_6] at h
      split at h
      · exact ih _ _ _ _ h hg
      · obtain ⟨q, h1, h2⟩ := Option.bind_eq_some_iff.1 h
        have hq := ih _ _ _ _ h1 (show Sz (sgn s [45] st) from hg)
        exact sz_addE h2 hq (by show ByteArray.size ⟨#[45]⟩ ≤ 600; decide)
    | 3, h =>
      rw [M_3] at h
      obtain ⟨q, h1, h2⟩ := Option.bind_eq_some_iff.1 h
      have k1 := ih _ _ _ _ h1 hg
      simp only at h2
      split at h2
      · cases h2; exact k1
      · rename_i hs
        obtain ⟨q2, h3, h4⟩ := Option.bind_eq_some_iff.1 h2
        have hq := ih _ _ _ _ h3 (show Sz (q.2.put3 _) from k1)
        exact sz_addE h4 hq (comparingM_sz _ _ _)
    | 7, h =>
      rw [M_7] at h
      simp only at h
      split at h
      · exact sz_addE h (show Sz (st.put3 _) from hg) (numberM_sz _ _ _ h600)
      · split at h
        · exact sz_addE h (show Sz (st.put3 _) from hg) (quotedM_sz _ _ _ h600)
        · split at h
          · exact sz_addE h (show Sz ((wrd s [64] st).put3 _) from hg) (nameM_sz _ _ _ h600)
          · split at h
            · obtain ⟨q, h1, h2⟩ := Option.bind_eq_some_iff.1 h
              have hq := ih _ _ _ _ h1 (show Sz (sgn s [40] st) from hg)
              cases h2
              exact hq
            · split at h
              · exact sz_addE h (show Sz (st.put3 _) from hg) (nameM_sz _ _ _ h600)
              · exact sz_addE h (show Sz (st.put3 _) from hg) (nameM_sz _ _ _ h600)
    | 8, h => simp [M] at h
    | 9, h => simp [M] at h
    | 12, h => simp [M] at h
    | 13, h => simp [M] at h
    | t + 16, h => simp [M] at h

theorem MC_sz (s : ByteArray) (h600 : s.size ≤ 600) : ∀ n tag cls st r, MC s n tag cls st = some r → Sz st → (∀ c ∈ cls, c.result.size ≤ 600) → Sz r.2.2 ∧ r.2.1.result.size ≤ 600 := by
  intro n
  induction n with
  | zero => intro tag cls st r h; simp [MC] at h
  | succ n ih =>
    intro tag cls st r h hg hc
    match tag, h with
    | 0, h =>
      rw [MC_0] at h
      obtain ⟨q, h1, h2⟩ := Option.bind_eq_some_iff.1 h
      have k1 := ih _ _ _ _ h1 hg (by simp)
      refine ih _ _ _ _ h2 k1.1 fun c hm => ?_
      have : c = q.2.1 := by simpa using hm
      rw [this]; exact k1.2
    | 2, h =>
      rw [MC_2] at h
      split at h
      · split at h
        · obtain ⟨q, h1, h2⟩ := Option.bind_eq_some_iff.1 h
          have k1 := ih _ _ _ _ h1 (show Sz (sgn s [59] st) from hg) (by simp)
          refine ih _ _ _ _ h2 k1.1 fun c hm => ?_
          rcases List.mem_append.1 hm with hm | hm
          · exact hc c hm
          · have : c = q.2.1 := by simpa using hm
            rw [this]; exact k1.2
        · obtain ⟨q, h1, h2⟩ := Option.bind_eq_some_iff.1 h
          cases h2
          exact ⟨sz_addC h1 hg hc, by show ByteArray.size ⟨#[]⟩ ≤ 600; decide⟩
      · cases h
    | 1, h =>
      rw [MC_1] at h
      obtain ⟨q, h1, h2⟩ := Option.bind_eq_some_iff.1 h
      obtain ⟨q2, h3, h4⟩ := Option.bind_eq_some_iff.1 h2
      have k1 := M_sz s h600 _ _ _ _ _ h1 hg
      have k2 := sz_addE h3 k1 (by show ByteArray.size ⟨#[]⟩ ≤ 600; decide)
      split at h4
      · cases h4; exact ⟨k2, by show ByteArray.size ⟨#[]⟩ ≤ 600; decide⟩
      · simp only at h4
        split at h4
        · obtain ⟨v, h7, h8⟩ := Option.bind_eq_some_iff.1 h4
          cases h8
          have kk := ih _ _ _ _ h7 (show Sz (sgn s [123] (sgn s [45, 62] q2.2)) from k2) (by simp)
          exact ⟨kk.1, by show ByteArray.size ⟨#[]⟩ ≤ 600; decide⟩
        · cases h4
          exact ⟨k2, nameM_sz _ _ _ h600⟩
    | t + 3, h => simp [MC] at h

theorem ML_sz (s : ByteArray) (h600 : s.size ≤ 600) : ∀ n tag l p k its st r, ML s n tag l p k its st = some r → Sz st → Sz r.2 := by
  intro n
  induction n with
  | zero => intro tag l p k its st r h; simp [ML] at h
  | succ n ih =>
    intro tag l p k its st r h hg
    have three : ∀ {t1 t2 : Nat} {st0 : St} {x : Int × St → Lc}, Sz st0 → (∀ r, (x r).text.size ≤ 600) → ((ML s n t1 0 0 0 [] st0).bind fun r => (addL r.2 (x r)).bind fun q => ML s n t2 q.1 0 0 [] q.2) = some r → Sz r.2 := fun hg hx h => by
      obtain ⟨q, h1, h2⟩ := Option.bind_eq_some_iff.1 h
      obtain ⟨q2, h3, h4⟩ := Option.bind_eq_some_iff.1 h2
      exact ih _ _ _ _ _ _ _ h4 (sz_addL h3 (ih _ _ _ _ _ _ _ h1 hg) (hx q))
    match tag, h with
    | 0, h =>
      rw [ML_0] at h
      obtain ⟨q, h1, h2⟩ := Option.bind_eq_some_iff.1 h
      exact ih _ _ _ _ _ _ _ h2 (ih _ _ _ _ _ _ _ h1 hg)
    | 1, h =>
      rw [ML_1] at h
      obtain ⟨q, h1, h2⟩ := Option.bind_eq_some_iff.1 h
      exact ih _ _ _ _ _ _ _ h2 (ih _ _ _ _ _ _ _ h1 hg)
    | 10, h =>
      rw [ML_10] at h
      split at h
      · exact three (st0 := sgn s [124, 124] st) (x := fun r => ⟨1, ⟨#[124, 124]⟩, l, r.1, 0, 0, []⟩) hg (fun r => by show ByteArray.size ⟨#[124, 124]⟩ ≤ 600; decide) h
      · cases h; exact hg
    | 11, h =>
      rw [ML_11] at h
      split at h
      · exact three (st0 := sgn s [38, 38] st) (x := fun r => ⟨1, ⟨#[38, 38]⟩, l, r.1, 0, 0, []⟩) hg (fun r => by show ByteArray.size ⟨#[38, 38]⟩ ≤ 600; decide) h
      · cases h; exact hg
    | 2, h =>
      rw [ML_2] at h
      simp only at h
      split at h
      · obtain ⟨q, h1, h2⟩ := Option.bind_eq_some_iff.1 h
        have hq := ih _ _ _ _ _ _ _ h1 (show Sz (sgn s [40] st) from hg)
        cases h2
        exact hq
      · split at h
        · exact ih _ _ _ _ _ _ _ h hg
        · exact sz_addL h (show Sz (st.put3 _) from hg) (nameM_sz _ _ _ h600)
    | 3, h =>
      rw [ML_3] at h
      obtain ⟨q, h1, h2⟩ := Option.bind_eq_some_iff.1 h
      have hq := ih _ _ _ _ _ _ _ h1 (show Sz (sgn s [45, 111, 102, 40] { st with at_ := st.at_ + 1 }) from hg)
      exact ih _ _ _ _ _ _ _ h2 hq
    | 13, h =>
      rw [ML_13] at h
      split at h
      · split at h
        · obtain ⟨u, h1, h2⟩ := Option.bind_eq_some_iff.1 h
          have hq := ih _ _ _ _ _ _ _ h1 (show Sz (sgn s [44] st) from hg)
          exact ih _ _ _ _ _ _ _ h2 hq
        · exact sz_addL h (show Sz (sgn s [41] st) from hg) (by show ByteArray.size ⟨#[]⟩ ≤ 600; decide)
      · cases h
    | 4, h => simp [ML] at h
    | 5, h => simp [ML] at h
    | 6, h => simp [ML] at h
    | 7, h => simp [ML] at h
    | 8, h => simp [ML] at h
    | 9, h => simp [ML] at h
    | 12, h => simp [ML] at h
    | t + 14, h => simp [ML] at h

theorem MA_sz {s : ByteArray} (h600 : s.size ≤ 600) {n : Nat} {st st' : St} (h : MA s n st = some st') (hg : Sz st) : Sz st' := by
  unfold MA at h
  simp only at h
  obtain ⟨⟨r1, st1⟩, h1, hM2⟩ := Option.bind_eq_some_iff.1 h
  obtain ⟨⟨r2, cl2, st2⟩, h2, hM3⟩ := Option.bind_eq_some_iff.1 hM2
  have k1 : Sz st1 := ML_sz s h600 _ _ _ _ _ _ _ _ h1 hg
  have k2 : Sz st2 := (MC_sz s h600 _ _ _ _ _ h2 (show Sz (lstart s [105, 102] (wrd s [10] st1)) from k1) (by simp)).1
  exact sz_addA hM3 (show Sz (wrd s [10] st2) from k2) (nameM_sz _ _ _ h600)
theorem MR_sz (s : ByteArray) (h600 : s.size ≤ 600) : ∀ n st st', MR s n st = some st' → Sz st → Sz st' := by
  intro n
  induction n with
  | zero => intro st st' h; simp [MR] at h
  | succ n ih =>
    intro st st' h hg
    unfold MR at h
    split at h
    · obtain ⟨u, h1, h2⟩ := Option.bind_eq_some_iff.1 h
      exact ih _ _ h2 (MA_sz h600 h1 hg)
    · cases h; exact hg
end Go.Proofs.YtkoohcilbpdgeaaGreatDoor

namespace Go.Proofs.YtkoohcilbpdgeaaGreatDoor
open Go Go.RowKit
attribute [local go_sem] wrap64_byte

def pairB (l s r : ByteArray) : ByteArray := ((((((⟨#[40]⟩ : ByteArray) ++ l) ++ ⟨#[32]⟩) ++ s) ++ ⟨#[32]⟩) ++ r) ++ ⟨#[41]⟩

set_option maxHeartbeats 1600000 in
theorem printPair_any (l s r : ByteArray) (w : World) (h1 : l.size ≤ 1000000000) (h2 : s.size ≤ 1000000000) (h3 : r.size ≤ 1000000000) :
    Calls Tryz.prog 128 #[.string l, .string s, .string r] w fun e w' => e = .returned (.string (pairB l s r)) ∧ Below w.heap.size w w' := by
  have HB := hide (Below.refl w.heap.size w)
  go_enter Tryz.func128, Tryz.ntmps128
  go_wp2_with fail
  go_ret
  exact ⟨rfl, HB.out⟩

/-- The tree behind a pointer: its four rows. -/
structure TP (w : World) (b : Nat) (st : St) (V : Nat → Value) (iv cv : List Value) : Prop where
  c3 : w.cell? ⟨b, 2, none⟩ = some (V 3)
  c4 : w.cell? ⟨b, 3, none⟩ = some (V 4)
  c5 : w.cell? ⟨b, 4, none⟩ = some (V 5)
  c6 : w.cell? ⟨b, 5, none⟩ = some (V 6)
  t : ∃ base, TreeV w base st V iv cv
  el : st.E.length ≤ 100000
  ll : st.L.length ≤ 100000
  cl : st.C.length ≤ 100000
  al : st.A.length ≤ 100000
theorem TP.keep {w w' : World} {b : Nat} {st : St} {V : Nat → Value} {iv cv : List Value} (h : TP w b st V iv cv) (hb : Below w.heap.size w w') : TP w' b st V iv cv := by
  have hlt := block_lt_of_cell h.c3
  obtain ⟨base, ht⟩ := h.t
  exact ⟨(hb.cell (p := ⟨b, 2, none⟩) hlt).trans h.c3, (hb.cell (p := ⟨b, 3, none⟩) hlt).trans h.c4, (hb.cell (p := ⟨b, 4, none⟩) hlt).trans h.c5, (hb.cell (p := ⟨b, 5, none⟩) hlt).trans h.c6, ⟨base, ht.same fun k _ hk => hb.block k hk⟩, h.el, h.ll, h.cl, h.al⟩

set_option maxHeartbeats 1600000 in
theorem exprAt_any (b : Nat) (st : St) (V : Nat → Value) (iv cv : List Value) (i : Nat) (x : Ex) (w : World) (hT : TP w b st V iv cv) (hx : st.E[i]? = some x) :
    Calls Tryz.prog 179 #[.pointer (some ⟨b, 2, none⟩), .int .i64 i] w fun e w' => e = .returned (.agg #[.int .i64 x.form, .int .i64 x.place, .string x.text, .int .i64 x.left, .int .i64 x.right]) ∧ Below w.heap.size w w' := by
  have HB := hide (Below.refl w.heap.size w)
  have hel := hT.el
  have hc := hT.c5
  have hblt := block_lt_of_cell hc
  obtain ⟨base, ht⟩ := hT.t
  have how := ht.own 5 (by omega) (by omega)
  have hlt : i < st.E.length := (List.getElem?_eq_some_iff.1 hx).1
  obtain ⟨a5, k5, e5⟩ : ∃ a k, V 5 = .slice a st.E.length k := ownsRow_slice how
  have how : w.ownsRow base 120 5 (.slice a5 st.E.length k5) st.E.length ((st.E.map Ex.cells).flatten) := e5 ▸ how
  rw [e5] at hc
  obtain ⟨g, cap, hv, hb, hg⟩ := how.form (by omega)
  injection hv with e1 e2 e3
  subst e1 e3
  have hcell : ∀ j u, x.cells[j]? = some u → j < 5 → w.cell? ⟨g, i * 5 + j, none⟩ = some u := fun j u hu hj => 
    row_cell how _ _ ((flat_get Ex.cells 5 Ex.cells_len st.E i j x hx hj).trans hu)
  have q0 : w.cell? ⟨g, i * 5, none⟩ = some (.int .i64 x.form) := hcell 0 _ rfl (by omega)
  have q1 := hcell 1 _ rfl (by omega)
  have q2 := hcell 2 _ rfl (by omega)
  have q3 := hcell 3 _ rfl (by omega)
  have q4 := hcell 4 _ rfl (by omega)
  have hlt' : (i : Int) < st.E.length := by omega
  clear hcell how hx ht hT e5
  go_enter Tryz.func179, Tryz.ntmps179
  go_wp2_with fail
  exact bodyPost_ret (v := .agg #[.int .i64 x.form, .int .i64 x.place, .string x.text, .int .i64 x.left, .int .i64 x.right]) (by simp [results, Tryz.results179, go_sem]) rfl ⟨rfl, HB.out.alloc (Nat.le_refl _) _⟩

def LAPost (x : Lc) (w : World) (e : Ending) (w' : World) : Prop := ∃ a k base, e = .returned (.agg #[.int .i64 x.form, .string x.text, .int .i64 x.left, .int .i64 x.right, .int .i64 x.place, .int .i64 x.count, .slice a x.items.length k]) ∧ w.ownsRow base 3 1 (.slice a x.items.length k) x.items.length (x.items.map (Value.int .i64)) ∧ Below w.heap.size w w'
def CAPost (x : List Cl) (w : World) (e : Ending) (w' : World) : Prop := ∃ a k base, e = .returned (.agg #[.slice a x.length k]) ∧ w.ownsRow base 156 4 (.slice a x.length k) x.length ((x.map Cl.cells).flatten) ∧ Below w.heap.size w w'
set_option maxHeartbeats 1600000 in
theorem licAt_any (b : Nat) (st : St) (V : Nat → Value) (iv cv : List Value) (i : Nat) (x : Lc) (w : World) (hT : TP w b st V iv cv) (hx : st.L[i]? = some x) :
    Calls Tryz.prog 112 #[.pointer (some ⟨b, 2, none⟩), .int .i64 i] w fun e w' => LAPost x w e w' := by
  have HB := hide (Below.refl w.heap.size w)
  have hel := hT.ll
  have hc := hT.c4
  have hblt := block_lt_of_cell hc
  obtain ⟨base, ht⟩ := hT.t
  have how := ht.own 4 (by omega) (by omega)
  have hlt : i < st.L.length := (List.getElem?_eq_some_iff.1 hx).1
  obtain ⟨u, hu⟩ : ∃ u, iv[i]? = some u := ⟨iv[i]'(by have := ht.il; omega), List.getElem?_eq_getElem (by have := ht.il; omega)⟩
  have hit := ht.items i x u hx hu
  obtain ⟨a6, k6, rfl⟩ := ownsRow_slice hit
  have HIT := hide hit
  obtain ⟨a5, k5, e5⟩ : ∃ a k, V 4 = .slice a st.L.length k := ownsRow_slice how
  have how : w.ownsRow base 160 7 (.slice a5 st.L.length k5) st.L.length ((List.zipWith Lc.cells st.L iv).flatten) := e5 ▸ how
  rw [e5] at hc
  obtain ⟨g, cap, hv, hb, hg⟩ := how.form (by omega)
  injection hv with e1 e2 e3
  subst e1 e3
  have hcell : ∀ j z, (x.cells (.slice a6 x.items.length k6))[j]? = some z → j < 7 → w.cell? ⟨g, i * 7 + j, none⟩ = some z := fun j z hz hj =>
    row_cell how _ _ ((zip_get st.L iv i j x _ hx hu hj).trans hz)
  have q0 : w.cell? ⟨g, i * 7, none⟩ = some (.int .i64 x.form) := hcell 0 _ rfl (by omega)
  have q1 := hcell 1 _ rfl (by omega)
  have q2 := hcell 2 _ rfl (by omega)
  have q3 := hcell 3 _ rfl (by omega)
  have q4 := hcell 4 _ rfl (by omega)
  have q5 := hcell 5 _ rfl (by omega)
  have q6 := hcell 6 _ rfl (by omega)
  have hlt' : (i : Int) < st.L.length := by omega
  clear hcell how hx ht hT e5 hit hu
  go_enter Tryz.func112, Tryz.ntmps112
  go_wp2_with fail
  exact bodyPost_ret (v := .agg #[.int .i64 x.form, .string x.text, .int .i64 x.left, .int .i64 x.right, .int .i64 x.place, .int .i64 x.count, .slice a6 x.items.length k6]) (by simp [results, Tryz.results112, go_sem]) rfl ⟨a6, k6, base, rfl, HIT.out, HB.out.alloc (Nat.le_refl _) _⟩

set_option maxHeartbeats 1600000 in
theorem condsAt_any (b : Nat) (st : St) (V : Nat → Value) (iv cv : List Value) (i : Nat) (x : List Cl) (w : World) (hT : TP w b st V iv cv) (hx : st.C[i]? = some x) :
    Calls Tryz.prog 130 #[.pointer (some ⟨b, 2, none⟩), .int .i64 i] w fun e w' => CAPost x w e w' := by
  have HB := hide (Below.refl w.heap.size w)
  have hel := hT.cl
  have hc := hT.c6
  have hblt := block_lt_of_cell hc
  obtain ⟨base, ht⟩ := hT.t
  have how := ht.own 6 (by omega) (by omega)
  have hlt : i < st.C.length := (List.getElem?_eq_some_iff.1 hx).1
  obtain ⟨u, hu⟩ : ∃ u, cv[i]? = some u := ⟨cv[i]'(by have := ht.cl; omega), List.getElem?_eq_getElem (by have := ht.cl; omega)⟩
  have hit := ht.clauses i x u hx hu
  obtain ⟨a6, k6, rfl⟩ := ownsRow_slice hit
  have HIT := hide hit
  obtain ⟨a5, k5, e5⟩ : ∃ a k, V 6 = .slice a st.C.length k := ownsRow_slice how
  have how : w.ownsRow base 133 1 (.slice a5 st.C.length k5) st.C.length cv := e5 ▸ how
  rw [e5] at hc
  obtain ⟨g, cap, hv, hb, hg⟩ := how.form (by omega)
  injection hv with e1 e2 e3
  subst e1 e3
  have q0 : w.cell? ⟨g, i, none⟩ = some (.slice a6 x.length k6) := row_cell how _ _ hu
  have hlt' : (i : Int) < st.C.length := by omega
  clear how hx ht hT e5 hit hu
  go_enter Tryz.func130, Tryz.ntmps130
  go_wp2_with fail
  exact bodyPost_ret (v := .agg #[.slice a6 x.length k6]) (by simp [results, Tryz.results130, go_sem]) rfl ⟨a6, k6, base, rfl, HIT.out, HB.out.alloc (Nat.le_refl _) _⟩

theorem digit_of : ∀ k : Fin 10, (⟨#[48, 49, 50, 51, 52, 53, 54, 55, 56, 57, 97, 98, 99, 100, 101, 102, 103, 104, 105, 106, 107, 108, 109, 110, 111, 112, 113, 114, 115, 116, 117, 118, 119, 120, 121, 122]⟩ : ByteArray).extract k.val (k.val + 1) = ⟨#[(k.val + 48).toUInt8]⟩ := by decide
set_option maxHeartbeats 1600000 in
theorem small_any (c : UInt8) (w : World) (h1 : 48 ≤ c.toNat) (h2 : c.toNat ≤ 57) :
    Calls Tryz.prog 155 #[.int .i64 ((c.toNat : Int) - 48)] w fun e w' => e = .returned (.string ⟨#[c]⟩) ∧ w' = w := by
  obtain ⟨k, hk⟩ : ∃ k : Nat, c.toNat = k + 48 := ⟨c.toNat - 48, by omega⟩
  have hc : c = (k + 48).toUInt8 := by rw [← hk]; simp
  have he : (c.toNat : Int) - 48 = (k : Int) := by omega
  rw [he]
  have hk9 : k < 10 := by omega
  have hfin : Hid (c = (k + 48).toUInt8) := hide hc
  clear hk hc he h1 h2
  go_enter Tryz.func155, Tryz.ntmps155
  go_wp2_with fail
  go_ret
  exact ⟨by rw [hfin.out]; exact congrArg _ (congrArg _ (digit_of ⟨k, hk9⟩)), rfl⟩
set_option maxHeartbeats 1600000 in
theorem formatInt_any (c : UInt8) (w : World) (h1 : 48 ≤ c.toNat) (h2 : c.toNat ≤ 57) :
    Calls Tryz.prog 126 #[.int .i64 ((c.toNat : Int) - 48), .int .i64 10] w fun e w' => e = .returned (.string ⟨#[c]⟩) ∧ w' = w := by
  have H := hide (small_any c w h1 h2)
  have e1 : 0 ≤ (c.toNat : Int) - 48 := by omega
  have e2 : (c.toNat : Int) - 48 < 100 := by omega
  generalize (c.toNat : Int) - 48 = z at *
  go_enter Tryz.func126, Tryz.ntmps126
  go_wp2_with fail
  refine H.out.mono ?_
  rintro e w1 ⟨rfl, rfl⟩
  go_wp2_with fail
  go_ret
  exact ⟨rfl, rfl⟩
set_option maxHeartbeats 1600000 in
theorem itoaI_any (c : UInt8) (w : World) (h1 : 48 ≤ c.toNat) (h2 : c.toNat ≤ 57) :
    Calls Tryz.prog 111 #[.int .i64 ((c.toNat : Int) - 48)] w fun e w' => e = .returned (.string ⟨#[c]⟩) ∧ w' = w := by
  have H := hide (formatInt_any c w h1 h2)
  have e1 : 0 ≤ (c.toNat : Int) - 48 := by omega
  have e2 : (c.toNat : Int) - 48 < 100 := by omega
  generalize (c.toNat : Int) - 48 = z at *
  go_enter Tryz.func111, Tryz.ntmps111
  go_wp2_with fail
  refine H.out.mono ?_
  rintro e w1 ⟨rfl, rfl⟩
  go_wp2_with fail
  go_ret
  exact ⟨rfl, rfl⟩
set_option maxHeartbeats 1600000 in
theorem itoa_any (c : UInt8) (w : World) (h1 : 48 ≤ c.toNat) (h2 : c.toNat ≤ 57) :
    Calls Tryz.prog 70 #[.int .i64 ((c.toNat : Int) - 48)] w fun e w' => e = .returned (.string ⟨#[c]⟩) ∧ w' = w := by
  have H := hide (itoaI_any c w h1 h2)
  have e1 : 0 ≤ (c.toNat : Int) - 48 := by omega
  have e2 : (c.toNat : Int) - 48 < 100 := by omega
  generalize (c.toNat : Int) - 48 = z at *
  go_enter Tryz.func70, Tryz.ntmps70
  go_wp2_with fail
  refine H.out.mono ?_
  rintro e w1 ⟨rfl, rfl⟩
  go_wp2_with fail
  go_ret
  exact ⟨rfl, rfl⟩
end Go.Proofs.YtkoohcilbpdgeaaGreatDoor

namespace Go.Proofs.YtkoohcilbpdgeaaGreatDoor
open Go Go.RowKit
attribute [local go_sem] wrap64_byte

/-- Row i of E is printed as t. -/
def PrE (E : List Ex) : Nat → Int → ByteArray → Prop
  | 0, _, _ => False
  | f + 1, i, t => t.size ≤ 1000000000 ∧ ∃ (n : Nat) (x : Ex), i = (n : Int) ∧ E[n]? = some x ∧ x.text.size ≤ 600 ∧ (
      ((x.form = 0 ∨ x.form = 2 ∨ x.form = 3) ∧ t = x.text) ∨
      (x.form = 1 ∧ t = ((⟨#[34]⟩ : ByteArray) ++ x.text) ++ ⟨#[34]⟩) ∨
      (x.form = 4 ∧ t = (⟨#[64]⟩ : ByteArray) ++ x.text) ∨
      (x.form = 5 ∧ ∃ t1, PrE E f x.left t1 ∧ t = x.text ++ t1) ∨
      (x.form = 6 ∧ ∃ t1 t2, PrE E f x.left t1 ∧ PrE E f x.right t2 ∧ t = pairB t1 x.text t2) ∨
      (x.form = 7 ∧ PrE E f x.left t))
theorem PrE.sz {E : List Ex} {f : Nat} {i : Int} {t : ByteArray} (h : PrE E f i t) : t.size ≤ 1000000000 := by
  cases f with
  | zero => exact absurd h id
  | succ f => exact h.1
theorem Below.drew1 (w : World) : Below w.heap.size w w.drew := ⟨rfl, rfl, rfl, Nat.le_refl _, fun _ _ => rfl⟩
theorem TP.drew {w : World} {b : Nat} {st : St} {V : Nat → Value} {iv cv : List Value} (h : TP w b st V iv cv) : TP w.drew b st V iv cv := h.keep (Below.drew1 w)
theorem below_drew {a W W2 : World} (h : Below a.heap.size a W) (k : Below W.drew.heap.size W.drew W2) : Below a.heap.size a W2 :=
  h.trans ((Below.drew1 W).trans k |>.mono h.size)
def StrPost (t : ByteArray) (w : World) (e : Ending) (w' : World) : Prop := e = .returned (.string t) ∧ Below w.heap.size w w'

set_option maxHeartbeats 3200000 in
theorem printExpr_any (b : Nat) (st : St) (V : Nat → Value) (iv cv : List Value) : ∀ (f : Nat) (i : Int) (t : ByteArray) (w : World), TP w b st V iv cv → PrE st.E f i t →
    Calls Tryz.prog 163 #[.pointer (some ⟨b, 2, none⟩), .int .i64 i] w fun e w' => StrPost t w e w' := by
  intro f
  induction f with
  | zero => intro i t w _ h; exact absurd h id
  | succ f ih =>
    intro i t w hT ⟨hsz, n, x, hi, hx, hxs, h⟩
    subst hi
    have HE := hide (exprAt_any b st V iv cv n x w hT hx)
    have HT := hide hT
    have IH := hide ih
    clear ih hT hx
    rcases h with ⟨h1, h2⟩ | ⟨h1, h2⟩ | ⟨h1, h2⟩ | ⟨h1, t1, h2, h3⟩ | ⟨h1, t1, t2, h2, h3, h4⟩ | ⟨h1, h2⟩
    · subst h2
      go_enter Tryz.func163, Tryz.ntmps163
      go_wp2_with fail
      refine HE.out.mono ?_
      rintro e w1 ⟨rfl, hB⟩
      have hB1 := hide (hB.alloc hB.size (.cells #[.int .i64 x.form, .int .i64 x.place, .string x.text, .int .i64 x.left, .int .i64 x.right] 120))
      rcases h1 with h1 | h1 | h1
      · rw [h1] at hB1 ⊢
        go_wp2_with fail
        go_ret
        exact ⟨rfl, hB1.out⟩
      · rw [h1] at hB1 ⊢
        go_wp2_with fail
        go_ret
        exact ⟨rfl, hB1.out⟩
      · rw [h1] at hB1 ⊢
        go_wp2_with fail
        go_ret
        exact ⟨rfl, hB1.out⟩
    · subst h2
      go_enter Tryz.func163, Tryz.ntmps163
      go_wp2_with fail
      refine HE.out.mono ?_
      rintro e w1 ⟨rfl, hB⟩
      have hB1 := hide (hB.alloc hB.size (.cells #[.int .i64 x.form, .int .i64 x.place, .string x.text, .int .i64 x.left, .int .i64 x.right] 120))
      rw [h1] at hB1 ⊢
      go_wp2_with fail
      go_ret
      exact ⟨rfl, hB1.out⟩
    · subst h2
      go_enter Tryz.func163, Tryz.ntmps163
      go_wp2_with fail
      refine HE.out.mono ?_
      rintro e w1 ⟨rfl, hB⟩
      have hB1 := hide (hB.alloc hB.size (.cells #[.int .i64 x.form, .int .i64 x.place, .string x.text, .int .i64 x.left, .int .i64 x.right] 120))
      rw [h1] at hB1 ⊢
      go_wp2_with fail
      go_ret
      exact ⟨rfl, hB1.out⟩
    · have hs1 := h2.sz
      subst h3
      go_enter Tryz.func163, Tryz.ntmps163
      go_wp2_with fail
      refine HE.out.mono ?_
      rintro e w1 ⟨rfl, hB⟩
      have hB1 := hide (hB.alloc hB.size (.cells #[.int .i64 x.form, .int .i64 x.place, .string x.text, .int .i64 x.left, .int .i64 x.right] 120))
      have hT1 := HT.out.keep (hB.alloc hB.size (.cells #[.int .i64 x.form, .int .i64 x.place, .string x.text, .int .i64 x.left, .int .i64 x.right] 120))
      rw [h1] at hB1 hT1 ⊢
      have HT1 := hide hT1
      have hbx := heap_alloc_new w1 (.cells #[.int .i64 5, .int .i64 x.place, .string x.text, .int .i64 x.left, .int .i64 x.right] 120)
      have HBX := hide hbx
      clear hT1 hB hbx
      go_wp2_with fail
      have HTd := hide (HT1.out.drew)
      go_region_with (go_at_call 163; refine (IH.out _ _ _ HTd.out h2).mono ?_; rintro e w2 ⟨rfl, hB2⟩; (have hbx2 := (hB2.block w1.heap.size (by show w1.heap.size < (w1.alloc _).heap.size; simp)).trans HBX.out); (have hc2 : w2.cell? ⟨w1.heap.size, 2, none⟩ = some (.string x.text) := by simp [World.cell?, hbx2]); (have HB2 := hide hB2); (clear hB2 hbx2))
      all_goals go_wp2_with fail
      all_goals go_ret
      all_goals exact ⟨rfl, below_drew hB1.out HB2.out⟩
    · have hs1 := h2.sz
      have hs2 := h3.sz
      subst h4
      go_enter Tryz.func163, Tryz.ntmps163
      go_wp2_with fail
      refine HE.out.mono ?_
      rintro e w1 ⟨rfl, hB⟩
      have hB1 := hide (hB.alloc hB.size (.cells #[.int .i64 x.form, .int .i64 x.place, .string x.text, .int .i64 x.left, .int .i64 x.right] 120))
      have hT1 := HT.out.keep (hB.alloc hB.size (.cells #[.int .i64 x.form, .int .i64 x.place, .string x.text, .int .i64 x.left, .int .i64 x.right] 120))
      rw [h1] at hB1 hT1 ⊢
      have HC := hide (IH.out _ _ _ hT1 h2)
      have hbx := heap_alloc_new w1 (.cells #[.int .i64 6, .int .i64 x.place, .string x.text, .int .i64 x.left, .int .i64 x.right] 120)
      have HBX := hide hbx
      have HT1 := hide hT1
      clear hT1 hB hbx
      go_wp2_with fail
      refine HC.out.mono ?_
      rintro e w2 ⟨rfl, hB2⟩
      have hT2 := HT1.out.keep hB2
      have hB2' := hide (hB1.out.trans (hB2.mono hB1.out.size))
      have hbx2 := (hB2.block w1.heap.size (by simp)).trans HBX.out
      have hc2 : w2.cell? ⟨w1.heap.size, 2, none⟩ = some (.string x.text) := by simp [World.cell?, hbx2]
      have hc4 : w2.cell? ⟨w1.heap.size, 4, none⟩ = some (.int .i64 x.right) := by simp [World.cell?, hbx2]
      have HBX2 := hide hbx2
      have HC2 := hide (IH.out _ _ _ hT2 h3)
      clear hT2 hB2 hbx2
      go_wp2_with fail
      refine HC2.out.mono ?_
      rintro e w3 ⟨rfl, hB3⟩
      have hB3' := hide (hB2'.out.trans (hB3.mono hB2'.out.size))
      have hlt : w1.heap.size < w2.heap.size := (Array.getElem?_eq_some_iff.1 HBX2.out).1
      have hbx3 := (hB3.block w1.heap.size hlt).trans HBX2.out
      have hc3 : w3.cell? ⟨w1.heap.size, 2, none⟩ = some (.string x.text) := by simp [World.cell?, hbx3]
      clear hB3 hbx3
      go_wp2_with fail
      refine (printPair_any t1 x.text t2 w3 hs1 (by omega) hs2).mono ?_
      rintro e w4 ⟨rfl, hB4⟩
      have hB4' := hide (hB3'.out.trans (hB4.mono hB3'.out.size))
      clear hB4
      go_wp2_with fail
      go_ret
      exact ⟨rfl, hB4'.out⟩
    · have hs1 := h2.sz
      go_enter Tryz.func163, Tryz.ntmps163
      go_wp2_with fail
      refine HE.out.mono ?_
      rintro e w1 ⟨rfl, hB⟩
      have hB1 := hide (hB.alloc hB.size (.cells #[.int .i64 x.form, .int .i64 x.place, .string x.text, .int .i64 x.left, .int .i64 x.right] 120))
      have hT1 := HT.out.keep (hB.alloc hB.size (.cells #[.int .i64 x.form, .int .i64 x.place, .string x.text, .int .i64 x.left, .int .i64 x.right] 120))
      rw [h1] at hB1 hT1 ⊢
      have HC := hide (IH.out _ _ _ hT1 h2)
      clear hT1 hB
      go_wp2_with fail
      refine HC.out.mono ?_
      rintro e w2 ⟨rfl, hB2⟩
      have hB2' := hide (hB1.out.trans (hB2.mono hB1.out.size))
      clear hB2
      go_wp2_with fail
      go_ret
      exact ⟨rfl, hB2'.out⟩
end Go.Proofs.YtkoohcilbpdgeaaGreatDoor
