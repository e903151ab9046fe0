import Derived.Test.YtkoohcilbpdgeaaGreatDoorC35
set_option linter.all false
set_option linter.unusedVariables false
set_option linter.unusedSimpArgs false
set_option linter.unnecessarySimpa false
set_option linter.constructorNameAsVariable false
set_option linter.deprecated false
namespace Go.Proofs.YtkoohcilbpdgeaaGreatDoor
open Go Go.RowKit
attribute [local go_sem] wrap64_byte

theorem typeAt_range {ls : List Int} {n : Int} (hn : 0 < n) (h : ∀ x ∈ ls, 0 ≤ x ∧ x < n) (i : Int) : 0 ≤ typeAtM ls i ∧ typeAtM ls i < n := by
  unfold typeAtM
  split
  · omega
  · simp only [List.getD]
    cases hq : ls[i.toNat]? with
    | none => simp; omega
    | some y => exact h y (List.mem_of_getElem? hq)
theorem highM_range (vals : List ByteArray) (W : List Wt) (ls : List Int) (hn : 0 < vals.length) (hls : ∀ x ∈ ls, 0 ≤ x ∧ x < (vals.length : Int)) : ∀ (cs : List Cl) (h : Int), 0 ≤ h → h < vals.length → 0 ≤ highM vals W ls cs h ∧ highM vals W ls cs h < vals.length := by
  intro cs
  induction cs with
  | nil => intro h h1 h2; exact ⟨h1, h2⟩
  | cons c cs ih =>
    intro h h1 h2
    unfold highM
    have hr : rlM vals ls c < vals.length := by
      unfold rlM
      split
      · rcases plM_range c.result vals 0 with q | q <;> omega
      · split
        · exact (typeAt_range (by omega) hls _).2
        · omega
    split
    · rename_i q
      have : h < rlM vals ls c := by
        simp only [Bool.and_eq_true, decide_eq_true_eq] at q
        exact q.2
      exact ih _ (by omega) hr
    · exact ih _ h1 h2
theorem lvsM_range (vals : List ByteArray) (W : List Wt) (hn : 0 < vals.length) : ∀ (C : List (List Cl)) (ls : List Int), (∀ x ∈ ls, 0 ≤ x ∧ x < (vals.length : Int)) → ∀ x ∈ lvsM vals W C ls, 0 ≤ x ∧ x < (vals.length : Int) := by
  intro C
  induction C with
  | nil => intro ls h; exact h
  | cons c C ih =>
    intro ls h
    refine ih _ fun x hx => ?_
    rcases List.mem_append.1 hx with q | q
    · exact h x q
    · have e : x = highM vals W ls c 0 := by simpa using q
      rw [e]; exact highM_range vals W ls hn h c 0 (by omega) (by omega)
theorem grM_zero {s a v q : ByteArray} {st : St} (h : grM s a v q st = 0) : (vlM v).2 = false ∧ (raM a).2 = false ∧ (ckM s st).1 = 0 ∧ s.size ≤ 600 ∧ a.size ≤ 100 ∧ (rqM q).2 = false := by
  unfold grM at h
  split at h
  · cases h
  · rename_i h0
    split at h
    · rename_i h1; rw [h] at h1; simp at h1
    · rename_i h1
      split at h
      · cases h
      · rename_i h2
        simp only [Bool.or_eq_true, not_or, decide_eq_true_eq] at h0 h2
        exact ⟨by simpa using h2.1.2, by simpa using h2.1.1, by simpa using h1, by omega, by omega, by simpa using h2.2⟩
theorem vlM_two {v : ByteArray} (h : (vlM v).2 = false) : 2 ≤ (vlM v).1.length := by
  unfold vlM at h ⊢
  split at h
  · cases h
  · rename_i q
    rw [if_neg q]
    simp only [Bool.or_eq_true, not_or, decide_eq_true_eq] at q
    show 2 ≤ (rnM v).1.length
    omega

set_option maxRecDepth 100000 in
set_option maxHeartbeats 3200000 in
theorem condR_of (s a v : ByteArray) (k : Int) (st : St) (w : World) (h : Calls Tryz.prog 57 #[.string s, .string a, .string v, .string ⟨#[]⟩, .bool false] w fun e w' => AkPost s a v ⟨#[]⟩ st w e w') (hg : GoodE st.E) (hcov : CovA st) (hA : st.A.length ≤ 100000) (hCl : ∀ c ∈ st.C, c.length ≤ 100000) (hvl : (vlM v).1.length ≤ 100000) (hll : (raM a).1.length ≤ 100000) (hls : ∀ p ∈ (raM a).1, p.2.size ≤ 600) (hEs : ∀ x ∈ st.E, x.text.size ≤ 600)
    (hW : grM s a v ⟨#[]⟩ st = 0 → ∀ x ∈ worthsM (raM a).1 st.E [], x.text.size ≤ 100000000 ∧ -999999999 ≤ x.num ∧ x.num ≤ 999999999) :
    Calls Tryz.prog 31 #[.string s, .int .i64 k, .string a, .string v] w fun e w' => WoPost (coM s a v k st).1 (coM s a v k st).2 w e w' := by
  have HC := hide h
  have HG := hide (And.intro hg (And.intro hcov (And.intro hCl (And.intro hls (And.intro hEs hW)))))
  have hzz := hide (@grM_zero s a v ⟨#[]⟩ st)
  clear h hg hcov hCl hls hEs hW
  go_enter Tryz.func31, Tryz.ntmps31
  go_wp2_with fail
  refine HC.out.mono ?_
  rintro e w1 ⟨x1, x2, x3, x4, rfl, hB1, ⟨a1, n1, k1, rfl⟩, ⟨a2, n2, k2, rfl⟩, ⟨a3, n3, k3, rfl⟩, ⟨a4, n4, k4, rfl⟩, hQ⟩
  have hco : Hid (coM s a v k st = if grM s a v ⟨#[]⟩ st != 0 then (⟨#[]⟩, grM s a v ⟨#[]⟩ st) else if decide (k < 0) || decide ((st.A.length : Int) ≤ k) then (⟨#[]⟩, 8) else (vaM (vlM v).1 (typeAtM (lvsM (vlM v).1 (worthsM (raM a).1 st.E []) st.C []) ((st.A.getD k.toNat ⟨⟨#[]⟩, 0, 0⟩).conds)), 0)) := hide rfl
  have HB1 := hide hB1
  have HQ := hide hQ
  clear hB1 hQ HC
  generalize grM s a v ⟨#[]⟩ st = E at *
  cases hEz : (E != 0)
  case true =>
    have hres : Hid (coM s a v k st = (⟨#[]⟩, E)) := hide (by rw [hco.out, hEz]; rfl)
    go_wp2_with fail
    go_ret2
    exact ⟨by rw [hres.out]; rfl, HB1.out⟩
  have hE0 : E = 0 := by simpa using hEz
  subst hE0
  obtain ⟨f, ps, how, hseg, hO2, hO3, _⟩ := HQ.out rfl
  have hv2 := vlM_two (hzz.out rfl).1
  have hco2 : Hid (coM s a v k st = if decide (k < 0) || decide ((st.A.length : Int) ≤ k) then (⟨#[]⟩, 8) else (vaM (vlM v).1 (typeAtM (lvsM (vlM v).1 (worthsM (raM a).1 st.E []) st.C []) ((st.A.getD k.toNat ⟨⟨#[]⟩, 0, 0⟩).conds)), 0)) := hide (by rw [hco.out]; rfl)
  have hn1 : n1 = st.A.length := by
    obtain ⟨a2, k2, e2⟩ := ownsRow_slc how
    injection e2
  have hn3 : n3 = (vlM v).1.length := by
    obtain ⟨qa, qk, q⟩ := ownsRow_slice hO3
    injection q with _ q _
  subst hn1 hn3
  have HW := hide how
  have HS := hide hseg
  have hpl := hide (SegA.len _ _ _ _ _ _ hseg)
  have HO2 := hide hO2
  have HO3 := hide hO3
  clear how hseg hO2 hO3 HQ hEz hco hzz
  by_cases hk0 : k < 0
  · have hres : Hid (coM s a v k st = (⟨#[]⟩, 8)) := hide (by rw [hco2.out]; simp [hk0])
    go_wp2_with fail
    go_ret2
    exact ⟨by rw [hres.out]; rfl, HB1.out⟩
  by_cases hkA : (st.A.length : Int) ≤ k
  · have hres : Hid (coM s a v k st = (⟨#[]⟩, 8)) := hide (by rw [hco2.out]; simp [hkA])
    go_wp2_with fail
    go_ret2
    exact ⟨by rw [hres.out]; rfl, HB1.out⟩
  obtain ⟨j, rfl⟩ := Int.eq_ofNat_of_zero_le (show 0 ≤ k by omega)
  have hjA : j < st.A.length := by omega
  obtain ⟨pp, hpp⟩ : ∃ pp, ps[j]? = some pp := ⟨ps[j]'(by have := hpl.out; omega), List.getElem?_eq_getElem _⟩
  obtain ⟨x, a', b', e', g', hx, li, ci, r1, r2, r3, r4, r5⟩ := SegA.get _ _ _ _ _ _ j pp HS.out hpp
  obtain ⟨g, cap, hvx, hb, hgl⟩ := HW.out.form (by omega)
  injection hvx with e1 e2 e3
  subst e1 e3
  have c2 : w1.cell? ⟨g, j * 3 + 2, none⟩ = some (.pointer pp.2) := row_cell HW.out _ _ ((rowA_get hpp hx (by omega)).trans rfl)
  obtain ⟨hgd, ⟨fk, hcov⟩, hCl, hls, hEs, hWW⟩ := HG.out
  obtain ⟨A, A0, A1, AP⟩ := SegB.parts _ _ _ hcov
  obtain ⟨kx, z1, z2, z3⟩ := AP j x hx
  have hkc : kx = ci := by rw [r2] at z1; omega
  subst hkc
  have hC := hide (cond_CX hgd (raM a).1 (.slice a2 n2 k2) _ hll hls hEs (hWW rfl) (vlM v).1 _ a3 k3 hvl hCl f _ kx b' g' fk (A j) w1 r5 z2 HO2.out HO3.out)
  have hres : Hid (coM s a v j st = (vaM (vlM v).1 (typeAtM (lvsM (vlM v).1 (worthsM (raM a).1 st.E []) st.C []) kx), 0)) := hide (by
    rw [hco2.out]
    have h1 : ¬ st.A.length ≤ j := by omega
    simp [h1, List.getD, hx, r2])
  have hrg := typeAt_range (ls := lvsM (vlM v).1 (worthsM (raM a).1 st.E []) st.C []) (n := (vlM v).1.length) (by omega) (lvsM_range _ _ (by omega) _ _ (fun x h => by cases h)) kx
  generalize typeAtM (lvsM (vlM v).1 (worthsM (raM a).1 st.E []) st.C []) kx = lev at *
  obtain ⟨m, rfl⟩ := Int.eq_ofNat_of_zero_le hrg.1
  have hm : m < (vlM v).1.length := by omega
  obtain ⟨y, hy⟩ : ∃ y, (vlM v).1[m]? = some y := ⟨(vlM v).1[m], List.getElem?_eq_getElem hm⟩
  have hres2 : Hid (coM s a v j st = (y, 0)) := hide (by
    rw [hres.out]
    unfold vaM
    rw [if_neg (by omega)]
    simp [List.getD, hy])
  obtain ⟨g3, cap3, hv3, hb3, hg3⟩ := HO3.out.form (by omega)
  injection hv3 with e1 e2 e3
  subst e1 e3
  have c3 : w1.cell? ⟨g3, m, none⟩ = some (.string y) := row_cell HO3.out _ _ (by rw [List.getElem?_map, hy]; rfl)
  have hjA' : (j : Int) < st.A.length := by omega
  have hm' : (m : Int) < (vlM v).1.length := by omega
  clear hres hco2 HG hcov AP z1 z2 z3 A0 A1 hWW hCl hls hEs hgd r1 r2 r3 r4 r5 hx hpp hy HS HW HO2 HO3 hk0 hkA
  go_wp2_with fail
  refine hC.out.mono ?_
  rintro e w2 ⟨rfl, hB2⟩
  have d3 := (hB2.cell (p := ⟨g3, m, none⟩) hg3).trans c3
  have HB2 := hide (HB1.out.trans (hB2.mono HB1.out.size))
  clear hB2 c3 c2
  go_wp2_with fail
  go_ret2
  exact ⟨by rw [hres2.out]; rfl, HB2.out⟩
end Go.Proofs.YtkoohcilbpdgeaaGreatDoor

namespace Go.Proofs.YtkoohcilbpdgeaaGreatDoor
open Go Go.RowKit
attribute [local go_sem] wrap64_byte

def RowOk (l : List (ByteArray × ByteArray)) (E : List Ex) (p : Nat) : Prop := (wAt (worthsM l E []) (p : Int)).text.size ≤ 600 * (p + 1)
theorem rowsE {X : Nat → Prop} {w : World} {E : List Ex} (l : List (ByteArray × ByteArray)) (hls : ∀ p ∈ l, p.2.size ≤ 600) (hE : ∀ x ∈ E, x.text.size ≤ 600) {f : Nat} {v : Value} {a i : Nat} (h : RefEX X w E f v a i) : ∀ p, a ≤ p → p ≤ i → RowOk l E p := fun p h1 h2 => by
  obtain ⟨f', a', hr⟩ := h.rng.sub p h1 h2
  have := hr.size l hls hE
  unfold RowOk
  omega
theorem rowsS {X : Nat → Prop} {w : World} {E : List Ex} (l : List (ByteArray × ByteArray)) (hls : ∀ p ∈ l, p.2.size ≤ 600) (hE : ∀ x ∈ E, x.text.size ≤ 600) {f : Nat} {sub : Value → Nat → Nat → Nat → Prop} (hs : ∀ v ci a e, sub v ci a e → ∀ p, a ≤ p → p < e → RowOk l E p) :
    ∀ (vs : List Value) (cs : List Cl) (a e : Nat), SegC (fun v c a e => ClX X w E f sub v c a e) vs cs a e → ∀ p, a ≤ p → p < e → RowOk l E p := by
  intro vs
  induction vs with
  | nil =>
    intro cs a e h p h1 h2
    cases cs with
    | nil => have h : a = e := h; omega
    | cons c cs => exact absurd h id
  | cons u vs ih =>
    intro cs a e h p h1 h2
    cases cs with
    | nil => exact absurd h id
    | cons c cs =>
      obtain ⟨m, ⟨v1, i, x, q1, q2, q3, q4, q5, q6⟩, h3⟩ := h
      by_cases hm : m ≤ p
      · exact ih cs m e h3 p hm h2
      · by_cases hi : p ≤ i
        · exact rowsE l hls hE q1 p h1 hi
        · by_cases hi1 : p = i + 1
          · subst hi1
            have := rowsE l hls hE q1 i q1.le (Nat.le_refl _)
            unfold RowOk at this ⊢
            rw [wAt_test l q2 q3 q4]
            omega
          · rcases q6 with ⟨_, _, r⟩ | ⟨_, _, _, _, _, r⟩ | ⟨_, v2, ci, _, _, r⟩
            · omega
            · omega
            · exact hs _ _ _ _ r p (by omega) (by omega)
theorem rowsC {X : Nat → Prop} {w : World} {E : List Ex} {C : List (List Cl)} (l : List (ByteArray × ByteArray)) (hls : ∀ p ∈ l, p.2.size ≤ 600) (hE : ∀ x ∈ E, x.text.size ≤ 600) : ∀ (f : Nat) (v : Value) (ci a e : Nat), RefCX X w E C f v ci a e → ∀ p, a ≤ p → p < e → RowOk l E p := by
  intro f
  induction f with
  | zero => intro v ci a e h; exact absurd h id
  | succ f ih =>
    intro v ci a e ⟨cls, vs, p, h1, h2, h3⟩
    exact rowsS l hls hE ih vs cls a e h3
theorem rowsA {X : Nat → Prop} {w : World} {L : List Lc} {E : List Ex} {C : List (List Cl)} (l : List (ByteArray × ByteArray)) (hls : ∀ p ∈ l, p.2.size ≤ 600) (hE : ∀ x ∈ E, x.text.size ≤ 600) {f : Nat} : ∀ (ps : List PP) (xs : List As) (a b e g : Nat), SegA (fun p x a b e g => AsX X w L E C f p x a b e g) ps xs a b e g → ∀ p, b ≤ p → p < g → RowOk l E p := by
  intro ps
  induction ps with
  | nil =>
    intro xs a b e g h p h1 h2
    cases xs with
    | nil => obtain ⟨_, h⟩ := h; omega
    | cons c cs => exact absurd h id
  | cons u ps ih =>
    intro xs a b e g h p h1 h2
    cases xs with
    | nil => exact absurd h id
    | cons x xs =>
      obtain ⟨m, n, ⟨i, ci, _, _, _, _, q⟩, h3⟩ := h
      by_cases hm : n ≤ p
      · exact ih xs m n e g h3 p hm h2
      · exact rowsC l hls hE f _ ci b n q p h1 (by omega)
/-- The worths of a set's rows are small. -/
theorem set_small {s a v q : ByteArray} {n : Nat} {st : St} (hM : MR s n st0 = some st) (hE : st.E.length ≤ 100000) (h0 : grM s a v q st = 0) : ∀ x ∈ worthsM (raM a).1 st.E [], x.text.size ≤ 100000000 ∧ -999999999 ≤ x.num ∧ x.num ≤ 999999999 := by
  obtain ⟨_, _, hck, hs, ha, _⟩ := grM_zero h0
  obtain ⟨e, w', fr, ⟨lv, _, _, _, h⟩, _⟩ := read_short s n st (World.holding Tryz.prog default ⟨#[], #[], []⟩) hM hs []
  obtain ⟨f, ps, _, h⟩ := h hck
  have hz : Sz st := MR_sz s hs n st0 st hM ⟨fun x h => (by cases h), fun x h => (by cases h), fun x h => (by cases h), fun x h => (by cases h)⟩
  have hra := raM_sizes a (by omega)
  exact worths_small (raM a).1 hra.1 hz.1 hE fun p hp => rowsA (raM a).1 hra.1 hz.1 ps st.A 0 0 _ _ h p (Nat.zero_le _) hp

/-- No row of C is long. -/
def ClsOk (st : St) : Prop := ∀ c ∈ st.C, c.length ≤ 100000
theorem MC_clo (s : ByteArray) : ∀ n tag cls st r, MC s n tag cls st = some r → ClsOk st → ClsOk r.2.2 := by
  intro n
  induction n with
  | zero => intro tag cls st r h; simp [MC] at h
  | succ n ih =>
    intro tag cls st r h hg
    match tag, h with
    | 0, h =>
      rw [MC_0] at h
      obtain ⟨q, h1, h2⟩ := Option.bind_eq_some_iff.1 h
      exact ih _ _ _ _ h2 (ih _ _ _ _ h1 hg)
    | 2, h =>
      rw [MC_2] at h
      split at h
      · rename_i hlen
        split at h
        · obtain ⟨q, h1, h2⟩ := Option.bind_eq_some_iff.1 h
          exact ih _ _ _ _ h2 (ih _ _ _ _ h1 (show ClsOk (sgn s [59] st) from hg))
        · obtain ⟨q, h1, h2⟩ := Option.bind_eq_some_iff.1 h
          cases h2
          obtain ⟨_, rfl⟩ := addC_some h1
          intro c hc
          rcases List.mem_append.1 hc with q | q
          · exact hg c q
          · have e : c = cls := by simpa using q
            rw [e]; omega
      · cases h
    | 1, h =>
      rw [MC_1] at h
      obtain ⟨q, h1, h2⟩ := Option.bind_eq_some_iff.1 h
      obtain ⟨q2, h3, h4⟩ := Option.bind_eq_some_iff.1 h2
      have k1 : q.2.C = st.C := (M_ext s _ _ _ _ _ h1).2.2.2
      obtain ⟨_, rfl⟩ := addE_some h3
      have hg1 : ClsOk q.2 := by unfold ClsOk; rw [k1]; exact hg
      split at h4
      · cases h4; exact hg1
      · simp only at h4
        split at h4
        · obtain ⟨v, h7, h8⟩ := Option.bind_eq_some_iff.1 h4
          cases h8
          have kk := ih _ _ _ _ h7 hg1
          exact kk
        · cases h4
          exact hg1
    | t + 3, h => simp [MC] at h
theorem MA_clo {s : ByteArray} {n : Nat} {st st' : St} (h : MA s n st = some st') (hg : ClsOk st) : ClsOk st' := by
  unfold MA at h
  simp only at h
  obtain ⟨⟨r1, st1⟩, h1, hM2⟩ := Option.bind_eq_some_iff.1 h
  obtain ⟨⟨r2, cl2, st2⟩, h2, hM3⟩ := Option.bind_eq_some_iff.1 hM2
  obtain ⟨_, k1, _, k2⟩ := ML_ext s _ _ _ _ _ _ _ _ h1
  have k2 : st1.C = st.C := k2
  have hg1 : ClsOk st1 := by unfold ClsOk; rw [k2]; exact hg
  have q : ClsOk st2 := MC_clo s _ _ _ _ _ h2 hg1
  obtain ⟨_, rfl⟩ := addA_some hM3
  exact q
theorem MR_clo (s : ByteArray) : ∀ n st st', MR s n st = some st' → ClsOk st → ClsOk st' := by
  intro n
  induction n with
  | zero => intro st st' h; simp [MR] at h
  | succ n ih =>
    intro st st' h hg
    unfold MR at h
    split at h
    · obtain ⟨u, h1, h2⟩ := Option.bind_eq_some_iff.1 h
      exact ih _ _ h2 (MA_clo h1 hg)
    · cases h; exact hg
theorem vlM_len (v : ByteArray) : (vlM v).1.length ≤ 100000 := by
  unfold vlM
  split
  · exact Nat.zero_le _
  · rename_i q
    simp only [Bool.or_eq_true, not_or, decide_eq_true_eq] at q
    show (rnM v).1.length ≤ 100000
    omega
set_option maxRecDepth 100000 in
set_option maxHeartbeats 3200000 in
theorem cond_nz (s a v : ByteArray) (k : Int) (st : St) (w : World) (h : Calls Tryz.prog 34 #[.string s, .string a, .string v, .string ⟨#[]⟩] w fun e w' => GrPost s a v ⟨#[]⟩ st w e w') (E : Int) (hE : grM s a v ⟨#[]⟩ st = E) (hn : (E != 0) = true) :
    Calls Tryz.prog 26 #[.string s, .int .i64 k, .string a, .string v] w fun e w' => WoPost ⟨#[]⟩ E w e w' := by
  have HC := hide h
  have HE := hide hE
  clear h hE
  go_enter Tryz.func26, Tryz.ntmps26
  go_wp2_with fail
  refine HC.out.mono ?_
  rintro e w1 ⟨x1, x2, x3, x4, x5, x6, x7, rfl, hB1, ⟨a1, n1, k1, rfl⟩, ⟨a2, n2, k2, rfl⟩, ⟨a3, n3, k3, rfl⟩, ⟨a4, n4, k4, rfl⟩, ⟨a5, n5, k5, rfl⟩, ⟨a6, n6, k6, rfl⟩, ⟨a7, n7, k7, rfl⟩, hG⟩
  rw [HE.out] at *
  have HB2 := hide (hB1.alloc hB1.size (.cells #[.int .i64 E, .slice a1 n1 k1, .slice a2 n2 k2, .slice a3 n3 k3, .slice a4 n4 k4, .slice a5 n5 k5, .slice a6 n6 k6, .slice a7 n7 k7] 58))
  clear hG hB1 HC HE
  go_wp2_with fail
  go_quiet (fail)
  go_wp2_with fail
  go_ret2
  exact ⟨rfl, ⟨HB2.out.os, HB2.out.tape, HB2.out.output, HB2.out.size, HB2.out.block⟩⟩
set_option maxRecDepth 100000 in
set_option maxHeartbeats 3200000 in
theorem condR_nz (s a v : ByteArray) (k : Int) (st : St) (w : World) (h : Calls Tryz.prog 57 #[.string s, .string a, .string v, .string ⟨#[]⟩, .bool false] w fun e w' => AkPost s a v ⟨#[]⟩ st w e w') (E : Int) (hE : grM s a v ⟨#[]⟩ st = E) (hn : (E != 0) = true) :
    Calls Tryz.prog 31 #[.string s, .int .i64 k, .string a, .string v] w fun e w' => WoPost ⟨#[]⟩ E w e w' := by
  have HC := hide h
  have HE := hide hE
  clear h hE
  go_enter Tryz.func31, Tryz.ntmps31
  go_wp2_with fail
  refine HC.out.mono ?_
  rintro e w1 ⟨x1, x2, x3, x4, rfl, hB1, ⟨a1, n1, k1, rfl⟩, ⟨a2, n2, k2, rfl⟩, ⟨a3, n3, k3, rfl⟩, ⟨a4, n4, k4, rfl⟩, hQ⟩
  rw [HE.out] at *
  have HB1 := hide hB1
  clear hB1 hQ HC HE
  go_wp2_with fail
  go_ret2
  exact ⟨rfl, HB1.out⟩
theorem cov0 : CovA st0 := ⟨0, rfl⟩
/-- Both answer alike. -/
theorem cond_both (s a v : ByteArray) (k : Int) (hs : s.size ≤ maxLen) (ha : a.size ≤ maxLen) (hv : v.size ≤ maxLen) : ∃ (t : ByteArray) (r : Int), (∀ w, Calls Tryz.prog 26 #[.string s, .int .i64 k, .string a, .string v] w fun e w' => WoPost t r w e w') ∧ (∀ w, Calls Tryz.prog 31 #[.string s, .int .i64 k, .string a, .string v] w fun e w' => WoPost t r w e w') := by
  by_cases h : s.size ≤ 600 ∧ a.size ≤ 100 ∧ v.size ≤ 60
  · obtain ⟨n, st, hM, hA, hL, hE, hC⟩ := MR_all s h.1
    have hz : Sz st := MR_sz s h.1 n st0 st hM ⟨fun x h => (by cases h), fun x h => (by cases h), fun x h => (by cases h), fun x h => (by cases h)⟩
    have hcl := MR_clo s n st0 st hM (fun c h => by cases h)
    have hcv := MR_cov s n st0 st hM cov0
    have hgd := (MR_good s n st0 st hM good0).e
    have hra := raM_sizes a (by omega)
    have hvl := vlM_len v
    have hW := fun h0 => set_small (a := a) (v := v) (q := ⟨#[]⟩) hM (by omega) h0
    have h1 : ∀ w, Calls Tryz.prog 45 #[.string s] w fun e w' => CkPost s w st e w' := fun w => checkSet_short s n st w hM h.1 (by omega) (by omega) (by omega)
    exact ⟨_, _, fun w => cond_of s a v k st w (ground_short s a v ⟨#[]⟩ st w h.1 h.2.1 h.2.2 (Nat.zero_le _) h1 (by omega) hcl hvl) (by omega) (by omega) (by omega) hcl hvl hra.2 hra.1 hz.1 (fun h0 x hx => (hW h0 x hx).1),
      fun w => condR_of s a v k st w (asked_short s a v st w h.1 h.2.1 h.2.2 (read_short s n st w hM h.1) hgd hcv (by omega) hcl hvl) hgd hcv (by omega) hcl hvl hra.2 hra.1 hz.1 hW⟩
  · have h' : 600 < s.size ∨ 100 < a.size ∨ 60 < v.size := by omega
    have e0 : (⟨#[]⟩ : ByteArray).size = 0 := rfl
    have h1 : grM s a v ⟨#[]⟩ st0 = 1 := by unfold grM; rw [if_pos]; simp [e0]; omega
    exact ⟨⟨#[]⟩, 1, fun w => cond_nz s a v k st0 w (ground_long s a v ⟨#[]⟩ st0 w hs ha hv (Nat.zero_le _) (by omega)) 1 h1 rfl, fun w => condR_nz s a v k st0 w (asked_long s a v st0 w hs ha hv h') 1 h1 rfl⟩

set_option maxRecDepth 100000 in
set_option maxHeartbeats 1600000 in
theorem plays_cond (n : Int) (S A V Q : ByteArray) (hS : S.size ≤ maxLen) (hA : A.size ≤ maxLen) (hV : V.size ≤ maxLen) (w : World) :
    Calls Tryz.prog 18 #[.agg #[.int .i64 4, .int .i64 n, .string S, .string A, .string V, .string Q]] w fun e w' => e = .returned (.bool true) ∧ Below w.heap.size w w' := by
  obtain ⟨t, k, h7, h8⟩ := cond_both S A V n hS hA hV
  have H := hide (And.intro h7 h8)
  clear h7 h8 hS hA hV
  have hB0 : Below w.heap.size w (w.alloc (.cells #[.int .i64 4, .int .i64 n, .string S, .string A, .string V, .string Q] 27)) := (Below.refl _ _).alloc (Nat.le_refl _) _
  have hg0 := heap_alloc_new w (.cells #[.int .i64 4, .int .i64 n, .string S, .string A, .string V, .string Q] 27)
  have hz0 : w.heap.size < (w.alloc (.cells #[.int .i64 4, .int .i64 n, .string S, .string A, .string V, .string Q] 27)).heap.size := by simp
  have H0 := hide (And.intro hB0 (And.intro hg0 hz0))
  clear hB0 hg0 hz0
  go_enter Tryz.func18, Tryz.ntmps18
  go_wp2_with fail
  obtain ⟨hB0, hg0, hz0⟩ := H0.out
  clear H0
  generalize (w.alloc (.cells #[.int .i64 4, .int .i64 n, .string S, .string A, .string V, .string Q] 27)) = W0 at *
  refine (H.out.1 W0).mono ?_
  rintro e w1 ⟨rfl, hB1⟩
  have hg1 := (hB1.block _ hz0).trans hg0
  have hB01 := hB0.trans (hB1.mono (Nat.le_of_lt hz0))
  obtain ⟨y0, y1, y2, y3, y4, y5⟩ := box6' hg1
  have HB1 := hide hB01
  have hz1 : w.heap.size ≤ w1.heap.size := hB01.size
  clear hB1 hB01 hg1 hg0 hB0 hz0
  go_wp2_with fail
  refine (H.out.2 w1).mono ?_
  rintro e w2 ⟨rfl, hB2⟩
  have HB2 := hide (HB1.out.trans (hB2.mono hz1))
  clear hB2
  go_wp2_with (go_at_call 23; refine (num_any _ _).mono ?_; rintro e w3 ⟨rfl, rfl⟩)
  go_ret
  exact ⟨by simp, HB2.out⟩

set_option maxHeartbeats 800000 in
theorem conds_of (v : Value) (w : World) (h : Calls Tryz.prog 13 #[v, .int .i64 4, .int .i64 4] w fun e w' => e = .returned (.int .i64 (-1)) ∧ Below w.heap.size w w') :
    Calls Tryz.prog 6 #[v] w fun e w' => e = .returned (.bool true) ∧ Below w.heap.size w w' := by
  have H := hide h
  clear h
  go_enter Tryz.func6, Tryz.ntmps6
  go_wp2_with fail
  refine H.out.mono ?_
  rintro e w1 ⟨rfl, hB⟩
  go_wp2_with fail
  go_ret
  exact ⟨by simp, hB⟩
end Go.Proofs.YtkoohcilbpdgeaaGreatDoor
