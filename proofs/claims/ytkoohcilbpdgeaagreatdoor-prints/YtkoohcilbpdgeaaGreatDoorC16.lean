import Derived.Test.YtkoohcilbpdgeaaGreatDoorC15
set_option linter.all false
set_option linter.unusedVariables false
set_option linter.unusedSimpArgs false
set_option linter.unnecessarySimpa false
set_option linter.constructorNameAsVariable false
set_option linter.deprecated false
namespace Go.Proofs.YtkoohcilbpdgeaaGreatDoor
open Go Go.RowKit
attribute [local go_sem] wrap64_byte

/-- The first k of the texts, joined. -/
def jk (sep : ByteArray) (ts : List ByteArray) : Nat → ByteArray
  | 0 => ⟨#[]⟩
  | k + 1 => (if k = 0 then jk sep ts k else jk sep ts k ++ sep) ++ ts.getD k ⟨#[]⟩
theorem jk_step (sep : ByteArray) (ts : List ByteArray) (k : Nat) : (jk sep ts k).size ≤ (jk sep ts (k + 1)).size := by
  simp only [jk]
  split <;> simp only [ByteArray.size_append] <;> omega
theorem jk_mono (sep : ByteArray) (ts : List ByteArray) {k n : Nat} (h : k ≤ n) : (jk sep ts k).size ≤ (jk sep ts n).size := by
  induction n with
  | zero => have : k = 0 := by omega
            subst this; exact Nat.le_refl _
  | succ n ih =>
    by_cases hk : k = n + 1
    · subst hk; exact Nat.le_refl _
    · exact Nat.le_trans (ih (by omega)) (jk_step sep ts n)
def All2 {α : Type} (P : α → ByteArray → Prop) : List α → List ByteArray → Prop
  | [], [] => True
  | x :: xs, t :: ts => P x t ∧ All2 P xs ts
  | _, _ => False
theorem All2.len {α : Type} {P : α → ByteArray → Prop} : ∀ {xs : List α} {ts : List ByteArray}, All2 P xs ts → xs.length = ts.length := by
  intro xs
  induction xs with
  | nil => intro ts h; cases ts with
    | nil => rfl
    | cons t ts => exact absurd h id
  | cons x xs ih => intro ts h; cases ts with
    | nil => exact absurd h id
    | cons t ts => simp [ih h.2]
theorem All2.get {α : Type} {P : α → ByteArray → Prop} : ∀ {xs : List α} {ts : List ByteArray} (i : Nat) (x : α), All2 P xs ts → xs[i]? = some x → P x (ts.getD i ⟨#[]⟩) := by
  intro xs
  induction xs with
  | nil => intro ts i x _ h; simp at h
  | cons y ys ih => intro ts i x h hx; cases ts with
    | nil => exact absurd h id
    | cons t ts =>
      cases i with
      | zero => simp at hx; subst hx; exact h.1
      | succ i => exact ih i x h.2 (by simpa using hx)

/-- Row i of L is printed as t. -/
def PrL (L : List Lc) : Nat → Int → ByteArray → Prop
  | 0, _, _ => False
  | f + 1, i, t => t.size ≤ 1000000000 ∧ ∃ (n : Nat) (x : Lc), i = (n : Int) ∧ L[n]? = some x ∧ x.text.size ≤ 600 ∧ (
      (x.form = 0 ∧ t = x.text) ∨
      (x.form = 1 ∧ ∃ t1 t2, PrL L f x.left t1 ∧ PrL L f x.right t2 ∧ t = pairB t1 x.text t2) ∨
      (x.form = 2 ∧ ∃ (c : UInt8) (ts : List ByteArray), (c.toNat : Int) - 48 = x.count ∧ 48 ≤ c.toNat ∧ c.toNat ≤ 57 ∧ x.items.length ≤ 100000 ∧ All2 (fun i t => PrL L f i t) x.items ts ∧ (jk ⟨#[44, 32]⟩ ts ts.length).size ≤ 1000000000 ∧ t = (((⟨#[c]⟩ : ByteArray) ++ ⟨#[45, 111, 102, 40]⟩) ++ jk ⟨#[44, 32]⟩ ts ts.length) ++ ⟨#[41]⟩))
theorem PrL.sz {L : List Lc} {f : Nat} {i : Int} {t : ByteArray} (h : PrL L f i t) : t.size ≤ 1000000000 := by
  cases f with
  | zero => exact absurd h id
  | succ f => exact h.1

/-- What printLic does, at a fuel. -/
def OkPL (b : Nat) (st : St) (V : Nat → Value) (iv cv : List Value) (f : Nat) : Prop := ∀ (i : Int) (t : ByteArray) (w : World), TP w b st V iv cv → PrL st.L f i t →
    Calls Tryz.prog 86 #[.pointer (some ⟨b, 2, none⟩), .int .i64 i] w fun e w' => StrPost t w e w'

set_option maxRecDepth 100000 in
set_option maxHeartbeats 3200000 in
theorem printItems_of (b : Nat) (st : St) (V : Nat → Value) (iv cv : List Value) (f : Nat) (ih : OkPL b st V iv cv f) (its : List Int) (ts : List ByteArray) (a : Option Addr) (k base : Nat) (w : World) (hT : TP w b st V iv cv)
    (hown : w.ownsRow base 3 1 (.slice a its.length k) its.length (its.map (Value.int .i64))) (hlen : its.length ≤ 100000) (hall : All2 (fun i t => PrL st.L f i t) its ts) (hsz : (jk ⟨#[44, 32]⟩ ts ts.length).size ≤ 1000000000) :
    Calls Tryz.prog 129 #[.pointer (some ⟨b, 2, none⟩), .slice a its.length k] w fun e w' => StrPost (jk ⟨#[44, 32]⟩ ts ts.length) w e w' := by
  have HT := hide hT
  have HW := hide hown
  have IH := hide ih
  have HA := hide hall
  have hl2 := hide hall.len
  have hmono : ∀ i, i ≤ its.length → (jk ⟨#[44, 32]⟩ ts i).size ≤ 1000000000 := fun i hi => Nat.le_trans (jk_mono _ _ (by have := hl2.out; omega)) hsz
  have HM := hide hmono
  clear hT hown ih hall hmono hsz
  go_enter Tryz.func129, Tryz.ntmps129
  go_wp2_with fail
  go_loopg [5, 6] (its.length + 1) (fun n ov nv wr => ∃ i : Nat, n + i = its.length + 1 ∧ i ≤ its.length ∧ ov = .string (jk ⟨#[44, 32]⟩ ts i) ∧ nv = .int .i64 i ∧ Below w.heap.size w wr)
  case atStart => exact ⟨0, rfl, Nat.zero_le _, rfl, rfl, Below.refl _ _⟩
  case round =>
    obtain ⟨i, hk, hiE, rfl, rfl, hbel⟩ := hrel
    have hHK := hide hk
    clear hk
    by_cases hlt : i < its.length
    · obtain ⟨g, cap, hv, hb, hg⟩ := HW.out.form (by omega)
      injection hv with e1 e2 e3
      subst e1 e3
      obtain ⟨x, hx⟩ : ∃ x, its[i]? = some x := ⟨its[i], List.getElem?_eq_getElem hlt⟩
      have q0 : wr.cell? ⟨g, i, none⟩ = some (.int .i64 x) := by
        rw [hbel.cell (p := ⟨g, i, none⟩) hg]
        exact row_cell HW.out _ _ (by simp [hx])
      have hlt' : (i : Int) < its.length := by omega
      have hP := HA.out.get i x hx
      have hs1 := hP.sz
      have hs0 := HM.out i hiE
      have HC := hide (IH.out _ _ _ (HT.out.keep hbel) hP)
      have HB := hide hbel
      have hj := hide (show jk ⟨#[44, 32]⟩ ts (i + 1) = (if i = 0 then jk ⟨#[44, 32]⟩ ts i else jk ⟨#[44, 32]⟩ ts i ++ ⟨#[44, 32]⟩) ++ ts.getD i ⟨#[]⟩ from rfl)
      clear hP hbel hx
      generalize ts.getD i ⟨#[]⟩ = u at *
      by_cases hi0 : i = 0
      · have hj' := hide (hj.out.trans (by rw [if_pos hi0]))
        subst hi0
        generalize jk ⟨#[44, 32]⟩ ts 0 = p at *
        go_wp2_with fail
        refine HC.out.mono ?_
        rintro e w2 ⟨rfl, hB2⟩
        have hB3 := hide (HB.out.trans (hB2.mono HB.out.size))
        clear hB2
        go_wp2_with fail
        go_roundg its.length
        case measure => have := hHK.out; omega
        case rel => exact ⟨0 + 1, by have := hHK.out; omega, by omega, by rw [hj'.out], by go_num, hB3.out⟩
      · have hj' := hide (hj.out.trans (by rw [if_neg hi0]))
        generalize jk ⟨#[44, 32]⟩ ts i = p at *
        have hi0' : (0 : Int) < (i : Int) := by omega
        go_wp2_with fail
        refine HC.out.mono ?_
        rintro e w2 ⟨rfl, hB2⟩
        have hB3 := hide (HB.out.trans (hB2.mono HB.out.size))
        clear hB2
        go_wp2_with fail
        go_roundg (its.length - i)
        case measure => have := hHK.out; omega
        case rel => exact ⟨i + 1, by have := hHK.out; omega, by omega, by rw [hj'.out], by go_num, hB3.out⟩
    · have hz : Hid (i = ts.length) := hide (by have := hl2.out; omega)
      go_wp2_with fail
      go_ret
      exact ⟨by rw [hz.out]; rfl, hbel⟩

set_option maxRecDepth 100000 in
set_option maxHeartbeats 3200000 in
theorem printLic_any (b : Nat) (st : St) (V : Nat → Value) (iv cv : List Value) : ∀ (f : Nat), OkPL b st V iv cv f := by
  intro f
  induction f with
  | zero => intro i t w _ h; exact absurd h id
  | succ f ih =>
    intro i t w hT ⟨hsz, n, x, hi, hx, hxs, h⟩
    subst hi
    have HE := hide (licAt_any b st V iv cv n x w hT hx)
    have HT := hide hT
    have IH := hide ih
    clear ih hT hx
    rcases h with ⟨h1, h2⟩ | ⟨h1, t1, t2, h2, h3, h4⟩ | ⟨h1, c, ts, h2, h3, h4, h5, h6, h7, h8⟩
    · subst h2
      go_enter Tryz.func86, Tryz.ntmps86
      go_wp2_with fail
      refine HE.out.mono ?_
      rintro e w1 ⟨a, k, base, rfl, _, hB⟩
      have hB1 := hide (hB.alloc hB.size (.cells #[.int .i64 x.form, .string x.text, .int .i64 x.left, .int .i64 x.right, .int .i64 x.place, .int .i64 x.count, .slice a x.items.length k] 160))
      rw [h1] at hB1 ⊢
      clear hB
      go_wp2_with fail
      go_ret
      exact ⟨rfl, hB1.out⟩
    · have hs1 := h2.sz
      have hs2 := h3.sz
      subst h4
      go_enter Tryz.func86, Tryz.ntmps86
      go_wp2_with fail
      refine HE.out.mono ?_
      rintro e w1 ⟨a, k, base, rfl, _, hB⟩
      have hB1 := hide (hB.alloc hB.size (.cells #[.int .i64 x.form, .string x.text, .int .i64 x.left, .int .i64 x.right, .int .i64 x.place, .int .i64 x.count, .slice a x.items.length k] 160))
      have hT1 := HT.out.keep (hB.alloc hB.size (.cells #[.int .i64 x.form, .string x.text, .int .i64 x.left, .int .i64 x.right, .int .i64 x.place, .int .i64 x.count, .slice a x.items.length k] 160))
      rw [h1] at hB1 hT1 ⊢
      have HC := hide (IH.out _ _ _ hT1 h2)
      have hbx := heap_alloc_new w1 (.cells #[.int .i64 1, .string x.text, .int .i64 x.left, .int .i64 x.right, .int .i64 x.place, .int .i64 x.count, .slice a x.items.length k] 160)
      have HBX := hide hbx
      have HT1 := hide hT1
      clear hT1 hB hbx
      go_wp2_with fail
      refine HC.out.mono ?_
      rintro e w2 ⟨rfl, hB2⟩
      have hT2 := HT1.out.keep hB2
      have hB2' := hide (hB1.out.trans (hB2.mono hB1.out.size))
      have hbx2 := (hB2.block w1.heap.size (by simp)).trans HBX.out
      have hc2 : w2.cell? ⟨w1.heap.size, 1, none⟩ = some (.string x.text) := by simp [World.cell?, hbx2]
      have hc4 : w2.cell? ⟨w1.heap.size, 3, none⟩ = some (.int .i64 x.right) := by simp [World.cell?, hbx2]
      have HBX2 := hide hbx2
      have HC2 := hide (IH.out _ _ _ hT2 h3)
      clear hT2 hB2 hbx2
      go_wp2_with fail
      refine HC2.out.mono ?_
      rintro e w3 ⟨rfl, hB3⟩
      have hB3' := hide (hB2'.out.trans (hB3.mono hB2'.out.size))
      have hlt : w1.heap.size < w2.heap.size := (Array.getElem?_eq_some_iff.1 HBX2.out).1
      have hbx3 := (hB3.block w1.heap.size hlt).trans HBX2.out
      have hc3 : w3.cell? ⟨w1.heap.size, 1, none⟩ = some (.string x.text) := by simp [World.cell?, hbx3]
      clear hB3 hbx3
      go_wp2_with fail
      refine (printPair_any t1 x.text t2 w3 hs1 (by omega) hs2).mono ?_
      rintro e w4 ⟨rfl, hB4⟩
      have hB4' := hide (hB3'.out.trans (hB4.mono hB3'.out.size))
      clear hB4
      go_wp2_with fail
      go_ret
      exact ⟨rfl, hB4'.out⟩
    · subst h8
      go_enter Tryz.func86, Tryz.ntmps86
      go_wp2_with fail
      refine HE.out.mono ?_
      rintro e w1 ⟨a, k, base, rfl, how, hB⟩
      have how1 := ownsRow_same how (w' := w1.alloc (.cells #[.int .i64 x.form, .string x.text, .int .i64 x.left, .int .i64 x.right, .int .i64 x.place, .int .i64 x.count, .slice a x.items.length k] 160)) fun q e => ((hB.alloc hB.size (.cells #[.int .i64 x.form, .string x.text, .int .i64 x.left, .int .i64 x.right, .int .i64 x.place, .int .i64 x.count, .slice a x.items.length k] 160)).block q (how.lt q e).2)
      have hB1 := hide (hB.alloc hB.size (.cells #[.int .i64 x.form, .string x.text, .int .i64 x.left, .int .i64 x.right, .int .i64 x.place, .int .i64 x.count, .slice a x.items.length k] 160))
      have hT1 := HT.out.keep (hB.alloc hB.size (.cells #[.int .i64 x.form, .string x.text, .int .i64 x.left, .int .i64 x.right, .int .i64 x.place, .int .i64 x.count, .slice a x.items.length k] 160))
      rw [h1] at hB1 hT1 how1 ⊢
      have HC := hide (printItems_of b st V iv cv f IH.out x.items ts a k base _ hT1 how1 h5 h6 h7)
      have hbx := heap_alloc_new w1 (.cells #[.int .i64 2, .string x.text, .int .i64 x.left, .int .i64 x.right, .int .i64 x.place, .int .i64 x.count, .slice a x.items.length k] 160)
      have HBX := hide hbx
      clear hT1 hB hbx how how1
      go_wp2_with fail
      refine HC.out.mono ?_
      rintro e w2 ⟨rfl, hB2⟩
      have hB2' := hide (hB1.out.trans (hB2.mono hB1.out.size))
      have hbx2 := (hB2.block w1.heap.size (by simp)).trans HBX.out
      have hc2 : w2.cell? ⟨w1.heap.size, 5, none⟩ = some (.int .i64 x.count) := by simp [World.cell?, hbx2]
      clear hB2 hbx2
      have HI := hide (itoa_any c w2 h3 h4)
      rw [h2] at HI
      go_wp2_with fail
      refine HI.out.mono ?_
      rintro e w3 ⟨rfl, rfl⟩
      go_wp2_with fail
      go_ret
      exact ⟨rfl, hB2'.out⟩
end Go.Proofs.YtkoohcilbpdgeaaGreatDoor

namespace Go.Proofs.YtkoohcilbpdgeaaGreatDoor
open Go Go.RowKit
attribute [local go_sem] wrap64_byte

/-- A clause is printed as t. -/
def PrCl (E : List Ex) (sub : Int → ByteArray → Prop) (f : Nat) (c : Cl) (t : ByteArray) : Prop :=
  t.size ≤ 1000000000 ∧ ∃ t1, PrE E f c.test t1 ∧ (
    (c.form = 0 ∧ t = t1) ∨
    (c.form = 1 ∧ c.result.size ≤ 600 ∧ t = (t1 ++ (⟨#[32, 45, 62, 32]⟩ : ByteArray)) ++ c.result) ∨
    (c.form = 2 ∧ ∃ t2, sub c.inner t2 ∧ t2.size ≤ 1000000000 ∧ t = ((t1 ++ (⟨#[32, 45, 62, 32, 123]⟩ : ByteArray)) ++ t2) ++ ⟨#[125]⟩))
/-- Row i of C is printed as t. -/
def PrC (E : List Ex) (C : List (List Cl)) : Nat → Int → ByteArray → Prop
  | 0, _, _ => False
  | f + 1, i, t => t.size ≤ 1000000000 ∧ ∃ (n : Nat) (cls : List Cl) (ts : List ByteArray), i = (n : Int) ∧ C[n]? = some cls ∧ cls.length ≤ 100000 ∧ All2 (fun c t => PrCl E (fun i t => PrC E C f i t) f c t) cls ts ∧ t = jk ⟨#[59, 32]⟩ ts ts.length
def OkPC (b : Nat) (st : St) (V : Nat → Value) (iv cv : List Value) (f : Nat) : Prop := ∀ (i : Int) (t : ByteArray) (w : World), TP w b st V iv cv → PrC st.E st.C f i t →
    Calls Tryz.prog 87 #[.pointer (some ⟨b, 2, none⟩), .int .i64 i] w fun e w' => StrPost t w e w'

set_option maxHeartbeats 3200000 in
theorem printClause_of (b : Nat) (st : St) (V : Nat → Value) (iv cv : List Value) (f : Nat) (ih : OkPC b st V iv cv f) (c : Cl) (t : ByteArray) (w : World) (hT : TP w b st V iv cv) (h : PrCl st.E (fun i t => PrC st.E st.C f i t) f c t) :
    Calls Tryz.prog 131 #[.pointer (some ⟨b, 2, none⟩), .agg #[.int .i64 c.test, .int .i64 c.form, .string c.result, .int .i64 c.inner]] w fun e w' => StrPost t w e w' := by
  obtain ⟨hsz, t1, h1, h⟩ := h
  have hs1 := h1.sz
  have hB1 := hide ((Below.refl w.heap.size w).alloc (Nat.le_refl _) (.cells #[.int .i64 c.test, .int .i64 c.form, .string c.result, .int .i64 c.inner] 156))
  have hT1 := hT.keep hB1.out
  have HC := hide (printExpr_any b st V iv cv f c.test t1 _ hT1 h1)
  have HT1 := hide hT1
  have IH := hide ih
  have hbx := heap_alloc_new w (.cells #[.int .i64 c.test, .int .i64 c.form, .string c.result, .int .i64 c.inner] 156)
  have HBX := hide hbx
  clear hT1 hbx ih h1 hT
  go_enter Tryz.func131, Tryz.ntmps131
  go_wp2_with fail
  refine HC.out.mono ?_
  rintro e w2 ⟨rfl, hB2⟩
  have hT2 := HT1.out.keep hB2
  have hB2' := hide (hB1.out.trans (hB2.mono hB1.out.size))
  have hbx2 := (hB2.block w.heap.size (by simp)).trans HBX.out
  have hc1 : w2.cell? ⟨w.heap.size, 1, none⟩ = some (.int .i64 c.form) := by simp [World.cell?, hbx2]
  have hc2 : w2.cell? ⟨w.heap.size, 2, none⟩ = some (.string c.result) := by simp [World.cell?, hbx2]
  have hc3 : w2.cell? ⟨w.heap.size, 3, none⟩ = some (.int .i64 c.inner) := by simp [World.cell?, hbx2]
  have HT2 := hide hT2
  clear hB2 hbx2 hT2
  rcases h with ⟨h1, h2⟩ | ⟨h1, h2, h3⟩ | ⟨h1, t2, h2, h3, h4⟩
  · subst h2
    rw [h1] at hc1
    go_wp2_with fail
    go_ret
    exact ⟨rfl, hB2'.out⟩
  · subst h3
    rw [h1] at hc1
    go_wp2_with fail
    go_ret
    exact ⟨rfl, hB2'.out⟩
  · subst h4
    rw [h1] at hc1
    have HC2 := hide (IH.out _ _ _ HT2.out h2)
    go_wp2_with fail
    refine HC2.out.mono ?_
    rintro e w3 ⟨rfl, hB3⟩
    have hB3' := hide (hB2'.out.trans (hB3.mono hB2'.out.size))
    clear hB3
    go_wp2_with fail
    go_ret
    exact ⟨rfl, hB3'.out⟩

set_option maxRecDepth 100000 in
set_option maxHeartbeats 3200000 in
theorem printConds_any (b : Nat) (st : St) (V : Nat → Value) (iv cv : List Value) : ∀ (f : Nat), OkPC b st V iv cv f := by
  intro f
  induction f with
  | zero => intro i t w _ h; exact absurd h id
  | succ f ih =>
    intro i t w hT ⟨hsz, n, cls, ts, hi, hx, hlen, hall, ht⟩
    subst hi ht
    have HE := hide (condsAt_any b st V iv cv n cls w hT hx)
    have HT := hide hT
    have IH := hide ih
    have HA := hide hall
    have hl2 := hide hall.len
    have hmono : ∀ i, i ≤ cls.length → (jk ⟨#[59, 32]⟩ ts i).size ≤ 1000000000 := fun i hi => Nat.le_trans (jk_mono _ _ (by have := hl2.out; omega)) hsz
    have HM := hide hmono
    clear ih hT hx hall hmono hsz
    go_enter Tryz.func87, Tryz.ntmps87
    go_wp2_with fail
    refine HE.out.mono ?_
    rintro e w1 ⟨a, k, base, rfl, how, hB⟩
    have HW := hide how
    have HB1 := hide hB
    clear how hB
    have hfd : ∀ w : World, (Instr.field 133 (.agg #[.slice a cls.length k]) 0).run Tryz.prog w = .ok (.slice a cls.length k) w := fun _ => by kernel_rfl
    go_wp2_with fail
    go_loopg [6, 7] (cls.length + 1) (fun n ov nv wr => ∃ i : Nat, n + i = cls.length + 1 ∧ i ≤ cls.length ∧ ov = .string (jk ⟨#[59, 32]⟩ ts i) ∧ nv = .int .i64 i ∧ Below w.heap.size w wr)
    case atStart => exact ⟨0, rfl, Nat.zero_le _, rfl, rfl, HB1.out⟩
    case round =>
      obtain ⟨i, hk, hiE, rfl, rfl, hbel⟩ := hrel
      have hHK := hide hk
      clear hk hfd
      by_cases hlt : i < cls.length
      · obtain ⟨g, cap, hv, hb, hg⟩ := HW.out.form (by omega)
        injection hv with e1 e2 e3
        subst e1 e3
        obtain ⟨x, hx⟩ : ∃ x, cls[i]? = some x := ⟨cls[i], List.getElem?_eq_getElem hlt⟩
        have hcell : ∀ j u, x.cells[j]? = some u → j < 4 → wr.cell? ⟨g, i * 4 + j, none⟩ = some u := fun j u hu hj => by
          rw [hbel.cell (p := ⟨g, i * 4 + j, none⟩) hg]
          exact row_cell HW.out _ _ ((flat_get Cl.cells 4 (fun _ => rfl) cls i j x hx hj).trans hu)
        have q0 : wr.cell? ⟨g, i * 4, none⟩ = some (.int .i64 x.test) := hcell 0 _ rfl (by omega)
        have q1 := hcell 1 _ rfl (by omega)
        have q2 := hcell 2 _ rfl (by omega)
        have q3 := hcell 3 _ rfl (by omega)
        have hlt' : (i : Int) < cls.length := by omega
        have hP := HA.out.get i x hx
        have hs1 := hP.1
        have hs0 := HM.out i hiE
        have HC := hide (printClause_of b st V iv cv f IH.out x _ _ (HT.out.keep hbel) hP)
        have HB := hide hbel
        have hj := hide (show jk ⟨#[59, 32]⟩ ts (i + 1) = (if i = 0 then jk ⟨#[59, 32]⟩ ts i else jk ⟨#[59, 32]⟩ ts i ++ ⟨#[59, 32]⟩) ++ ts.getD i ⟨#[]⟩ from rfl)
        clear hP hbel hx hcell
        generalize ts.getD i ⟨#[]⟩ = u at *
        by_cases hi0 : i = 0
        · have hj' := hide (hj.out.trans (by rw [if_pos hi0]))
          subst hi0
          simp only [Nat.zero_mul, Nat.zero_add] at q0 q1 q2 q3
          generalize jk ⟨#[59, 32]⟩ ts 0 = p at *
          go_wp2_with fail
          refine HC.out.mono ?_
          rintro e w2 ⟨rfl, hB2⟩
          have hB3 := hide (HB.out.trans (hB2.mono HB.out.size))
          clear hB2
          go_wp2_with fail
          go_roundg cls.length
          case measure => have := hHK.out; omega
          case rel => exact ⟨0 + 1, by have := hHK.out; omega, by omega, by rw [hj'.out], by go_num, hB3.out⟩
        · have hj' := hide (hj.out.trans (by rw [if_neg hi0]))
          generalize jk ⟨#[59, 32]⟩ ts i = p at *
          have hi0' : (0 : Int) < (i : Int) := by omega
          go_wp2_with fail
          refine HC.out.mono ?_
          rintro e w2 ⟨rfl, hB2⟩
          have hB3 := hide (HB.out.trans (hB2.mono HB.out.size))
          clear hB2
          go_wp2_with fail
          go_roundg (cls.length - i)
          case measure => have := hHK.out; omega
          case rel => exact ⟨i + 1, by have := hHK.out; omega, by omega, by rw [hj'.out], by go_num, hB3.out⟩
      · have hz : Hid (i = ts.length) := hide (by have := hl2.out; omega)
        go_wp2_with fail
        go_ret
        exact ⟨by rw [hz.out]; rfl, hbel⟩
end Go.Proofs.YtkoohcilbpdgeaaGreatDoor

namespace Go.Proofs.YtkoohcilbpdgeaaGreatDoor
open Go Go.RowKit
attribute [local go_sem] wrap64_byte

theorem PrC.sz {E : List Ex} {C : List (List Cl)} {f : Nat} {i : Int} {t : ByteArray} (h : PrC E C f i t) : t.size ≤ 1000000000 := by
  cases f with
  | zero => exact absurd h id
  | succ f => exact h.1
def pieceB (b t1 t2 : ByteArray) : ByteArray := ((((((⟨#[98, 121, 32]⟩ : ByteArray) ++ b) ++ ⟨#[10, 116, 111, 32]⟩) ++ t1) ++ ⟨#[10, 105, 102, 32]⟩) ++ t2) ++ ⟨#[10]⟩
/-- An assertion is printed as t. -/
def PrA (st : St) (f : Nat) (x : As) (t : ByteArray) : Prop := x.by_.size ≤ 600 ∧ ∃ t1 t2, PrL st.L f x.to_ t1 ∧ PrC st.E st.C f x.conds t2 ∧ t = pieceB x.by_ t1 t2
def cat (ts : List ByteArray) : Nat → ByteArray
  | 0 => ⟨#[]⟩
  | k + 1 => cat ts k ++ ts.getD k ⟨#[]⟩
/-- A set is printed as t. -/
def PrS (st : St) (t : ByteArray) : Prop := ∃ f ts, All2 (fun x t => PrA st f x t) st.A ts ∧ t = cat ts ts.length

set_option maxRecDepth 100000 in
set_option maxHeartbeats 3200000 in
theorem printSet_any (b : Nat) (st : St) (V : Nat → Value) (iv cv : List Value) (t : ByteArray) (w : World) (hT : TP w b st V iv cv) (h : PrS st t) :
    Calls Tryz.prog 46 #[.pointer (some ⟨b, 2, none⟩)] w fun e w' => StrPost t w e w' := by
  obtain ⟨f, ts, hall, ht⟩ := h
  subst ht
  have hc := hT.c3
  have hblt := block_lt_of_cell hc
  have hel := hT.al
  obtain ⟨base, htv⟩ := hT.t
  have how := htv.own 3 (by omega) (by omega)
  obtain ⟨a5, k5, e5⟩ : ∃ a k, V 3 = .slice a st.A.length k := ownsRow_slice how
  have how : w.ownsRow base 84 3 (.slice a5 st.A.length k5) st.A.length ((st.A.map As.cells).flatten) := e5 ▸ how
  rw [e5] at hc
  have HW := hide how
  have HT := hide hT
  have HA := hide hall
  have hl2 := hide hall.len
  have hc0 := hide hc
  clear how hT hall htv e5 hc
  go_enter Tryz.func46, Tryz.ntmps46
  go_wp2_with fail
  go_loopg [3, 4] (st.A.length + 1) (fun n ov nv wr => ∃ i : Nat, n + i = st.A.length + 1 ∧ i ≤ st.A.length ∧ ov = .string (cat ts i) ∧ (cat ts i).size ≤ i * 2100000000 ∧ nv = .int .i64 i ∧ Below w.heap.size w wr)
  case atStart => exact ⟨0, rfl, Nat.zero_le _, rfl, Nat.zero_le _, rfl, Below.refl _ _⟩
  case round =>
    obtain ⟨i, hk, hiE, rfl, hs0, rfl, hbel⟩ := hrel
    have hHK := hide hk
    clear hk
    have hc : wr.cell? ⟨b, 2, none⟩ = some (.slice a5 st.A.length k5) := (hbel.cell (p := ⟨b, 2, none⟩) hblt).trans hc0.out
    have hblt2 : b < wr.heap.size := block_lt_of_cell hc
    by_cases hlt : i < st.A.length
    · obtain ⟨g, cap, hv, hb, hg⟩ := HW.out.form (by omega)
      injection hv with e1 e2 e3
      subst e1 e3
      obtain ⟨x, hx⟩ : ∃ x, st.A[i]? = some x := ⟨st.A[i], List.getElem?_eq_getElem hlt⟩
      have hcell : ∀ j u, x.cells[j]? = some u → j < 3 → wr.cell? ⟨g, i * 3 + j, none⟩ = some u := fun j u hu hj => by
        rw [hbel.cell (p := ⟨g, i * 3 + j, none⟩) hg]
        exact row_cell HW.out _ _ ((flat_get As.cells 3 (fun _ => rfl) st.A i j x hx hj).trans hu)
      have q0 : wr.cell? ⟨g, i * 3, none⟩ = some (.string x.by_) := hcell 0 _ rfl (by omega)
      have q1 := hcell 1 _ rfl (by omega)
      have q2 := hcell 2 _ rfl (by omega)
      have hlt' : (i : Int) < st.A.length := by omega
      obtain ⟨hby, t1, t2, hP1, hP2, hpc⟩ := HA.out.get i x hx
      have hs1 := hP1.sz
      have hs2 := hP2.sz
      have hj := hide (show cat ts (i + 1) = cat ts i ++ pieceB x.by_ t1 t2 from by show cat ts i ++ ts.getD i ⟨#[]⟩ = _; rw [hpc])
      have hB1 := hide (hbel.alloc hbel.size (.cells #[.string x.by_, .int .i64 x.to_, .int .i64 x.conds] 84))
      have HT1 := hide (HT.out.keep hB1.out)
      have HC := hide (printLic_any b st V iv cv f x.to_ t1 _ HT1.out hP1)
      have HBX := hide (heap_alloc_new wr (.cells #[.string x.by_, .int .i64 x.to_, .int .i64 x.conds] 84))
      clear hbel hx hcell hpc
      generalize cat ts i = p at *
      go_wp2_with fail
      refine HC.out.mono ?_
      rintro e w2 ⟨rfl, hB2⟩
      have HT2 := hide (HT1.out.keep hB2)
      have hB2' := hide (hB1.out.trans (hB2.mono hB1.out.size))
      have hbx2 := (hB2.block wr.heap.size (by simp)).trans HBX.out
      have hc2 : w2.cell? ⟨wr.heap.size, 2, none⟩ = some (.int .i64 x.conds) := by simp [World.cell?, hbx2]
      have HBX2 := hide hbx2
      clear hB2 hbx2 q0 q1 q2 hc
      have HC2 := hide (printConds_any b st V iv cv f x.conds t2 _ HT2.out hP2)
      go_wp2_with fail
      refine HC2.out.mono ?_
      rintro e w3 ⟨rfl, hB3⟩
      have hB3' := hide (hB2'.out.trans (hB3.mono hB2'.out.size))
      have hlt2 : wr.heap.size < w2.heap.size := (Array.getElem?_eq_some_iff.1 HBX2.out).1
      have hbx3 := (hB3.block wr.heap.size hlt2).trans HBX2.out
      have hc3 : w3.cell? ⟨wr.heap.size, 0, none⟩ = some (.string x.by_) := by simp [World.cell?, hbx3]
      clear hB3 hbx3
      go_wp2_with fail
      go_roundg (st.A.length - i)
      case measure => have := hHK.out; omega
      case rel => exact ⟨i + 1, by have := hHK.out; omega, by omega, by rw [hj.out]; rfl, by rw [hj.out]; unfold pieceB; simp only [ByteArray.size_append]; have e1 : ByteArray.size ⟨#[98, 121, 32]⟩ = 3 := rfl; have e2 : ByteArray.size ⟨#[10, 116, 111, 32]⟩ = 4 := rfl; have e3 : ByteArray.size ⟨#[10, 105, 102, 32]⟩ = 4 := rfl; have e4 : ByteArray.size ⟨#[10]⟩ = 1 := rfl; omega, by go_num, hB3'.out⟩
    · have hz : Hid (i = ts.length) := hide (by have := hl2.out; omega)
      go_wp2_with fail
      go_ret
      exact ⟨by rw [hz.out]; rfl, hbel⟩
end Go.Proofs.YtkoohcilbpdgeaaGreatDoor

namespace Go.Proofs.YtkoohcilbpdgeaaGreatDoor
open Go Go.RowKit
attribute [local go_sem] wrap64_byte

/-- What Print answers. -/
def PtPost (t : ByteArray) (k : Int) (w : World) (e : Ending) (w' : World) : Prop := e = .returned (.tuple #[.string t, .int .i64 k]) ∧ Below w.heap.size w w'

set_option maxHeartbeats 1600000 in
theorem print_no (s : ByteArray) (st : St) (w : World) (h : Calls Tryz.prog 45 #[.string s] w fun e w' => CkPost s w st e w') (hn : (ckM s st).1 ≠ 0) :
    Calls Tryz.prog 22 #[.string s] w fun e w' => PtPost ⟨#[]⟩ (ckM s st).1 w e w' := by
  have H := hide h
  clear h
  go_enter Tryz.func22, Tryz.ntmps22
  go_wp2_with fail
  refine H.out.mono ?_
  rintro e w1 ⟨a, b, c, d, V, iv, cv, rfl, hB, ⟨a1, n1, k1, rfl⟩, ⟨a2, n2, k2, rfl⟩, ⟨a3, n3, k3, rfl⟩, ⟨a4, n4, k4, rfl⟩, _⟩
  have HB := hide (hB.alloc hB.size (.cells #[.int .i64 (ckM s st).1, .int .i64 (ckM s st).2, .slice a1 n1 k1, .slice a2 n2 k2, .slice a3 n3 k3, .slice a4 n4 k4] 78))
  clear hB
  go_wp2_with fail
  go_quiet (fail)
  go_wp2_with fail
  go_ret2
  exact ⟨by simp, ⟨HB.out.os, HB.out.tape, HB.out.output, HB.out.size, HB.out.block⟩⟩

set_option maxHeartbeats 1600000 in
theorem print_yes (s : ByteArray) (st : St) (t : ByteArray) (w : World) (h : Calls Tryz.prog 45 #[.string s] w fun e w' => CkPost s w st e w') (hn : (ckM s st).1 = 0) (hp : PrS st t)
    (hE : st.E.length ≤ 100000) (hL : st.L.length ≤ 100000) (hC : st.C.length ≤ 100000) (hA : st.A.length ≤ 100000) :
    Calls Tryz.prog 22 #[.string s] w fun e w' => PtPost t 0 w e w' := by
  have H := hide h
  clear h
  go_enter Tryz.func22, Tryz.ntmps22
  go_wp2_with fail
  refine H.out.mono ?_
  rintro e w1 ⟨a, b, c, d, V, iv, cv, rfl, hB, ⟨a1, n1, k1, ha⟩, ⟨a2, n2, k2, hb⟩, ⟨a3, n3, k3, hc⟩, ⟨a4, n4, k4, hd⟩, htr⟩
  obtain ⟨e3, e4, e5, e6, hT⟩ := htr hn
  rw [hn]
  rw [ha] at e3; rw [hb] at e4; rw [hc] at e5; rw [hd] at e6
  subst ha hb hc hd
  have HB := hide (hB.alloc hB.size (.cells #[.int .i64 0, .int .i64 (ckM s st).2, .slice a1 n1 k1, .slice a2 n2 k2, .slice a3 n3 k3, .slice a4 n4 k4] 78))
  have hbx := heap_alloc_new w1 (.cells #[.int .i64 0, .int .i64 (ckM s st).2, .slice a1 n1 k1, .slice a2 n2 k2, .slice a3 n3 k3, .slice a4 n4 k4] 78)
  obtain ⟨z0, z1, z2, z3, z4, z5, _⟩ := box6 hbx
  have hTP : TP (w1.alloc (.cells #[.int .i64 0, .int .i64 (ckM s st).2, .slice a1 n1 k1, .slice a2 n2 k2, .slice a3 n3 k3, .slice a4 n4 k4] 78)) w1.heap.size st V iv cv :=
    ⟨z2.trans (by rw [e3]), z3.trans (by rw [e4]), z4.trans (by rw [e5]), z5.trans (by rw [e6]), ⟨_, hT.same fun k _ hk => Below.heap_alloc _ _ _ hk⟩, hE, hL, hC, hA⟩
  have HC := hide (printSet_any w1.heap.size st V iv cv t _ hTP hp)
  clear hB hbx z0 z1 z2 z3 z4 z5 hTP hT e3 e4 e5 e6 hn htr
  go_wp2_with fail
  refine HC.out.mono ?_
  rintro e w2 ⟨rfl, hB2⟩
  have hB2' := hide (HB.out.trans (hB2.mono HB.out.size))
  clear hB2
  go_wp2_with fail
  go_ret2
  exact ⟨by simp, hB2'.out⟩
end Go.Proofs.YtkoohcilbpdgeaaGreatDoor
