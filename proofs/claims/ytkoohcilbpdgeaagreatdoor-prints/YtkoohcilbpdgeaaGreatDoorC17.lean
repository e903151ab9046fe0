import Derived.Test.YtkoohcilbpdgeaaGreatDoorC16
set_option linter.all false
set_option linter.unusedVariables false
set_option linter.unusedSimpArgs false
set_option linter.unnecessarySimpa false
set_option linter.constructorNameAsVariable false
set_option linter.deprecated false
namespace Go.Proofs.YtkoohcilbpdgeaaGreatDoor
open Go Go.RowKit
attribute [local go_sem] wrap64_byte


set_option maxRecDepth 100000 in
set_option maxHeartbeats 3200000 in
theorem joined_any (sep : ByteArray) (ts : List ByteArray) (a : Option Addr) (k base : Nat) (w : World) (hown : w.ownsRow base 9 1 (.slice a ts.length k) ts.length (ts.map Value.string)) (hlen : ts.length ≤ 100000) (hsp : sep.size ≤ 600)
    (hts : ∀ i, (ts.getD i ⟨#[]⟩).size ≤ 1000000000) (hsz : (jk sep ts ts.length).size ≤ 1000000000) :
    Calls Tryz.prog 91 #[.slice a ts.length k, .string sep] w fun e w' => e = .returned (.string (jk sep ts ts.length)) ∧ w' = w := by
  have HW := hide hown
  have HM := hide (show ∀ i, i ≤ ts.length → (jk sep ts i).size ≤ 1000000000 from fun i hi => Nat.le_trans (jk_mono _ _ hi) hsz)
  have HTS := hide hts
  clear hown hts hsz
  go_enter Tryz.func91, Tryz.ntmps91
  go_wp2_with fail
  go_loopg [5, 6] (ts.length + 1) (fun n ov nv wr => ∃ i : Nat, n + i = ts.length + 1 ∧ i ≤ ts.length ∧ ov = .string (jk sep ts i) ∧ nv = .int .i64 i ∧ wr = w)
  case atStart => exact ⟨0, rfl, Nat.zero_le _, rfl, rfl, rfl⟩
  case round =>
    obtain ⟨i, hk, hiE, rfl, rfl, rfl⟩ := hrel
    have hHK := hide hk
    clear hk
    by_cases hlt : i < ts.length
    · obtain ⟨g, cap, hv, hb, hg⟩ := HW.out.form (by omega)
      injection hv with e1 e2 e3
      subst e1 e3
      have q0 : wr.cell? ⟨g, i, none⟩ = some (.string (ts.getD i ⟨#[]⟩)) := row_cell HW.out _ _ (by simp [hlt])
      have hlt' : (i : Int) < ts.length := by omega
      have hs1 := HTS.out i
      have hs0 := HM.out i hiE
      have hj := hide (show jk sep ts (i + 1) = (if i = 0 then jk sep ts i else jk sep ts i ++ sep) ++ ts.getD i ⟨#[]⟩ from rfl)
      generalize ts.getD i ⟨#[]⟩ = u at *
      by_cases hi0 : i = 0
      · have hj' := hide (hj.out.trans (by rw [if_pos hi0]))
        subst hi0
        generalize jk sep ts 0 = p at *
        go_wp2_with fail
        go_roundg ts.length
        case measure => have := hHK.out; omega
        case rel => exact ⟨0 + 1, by have := hHK.out; omega, by omega, by rw [hj'.out], by go_num, rfl⟩
      · have hj' := hide (hj.out.trans (by rw [if_neg hi0]))
        generalize jk sep ts i = p at *
        have hi0' : (0 : Int) < (i : Int) := by omega
        go_wp2_with fail
        go_roundg (ts.length - i)
        case measure => have := hHK.out; omega
        case rel => exact ⟨i + 1, by have := hHK.out; omega, by omega, by rw [hj'.out], by go_num, rfl⟩
    · have hz : Hid (i = ts.length) := hide (by omega)
      go_wp2_with fail
      go_ret
      exact ⟨by rw [hz.out]; rfl, rfl⟩
end Go.Proofs.YtkoohcilbpdgeaaGreatDoor

namespace Go.Proofs.YtkoohcilbpdgeaaGreatDoor
open Go Go.RowKit
attribute [local go_sem] wrap64_byte

def leaf5 (op : ByteArray) : Bool := op.toList == [110, 97, 109, 101] || op.toList == [97, 116, 116, 114] || op.toList == [110, 117, 109] || op.toList == [116, 114, 117, 101] || op.toList == [102, 97, 108, 115, 101]
/-- What 'shown' answers at a node, by what it answers at its parts. -/
def endS (op tx : ByteArray) (ts : List ByteArray) (ak : Bool) : ByteArray :=
  if leaf5 op then tx
  else if op.toList == [115, 116, 114] then ((⟨#[34]⟩ : ByteArray) ++ tx) ++ ⟨#[34]⟩
  else if op.toList == [97, 116] then (⟨#[64]⟩ : ByteArray) ++ tx
  else if op.toList == [110] then (⟨#[45]⟩ : ByteArray) ++ ts.getD 0 ⟨#[]⟩
  else if op.toList == [33] then (⟨#[33]⟩ : ByteArray) ++ ts.getD 0 ⟨#[]⟩
  else if op.toList == [111, 102] then ((tx ++ (⟨#[45, 111, 102, 40]⟩ : ByteArray)) ++ jk ⟨#[44, 32]⟩ ts ts.length) ++ ⟨#[41]⟩
  else if op.toList == [97, 108, 108] then jk ⟨#[59, 32]⟩ ts ts.length
  else if op.toList == [105, 102] then (if ts.length = 1 then ts.getD 0 ⟨#[]⟩ else if ak then ((ts.getD 0 ⟨#[]⟩ ++ (⟨#[32, 45, 62, 32, 123]⟩ : ByteArray)) ++ ts.getD 1 ⟨#[]⟩) ++ ⟨#[125]⟩ else (ts.getD 0 ⟨#[]⟩ ++ (⟨#[32, 45, 62, 32]⟩ : ByteArray)) ++ ts.getD 1 ⟨#[]⟩)
  else pairB (ts.getD 0 ⟨#[]⟩) op (ts.getD 1 ⟨#[]⟩)
def plain (op : ByteArray) : Bool := leaf5 op || op.toList == [115, 116, 114] || op.toList == [97, 116] || op.toList == [110] || op.toList == [33] || op.toList == [111, 102] || op.toList == [97, 108, 108] || op.toList == [105, 102]
/-- What a node of two parts asks of the second one. -/
def Sec (w : World) (vs : List Value) (ak : Bool) : Prop := ∃ v2 g2 op2, vs[1]? = some v2 ∧ v2 = .pointer (some ⟨g2, 0, none⟩) ∧ w.cell? ⟨g2, 0, none⟩ = some (.string op2) ∧ (op2.toList == [97, 108, 108]) = ak
structure ShN (w : World) (op tx : ByteArray) (vs : List Value) (ts : List ByteArray) (ak : Bool) : Prop where
  htx : tx.size ≤ 600
  hop : op.size ≤ 600
  len : ts.length = vs.length
  ll : vs.length ≤ 100000
  hts : ∀ i, (ts.getD i ⟨#[]⟩).size ≤ 1000000000
  one : (op.toList == [110] || op.toList == [33]) = true → 1 ≤ ts.length
  of : (op.toList == [111, 102]) = true → (jk ⟨#[44, 32]⟩ ts ts.length).size ≤ 1000000000
  all : (op.toList == [97, 108, 108]) = true → (jk ⟨#[59, 32]⟩ ts ts.length).size ≤ 1000000000
  if_ : (op.toList == [105, 102]) = true → ts.length = 1 ∨ (ts.length = 2 ∧ Sec w vs ak)
  two : plain op = false → 2 ≤ ts.length

theorem at01 {w : World} {base k : Nat} {a : Option Addr} {ts : List ByteArray} (h : w.ownsRow base 9 1 (.slice a ts.length k) ts.length (ts.map Value.string)) (h1 : 1 ≤ ts.length) :
    ∃ g, a = some ⟨g, 0, none⟩ ∧ w.cell? ⟨g, 0, none⟩ = some (.string (ts.getD 0 ⟨#[]⟩)) ∧ (2 ≤ ts.length → w.cell? ⟨g, 1, none⟩ = some (.string (ts.getD 1 ⟨#[]⟩))) := by
  obtain ⟨g, cap, hv, hb, hg⟩ := h.form (by omega)
  injection hv with e1 e2 e3
  subst e1 e3
  exact ⟨g, rfl, row_cell h 0 _ (by rw [List.getElem?_map, List.getD_eq_getElem?_getD, List.getElem?_eq_getElem h1]; rfl), fun h2 => row_cell h 1 _ (by rw [List.getElem?_map, List.getD_eq_getElem?_getD, List.getElem?_eq_getElem h2]; rfl)⟩

set_option maxRecDepth 100000 in
set_option maxHeartbeats 6400000 in
theorem shown_node {X : Nat → Prop} {w : World} {v : Value} {op tx : ByteArray} {a : Int} {vs : List Value} (h : NodeX X w v op tx a vs) (ts : List ByteArray) (ak : Bool) (hn : ShN w op tx vs ts ak)
    (hk : ∀ (i : Nat) (vi : Value) (wr : World), vs[i]? = some vi → Below w.heap.size w wr → Calls Tryz.prog 50 #[vi] wr fun e w' => StrPost (ts.getD i ⟨#[]⟩) wr e w') :
    Calls Tryz.prog 50 #[v] w fun e w' => StrPost (endS op tx ts ak) w e w' := by
  obtain ⟨g, kv, rfl, hh, hg, how⟩ := node_at h
  obtain ⟨a5, k5, rfl⟩ := ownsRow_slc how
  have HK := hide hk
  have HH := hide hh
  have HOW := hide how
  have HN := hide hn
  have hlen := hn.ll
  have HTL := hide hn.len
  obtain ⟨i0, hi, hz0, hz1, hz2⟩ := info_parts info9
  clear hk h hh how hn
  go_enter Tryz.func50, Tryz.ntmps50
  go_wp2_with fail
  go_loopg [3, 4, 5] (vs.length + 1) (fun k lv nv _ wr => ∃ i : Nat, k + i = vs.length + 1 ∧ i ≤ vs.length ∧ nv = .int .i64 i ∧ wr.ownsRow w.heap.size 9 1 lv (ts.take i).length ((ts.take i).map Value.string) ∧ Below w.heap.size w wr)
  case atStart => exact ⟨0, rfl, Nat.zero_le _, rfl, World.ownsRow_nil _ _ _ _, Below.refl _ _⟩
  case round =>
    obtain ⟨i, hgk, hile, rfl, hown, hbel⟩ := hrel
    obtain ⟨y0, y1, y2, y3, yf⟩ := box4' ((hbel.block g hg).trans HH.out)
    have HGK := hide hgk
    have hbz : w.heap.size ≤ wr.heap.size := hbel.size
    clear hgk
    have htk : (ts.take i).length = i := by rw [List.length_take]; have := HTL.out; omega
    rw [htk] at hown
    obtain ⟨a6, k6, rfl⟩ := ownsRow_slc hown
    have HTK := hide htk
    clear htk
    by_cases hlt : i < vs.length
    · obtain ⟨vi, hvi⟩ : ∃ vi, vs[i]? = some vi := ⟨vs[i], List.getElem?_eq_getElem hlt⟩
      obtain ⟨gk, capk, hv, hb, hgl⟩ := HOW.out.form (by omega)
      injection hv with e1 e2 e3
      subst e1 e3
      have hcell : wr.cell? ⟨gk, i, none⟩ = some vi := by
        rw [hbel.cell (p := ⟨gk, i, none⟩) hgl]
        exact row_cell HOW.out _ _ hvi
      have hlti : (i : Int) < vs.length := by omega
      have HC := hide (HK.out i vi wr hvi hbel)
      have hi100 : i ≤ 100000 := by omega
      have HOWN := hide hown
      have HB := hide hbel
      have hts := hide (show ts.take (i + 1) = ts.take i ++ [ts.getD i ⟨#[]⟩] from by
        have hl : i < ts.length := by have := HTL.out; omega
        rw [List.take_add_one, List.getElem?_eq_getElem hl, List.getD_eq_getElem?_getD, List.getElem?_eq_getElem hl]; rfl)
      clear hown hbel hvi
      generalize ts.getD i ⟨#[]⟩ = u at *
      go_wp2_with fail
      refine HC.out.mono ?_
      rintro e w1 ⟨rfl, hb1⟩
      have hB1 : Below w.heap.size w w1 := HB.out.trans (hb1.mono hbz)
      have hown1 : w1.ownsRow w.heap.size 9 1 (.slice a6 i k6) i ((ts.take i).map Value.string) := ownsRow_same HOWN.out fun k e => hb1.block k (HOWN.out.lt k e).2
      obtain ⟨y0, y1, y2, y3, yf⟩ := box4' ((hB1.block g hg).trans HH.out)
      have HB1 := hide hB1
      have hbz1 : w.heap.size ≤ w1.heap.size := hB1.size
      clear hb1 hB1 HC HOWN HB hcell
      go_wp2_with (at_builtin; go_must (refine wpList_append_lies _ rfl (.tmp 24) (.tmp 26) 56 rfl w.heap.size 9 i0 _ 1 16 Tryz.underlying56 hi hz0 hz1 hz2 rfl (by omega) _ i _ rfl (hown1.alloc _) ⟨w1.heap.size, 0, none⟩ 1 1 [.string u] rfl rfl ?news ?one (by omega) ?mm ?bys ?base (w1.heap.size + 1) (by simp) ?rest))
      case news => exact World.news_of_block (heap_alloc_new w1 _)
      case one => intro u hu; simp at hu; subst hu; rfl
      case mm => unfold maxLen; omega
      case bys => omega
      case base => simp; omega
      case rest =>
        intro gb cap w3 hown3 hgrow hat hlt2
        have hB3 := Below.grown (HB1.out.alloc hbz1 _) hgrow (by simp; omega) fun k e => (hown1.lt k e).1
        have HB3 := hide hB3
        have HO3 := hide hown3
        clear hgrow hat hown3 hB3 hown1
        go_wp2_with fail
        go_roundg (vs.length - i)
        case measure => have := HGK.out; omega
        case rel => exact ⟨i + 1, by have := HGK.out; omega, by omega, by go_num, by have h := HO3.out; rw [← List.map_take] at h; rw [hts.out, List.map_append, List.length_append, HTK.out]; exact h, HB3.out⟩
    · have hin : i = ts.length := by have := HTL.out; omega
      subst hin
      have hlti : ¬ (ts.length : Int) < vs.length := by omega
      have hall : ts.take ts.length = ts := List.take_of_length_le (Nat.le_refl _)
      rw [hall] at hown
      have HOWN := hide hown
      have HB := hide hbel
      have hn := HN.out
      have htx := hn.htx
      have hop := hn.hop
      have hts0 := hn.hts 0
      have hts1 := hn.hts 1
      clear hown hbel hall
      cases h_name : (op.toList == [110, 97, 109, 101])
      case true =>
        have hf : Hid (endS op tx ts ak = tx) := hide (by unfold endS leaf5; rw [h_name]; rfl)
        go_wp2_with fail
        go_ret
        exact ⟨by rw [hf.out]; rfl, HB.out⟩
      cases h_attr : (op.toList == [97, 116, 116, 114])
      case true =>
        have hf : Hid (endS op tx ts ak = tx) := hide (by unfold endS leaf5; rw [h_name, h_attr]; rfl)
        go_wp2_with fail
        go_ret
        exact ⟨by rw [hf.out]; rfl, HB.out⟩
      cases h_num : (op.toList == [110, 117, 109])
      case true =>
        have hf : Hid (endS op tx ts ak = tx) := hide (by unfold endS leaf5; rw [h_name, h_attr, h_num]; rfl)
        go_wp2_with fail
        go_ret
        exact ⟨by rw [hf.out]; rfl, HB.out⟩
      cases h_true : (op.toList == [116, 114, 117, 101])
      case true =>
        have hf : Hid (endS op tx ts ak = tx) := hide (by unfold endS leaf5; rw [h_name, h_attr, h_num, h_true]; rfl)
        go_wp2_with fail
        go_ret
        exact ⟨by rw [hf.out]; rfl, HB.out⟩
      cases h_false : (op.toList == [102, 97, 108, 115, 101])
      case true =>
        have hf : Hid (endS op tx ts ak = tx) := hide (by unfold endS leaf5; rw [h_name, h_attr, h_num, h_true, h_false]; rfl)
        go_wp2_with fail
        go_ret
        exact ⟨by rw [hf.out]; rfl, HB.out⟩
      cases h_str : (op.toList == [115, 116, 114])
      case true =>
        have hf : Hid (endS op tx ts ak = ((⟨#[34]⟩ : ByteArray) ++ tx) ++ ⟨#[34]⟩) := hide (by unfold endS leaf5; rw [h_name, h_attr, h_num, h_true, h_false, h_str]; rfl)
        go_wp2_with fail
        go_ret
        exact ⟨by rw [hf.out]; rfl, HB.out⟩
      cases h_at : (op.toList == [97, 116])
      case true =>
        have hf : Hid (endS op tx ts ak = (⟨#[64]⟩ : ByteArray) ++ tx) := hide (by unfold endS leaf5; rw [h_name, h_attr, h_num, h_true, h_false, h_str, h_at]; rfl)
        go_wp2_with fail
        go_ret
        exact ⟨by rw [hf.out]; rfl, HB.out⟩
      cases h_n : (op.toList == [110])
      case true =>
        have hf : Hid (endS op tx ts ak = (⟨#[45]⟩ : ByteArray) ++ ts.getD 0 ⟨#[]⟩) := hide (by unfold endS leaf5; rw [h_name, h_attr, h_num, h_true, h_false, h_str, h_at, h_n]; rfl)
        have h1 : 1 ≤ ts.length := hn.one (by simp [h_n])
        obtain ⟨gl, hgl, hl0, _⟩ := at01 HOWN.out h1
        subst hgl
        have hlt0 : (0 : Int) < ts.length := by omega
        generalize ts.getD 0 ⟨#[]⟩ = u0 at *
        go_wp2_with fail
        go_ret
        exact ⟨by rw [hf.out]; rfl, HB.out⟩
      cases h_no : (op.toList == [33])
      case true =>
        have hf : Hid (endS op tx ts ak = (⟨#[33]⟩ : ByteArray) ++ ts.getD 0 ⟨#[]⟩) := hide (by unfold endS leaf5; rw [h_name, h_attr, h_num, h_true, h_false, h_str, h_at, h_n, h_no]; rfl)
        have h1 : 1 ≤ ts.length := hn.one (by simp [h_no])
        obtain ⟨gl, hgl, hl0, _⟩ := at01 HOWN.out h1
        subst hgl
        have hlt0 : (0 : Int) < ts.length := by omega
        generalize ts.getD 0 ⟨#[]⟩ = u0 at *
        go_wp2_with fail
        go_ret
        exact ⟨by rw [hf.out]; rfl, HB.out⟩
      cases h_of : (op.toList == [111, 102])
      case true =>
        have hf : Hid (endS op tx ts ak = ((tx ++ (⟨#[45, 111, 102, 40]⟩ : ByteArray)) ++ jk ⟨#[44, 32]⟩ ts ts.length) ++ ⟨#[41]⟩) := hide (by unfold endS leaf5; rw [h_name, h_attr, h_num, h_true, h_false, h_str, h_at, h_n, h_no, h_of]; rfl)
        have hsz := hn.of h_of
        have HJ := hide (joined_any ⟨#[44, 32]⟩ ts a6 k6 w.heap.size wr HOWN.out (by have := HTL.out; omega) (by decide) hn.hts hsz)
        go_wp2_with fail
        refine HJ.out.mono ?_
        rintro e w2 ⟨rfl, rfl⟩
        go_wp2_with fail
        go_ret
        exact ⟨by rw [hf.out]; rfl, HB.out⟩
      cases h_all : (op.toList == [97, 108, 108])
      case true =>
        have hf : Hid (endS op tx ts ak = jk ⟨#[59, 32]⟩ ts ts.length) := hide (by unfold endS leaf5; rw [h_name, h_attr, h_num, h_true, h_false, h_str, h_at, h_n, h_no, h_of, h_all]; rfl)
        have hsz := hn.all h_all
        have HJ := hide (joined_any ⟨#[59, 32]⟩ ts a6 k6 w.heap.size wr HOWN.out (by have := HTL.out; omega) (by decide) hn.hts hsz)
        go_wp2_with fail
        refine HJ.out.mono ?_
        rintro e w2 ⟨rfl, rfl⟩
        go_wp2_with fail
        go_ret
        exact ⟨by rw [hf.out]; rfl, HB.out⟩
      cases h_if : (op.toList == [105, 102])
      case true =>
        rcases hn.if_ h_if with h1 | ⟨h2, v2, g2, op2, hv2, rfl, hc2, hak⟩
        · have hf : Hid (endS op tx ts ak = ts.getD 0 ⟨#[]⟩) := hide (by unfold endS leaf5; rw [h_name, h_attr, h_num, h_true, h_false, h_str, h_at, h_n, h_no, h_of, h_all, h_if]; simp only [Bool.or_self, Bool.false_eq_true, if_false, if_true, h1])
          obtain ⟨gl, hgl, hl0, _⟩ := at01 HOWN.out (by omega)
          subst hgl
          generalize ts.getD 0 ⟨#[]⟩ = u0 at *
          go_wp2_with fail
          go_ret
          exact ⟨by rw [hf.out]; rfl, HB.out⟩
        · have hvl : vs.length = 2 := by have := HTL.out; omega
          have hne : ¬ (2 : Nat) = 1 := by omega
          obtain ⟨gl, hgl, hl0, hl1⟩ := at01 HOWN.out (by omega)
          subst hgl
          have hl1 := hl1 (by omega)
          obtain ⟨gk, capk, hv, hb, hgl2⟩ := HOW.out.form (by omega)
          injection hv with e1 e2 e3
          subst e1 e3
          have hcell : wr.cell? ⟨gk, 1, none⟩ = some (.pointer (some ⟨g2, 0, none⟩)) := by
            rw [HB.out.cell (p := ⟨gk, 1, none⟩) hgl2]
            exact row_cell HOW.out _ _ hv2
          have hc2' : wr.cell? ⟨g2, 0, none⟩ = some (.string op2) := (HB.out.cell (p := ⟨g2, 0, none⟩) (block_lt_of_cell hc2)).trans hc2
          clear hc2 hv2
          cases ak
          · have hf : Hid (endS op tx ts false = (ts.getD 0 ⟨#[]⟩ ++ (⟨#[32, 45, 62, 32]⟩ : ByteArray)) ++ ts.getD 1 ⟨#[]⟩) := hide (by unfold endS leaf5; rw [h_name, h_attr, h_num, h_true, h_false, h_str, h_at, h_n, h_no, h_of, h_all, h_if]; simp only [Bool.or_self, Bool.false_eq_true, if_false, if_true, h2, hne])
            generalize ts.getD 0 ⟨#[]⟩ = u0 at *
            generalize ts.getD 1 ⟨#[]⟩ = u1 at *
            go_wp2_with fail
            go_quiet (fail)
            go_wp2_with fail
            go_ret
            exact ⟨by rw [hf.out]; rfl, ⟨HB.out.os, HB.out.tape, HB.out.output, HB.out.size, HB.out.block⟩⟩
          · have hf : Hid (endS op tx ts true = ((ts.getD 0 ⟨#[]⟩ ++ (⟨#[32, 45, 62, 32, 123]⟩ : ByteArray)) ++ ts.getD 1 ⟨#[]⟩) ++ ⟨#[125]⟩) := hide (by unfold endS leaf5; rw [h_name, h_attr, h_num, h_true, h_false, h_str, h_at, h_n, h_no, h_of, h_all, h_if]; simp only [Bool.or_self, Bool.false_eq_true, if_false, if_true, h2, hne])
            generalize ts.getD 0 ⟨#[]⟩ = u0 at *
            generalize ts.getD 1 ⟨#[]⟩ = u1 at *
            go_wp2_with fail
            go_quiet (fail)
            go_wp2_with fail
            go_ret
            exact ⟨by rw [hf.out]; rfl, ⟨HB.out.os, HB.out.tape, HB.out.output, HB.out.size, HB.out.block⟩⟩
      have hf : Hid (endS op tx ts ak = pairB (ts.getD 0 ⟨#[]⟩) op (ts.getD 1 ⟨#[]⟩)) := hide (by unfold endS leaf5; rw [h_name, h_attr, h_num, h_true, h_false, h_str, h_at, h_n, h_no, h_of, h_all, h_if]; rfl)
      have h2 : 2 ≤ ts.length := hn.two (by unfold plain leaf5; rw [h_name, h_attr, h_num, h_true, h_false, h_str, h_at, h_n, h_no, h_of, h_all, h_if]; rfl)
      obtain ⟨gl, hgl, hl0, hl1⟩ := at01 HOWN.out (by omega)
      subst hgl
      have hl1 := hl1 h2
      have hlt0 : (0 : Int) < ts.length := by omega
      have hlt1 : (1 : Int) < ts.length := by omega
      generalize ts.getD 0 ⟨#[]⟩ = u0 at *
      generalize ts.getD 1 ⟨#[]⟩ = u1 at *
      go_wp2_with fail
      go_quiet (fail)
      go_wp2_with fail
      go_ret
      exact ⟨by rw [hf.out]; rfl, ⟨HB.out.os, HB.out.tape, HB.out.output, HB.out.size, HB.out.block⟩⟩
end Go.Proofs.YtkoohcilbpdgeaaGreatDoor
