/-
  What is put is read as it was; cut anywhere it ends too early: of the bytes alone.
-/
import Derived.Test.YtkcnmmlakimonaaRefPut7
import Derived.Test.YtkcnmmlakimonaaRead
namespace Go.Proofs.Ytkcnmmlakimonaa
open Go.RowKit
set_option maxRecDepth 100000
set_option linter.unusedVariables false
set_option linter.unusedSimpArgs false

def wB (ws : List ByteArray) : List Int := if ws.length = 0 then [] else (listB textB ws).1
def eB (es : List En) : List Int := if es.length = 0 then [] else (listB (keyB valueB) es).1
def flB (T : List Int) (ws : List ByteArray) (es : List En) : Int := (if T.length = 0 then 0 else 2) + (if ws.length = 0 then 0 else 8) + (if es.length = 0 then 0 else 4)

theorem wr0_form {T : List Int} {ws : List ByteArray} {es : List En} (h : (wr0 (T, ws, es)).2.2 = 0) :
    (T.length = 0 ∨ T.length = 16) ∧ (listB textB ws).2 = 0 ∧ (listB (keyB valueB) es).2 = 0 ∧ wr0 (T, ws, es) = ((T ++ wB ws) ++ eB es, flB T ws es, 0) := by
  by_cases hT : T.length = 0 ∨ T.length = 16
  · by_cases h0 : (listB textB ws).2 = 0
    · by_cases h3 : (listB (keyB valueB) es).2 = 0
      · exact ⟨hT, h0, h3, by rw [wr0_then hT, wr1_ok h0, wr2_ok h3]; rfl⟩
      · rw [wr0_then hT, wr1_ok h0, wr2_err h3] at h
        exact absurd h h3
    · rw [wr0_then hT, wr1_err h0] at h
      exact absurd h h0
  · rw [wr0_arg (by omega) (by omega)] at h
    exact absurd h (by decide)

theorem bit_T (T : List Int) (ws : List ByteArray) (es : List En) : bitB (flB T ws es) 2 = !decide (T.length = 0) := by
  unfold flB
  by_cases h1 : T.length = 0 <;> by_cases h2 : ws.length = 0 <;> by_cases h3 : es.length = 0 <;> simp only [h1, h2, h3, if_true, if_false] <;> decide +kernel
theorem bit_W (T : List Int) (ws : List ByteArray) (es : List En) : bitB (flB T ws es) 8 = !decide (ws.length = 0) := by
  unfold flB
  by_cases h1 : T.length = 0 <;> by_cases h2 : ws.length = 0 <;> by_cases h3 : es.length = 0 <;> simp only [h1, h2, h3, if_true, if_false] <;> decide +kernel
theorem bit_E (T : List Int) (ws : List ByteArray) (es : List En) : bitB (flB T ws es) 4 = !decide (es.length = 0) := by
  unfold flB
  by_cases h1 : T.length = 0 <;> by_cases h2 : ws.length = 0 <;> by_cases h3 : es.length = 0 <;> simp only [h1, h2, h3, if_true, if_false] <;> decide +kernel

theorem stage_T {T : List Int} (h : T.length = 0 ∨ T.length = 16) (R : List Int) : opt (!decide (T.length = 0)) trR (T ++ R) = ⟨T, T.length, 0⟩ := by
  by_cases h0 : T.length = 0
  · obtain rfl : T = [] := List.eq_nil_of_length_eq_zero h0
    rfl
  · have h16 : T.length = 16 := by omega
    rw [opt, if_pos (by simp [h0]), trR, if_neg (by rw [List.length_append]; omega), ← h16, List.take_left]

theorem cut_T {T : List Int} (h : T.length = 0 ∨ T.length = 16) {k : Nat} (hk : k < T.length) : (opt (!decide (T.length = 0)) trR (T.take k)).err = 10 := by
  rw [opt, if_pos (by rw [decide_eq_false (show ¬ T.length = 0 by omega)]; rfl), trR, if_pos (by rw [List.length_take]; omega)]

theorem stage_W {ws : List ByteArray} (h : (listB textB ws).2 = 0) (R : List Int) : opt (!decide (ws.length = 0)) (listR textR) (wB ws ++ R) = ⟨ws, (wB ws).length, 0⟩ := by
  by_cases h0 : ws.length = 0
  · obtain rfl : ws = [] := List.eq_nil_of_length_eq_zero h0
    rfl
  · rw [opt, if_pos (by simpa using h0), wB, if_neg h0]
    exact fits_list fits_text ws h R

theorem cut_W {ws : List ByteArray} (h : (listB textB ws).2 = 0) {k : Nat} (hk : k < (wB ws).length) : (opt (!decide (ws.length = 0)) (listR textR) ((wB ws).take k)).err = 10 := by
  by_cases h0 : ws.length = 0
  · rw [wB, if_pos h0] at hk
    simp at hk
  · rw [wB, if_neg h0] at hk
    rw [opt, if_pos (by simpa using h0), wB, if_neg h0]
    exact cuts_list ws (fun x _ => reads_text x) (fun x _ => cuts_text x) h k hk

theorem cut_E {es : List En} (hs : ∀ y ∈ es, y.2.2.size ≤ 1048576) (h : (listB (keyB valueB) es).2 = 0) {k : Nat} (hk : k < (eB es).length) : (opt (!decide (es.length = 0)) (listR (keyR valueR)) ((eB es).take k)).err = 10 := by
  by_cases h0 : es.length = 0
  · rw [eB, if_pos h0] at hk
    simp at hk
  · rw [eB, if_neg h0] at hk
    rw [opt, if_pos (by simpa using h0), eB, if_neg h0]
    exact cuts_list es (fun x hx => reads_key x (reads_value x.2 (by have := hs x hx; omega))) (fun x hx => cuts_key x (cuts_value x.2 (by have := hs x hx; omega))) h k hk

/-- A value of another kind than 'set' has no bytes. -/
def Plain (x : Int × ByteArray) : Prop := x.1 ≠ 2 → x.2 = ByteArray.empty

theorem fits_value (x : Int × ByteArray) (hx : x.2.size < 2147483648) (hp : Plain x) : Fits valueR valueB x := by
  intro h Z
  obtain ⟨kd, bs⟩ := x
  unfold valueR
  try simp only
  unfold valueB at h ⊢
  try simp only at h hx ⊢
  by_cases h0 : kd = 0
  · have hb : bs = ByteArray.empty := hp (by simp only; omega)
    rw [if_pos h0]; simp only; rw [minus_one, h0, hb]; rfl
  rw [if_neg h0] at h ⊢
  by_cases h1 : kd = 1
  · have hb : bs = ByteArray.empty := hp (by simp only; omega)
    rw [if_pos h1]; simp only; rw [minus_two, h1, hb]; rfl
  rw [if_neg h1] at h ⊢
  by_cases h2 : kd = 2
  · rw [if_pos h2]
    simp only
    rw [List.append_assoc, value_told_yes (bs.size : Int) (sNums bs ++ Z) bs.size (by omega) (by omega) (sig_small _ hx) (by rw [List.length_append, sNums_length]; omega), List.length_append, putL_length, sNums_length]
    simp only
    rw [List.take_append_of_le_length (by rw [sNums_length]; omega), List.take_of_length_le (by rw [sNums_length]; omega), strOfNums_sNums, h2]
  · rw [if_neg h2] at h; exact absurd h (by decide)

theorem fits_entry (x : En) (hx : x.2.2.size < 2147483648) (hp : Plain x.2) : Fits (keyR valueR) (keyB valueB) x := by
  intro h Z
  by_cases h1 : (textB x.1).2 = 0
  · by_cases h2 : (valueB x.2).2 = 0
    · have e : keyB valueB x = ((textB x.1).1 ++ (valueB x.2).1, 0) := by rw [keyB, if_pos h1, if_pos h2]
      have ht := fits_text x.1 h1 ((valueB x.2).1 ++ Z)
      have hq := fits_value x.2 hx hp h2 Z
      rw [e]
      simp only
      rw [List.append_assoc, keyR, ht]
      simp only
      rw [List.drop_left, hq, List.length_append]
      simp
    · rw [keyB, if_pos h1, if_neg h2] at h
      exact absurd h h2
  · rw [keyB, if_neg h1] at h
    exact absurd h h1

theorem stage_E {es : List En} (hs : ∀ y ∈ es, y.2.2.size ≤ 1048576) (hp : ∀ y ∈ es, Plain y.2) (h : (listB (keyB valueB) es).2 = 0) (R : List Int) : opt (!decide (es.length = 0)) (listR (keyR valueR)) (eB es ++ R) = ⟨es, (eB es).length, 0⟩ := by
  by_cases h0 : es.length = 0
  · obtain rfl : es = [] := List.eq_nil_of_length_eq_zero h0
    rfl
  · rw [opt, if_pos (by simpa using h0), eB, if_neg h0]
    obtain ⟨hl, h1, h2⟩ := listB_ok h
    rw [h1, List.append_assoc, listR, if_neg (by rw [List.length_append, putL_length]; omega), told_text _ _ (by omega),
      show ((es.length : Int) % 65536).toNat = es.length by omega, goR_body es (fun x hx => fits_entry x (by have := hs x hx; omega) (hp x hx)) h2 R _ _ _ (putL_length _ _).symm, List.nil_append, List.length_append, putL_length]

theorem read_back {T : List Int} {ws : List ByteArray} {es : List En} (hs : ∀ y ∈ es, y.2.2.size ≤ 1048576) (hp : ∀ y ∈ es, Plain y.2) (h : (wr0 (T, ws, es)).2.2 = 0) (Z : List Int) :
    rest0 (wr0 (T, ws, es)).2.1 ((wr0 (T, ws, es)).1 ++ Z) = ⟨(T, ws, es), (wr0 (T, ws, es)).1.length, 0⟩ := by
  obtain ⟨hT, hW, hE, e⟩ := wr0_form h
  rw [e]
  simp only
  have d1 : (((T ++ wB ws) ++ eB es) ++ Z).drop 0 = T ++ (wB ws ++ (eB es ++ Z)) := by simp
  have d2 : (((T ++ wB ws) ++ eB es) ++ Z).drop (0 + T.length) = wB ws ++ (eB es ++ Z) := by simp
  have d3 : (((T ++ wB ws) ++ eB es) ++ Z).drop (0 + T.length + (wB ws).length) = eB es ++ Z := by
    rw [Nat.zero_add, ← List.length_append, List.append_assoc (T ++ wB ws), List.drop_left]
  rw [rest0, bit_T, d1, stage_T hT, if_pos rfl]
  simp only
  rw [rest1, bit_W, d2, stage_W hW, if_pos rfl]
  simp only
  rw [rest2, bit_E, d3, stage_E hs hp hE, if_pos rfl]
  simp only [rest3, List.length_append]
  simp

theorem read_cut {T : List Int} {ws : List ByteArray} {es : List En} (hs : ∀ y ∈ es, y.2.2.size ≤ 1048576) (h : (wr0 (T, ws, es)).2.2 = 0) {k : Nat} (hk : k < (wr0 (T, ws, es)).1.length) :
    (rest0 (wr0 (T, ws, es)).2.1 ((wr0 (T, ws, es)).1.take k)).err = 10 := by
  obtain ⟨hT, hW, hE, e⟩ := wr0_form h
  rw [e] at hk ⊢
  simp only [List.length_append] at hk ⊢
  by_cases k1 : k < T.length
  · have d1 : (((T ++ wB ws) ++ eB es).take k).drop 0 = T.take k := by
      rw [List.drop_zero, List.append_assoc, List.take_append_of_le_length (by omega)]
    rw [rest0, bit_T, d1, if_neg (by rw [cut_T hT k1]; decide)]
    exact cut_T hT k1
  · have t1 : ((T ++ wB ws) ++ eB es).take k = T ++ (wB ws ++ eB es).take (k - T.length) := by
      rw [List.append_assoc, List.take_append, List.take_of_length_le (by omega)]
    have d1 : (((T ++ wB ws) ++ eB es).take k).drop 0 = T ++ (wB ws ++ eB es).take (k - T.length) := by rw [List.drop_zero, t1]
    have d2 : (((T ++ wB ws) ++ eB es).take k).drop (0 + T.length) = (wB ws ++ eB es).take (k - T.length) := by rw [t1, Nat.zero_add, List.drop_left]
    rw [rest0, bit_T, d1, stage_T hT, if_pos rfl]
    simp only
    by_cases k2 : k - T.length < (wB ws).length
    · have d3 : (wB ws ++ eB es).take (k - T.length) = (wB ws).take (k - T.length) := by rw [List.take_append_of_le_length (by omega)]
      rw [rest1, bit_W, d2, d3, if_neg (by rw [cut_W hW k2]; decide)]
      exact cut_W hW k2
    · have t2 : (wB ws ++ eB es).take (k - T.length) = wB ws ++ (eB es).take (k - T.length - (wB ws).length) := by
        rw [List.take_append, List.take_of_length_le (by omega)]
      have d4 : (((T ++ wB ws) ++ eB es).take k).drop (0 + T.length + (wB ws).length) = (eB es).take (k - T.length - (wB ws).length) := by
        rw [← List.drop_drop, d2, t2, List.drop_left]
      have k3 : k - T.length - (wB ws).length < (eB es).length := by omega
      rw [rest1, bit_W, d2, t2, stage_W hW, if_pos rfl]
      simp only
      rw [rest2, bit_E, d4, if_neg (by rw [cut_E hs hE k3]; decide)]
      exact cut_E hs hE k3
end Go.Proofs.Ytkcnmmlakimonaa
