/-
  The contracts of the document's own Put and Signed, over the translation.
-/
import Derived.Test.YtabadlgjocgkjaaArg
namespace Go.Proofs.Ytabadlgjocgkjaa
open Go.RowKit
set_option linter.unusedVariables false

theorem putL_succ (x : Int) (n j : Nat) (h : j < n) : (putL x n).take (j + 1) = (putL x n).take j ++ [byteAt x n j] := by
  rw [List.take_succ_eq_append_getElem (by rw [putL_length]; exact h)]
  simp [putL]

theorem div_more (x : Int) (k : Nat) : x / 2 ^ (8 * k) / 256 = x / 2 ^ (8 * (k + 1)) := by
  have hp : (0 : Int) < 2 ^ (8 * k) := Int.pow_pos (by omega)
  rw [Int.ediv_ediv, if_neg (by omega), Int.sub_zero, Nat.mul_succ, Int.pow_add]
  rfl

theorem div_bound (x : Int) (k : Nat) (h0 : 0 ≤ x) (h1 : x < 18446744073709551616) : 0 ≤ x / 2 ^ (8 * k) ∧ x / 2 ^ (8 * k) < 18446744073709551616 := by
  have hp : (0 : Int) < 2 ^ (8 * k) := Int.pow_pos (by omega)
  refine ⟨Int.ediv_nonneg h0 (by omega), ?_⟩
  have := Int.ediv_le_self (2 ^ (8 * k)) h0
  omega

/-- The number of the first k of the bytes zs with a sign, the highest first. -/
def sTo (zs : List Int) (k : Nat) : Int := if k = 0 then 0 else if (128 : Int) ≤ zs[0]?.getD 0 then numTo zs k - 256 ^ k else numTo zs k

theorem sTo_one_big (zs : List Int) (h : 0 < zs.length) (hb : (128 : Int) ≤ zs[0]?.getD 0) : sTo zs 1 = zs[0]?.getD 0 - 256 := by
  simp only [sTo]
  rw [if_neg (by omega), if_pos hb, numTo_succ zs 0 h]
  simp [numTo]

theorem sTo_one_small (zs : List Int) (h : 0 < zs.length) (hb : ¬ (128 : Int) ≤ zs[0]?.getD 0) : sTo zs 1 = zs[0]?.getD 0 := by
  simp only [sTo]
  rw [if_neg (by omega), if_neg hb, numTo_succ zs 0 h]
  simp [numTo]

theorem sTo_succ (zs : List Int) (k : Nat) (h : k < zs.length) (hk : 0 < k) : sTo zs (k + 1) = sTo zs k * 256 + zs[k]?.getD 0 := by
  have e1 : ∀ a b : Int, (if k + 1 = 0 then a else b) = b := fun a b => if_neg (by omega)
  have e2 : ∀ a b : Int, (if k = 0 then a else b) = b := fun a b => if_neg (by omega)
  simp only [sTo, e1, e2, numTo_succ zs k h]
  by_cases hb : (128 : Int) ≤ zs[0]?.getD 0
  · rw [if_pos hb, if_pos hb, Int.pow_succ]; omega
  · rw [if_neg hb, if_neg hb]

theorem numTo_top (zs : List Int) (hr : ∀ j : Nat, 0 ≤ zs[j]?.getD 0 ∧ zs[j]?.getD 0 ≤ 255) (k : Nat) (h : k + 1 ≤ zs.length) :
    zs[0]?.getD 0 * 256 ^ k ≤ numTo zs (k + 1) ∧ numTo zs (k + 1) < (zs[0]?.getD 0 + 1) * 256 ^ k := by
  induction k with
  | zero => rw [numTo_succ zs 0 (by omega)]; simp [numTo]; omega
  | succ k ih =>
    have := ih (by omega)
    have hk := hr (k + 1)
    rw [numTo_succ zs (k + 1) (by omega), Int.pow_succ, ← Int.mul_assoc, ← Int.mul_assoc]
    omega

theorem sTo_bound (zs : List Int) (hr : ∀ j : Nat, 0 ≤ zs[j]?.getD 0 ∧ zs[j]?.getD 0 ≤ 255) (k : Nat) (h : k ≤ zs.length) (h7 : k ≤ 7) : -36028797018963968 ≤ sTo zs k ∧ sTo zs k ≤ 36028797018963967 := by
  rcases Nat.eq_zero_or_pos k with rfl | hp
  · simp [sTo]
  · have h0 := hr 0
    obtain ⟨j, rfl⟩ : ∃ j, k = j + 1 := ⟨k - 1, by omega⟩
    have ht := numTo_top zs hr j h
    simp only [sTo]
    rw [if_neg (by omega)]
    rcases (show j = 0 ∨ j = 1 ∨ j = 2 ∨ j = 3 ∨ j = 4 ∨ j = 5 ∨ j = 6 from by omega) with rfl | rfl | rfl | rfl | rfl | rfl | rfl <;>
    (split <;> (simp at ht ⊢; omega))

theorem sTo_putL (x : Int) (n : Nat) (h1 : 1 ≤ n) (h2 : n ≤ 8) : sTo (putL x n) n = sgn x n := by
  have hn := numTo_putL x n [] h1 h2
  rw [List.append_nil] at hn
  have h0 : (putL x n)[0]?.getD 0 = byteAt x n 0 := by rw [← List.getD_eq_getElem?_getD]; simp [putL, List.getD_eq_getElem?_getD, List.getElem?_range h1]
  unfold sTo
  rw [if_neg (by omega), hn, h0]
  unfold sgn byteAt
  rcases one_to_eight h1 h2 with rfl | rfl | rfl | rfl | rfl | rfl | rfl | rfl <;> (simp <;> split <;> split <;> omega)

/-- What a slice that owns its row, and is not empty, is. -/
theorem own_full {w : World} {base : Nat} {v : Value} {n : Nat} {X : List Int} (h : w.ownsRow base 5 1 v n (X.map (Value.int .u8))) (hp : 0 < n) :
    ∃ g cap, v = .slice (some ⟨g, 0, none⟩) n cap ∧ n ≤ cap ∧ cap ≤ maxLen ∧ base ≤ g ∧ g < w.heap.size ∧ ∀ t, t < n → w.cell? ⟨g, t, none⟩ = some (.int .u8 (X.getD t 0)) := by
  obtain ⟨hlen, h2⟩ := id h
  rcases h2 with ⟨rfl, rfl⟩ | ⟨g, cap, cur, rfl, hg, hh, hc, hm, hs, hx⟩
  · omega
  · refine ⟨g, cap, rfl, hc, hm, hg, (h.lt g rfl).2, fun t ht => ?_⟩
    rw [h.cellAt t (by omega)]
    simp only [List.length_map, Nat.mul_one] at hlen
    simp [show t < X.length by omega]
end Go.Proofs.Ytabadlgjocgkjaa
