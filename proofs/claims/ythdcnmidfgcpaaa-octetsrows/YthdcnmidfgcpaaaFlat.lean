/-
  Plain facts on numbers that were put one behind the other.
-/
import Derived.Test.YthdcnmidfgcpaaaMath
namespace Go.Proofs.Ythdcnmidfgcpaaa
open Go.RowKit
set_option linter.unusedVariables false

def bytesOfAll (k : Nat) (zs : List Int) : List Int := zs.flatMap fun x => putL x k
/-- The bytes of the first j numbers. -/
def flat (zs : List Int) (k j : Nat) : List Int := bytesOfAll k (zs.take j)
/-- The bytes of those of the first n numbers that stand from j on. -/
def suf (zs : List Int) (k n j : Nat) : List Int := bytesOfAll k ((zs.take n).drop j)

theorem bytesOfAll_length (k : Nat) (zs : List Int) : (bytesOfAll k zs).length = zs.length * k := by
  induction zs with
  | nil => simp [bytesOfAll]
  | cons z zs ih =>
    have : bytesOfAll k (z :: zs) = putL z k ++ bytesOfAll k zs := rfl
    rw [this, List.length_append, ih, putL_length, List.length_cons, Nat.succ_mul]
    omega

theorem bytesOfAll_append (k : Nat) (a b : List Int) : bytesOfAll k (a ++ b) = bytesOfAll k a ++ bytesOfAll k b := by
  simp [bytesOfAll]

theorem flat_succ (zs : List Int) (k j : Nat) (h : j < zs.length) : flat zs k (j + 1) = flat zs k j ++ putL (zs.getD j 0) k := by
  unfold flat
  rw [List.take_succ_eq_append_getElem h, bytesOfAll_append]
  simp [bytesOfAll, h]

theorem flat_length (zs : List Int) (k j : Nat) (h : j ≤ zs.length) : (flat zs k j).length = j * k := by
  unfold flat
  rw [bytesOfAll_length, List.length_take]
  congr 1
  omega

theorem suf_length (zs : List Int) (k n j : Nat) (h : n ≤ zs.length) : (suf zs k n j).length = (n - j) * k := by
  unfold suf
  rw [bytesOfAll_length, List.length_drop, List.length_take]
  congr 1
  omega

theorem suf_zero (zs : List Int) (k n : Nat) : suf zs k n 0 = flat zs k n := rfl

theorem suf_succ (zs : List Int) (k n j : Nat) (hn : n ≤ zs.length) (h : j < n) : suf zs k n j = putL (zs.getD j 0) k ++ suf zs k n (j + 1) := by
  unfold suf
  have hl : j < (zs.take n).length := by rw [List.length_take]; omega
  rw [List.drop_eq_getElem_cons hl]
  have e : (zs.take n)[j] = zs.getD j 0 := by
    rw [List.getElem_take, List.getD_eq_getElem?_getD, List.getElem?_eq_getElem (by omega), Option.getD_some]
  rw [e]
  rfl

theorem flat_drop (zs : List Int) (k n j : Nat) (hn : n ≤ zs.length) (h : j ≤ n) : (flat zs k n).drop (j * k) = suf zs k n j := by
  induction j with
  | zero => simp [suf_zero]
  | succ j ih =>
    rw [Nat.succ_mul, ← List.drop_drop, ih (by omega), suf_succ zs k n j hn (by omega), List.drop_append, putL_length]
    simp [putL_length]

theorem suf_getD (zs : List Int) (k n j t : Nat) (hn : n ≤ zs.length) (h : j ≤ n) : (suf zs k n j).getD t 0 = (flat zs k n).getD (j * k + t) 0 := by
  rw [← flat_drop zs k n j hn h, List.getD_eq_getElem?_getD, List.getElem?_drop, List.getD_eq_getElem?_getD]

theorem bytesOfAll_range (k : Nat) (zs : List Int) : ∀ z ∈ bytesOfAll k zs, 0 ≤ z ∧ z ≤ 255 := by
  intro z hz
  obtain ⟨x, _, hx⟩ := List.mem_flatMap.1 hz
  obtain ⟨i, _, rfl⟩ := List.mem_map.1 hx
  exact byteAt_range x k i

theorem suf_range (zs : List Int) (k n j : Nat) : ∀ t : Nat, 0 ≤ (suf zs k n j)[t]?.getD 0 ∧ (suf zs k n j)[t]?.getD 0 ≤ 255 := by
  intro t
  by_cases h : t < (suf zs k n j).length
  · rw [List.getElem?_eq_getElem h, Option.getD_some]
    exact bytesOfAll_range k _ _ (List.getElem_mem h)
  · rw [List.getElem?_eq_none (by omega)]; simp

theorem suf_num (zs : List Int) (k n j : Nat) (hn : n ≤ zs.length) (h : j < n) (h1 : 1 ≤ k) (h2 : k ≤ 8) : numTo (suf zs k n j) k = zs.getD j 0 % 2 ^ (8 * k) := by
  rw [suf_succ zs k n j hn h]
  exact numTo_putL _ _ _ h1 h2

theorem low_bytes (z : Int) (k : Nat) (h0 : 0 ≤ z) (h1 : 1 ≤ k) (h2 : k ≤ 8) : IntKind.u64.wrap (z * 2 ^ (64 - 8 * k)) / 2 ^ (64 - 8 * k) = z % 2 ^ (8 * k) := by
  rw [IntKind.wrap_u64]
  rcases one_to_eight h1 h2 with rfl | rfl | rfl | rfl | rfl | rfl | rfl | rfl <;> (simp <;> omega)
end Go.Proofs.Ythdcnmidfgcpaaa
