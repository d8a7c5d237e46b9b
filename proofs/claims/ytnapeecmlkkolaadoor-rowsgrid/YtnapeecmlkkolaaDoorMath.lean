/-
  Plain facts on numbers and bytes, with no program in them.
-/
import Derived.WalkKit
import Derived.Laws.BitsAllLaws
namespace Go.Proofs.YtnapeecmlkkolaaDoor
open Go.RowKit

/-- The number of the first k of the bytes zs, the highest first. -/
def numTo (zs : List Int) (k : Nat) : Int := (zs.take k).foldl (fun x z => x * 256 + z) 0

theorem numTo_succ (zs : List Int) (k : Nat) (h : k < zs.length) : numTo zs (k + 1) = numTo zs k * 256 + zs[k]?.getD 0 := by
  unfold numTo
  rw [List.take_succ_eq_append_getElem h, List.foldl_append]
  simp [h]

theorem numTo_bound (zs : List Int) (hr : ∀ j : Nat, 0 ≤ zs[j]?.getD 0 ∧ zs[j]?.getD 0 ≤ 255) (k : Nat) (h : k ≤ zs.length) : 0 ≤ numTo zs k ∧ numTo zs k < 256 ^ k := by
  induction k with
  | zero => simp [numTo]
  | succ k ih =>
    have := ih (by omega)
    have hk := hr k
    rw [numTo_succ zs k (by omega), Int.pow_succ]
    omega

theorem numTo_lt (zs : List Int) (hr : ∀ j : Nat, 0 ≤ zs[j]?.getD 0 ∧ zs[j]?.getD 0 ≤ 255) (k : Nat) (h : k ≤ zs.length) (h8 : k ≤ 8) : 0 ≤ numTo zs k ∧ numTo zs k < 18446744073709551616 := by
  have hb := numTo_bound zs hr k h
  have e : ∀ k : Fin 9, (256 : Int) ^ (k : Nat) ≤ 18446744073709551616 := by decide
  have := e ⟨k, by omega⟩
  simp only at this
  omega

theorem or_byte (a z : Int) (h0 : 0 ≤ a) (h1 : a * 256 < 18446744073709551616) (hz0 : 0 ≤ z) (hz1 : z ≤ 255) : bits .or .u64 (IntKind.u64.wrap (a * 256)) z = a * 256 + z := by
  have e : IntKind.u64.wrap (a * 256) = a * 256 := by rw [IntKind.wrap_u64]; omega
  rw [e, u64_or (a * 256) z (by omega) h1 hz0 (by omega), nat_join 8 _ _ (by omega) (by omega)]
  omega

/-- The i-th of the n lowest bytes of x, the highest first. -/
def byteAt (x : Int) (n i : Nat) : Int := x / 2 ^ (8 * (n - 1 - i)) % 256
def putL (x : Int) (n : Nat) : List Int := (List.range n).map (byteAt x n)

theorem one_to_eight {n : Nat} (h1 : 1 ≤ n) (h2 : n ≤ 8) : n = 1 ∨ n = 2 ∨ n = 3 ∨ n = 4 ∨ n = 5 ∨ n = 6 ∨ n = 7 ∨ n = 8 := by omega

theorem numTo_putL (x : Int) (n : Nat) (more : List Int) (h1 : 1 ≤ n) (h2 : n ≤ 8) : numTo (putL x n ++ more) n = x % 2 ^ (8 * n) := by
  rcases one_to_eight h1 h2 with rfl | rfl | rfl | rfl | rfl | rfl | rfl | rfl <;>
  (simp [numTo, putL, byteAt, List.range_succ] <;> omega)

theorem putL_length (x : Int) (n : Nat) : (putL x n).length = n := by simp [putL]

theorem byteAt_range (x : Int) (n i : Nat) : 0 ≤ byteAt x n i ∧ byteAt x n i ≤ 255 := by unfold byteAt; omega

theorem putL_range (x : Int) (n : Nat) : ∀ j : Nat, 0 ≤ (putL x n)[j]?.getD 0 ∧ (putL x n)[j]?.getD 0 ≤ 255 := by
  intro j
  by_cases h : j < n
  · simp only [putL, List.getElem?_map, List.getElem?_range h, Option.map_some, Option.getD_some]; exact byteAt_range x n j
  · simp [putL, List.getElem?_eq_none (l := List.range n) (i := j) (by simpa using h)]

theorem i64_and7 (n : Int) : bits .and .i64 n 7 = n % 8 := by
  have h7 : (BitVec.ofInt 64 7).toNat = 2 ^ 3 - 1 := by decide
  have key : (BitVec.ofInt 64 n &&& BitVec.ofInt 64 7).toNat = (n % ((2 ^ 64 : Nat) : Int)).toNat % 2 ^ 3 := by
    rw [BitVec.toNat_and, BitVec.toNat_ofInt, h7, Nat.and_two_pow_sub_one_eq_mod]
  show IntKind.i64.wrap ((BitVec.ofInt 64 n &&& BitVec.ofInt 64 7).toNat : Nat) = n % 8
  rw [key, IntKind.wrap_i64]
  omega

/-- The number of the lowest n bytes of x with their sign. -/
def sgn (x : Int) (n : Nat) : Int := if 2 ^ (8 * n - 1) ≤ x % 2 ^ (8 * n) then x % 2 ^ (8 * n) - 2 ^ (8 * n) else x % 2 ^ (8 * n)

theorem signed_eq (x : Int) (n : Nat) (h1 : 1 ≤ n) (h2 : n ≤ 8) : wrap64 (IntKind.u64.wrap (x * 2 ^ (8 * (8 - n)))) / 2 ^ (8 * (8 - n)) = sgn x n := by
  unfold wrap64
  rw [IntKind.wrap_u64]
  rcases one_to_eight h1 h2 with rfl | rfl | rfl | rfl | rfl | rfl | rfl | rfl <;>
  (simp [sgn]; omega)


end Go.Proofs.YtnapeecmlkkolaaDoor
