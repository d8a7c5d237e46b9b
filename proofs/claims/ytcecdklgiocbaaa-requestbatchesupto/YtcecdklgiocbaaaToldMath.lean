/-
  What is got of four bytes that tell a number and of bytes behind them: plain facts.
-/
import Derived.Test.YtcecdklgiocbaaaPutP
namespace Go.Proofs.Ytcecdklgiocbaaa
open Go.RowKit
set_option maxRecDepth 100000
set_option linter.unusedVariables false
set_option linter.unusedSimpArgs false

theorem putL_four (N : Int) : putL N 4 = [N / 16777216 % 256, N / 65536 % 256, N / 256 % 256, N % 256] := by
  simp [putL, byteAt, List.range_succ]

theorem putL_two (N : Int) : (putL N 4).drop 2 = putL N 2 := by
  simp [putL, byteAt, List.range_succ]

theorem told_drop (N : Int) (Z : List Int) : (putL N 4 ++ Z).drop 2 = putL N 2 ++ Z := by
  rw [List.drop_append_of_le_length (by rw [putL_length]; omega), putL_two]

/-- The number with its sign. -/
def sig (N : Int) : Int := if 2147483648 ≤ N then N - 4294967296 else N

theorem told_int4 (N : Int) (Z : List Int) (h0 : 0 ≤ N) (h1 : N < 4294967296) : int4 (putL N 4 ++ Z) = sig N := by
  unfold int4
  rw [numTo_putL N 4 Z (by omega) (by omega)]
  unfold sgn sig
  simp only [show 8 * 4 - 1 = 31 from rfl, show 8 * 4 = 32 from rfl]
  have e : N % 2 ^ 32 % 2 ^ 32 = N := by omega
  rw [e]
  split <;> split <;> omega

theorem told_text (N : Int) (Z : List Int) (h0 : 0 ≤ N) : numTo (putL N 2 ++ Z) 2 = N % 65536 := numTo_putL N 2 Z (by omega) (by omega)

theorem told_len (N : Int) (n : Nat) (Z : List Int) : (putL N n ++ Z).length = n + Z.length := by rw [List.length_append, putL_length]

theorem told_behind (N : Int) (n k : Nat) (Z : List Int) : (putL N n ++ Z).drop (n + k) = Z.drop k := by
  have e : (putL N n ++ Z).drop n = Z := by
    have := List.drop_left (l₁ := putL N n) (l₂ := Z)
    rwa [putL_length] at this
  rw [← List.drop_drop, e]

theorem told_front (N : Int) (n : Nat) (Z : List Int) : (putL N n ++ Z).drop n = Z := by
  have := told_behind N n 0 Z
  simpa using this

theorem text_told_no (N : Int) (Z : List Int) (h0 : 0 ≤ N) (h : (Z.length : Int) < N % 65536) : textA (putL N 2 ++ Z) = ⟨0, [], 0, 10⟩ := by
  unfold textA
  rw [told_len, told_text N Z h0, if_neg (by omega), if_pos (by omega)]

theorem text_told_yes (N : Int) (Z : List Int) (S : Nat) (h0 : 0 ≤ N) (hS : N % 65536 = S) (h : S ≤ Z.length) : textA (putL N 2 ++ Z) = ⟨0, Z.take S, 2 + S, 0⟩ := by
  unfold textA
  rw [told_len, told_text N Z h0, hS, if_neg (by omega), if_neg (by omega), told_front, Int.toNat_natCast]

theorem value_told_form (N : Int) (Z : List Int) (h0 : 0 ≤ N) (h1 : N < 4294967296) (h : sig N < -2) : valueA (putL N 4 ++ Z) = ⟨0, [], 0, 11⟩ := by
  unfold valueA
  rw [told_len, told_int4 N Z h0 h1, if_neg (by omega), if_pos h]

theorem value_told_unset (N : Int) (Z : List Int) (h0 : 0 ≤ N) (h1 : N < 4294967296) (h : sig N = -2) : valueA (putL N 4 ++ Z) = ⟨1, [], 4, 0⟩ := by
  unfold valueA
  rw [told_len, told_int4 N Z h0 h1, if_neg (by omega), if_neg (by omega), if_pos h]

theorem value_told_null (N : Int) (Z : List Int) (h0 : 0 ≤ N) (h1 : N < 4294967296) (h : sig N = -1) : valueA (putL N 4 ++ Z) = ⟨0, [], 4, 0⟩ := by
  unfold valueA
  rw [told_len, told_int4 N Z h0 h1, if_neg (by omega), if_neg (by omega), if_neg (by omega), if_pos h]

theorem value_told_no (N : Int) (Z : List Int) (h0 : 0 ≤ N) (h1 : N < 4294967296) (h : (Z.length : Int) < sig N) : valueA (putL N 4 ++ Z) = ⟨0, [], 0, 10⟩ := by
  unfold valueA
  rw [told_len, told_int4 N Z h0 h1, if_neg (by omega), if_neg (by omega), if_neg (by omega), if_neg (by omega), if_pos (by omega)]

theorem value_told_yes (N : Int) (Z : List Int) (K : Nat) (h0 : 0 ≤ N) (h1 : N < 4294967296) (hK : sig N = K) (h : K ≤ Z.length) : valueA (putL N 4 ++ Z) = ⟨2, Z.take K, 4 + K, 0⟩ := by
  unfold valueA
  rw [told_len, told_int4 N Z h0 h1, hK, if_neg (by omega), if_neg (by omega), if_neg (by omega), if_neg (by omega), if_neg (by omega), told_front, Int.toNat_natCast]

theorem and_low (N : Int) (h0 : 0 ≤ N) (h1 : N < 4294967296) : bits .and .u32 N 65535 = N % 65536 := by
  rw [u32_and N 65535 h0 h1 (by omega) (by omega)]
  have e : (65535 : Int).toNat = 2 ^ 16 - 1 := by decide
  rw [e, Nat.and_two_pow_sub_one_eq_mod]
  omega

theorem str_join (A B : List Int) : strOfNums A ++ strOfNums B = strOfNums (A ++ B) := by
  apply ByteArray.ext
  apply Array.ext'
  simp [strOfNums, ByteArray.data_append]

theorem str_parts (Z : List Int) (K : Nat) : strOfNums (Z.take K) ++ strOfNums (Z.drop K) = strOfNums Z := by
  rw [str_join, List.take_append_drop]
end Go.Proofs.Ytcecdklgiocbaaa
