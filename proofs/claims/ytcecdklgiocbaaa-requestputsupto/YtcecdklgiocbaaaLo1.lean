/-
  Math, Base, Take, Ref, Arg, RefPut, Row, TextGet, laid together.
-/
import Derived.WalkKit
import Derived.Laws.BitsAllLaws
import Derived.Test.YtcecdklgiocbaaaRows
import Derived.WalkSpells
import Derived.WalkLawsBesides
import Derived.Deep.QuietTactic
import Derived.BigQuiet
import Derived.Deep.OwnRows
import Derived.Laws.CopyOwn
import Derived.OpenShut
import Derived.Laws.BytesArg
import Derived.Lib.Bytes
namespace Go.Proofs.Ytcecdklgiocbaaa
open Go.RowKit

/-- The number of the first k of the bytes zs, the highest first. -/
def numTo (zs : List Int) (k : Nat) : Int := (zs.take k).foldl (fun x z => x * 256 + z) 0

theorem numTo_succ (zs : List Int) (k : Nat) (h : k < zs.length) : numTo zs (k + 1) = numTo zs k * 256 + zs[k]?.getD 0 := by
  unfold numTo
  rw [List.take_succ_eq_append_getElem h, List.foldl_append]
  simp [h]

theorem numTo_bound (zs : List Int) (hr : ∀ j : Nat, 0 ≤ zs[j]?.getD 0 ∧ zs[j]?.getD 0 ≤ 255) (k : Nat) (h : k ≤ zs.length) : 0 ≤ numTo zs k ∧ numTo zs k < 256 ^ k := by
  induction k with
  | zero => simp [numTo]
  | succ k ih =>
    have := ih (by omega)
    have hk := hr k
    rw [numTo_succ zs k (by omega), Int.pow_succ]
    omega

theorem numTo_lt (zs : List Int) (hr : ∀ j : Nat, 0 ≤ zs[j]?.getD 0 ∧ zs[j]?.getD 0 ≤ 255) (k : Nat) (h : k ≤ zs.length) (h8 : k ≤ 8) : 0 ≤ numTo zs k ∧ numTo zs k < 18446744073709551616 := by
  have hb := numTo_bound zs hr k h
  have e : ∀ k : Fin 9, (256 : Int) ^ (k : Nat) ≤ 18446744073709551616 := by decide
  have := e ⟨k, by omega⟩
  simp only at this
  omega

theorem or_byte (a z : Int) (h0 : 0 ≤ a) (h1 : a * 256 < 18446744073709551616) (hz0 : 0 ≤ z) (hz1 : z ≤ 255) : bits .or .u64 (IntKind.u64.wrap (a * 256)) z = a * 256 + z := by
  have e : IntKind.u64.wrap (a * 256) = a * 256 := by rw [IntKind.wrap_u64]; omega
  rw [e, u64_or (a * 256) z (by omega) h1 hz0 (by omega), nat_join 8 _ _ (by omega) (by omega)]
  omega

/-- The i-th of the n lowest bytes of x, the highest first. -/
def byteAt (x : Int) (n i : Nat) : Int := x / 2 ^ (8 * (n - 1 - i)) % 256
def putL (x : Int) (n : Nat) : List Int := (List.range n).map (byteAt x n)

theorem one_to_eight {n : Nat} (h1 : 1 ≤ n) (h2 : n ≤ 8) : n = 1 ∨ n = 2 ∨ n = 3 ∨ n = 4 ∨ n = 5 ∨ n = 6 ∨ n = 7 ∨ n = 8 := by omega

theorem numTo_putL (x : Int) (n : Nat) (more : List Int) (h1 : 1 ≤ n) (h2 : n ≤ 8) : numTo (putL x n ++ more) n = x % 2 ^ (8 * n) := by
  rcases one_to_eight h1 h2 with rfl | rfl | rfl | rfl | rfl | rfl | rfl | rfl <;>
  (simp [numTo, putL, byteAt, List.range_succ] <;> omega)

theorem putL_length (x : Int) (n : Nat) : (putL x n).length = n := by simp [putL]

theorem byteAt_range (x : Int) (n i : Nat) : 0 ≤ byteAt x n i ∧ byteAt x n i ≤ 255 := by unfold byteAt; omega

theorem putL_range (x : Int) (n : Nat) : ∀ j : Nat, 0 ≤ (putL x n)[j]?.getD 0 ∧ (putL x n)[j]?.getD 0 ≤ 255 := by
  intro j
  by_cases h : j < n
  · simp only [putL, List.getElem?_map, List.getElem?_range h, Option.map_some, Option.getD_some]; exact byteAt_range x n j
  · simp [putL, List.getElem?_eq_none (l := List.range n) (i := j) (by simpa using h)]

theorem i64_and7 (n : Int) : bits .and .i64 n 7 = n % 8 := by
  have h7 : (BitVec.ofInt 64 7).toNat = 2 ^ 3 - 1 := by decide
  have key : (BitVec.ofInt 64 n &&& BitVec.ofInt 64 7).toNat = (n % ((2 ^ 64 : Nat) : Int)).toNat % 2 ^ 3 := by
    rw [BitVec.toNat_and, BitVec.toNat_ofInt, h7, Nat.and_two_pow_sub_one_eq_mod]
  show IntKind.i64.wrap ((BitVec.ofInt 64 n &&& BitVec.ofInt 64 7).toNat : Nat) = n % 8
  rw [key, IntKind.wrap_i64]
  omega

/-- The number of the lowest n bytes of x with their sign. -/
def sgn (x : Int) (n : Nat) : Int := if 2 ^ (8 * n - 1) ≤ x % 2 ^ (8 * n) then x % 2 ^ (8 * n) - 2 ^ (8 * n) else x % 2 ^ (8 * n)

theorem signed_eq (x : Int) (n : Nat) (h1 : 1 ≤ n) (h2 : n ≤ 8) : wrap64 (IntKind.u64.wrap (x * 2 ^ (8 * (8 - n)))) / 2 ^ (8 * (8 - n)) = sgn x n := by
  unfold wrap64
  rw [IntKind.wrap_u64]
  rcases one_to_eight h1 h2 with rfl | rfl | rfl | rfl | rfl | rfl | rfl | rfl <;>
  (simp [sgn]; omega)


end Go.Proofs.Ytcecdklgiocbaaa

namespace Go.Proofs.Ytcecdklgiocbaaa
open Go.RowKit
set_option linter.unusedVariables false

def fitsB (n : Int) : Bool := decide (1 ≤ n) && decide (n ≤ 8)

set_option maxHeartbeats 400000 in
theorem fits_any (n : Int) (w : World) :
    Calls Try.prog 109 #[.int .i64 n] w fun e w' => e = .returned (.bool (fitsB n)) ∧ w' = w := by
  by_cases h : 1 ≤ n
  · go_enter Try.func109, Try.ntmps109
    go_wp2
    go_ret
    exact ⟨by simp [fitsB, h], rfl⟩
  · have hd : decide (1 ≤ n) = false := by simpa using h
    go_enter Try.func109, Try.ntmps109
    go_wp2
    go_ret
    exact ⟨by simp [fitsB, hd], rfl⟩


theorem Try.info5 : (Try.prog.info? 5).map (fun i => (i.zero, i.size, i.bytes)) = some (some (.int .u8 0), 1, 1) := by kernel_rfl

/-- The cells of a new row of n bytes of which the first k are laid. -/
def putCells (x : Int) (n k : Nat) : Array Value := ((List.range n).map fun i => if i < k then Value.int .u8 (byteAt x n i) else .int .u8 0).toArray

theorem putCells_zero (x : Int) (n : Nat) : putCells x n 0 = madeCells #[.int .u8 0] n := by
  apply Array.ext'
  rw [toList_madeCells_one]
  simp [putCells, List.map_const']

theorem putCells_size (x : Int) (n k : Nat) : (putCells x n k).size = n := by simp [putCells]

theorem putCells_set (x : Int) (n k : Nat) (h : k < n) : (putCells x n k).setIfInBounds k (.int .u8 (byteAt x n k)) = putCells x n (k + 1) := by
  apply Array.ext (by simp [putCells])
  intro i h1 h2
  rw [Array.getElem_setIfInBounds]
  · by_cases e : k = i
    · subst e; simp [putCells]
    · rw [if_neg e]
      simp only [putCells, List.getElem_toArray, List.getElem_map, List.getElem_range]
      by_cases hi : i < k
      · rw [if_pos hi, if_pos (by omega)]
      · rw [if_neg hi, if_neg (by omega)]
  · simpa using h1

theorem putCells_at (x : Int) (n k : Nat) (h : k < n) : (putCells x n k)[k]? = some (.int .u8 0) := by
  simp [putCells, h]

set_option maxHeartbeats 400000 in
theorem put_yes (x : Int) (n : Nat) (w : World) (h1 : 1 ≤ n) (h2 : n ≤ 8) (hx : 0 ≤ x) :
    Calls Try.prog 96 #[.int .u64 x, .int .i64 n] w fun e w' => e = .returned (.slice (some ⟨w.heap.size, 0, none⟩) n n) ∧ w' = w.alloc (.cells (putCells x n n) 5) := by
  have hb : fitsB (n : Int) = true := by simp [fitsB]; omega
  have hmk := run_make_row' (P := Try.prog) 23 5 (.int .u8 0) 1 Try.underlying23 Try.info5 rfl .i64 .i64 n (by omega) (by omega)
  go_enter Try.func96, Try.ntmps96
  go_wp2_with (go_at_call 109; refine (fits_any _ _).mono ?_; rintro e w' ⟨rfl, rfl⟩)
  go_loopw [13] (fun i wr => ∃ k : Nat, k ≤ n ∧ i = .int .i64 k ∧ wr = w'.alloc (.cells (putCells x n k) 5)) (fun i _ => n - (intOf i).toNat)
  case atStart => exact ⟨0, by omega, rfl, by rw [putCells_zero]⟩
  case round =>
    obtain ⟨k, hk, rfl, rfl⟩ := hrel
    by_cases hlt : k < n
    · have hc := putCells_at x n k hlt
      go_wp2
      go_roundw
      case rel => exact ⟨k + 1, by omega, by go_num, by rw [← putCells_set x n k hlt]; rfl⟩
      case measure => simp [intOf]; omega
    · have e : k = n := by omega
      subst e
      go_wp2
      go_ret
      exact ⟨rfl, rfl⟩

theorem fitsB_no {n : Int} (h : n < 1 ∨ 8 < n) : fitsB n = false := by
  simp only [fitsB, Bool.and_eq_false_iff, decide_eq_false_iff_not]; omega

set_option maxHeartbeats 400000 in
theorem put_no (x n : Int) (w : World) (h : n < 1 ∨ 8 < n) :
    Calls Try.prog 96 #[.int .u64 x, .int .i64 n] w fun e w' => e = .returned (.slice none 0 0) ∧ w' = w := by
  have hb := fitsB_no h
  clear h
  go_enter Try.func96, Try.ntmps96
  go_wp2_with (go_at_call 109; refine (fits_any _ _).mono ?_; rintro e w' ⟨rfl, rfl⟩)
  go_ret
  exact ⟨rfl, rfl⟩

set_option maxHeartbeats 400000 in
theorem get_no (b : Option Addr) (len cap : Nat) (n : Int) (w : World) (h : n < 1 ∨ 8 < n) :
    Calls Try.prog 99 #[.slice b len cap, .int .i64 n] w fun e w' => e = .returned (.tuple #[.int .u64 0, .slice none 0 0, .int .i64 1]) ∧ w' = w := by
  have hb := fitsB_no h
  clear h
  go_enter Try.func99, Try.ntmps99
  go_wp2_with (go_at_call 109; refine (fits_any _ _).mono ?_; rintro e w' ⟨rfl, rfl⟩)
  go_ret3
  exact ⟨rfl, rfl⟩

set_option maxHeartbeats 400000 in
theorem get_short (b : Option Addr) (len cap n : Nat) (w : World) (h1 : 1 ≤ n) (h2 : n ≤ 8) (hl : len < n) :
    Calls Try.prog 99 #[.slice b len cap, .int .i64 n] w fun e w' => e = .returned (.tuple #[.int .u64 0, .slice none 0 0, .int .i64 10]) ∧ w' = w := by
  have hb : fitsB (n : Int) = true := by simp [fitsB]; omega
  go_enter Try.func99, Try.ntmps99
  go_wp2_with (go_at_call 109; refine (fits_any _ _).mono ?_; rintro e w' ⟨rfl, rfl⟩)
  go_ret3
  exact ⟨rfl, rfl⟩

set_option maxHeartbeats 400000 in
theorem get_yes (b off len cap n : Nat) (zs : List Int) (w : World) (h1 : 1 ≤ n) (h2 : n ≤ 8) (hl : n ≤ len) (hc : len ≤ cap) (hm : cap ≤ maxLen)
    (hcell : ∀ i, i < len → w.cell? ⟨b, off + i, none⟩ = some (.int .u8 (zs.getD i 0))) (hz : len ≤ zs.length) (hr : ∀ j : Nat, 0 ≤ zs[j]?.getD 0 ∧ zs[j]?.getD 0 ≤ 255) :
    Calls Try.prog 99 #[.slice (some ⟨b, off, none⟩) len cap, .int .i64 n] w fun e w' => ∃ off' q, (n < len → off' = off + n) ∧
      e = .returned (.tuple #[.int .u64 (numTo zs n), .slice (some ⟨b, off', none⟩) (len - n) (cap - n), .int .i64 0]) ∧ w' = w.drewN q := by
  have hb : fitsB (n : Int) = true := by simp [fitsB]; omega
  unfold maxLen at hm
  go_enter Try.func99, Try.ntmps99
  go_wp2_with (go_at_call 109; refine (fits_any _ _).mono ?_; rintro e w' ⟨rfl, rfl⟩)
  go_loop [7, 17] (fun x i => ∃ k : Nat, k ≤ n ∧ i = .int .i64 k ∧ x = .int .u64 (numTo zs k)) (fun _ i => n - (intOf i).toNat)
  case atStart => exact ⟨0, by omega, rfl, rfl⟩
  case round =>
    obtain ⟨k, hk, rfl, rfl⟩ := hrel
    by_cases hlt : k < n
    · have hck := hcell k (by omega)
      have hrk := hr k
      have hb1 := numTo_lt zs hr (k + 1) (by omega) (by omega)
      have hb0 := numTo_lt zs hr k (by omega) (by omega)
      have HE : Hid (bits .or .u64 (IntKind.u64.wrap (numTo zs k * 256)) (zs[k]?.getD 0) = numTo zs (k + 1)) := by
        rw [numTo_succ zs k (by omega)] at hb1 ⊢
        exact or_byte _ _ hb0.1 (by omega) hrk.1 hrk.2
      clear hb1 hb0 hr
      go_wp2
      go_round
      case rel => exact ⟨k + 1, by omega, by go_num, by rw [HE.out]⟩
      case measure => simp [intOf]; omega
    · have e : k = n := by omega
      subst e
      clear hcell hr
      by_cases hck : cap = k
      · subst hck
        go_wp2
        go_quiet (fail)
        go_wp2
        go_ret3
        refine ⟨off, _, fun h => by omega, by simp; omega, rfl⟩
      · go_wp2
        go_quiet (fail)
        go_wp2
        go_ret3
        refine ⟨off + k, _, fun h => rfl, rfl, rfl⟩

theorem fitsB_yes {n : Nat} (h1 : 1 ≤ n) (h2 : n ≤ 8) : fitsB (n : Int) = true := by simp [fitsB]; omega

set_option maxHeartbeats 400000 in
theorem signed_yes (x : Int) (n : Nat) (w : World) (h1 : 1 ≤ n) (h2 : n ≤ 8) :
    Calls Try.prog 100 #[.int .u64 x, .int .i64 n] w fun e w' => e = .returned (.int .i64 (sgn x n)) ∧ w' = w := by
  have hb := fitsB_yes h1 h2
  have HE : Hid _ := signed_eq x n h1 h2
  go_enter Try.func100, Try.ntmps100
  go_wp2_with (go_at_call 109; refine (fits_any _ _).mono ?_; rintro e w' ⟨rfl, rfl⟩)
  go_ret
  rw [← HE.out]
  exact ⟨rfl, rfl⟩

set_option maxHeartbeats 400000 in
theorem signed_no (x n : Int) (w : World) (h : n < 1 ∨ 8 < n) :
    Calls Try.prog 100 #[.int .u64 x, .int .i64 n] w fun e w' => e = .returned (.int .i64 0) ∧ w' = w := by
  have hb := fitsB_no h
  clear h
  go_enter Try.func100, Try.ntmps100
  go_wp2_with (go_at_call 109; refine (fits_any _ _).mono ?_; rintro e w' ⟨rfl, rfl⟩)
  go_ret
  exact ⟨rfl, rfl⟩


end Go.Proofs.Ytcecdklgiocbaaa

namespace Go.Proofs.Ytcecdklgiocbaaa
open Go.RowKit
set_option linter.unusedVariables false

theorem Try.size5 : (Try.prog.info? 5).map (·.size) = some 1 := by kernel_rfl

set_option maxHeartbeats 400000 in
theorem take_short (b : Option Addr) (len cap : Nat) (n : Int) (w : World) (hm : len ≤ maxLen) (h : (len : Int) < n) :
    Calls Try.prog 77 #[.slice b len cap, .int .u64 n] w fun e w' => e = .returned (.tuple #[.slice none 0 0, .slice none 0 0, .int .i64 10]) ∧ w' = w := by
  unfold maxLen at hm
  go_enter Try.func77, Try.ntmps77
  go_wp2
  go_ret3
  exact ⟨rfl, rfl⟩

theorem bytes_one (zs : List Int) : ∀ v ∈ zs.map (Value.int .u8), v.oneCell' = true := by
  intro v hv; obtain ⟨z, _, rfl⟩ := List.mem_map.1 hv; rfl

theorem splice_all (z : Value) (n : Nat) (cs : List Value) (h : cs.length = n) : splice (List.replicate n z) 0 cs = cs := by
  simp [splice, h]

set_option maxHeartbeats 400000 in
theorem take_yes (b off len cap n : Nat) (zs : List Int) (w : World) (hl : n ≤ len) (hc : len ≤ cap) (hm0 : cap ≤ maxLen) (hsm : len ≤ 140737488351232)
    (hcell : ∀ i, i < len → w.cell? ⟨b, off + i, none⟩ = some (.int .u8 (zs.getD i 0))) (hz : len ≤ zs.length) (hbl : 0 < len → b < w.heap.size) :
    Calls Try.prog 77 #[.slice (some ⟨b, off, none⟩) len cap, .int .u64 n] w fun e w' => ∃ off', (n < len → off' = off + n) ∧
      e = .returned (.tuple #[.slice (some ⟨w.heap.size, 0, none⟩) n n, .slice (some ⟨b, off', none⟩) (len - n) (cap - n), .int .i64 0]) ∧
      w'.heap[w.heap.size]? = some (.cells ((zs.take n).map (Value.int .u8)).toArray 5 (0, 0)) ∧ Below w.heap.size w w' := by
  have hm := hm0
  unfold maxLen at hm
  clear hm0
  have hmk := run_make_row' (P := Try.prog) 23 5 (.int .u8 0) 1 Try.underlying23 Try.info5 rfl .u64 .u64 n (by omega) (by omega)
  obtain ⟨X, hX⟩ : ∃ X, X = (zs.take n).map (Value.int .u8) := ⟨_, rfl⟩
  have hXl : X.length = n := by rw [hX]; simp; omega
  have hX1 : ∀ v ∈ X, v.oneCell' = true := by rw [hX]; exact bytes_one _
  have hXc : ∀ j v, X[j]? = some v → w.cell? ⟨b, off + j, none⟩ = some v ∧ b < w.heap.size := by
    intro j v hj
    have hjn : j < n := by have := (List.getElem?_eq_some_iff.1 hj).1; omega
    rw [hX, List.getElem?_map, List.getElem?_take_of_lt hjn] at hj
    have := hcell j (by omega)
    rw [List.getD_eq_getElem?_getD] at this
    obtain ⟨z, hz1, rfl⟩ := Option.map_eq_some_iff.1 hj
    rw [hz1] at this
    exact ⟨this, hbl (by omega)⟩
  obtain ⟨Z, hZ⟩ : ∃ Z, Z = List.replicate n (Value.int .u8 0) := ⟨_, rfl⟩
  have hZm : madeCells #[.int .u8 0] n = Z.toArray := by rw [hZ]; apply Array.ext'; rw [toList_madeCells_one]
  rw [hZm] at hmk
  have hZl : Z.length = n := by rw [hZ]; simp
  have HS : Hid (splice Z 0 X = (zs.take n).map (Value.int .u8)) := by rw [← hX, hZ]; exact splice_all _ _ _ hXl
  have HXl : Hid (X.length = n) := hXl
  have HZl : Hid (Z.length = n) := hZl
  have HXc : Hid (∀ j v, X[j]? = some v → w.cell? ⟨b, off + j, none⟩ = some v ∧ b < w.heap.size) := hXc
  have HX1 : Hid (∀ v ∈ X, v.oneCell' = true) := hX1
  clear hX hZ hXl hZl hZm hXc hX1 hcell hbl
  go_enter Try.func77, Try.ntmps77
  go_wp2_with (refine wpList_copy_splice rfl (.tmp 15) (.tmp 16) 23 23 rfl 5 Try.underlying23 Try.size5 _ _ _ _ _ _ rfl rfl w.heap.size 0 Z 5 ?ca X ?cb ?cc ?cd ?ce w.heap.size w ?cf ?cg ?_; rotate_right; intro w2 hG hB)
  case ca => exact heap_alloc_new w _
  case cb => rw [HXl.out]; show n = min len n; omega
  case cc =>
    intro _ j v hj
    have h2 := HXc.out j v hj
    rw [World.cell?_alloc_past _ _ _ h2.2]
    exact h2.1
  case cd => rw [HXl.out, HZl.out]; omega
  case ce => exact HX1.out
  case cf => exact (Below.refl _ _).alloc (Nat.le_refl _) _
  case cg => exact Nat.le_refl _
  have HG : Hid (w2.heap[w.heap.size]? = some (.cells ((zs.take n).map (Value.int .u8)).toArray 5 (0, 0))) := by
    have h := hG.out; rw [HS.out] at h; exact h
  clear hG HS HXc HX1 HXl HZl hmk
  by_cases hck : cap = n
  · subst hck
    go_quiet (fail)
    go_wp2
    go_ret3
    refine ⟨off, fun h => by omega, by simp; omega, ?_, ?_⟩
    · exact HG.out
    · exact below_drewN hB _
  · go_quiet (fail)
    go_wp2
    go_ret3
    refine ⟨off + n, fun h => rfl, rfl, ?_, ?_⟩
    · exact HG.out
    · exact below_drewN hB _

set_option maxHeartbeats 400000 in
theorem take_nil (w : World) :
    Calls Try.prog 77 #[.slice none 0 0, .int .u64 0] w fun e w' =>
      e = .returned (.tuple #[.slice (some ⟨w.heap.size, 0, none⟩) 0 0, .slice none 0 0, .int .i64 0]) ∧
      w'.heap[w.heap.size]? = some (.cells #[] 5 (0, 0)) ∧ Below w.heap.size w w' := by
  have hmk := fun w => run_make_row' (P := Try.prog) 23 5 (.int .u8 0) 1 Try.underlying23 Try.info5 rfl .u64 .u64 0 (by omega) (by omega) w
  have e0 : madeCells #[.int .u8 0] 0 = #[] := by simp [madeCells]
  simp only [e0, Int.natCast_zero] at hmk
  go_enter Try.func77, Try.ntmps77
  go_wp2_with (refine wpList_copy_splice rfl (.tmp 15) (.tmp 16) 23 23 rfl 5 Try.underlying23 Try.size5 _ _ _ _ _ _ rfl rfl w.heap.size 0 [] 5 ?ca [] ?cb ?cc ?cd ?ce w.heap.size w ?cf ?cg ?_; rotate_right; intro w2 hG hB)
  case ca => exact heap_alloc_new w _
  case cb => rfl
  case cd => simp
  case ce => intro v hv; simp at hv
  case cf => exact (Below.refl _ _).alloc (Nat.le_refl _) _
  case cg => exact Nat.le_refl _
  go_quiet (fail)
  go_wp2
  go_ret3
  refine ⟨rfl, ?_, ?_⟩
  · have h := hG.out; simpa [splice] using h
  · exact below_drewN hB _


end Go.Proofs.Ytcecdklgiocbaaa

namespace Go.Proofs.Ytcecdklgiocbaaa
open Go.RowKit
set_option linter.unusedVariables false

set_option maxHeartbeats 400000 in
theorem rget_no (b : Option Addr) (len cap : Nat) (n : Int) (w : World) (h : n < 1 ∨ 8 < n) :
    Calls Try.prog 93 #[.slice b len cap, .int .i64 0, .int .i64 n] w fun e w' => e = .returned (.tuple #[.int .u64 0, .int .i64 0, .int .i64 1]) ∧ w' = w := by
  rcases h with h | h
  · go_enter Try.func93, Try.ntmps93
    go_wp2
    go_ret3
    exact ⟨rfl, rfl⟩
  · have h' : decide (n < 1) = false := by simp; omega
    go_enter Try.func93, Try.ntmps93
    go_wp2
    go_ret3
    exact ⟨rfl, rfl⟩

set_option maxHeartbeats 400000 in
theorem rget_short (b : Option Addr) (len cap n : Nat) (w : World) (h1 : 1 ≤ n) (h2 : n ≤ 8) (hl : len < n) :
    Calls Try.prog 93 #[.slice b len cap, .int .i64 0, .int .i64 n] w fun e w' => e = .returned (.tuple #[.int .u64 0, .int .i64 0, .int .i64 10]) ∧ w' = w := by
  have h' : decide ((n : Int) < 1) = false := by simp; omega
  have h8 : decide ((8 : Int) < n) = false := by simp; omega
  go_enter Try.func93, Try.ntmps93
  go_wp2
  go_ret3
  exact ⟨rfl, rfl⟩

set_option maxHeartbeats 400000 in
theorem rget_yes (b off len cap n : Nat) (zs : List Int) (w : World) (h1 : 1 ≤ n) (h2 : n ≤ 8) (hl : n ≤ len) (hc : len ≤ cap) (hm : cap ≤ maxLen)
    (hcell : ∀ i, i < len → w.cell? ⟨b, off + i, none⟩ = some (.int .u8 (zs.getD i 0))) (hz : len ≤ zs.length) (hr : ∀ j : Nat, 0 ≤ zs[j]?.getD 0 ∧ zs[j]?.getD 0 ≤ 255) :
    Calls Try.prog 93 #[.slice (some ⟨b, off, none⟩) len cap, .int .i64 0, .int .i64 n] w fun e w' =>
      e = .returned (.tuple #[.int .u64 (numTo zs n), .int .i64 n, .int .i64 0]) ∧ w' = w := by
  unfold maxLen at hm
  have h' : decide ((n : Int) < 1) = false := by simp; omega
  have h8 : decide ((8 : Int) < n) = false := by simp; omega
  go_enter Try.func93, Try.ntmps93
  go_wp2
  go_loop [9, 10] (fun x i => ∃ k : Nat, k ≤ n ∧ i = .int .i64 k ∧ x = .int .u64 (numTo zs k)) (fun _ i => n - (intOf i).toNat)
  case atStart => exact ⟨0, by omega, rfl, rfl⟩
  case round =>
    obtain ⟨k, hk, rfl, rfl⟩ := hrel
    by_cases hlt : k < n
    · have hck := hcell k (by omega)
      have hrk := hr k
      have hb1 := numTo_lt zs hr (k + 1) (by omega) (by omega)
      have hb0 := numTo_lt zs hr k (by omega) (by omega)
      have hs := numTo_succ zs k (by omega)
      rw [hs] at hb1
      have HE : Hid (numTo zs (k + 1) = numTo zs k * 256 + zs[k]?.getD 0) := hs
      clear hr hs
      go_wp2
      go_round
      case rel => exact ⟨k + 1, by omega, by go_num, by rw [HE.out]⟩
      case measure => simp [intOf]; omega
    · have e : k = n := by omega
      subst e
      clear hcell hr
      go_wp2
      go_ret3
      exact ⟨rfl, rfl⟩
end Go.Proofs.Ytcecdklgiocbaaa

namespace Go.Proofs.Ytcecdklgiocbaaa
open Go.RowKit
set_option linter.unusedVariables false

/-- A slice of integers that came in: it is nil; or it leads to a row of 'cap' cells, the numbers 'zs' (the first 'len' are its elements, the rest its spare room), each fitting its kind. -/
def IsRow (k : IntKind) (w : World) (a : Option Addr) (len cap : Nat) (zs : List Int) : Prop :=
  (a = none ∧ len = 0 ∧ cap = 0 ∧ zs = []) ∨
  ∃ x, a = some x ∧ len ≤ cap ∧ cap ≤ maxLen ∧ zs.length = cap ∧ (∀ i, i < zs.length → w.cell? (x.add i) = some (.int k (zs.getD i 0))) ∧ ∀ n ∈ zs, (Lit.int k n).wf = true

/-- Where there is a place for an element the row's place is known. -/
theorem IsRow.at {k : IntKind} {w : World} {a : Option Addr} {len cap : Nat} {zs : List Int} (h : IsRow k w a len cap zs) (hp : 0 < cap) :
    ∃ b off, a = some ⟨b, off, none⟩ ∧ len ≤ cap ∧ cap ≤ maxLen ∧ zs.length = cap ∧ b < w.heap.size ∧ (∀ i, i < cap → w.cell? ⟨b, off + i, none⟩ = some (.int k (zs.getD i 0))) ∧ ∀ n ∈ zs, (Lit.int k n).wf = true := by
  rcases h with ⟨_, _, h, _⟩ | ⟨x, rfl, hl, hm, hz, hcell, hwz⟩
  · omega
  · obtain ⟨b, off, spot⟩ := x
    have hc := hcell 0 (by omega)
    have hspot : spot = none := by simpa [Addr.add] using World.cell?_spot hc
    subst hspot
    refine ⟨b, off, rfl, hl, hm, hz, ?_, ?_, hwz⟩
    · have := block_lt_of_cell hc
      simpa [Addr.add] using this
    · intro i hi
      have := hcell i (by omega)
      have hplain : (⟨b, off, none⟩ : Addr).add i = ⟨b, off + i, none⟩ := by unfold Addr.add; split <;> simp_all
      rwa [hplain] at this

theorem IsRow.le {k : IntKind} {w : World} {a : Option Addr} {len cap : Nat} {zs : List Int} (h : IsRow k w a len cap zs) : len ≤ cap ∧ cap ≤ maxLen := by
  rcases h with ⟨_, h, h', _⟩ | ⟨x, rfl, hl, hm, hz, hcell, hwz⟩
  · exact ⟨by omega, by unfold maxLen; omega⟩
  · exact ⟨hl, hm⟩

theorem range_of_wf {zs : List Int} (h : ∀ n ∈ zs, (Lit.int .u8 n).wf = true) : ∀ j : Nat, 0 ≤ zs[j]?.getD 0 ∧ zs[j]?.getD 0 ≤ 255 := by
  intro j
  by_cases hj : j < zs.length
  · rw [List.getElem?_eq_getElem hj, Option.getD_some]
    have := bounds_u8 (h _ (List.getElem_mem hj))
    omega
  · rw [List.getElem?_eq_none (by omega)]; simp

theorem getD_sub (zs : List Int) (n len i : Nat) (h : i < len - n) : ((zs.take len).drop n).getD i 0 = zs.getD (n + i) 0 := by
  simp only [List.getD_eq_getElem?_getD, List.getElem?_drop]
  rw [List.getElem?_take_of_lt (by omega)]

/-- The text of no bytes. -/
theorem conv_empty (b o c : Nat) (wx : World) : (convert 23 9 (.slice (some ⟨b, o, none⟩) 0 c)).run Try.prog wx = .ok (.string ByteArray.empty) wx :=
  run_convert_bytes_arg (P := Try.prog) wx 23 5 Try.underlying23 Try.underlying5 b o 0 c [] rfl (fun i hi => by omega) 9 Try.underlying9

theorem conv_nil (c : Nat) (wx : World) : (convert 23 9 (.slice none 0 c)).run Try.prog wx = .ok (.string ByteArray.empty) wx :=
  run_convert_bytes_nil (P := Try.prog) wx 23 5 Try.underlying23 Try.underlying5 0 c 9 Try.underlying9

theorem conv_void (a : Option Addr) (c : Nat) (wx : World) : (convert 23 9 (.slice a 0 c)).run Try.prog wx = .ok (.string ByteArray.empty) wx := by
  cases a with
  | none => exact conv_nil c wx
  | some x =>
    rw [run_convert_bytes_string wx 23 9 5 _ 0 c Try.underlying23 Try.underlying5 Try.underlying9]
    have h := run_loadCells_list (P := Try.prog) wx x [] (fun j v hj => by simp at hj)
    exact run_bytesToString (P := Try.prog) wx x 0 c [] h

/-- The text of the bytes from n on. -/
theorem conv_rest (w w1 : World) (b off off' n len cap cap' : Nat) (zs : List Int) (hn : n ≤ len) (hz : len ≤ zs.length) (ho : n < len → off' = off + n)
    (hcell : ∀ i, i < len → w1.cell? ⟨b, off + i, none⟩ = some (.int .u8 (zs.getD i 0))) (q : Nat) :
    (convert 23 9 (.slice (some ⟨b, off', none⟩) (len - n) cap')).run Try.prog (w1.drewN q) = .ok (.string (strOfNums ((zs.take len).drop n))) (w1.drewN q) := by
  refine run_convert_bytes_arg (P := Try.prog) (w1.drewN q) 23 5 Try.underlying23 Try.underlying5 b off' (len - n) cap' _ (by simp; omega) ?_ 9 Try.underlying9
  intro i hi
  rw [getD_sub zs n len i hi, ho (by omega)]
  have := hcell (n + i) (by omega)
  rw [← Nat.add_assoc] at this
  simpa using this
end Go.Proofs.Ytcecdklgiocbaaa

namespace Go.Proofs.Ytcecdklgiocbaaa
open Go.RowKit
set_option linter.unusedVariables false

theorem putL_succ (x : Int) (n j : Nat) (h : j < n) : (putL x n).take (j + 1) = (putL x n).take j ++ [byteAt x n j] := by
  rw [List.take_succ_eq_append_getElem (by rw [putL_length]; exact h)]
  simp [putL]

theorem div_more (x : Int) (k : Nat) : x / 2 ^ (8 * k) / 256 = x / 2 ^ (8 * (k + 1)) := by
  have hp : (0 : Int) < 2 ^ (8 * k) := Int.pow_pos (by omega)
  rw [Int.ediv_ediv, if_neg (by omega), Int.sub_zero, Nat.mul_succ, Int.pow_add]
  rfl

theorem div_bound (x : Int) (k : Nat) (h0 : 0 ≤ x) (h1 : x < 18446744073709551616) : 0 ≤ x / 2 ^ (8 * k) ∧ x / 2 ^ (8 * k) < 18446744073709551616 := by
  have hp : (0 : Int) < 2 ^ (8 * k) := Int.pow_pos (by omega)
  refine ⟨Int.ediv_nonneg h0 (by omega), ?_⟩
  have := Int.ediv_le_self (2 ^ (8 * k)) h0
  omega

set_option maxHeartbeats 400000 in
theorem rput_no (x n : Int) (w : World) (h : n < 1 ∨ 8 < n) :
    Calls Try.prog 68 #[.int .u64 x, .int .i64 n] w fun e w' => e = .returned (.slice none 0 0) ∧ w' = w := by
  rcases h with h | h
  · go_enter Try.func68, Try.ntmps68
    go_wp2
    go_ret
    exact ⟨rfl, rfl⟩
  · have h' : decide (n < 1) = false := by simp; omega
    go_enter Try.func68, Try.ntmps68
    go_wp2
    go_ret
    exact ⟨rfl, rfl⟩

set_option maxHeartbeats 1000000 in
theorem rput_yes (x : Int) (n : Nat) (w : World) (h1 : 1 ≤ n) (h2 : n ≤ 8) (hx : 0 ≤ x) (hx2 : x < 18446744073709551616) :
    Calls Try.prog 68 #[.int .u64 x, .int .i64 n] w fun e w' => ∃ v, e = .returned v ∧ w'.ownsRow w.heap.size 5 1 v n ((putL x n).map (Value.int .u8)) ∧ Below w.heap.size w w' := by
  have h' : decide ((n : Int) < 1) = false := by simp; omega
  have h8 : decide ((8 : Int) < n) = false := by simp; omega
  obtain ⟨i0, hi, hz0, hz1, hz2⟩ := info_parts Try.info5
  have HI : Hid (Try.prog.info? 5 = some i0 ∧ i0.zero = some (.int .u8 0) ∧ i0.size = 1 ∧ i0.bytes = 1) := ⟨hi, hz0, hz1, hz2⟩
  clear hi hz0 hz1 hz2
  go_enter Try.func68, Try.ntmps68
  go_wp2
  go_loopw [5, 6] (fun v i wr => ∃ j : Nat, j ≤ n ∧ i = .int .i64 ((n : Int) - 1 - j) ∧ Hid (wr.ownsRow w.heap.size 5 1 v j (((putL x n).take j).map (Value.int .u8))) ∧ Below w.heap.size w wr) (fun _ i _ => (intOf i + 1).toNat)
  case atStart => exact ⟨0, by omega, by simp, World.ownsRow_nil _ _ _ _, Below.refl _ _⟩
  case round =>
    obtain ⟨j, hj, rfl, hown, hBr⟩ := hrel
    by_cases hlt : j < n
    · go_wp2
      go_loopw [7, 8] (fun y k wz => ∃ t : Nat, t ≤ n - 1 - j ∧ k = .int .i64 t ∧ y = .int .u64 (x / 2 ^ (8 * t)) ∧ wz = wr) (fun _ k _ => n - 1 - j - (intOf k).toNat)
      case atStart => exact ⟨0, by omega, rfl, by simp, rfl⟩
      case round =>
        obtain ⟨t, ht, rfl, rfl, rfl⟩ := hrel
        have hdb := div_bound x t hx hx2
        by_cases htl : t < n - 1 - j
        · have HD : Hid _ := div_more x t
          go_wp2
          go_roundw
          case rel => exact ⟨t + 1, by omega, by go_num, by rw [← HD.out], trivial⟩
          case measure => simp [intOf]; omega
        · obtain rfl : t = n - 1 - j := by omega
          have HB : Hid (x / 2 ^ (8 * (n - 1 - j)) % 256 = byteAt x n j) := rfl
          have hbs := hBr.size
          generalize x / 2 ^ (8 * (n - 1 - j)) = y at *
          have HOW : Hid _ := hown.out.alloc (.cells #[.int .u8 (y % 256)] 5)
          have HC : Hid _ := cell_one_new wr (.int .u8 (y % 256)) 5
          go_wp2_with (at_builtin; refine wpList_append_own _ rfl (.tmp 30) (.tmp 34) 23 rfl w.heap.size 5 i0 (.int .u8 0) 1 1 Try.underlying23 HI.out.1 HI.out.2.1 HI.out.2.2.1 HI.out.2.2.2 rfl (by decide) _ _ _ rfl HOW.out ⟨wr.heap.size, 0, none⟩ 1 1 [.int .u8 (y % 256)] rfl rfl HC.out ?c0 ?c1 ?c2 ?c3 ?_)
          case c0 => intro u hu; simp at hu; subst hu; rfl
          case c1 => unfold maxLen; omega
          case c2 => omega
          case c3 => simp; omega
          intro v' w3 hown' hgr _
          have R1 : Hid (w3.ownsRow w.heap.size 5 1 v' (j + 1) (((putL x n).take (j + 1)).map (Value.int .u8))) := by
            rw [putL_succ x n j hlt, ← HB.out, List.map_append, List.map_take]; exact hown'
          have R2 : Below w.heap.size w w3 := (hBr.alloc hbs _).grown hgr (by simp; omega) (fun k hk => (hown.out.lt k hk).1)
          clear hown' hgr HOW HC hown
          go_wp2
          go_roundw
          case rel => exact ⟨j + 1, by omega, by go_num, R1, R2⟩
          case measure => simp [intOf]; omega
    · obtain rfl : j = n := by omega
      have hT : (putL x j).take j = putL x j := List.take_of_length_le (by rw [putL_length]; omega)
      rw [hT] at hown
      clear hT
      go_wp2
      go_ret
      exact ⟨_, rfl, hown.out, hBr⟩

/-- The number of the first k of the bytes zs with a sign, the highest first. -/
def sTo (zs : List Int) (k : Nat) : Int := if k = 0 then 0 else if (128 : Int) ≤ zs[0]?.getD 0 then numTo zs k - 256 ^ k else numTo zs k

theorem sTo_one_big (zs : List Int) (h : 0 < zs.length) (hb : (128 : Int) ≤ zs[0]?.getD 0) : sTo zs 1 = zs[0]?.getD 0 - 256 := by
  simp only [sTo]
  rw [if_neg (by omega), if_pos hb, numTo_succ zs 0 h]
  simp [numTo]

theorem sTo_one_small (zs : List Int) (h : 0 < zs.length) (hb : ¬ (128 : Int) ≤ zs[0]?.getD 0) : sTo zs 1 = zs[0]?.getD 0 := by
  simp only [sTo]
  rw [if_neg (by omega), if_neg hb, numTo_succ zs 0 h]
  simp [numTo]

theorem sTo_succ (zs : List Int) (k : Nat) (h : k < zs.length) (hk : 0 < k) : sTo zs (k + 1) = sTo zs k * 256 + zs[k]?.getD 0 := by
  have e1 : ∀ a b : Int, (if k + 1 = 0 then a else b) = b := fun a b => if_neg (by omega)
  have e2 : ∀ a b : Int, (if k = 0 then a else b) = b := fun a b => if_neg (by omega)
  simp only [sTo, e1, e2, numTo_succ zs k h]
  by_cases hb : (128 : Int) ≤ zs[0]?.getD 0
  · rw [if_pos hb, if_pos hb, Int.pow_succ]; omega
  · rw [if_neg hb, if_neg hb]

theorem numTo_top (zs : List Int) (hr : ∀ j : Nat, 0 ≤ zs[j]?.getD 0 ∧ zs[j]?.getD 0 ≤ 255) (k : Nat) (h : k + 1 ≤ zs.length) :
    zs[0]?.getD 0 * 256 ^ k ≤ numTo zs (k + 1) ∧ numTo zs (k + 1) < (zs[0]?.getD 0 + 1) * 256 ^ k := by
  induction k with
  | zero => rw [numTo_succ zs 0 (by omega)]; simp [numTo]; omega
  | succ k ih =>
    have := ih (by omega)
    have hk := hr (k + 1)
    rw [numTo_succ zs (k + 1) (by omega), Int.pow_succ, ← Int.mul_assoc, ← Int.mul_assoc]
    omega

theorem sTo_bound (zs : List Int) (hr : ∀ j : Nat, 0 ≤ zs[j]?.getD 0 ∧ zs[j]?.getD 0 ≤ 255) (k : Nat) (h : k ≤ zs.length) (h7 : k ≤ 7) : -36028797018963968 ≤ sTo zs k ∧ sTo zs k ≤ 36028797018963967 := by
  rcases Nat.eq_zero_or_pos k with rfl | hp
  · simp [sTo]
  · have h0 := hr 0
    obtain ⟨j, rfl⟩ : ∃ j, k = j + 1 := ⟨k - 1, by omega⟩
    have ht := numTo_top zs hr j h
    simp only [sTo]
    rw [if_neg (by omega)]
    rcases (show j = 0 ∨ j = 1 ∨ j = 2 ∨ j = 3 ∨ j = 4 ∨ j = 5 ∨ j = 6 from by omega) with rfl | rfl | rfl | rfl | rfl | rfl | rfl <;>
    (split <;> (simp at ht ⊢; omega))

theorem sTo_putL (x : Int) (n : Nat) (h1 : 1 ≤ n) (h2 : n ≤ 8) : sTo (putL x n) n = sgn x n := by
  have hn := numTo_putL x n [] h1 h2
  rw [List.append_nil] at hn
  have h0 : (putL x n)[0]?.getD 0 = byteAt x n 0 := by rw [← List.getD_eq_getElem?_getD]; simp [putL, List.getD_eq_getElem?_getD, List.getElem?_range h1]
  unfold sTo
  rw [if_neg (by omega), hn, h0]
  unfold sgn byteAt
  rcases one_to_eight h1 h2 with rfl | rfl | rfl | rfl | rfl | rfl | rfl | rfl <;> (simp <;> split <;> split <;> omega)

set_option maxHeartbeats 400000 in
theorem rsigned_no (x n : Int) (w : World) (h : n < 1 ∨ 8 < n) :
    Calls Try.prog 108 #[.int .u64 x, .int .i64 n] w fun e w' => e = .returned (.int .i64 0) ∧ w' = w := by
  rcases h with h | h
  · go_enter Try.func108, Try.ntmps108
    go_wp2
    go_ret
    exact ⟨rfl, rfl⟩
  · have h' : decide (n < 1) = false := by simp; omega
    go_enter Try.func108, Try.ntmps108
    go_wp2
    go_ret
    exact ⟨rfl, rfl⟩

/-- What a slice that owns its row, and is not empty, is. -/
theorem own_full {w : World} {base : Nat} {v : Value} {n : Nat} {X : List Int} (h : w.ownsRow base 5 1 v n (X.map (Value.int .u8))) (hp : 0 < n) :
    ∃ g cap, v = .slice (some ⟨g, 0, none⟩) n cap ∧ n ≤ cap ∧ cap ≤ maxLen ∧ base ≤ g ∧ g < w.heap.size ∧ ∀ t, t < n → w.cell? ⟨g, t, none⟩ = some (.int .u8 (X.getD t 0)) := by
  obtain ⟨hlen, h2⟩ := id h
  rcases h2 with ⟨rfl, rfl⟩ | ⟨g, cap, cur, rfl, hg, hh, hc, hm, hs, hx⟩
  · omega
  · refine ⟨g, cap, rfl, hc, hm, hg, (h.lt g rfl).2, fun t ht => ?_⟩
    rw [h.cellAt t (by omega)]
    simp only [List.length_map, Nat.mul_one] at hlen
    simp [show t < X.length by omega]

set_option maxHeartbeats 1000000 in
theorem rsigned_yes (x : Int) (n : Nat) (w : World) (h1 : 1 ≤ n) (h2 : n ≤ 8) (hx : 0 ≤ x) (hx2 : x < 18446744073709551616) :
    Calls Try.prog 108 #[.int .u64 x, .int .i64 n] w fun e w' => e = .returned (.int .i64 (sgn x n)) ∧ Below w.heap.size w w' := by
  have h' : decide ((n : Int) < 1) = false := by simp; omega
  have h8 : decide ((8 : Int) < n) = false := by simp; omega
  go_enter Try.func108, Try.ntmps108
  go_wp2_with fail
  refine (rput_yes x n _ h1 h2 hx hx2).mono ?_
  rintro e w1 ⟨v, rfl, hown, hB1⟩
  obtain ⟨g, cap, rfl, hnc, hcm, _, _, hcell⟩ := own_full hown (by omega)
  have HC : Hid (∀ t, t < n → w1.cell? ⟨g, t, none⟩ = some (.int .u8 ((putL x n).getD t 0))) := hcell
  have HS : Hid _ := sTo_putL x n h1 h2
  have hr := putL_range x n
  have HL : Hid _ := putL_length x n
  unfold maxLen at hcm
  generalize putL x n = zs at *
  have HR : Hid (∀ j : Nat, 0 ≤ zs[j]?.getD 0 ∧ zs[j]?.getD 0 ≤ 255) := hr
  clear hcell hown hr
  go_wp2_with fail
  go_loop [6, 7] (fun s i => ∃ k : Nat, k ≤ n ∧ i = .int .i64 k ∧ s = .int .i64 (sTo zs k)) (fun _ i => n - (intOf i).toNat)
  case atStart => exact ⟨0, by omega, rfl, rfl⟩
  case round =>
    obtain ⟨k, hk, rfl, rfl⟩ := hrel
    by_cases hlt : k < n
    · have hck := HC.out k hlt
      obtain ⟨hrk1, hrk2⟩ := HR.out k
      obtain ⟨hb1, hb2⟩ := sTo_bound zs HR.out k (by rw [HL.out]; omega) (by omega)
      rw [List.getD_eq_getElem?_getD] at hck
      by_cases h0 : k = 0
      · subst h0
        by_cases hbig : (128 : Int) ≤ zs[0]?.getD 0
        · have HE : Hid _ := sTo_one_big zs (by rw [HL.out]; omega) hbig
          have hz0 : sTo zs 0 = 0 := rfl
          go_wp2
          go_round
          case rel => exact ⟨1, by omega, by go_num, by rw [HE.out]⟩
          case measure => simp [intOf]; omega
        · have HE : Hid _ := sTo_one_small zs (by rw [HL.out]; omega) hbig
          have hz0 : sTo zs 0 = 0 := rfl
          have hbd : decide ((128 : Int) ≤ zs[0]?.getD 0) = false := by simpa using hbig
          go_wp2
          go_round
          case rel => exact ⟨1, by omega, by go_num, by rw [HE.out]⟩
          case measure => simp [intOf]; omega
      · have HE : Hid _ := sTo_succ zs k (by rw [HL.out]; omega) (by omega)
        have hk0 : ((k : Int) == 0) = false := by simp; omega
        go_wp2
        go_round
        case rel => exact ⟨k + 1, by omega, by go_num, by rw [HE.out]⟩
        case measure => simp [intOf]; omega
    · obtain rfl : k = n := by omega
      go_wp2
      go_ret
      rw [← HS.out]
      exact ⟨rfl, hB1⟩
end Go.Proofs.Ytcecdklgiocbaaa

namespace Go.Proofs.Ytcecdklgiocbaaa
open Go.RowKit
set_option linter.unusedVariables false
set_option linter.unusedSimpArgs false

/-- The slice at block b from off on, len long, has the bytes zs. -/
structure BRow (w : World) (b off len cap : Nat) (zs : List Int) : Prop where
  len_eq : zs.length = len
  le : len ≤ cap
  cap_le : cap ≤ maxLen
  lt : 0 < len → b < w.heap.size
  cell : ∀ i, i < len → w.cell? ⟨b, off + i, none⟩ = some (.int .u8 (zs.getD i 0))
  rng : ∀ j : Nat, 0 ≤ zs[j]?.getD 0 ∧ zs[j]?.getD 0 ≤ 255

theorem BRow.below {w W : World} {b off len cap : Nat} {zs : List Int} (h : BRow w b off len cap zs) {base : Nat} (hB : Below base w W) (hb : 0 < len → b < base) : BRow W b off len cap zs :=
  ⟨h.len_eq, h.le, h.cap_le, fun hl => Nat.lt_of_lt_of_le (h.lt hl) hB.size, fun i hi => (hB.cell (hb (by omega))).trans (h.cell i hi), h.rng⟩

theorem BRow.old {w W : World} {b off len cap : Nat} {zs : List Int} (h : BRow w b off len cap zs) (hB : Below w.heap.size w W) : BRow W b off len cap zs := h.below hB h.lt

theorem range_drop {zs : List Int} (h : ∀ j : Nat, 0 ≤ zs[j]?.getD 0 ∧ zs[j]?.getD 0 ≤ 255) (k : Nat) : ∀ j : Nat, 0 ≤ (zs.drop k)[j]?.getD 0 ∧ (zs.drop k)[j]?.getD 0 ≤ 255 := by
  intro j; rw [List.getElem?_drop]; exact h _

theorem range_take {zs : List Int} (h : ∀ j : Nat, 0 ≤ zs[j]?.getD 0 ∧ zs[j]?.getD 0 ≤ 255) (k : Nat) : ∀ j : Nat, 0 ≤ (zs.take k)[j]?.getD 0 ∧ (zs.take k)[j]?.getD 0 ≤ 255 := by
  intro j
  by_cases hj : j < k
  · rw [List.getElem?_take_of_lt hj]; exact h _
  · rw [List.getElem?_eq_none (by simp; omega)]; simp

theorem BRow.drop {w : World} {b off off' len cap : Nat} {zs : List Int} (h : BRow w b off len cap zs) (k : Nat) (hk : k ≤ len) (ho : k < len → off' = off + k) : BRow w b off' (len - k) (cap - k) (zs.drop k) := by
  have hl := h.len_eq
  have hc := h.le
  have hm := h.cap_le
  refine ⟨by simp; omega, by omega, by omega, fun hp => h.lt (by omega), fun i hi => ?_, range_drop h.rng k⟩
  rw [ho (by omega), Nat.add_assoc, h.cell (k + i) (by omega), List.getD_eq_getElem?_getD, List.getD_eq_getElem?_getD, List.getElem?_drop]

theorem BRow.conv {w : World} {b off len cap : Nat} {zs : List Int} (h : BRow w b off len cap zs) :
    (convert 23 9 (.slice (some ⟨b, off, none⟩) len cap)).run Try.prog w = .ok (.string (strOfNums zs)) w :=
  run_convert_bytes_arg (P := Try.prog) w 23 5 Try.underlying23 Try.underlying5 b off len cap zs h.len_eq h.cell 9 Try.underlying9

theorem row_cell {w : World} {g : Nat} {X : List Int} (h : w.heap[g]? = some (.cells (X.map (Value.int .u8)).toArray 5 (0, 0))) (i : Nat) (hi : i < X.length) :
    w.cell? ⟨g, i, none⟩ = some (.int .u8 (X.getD i 0)) := by
  rw [Lib.cell_of_heap h]; simp [hi]

/-- octets.Get, enough bytes. -/
theorem bget {w : World} {b off len cap : Nat} {zs : List Int} (h : BRow w b off len cap zs) (n : Nat) (h1 : 1 ≤ n) (h2 : n ≤ 8) (hl : n ≤ len) (m : Int) (hm : m = n) :
    Calls Try.prog 99 #[.slice (some ⟨b, off, none⟩) len cap, .int .i64 m] w fun e w' => ∃ off', e = .returned (.tuple #[.int .u64 (numTo zs n), .slice (some ⟨b, off', none⟩) (len - n) (cap - n), .int .i64 0]) ∧
      BRow w' b off' (len - n) (cap - n) (zs.drop n) ∧ Below w.heap.size w w' := by
  subst hm
  refine (get_yes b off len cap n zs w h1 h2 hl h.le h.cap_le h.cell (by have := h.len_eq; omega) h.rng).mono ?_
  rintro e w' ⟨off', q, ho, rfl, rfl⟩
  have hB : Below w.heap.size w (w.drewN q) := below_drewN (Below.refl _ _) q
  exact ⟨off', rfl, (h.old hB).drop n hl ho, hB⟩

theorem bget_short (a : Option Addr) (len cap n : Nat) (w : World) (h1 : 1 ≤ n) (h2 : n ≤ 8) (hl : len < n) (m : Int) (hm : m = n) :
    Calls Try.prog 99 #[.slice a len cap, .int .i64 m] w fun e w' => e = .returned (.tuple #[.int .u64 0, .slice none 0 0, .int .i64 10]) ∧ w' = w := by
  subst hm; exact get_short a len cap n w h1 h2 hl

/-- octets.Take, enough bytes. -/
theorem btake {w : World} {b off len cap : Nat} {zs : List Int} (h : BRow w b off len cap zs) (n : Nat) (hl : n ≤ len) (hsm : len ≤ 140737488351232) (m : Int) (hm : m = n) :
    Calls Try.prog 77 #[.slice (some ⟨b, off, none⟩) len cap, .int .u64 m] w fun e w' => ∃ off', e = .returned (.tuple #[.slice (some ⟨w.heap.size, 0, none⟩) n n, .slice (some ⟨b, off', none⟩) (len - n) (cap - n), .int .i64 0]) ∧
      BRow w' w.heap.size 0 n n (zs.take n) ∧ BRow w' b off' (len - n) (cap - n) (zs.drop n) ∧ Below w.heap.size w w' ∧ w.heap.size < w'.heap.size := by
  subst hm
  have hz := h.len_eq
  refine (take_yes b off len cap n zs w hl h.le h.cap_le hsm h.cell (by omega) h.lt).mono ?_
  rintro e w' ⟨off', ho, rfl, hrow, hB⟩
  have hX : (zs.take n).length = n := by simp; omega
  refine ⟨off', rfl, ⟨hX, Nat.le_refl _, by unfold maxLen; omega, fun hp => ?_, fun i hi => ?_, range_take h.rng n⟩, (h.old hB).drop n hl ho, hB, (Array.getElem?_eq_some_iff.1 hrow).1⟩
  · exact block_lt_of_cell (row_cell hrow 0 (by omega))
  · rw [Nat.zero_add]; exact row_cell hrow i (by omega)

theorem btake_short (a : Option Addr) (len cap : Nat) (n : Int) (w : World) (hm : len ≤ maxLen) (h : (len : Int) < n) :
    Calls Try.prog 77 #[.slice a len cap, .int .u64 n] w fun e w' => e = .returned (.tuple #[.slice none 0 0, .slice none 0 0, .int .i64 10]) ∧ w' = w := take_short a len cap n w hm h

/-- An int with its sign, of four bytes. -/
def int4 (zs : List Int) : Int := sgn (numTo zs 4) 4

theorem int4_bounds (zs : List Int) : -2147483648 ≤ int4 zs ∧ int4 zs ≤ 2147483647 := by
  unfold int4 sgn
  generalize numTo zs 4 = x
  simp only [show 8 * 4 - 1 = 31 from rfl, show 8 * 4 = 32 from rfl]
  split <;> omega

theorem sgn0 : sgn 0 4 = 0 := by decide

set_option maxHeartbeats 400000 in
/-- getInt, too few bytes. -/
theorem getInt_short (a : Option Addr) (len cap : Nat) (w : World) (hl : len < 4) :
    Calls Try.prog 76 #[.slice a len cap] w fun e w' => e = .returned (.tuple #[.int .i64 0, .slice none 0 0, .int .i64 10]) ∧ w' = w := by
  go_enter Try.func76, Try.ntmps76
  go_wp2_with fail
  refine (bget_short a len cap 4 _ (by omega) (by omega) hl _ rfl).mono ?_
  rintro e w1 ⟨rfl, rfl⟩
  go_wp2_with fail
  refine (signed_yes 0 4 _ (by omega) (by omega)).mono ?_
  rintro e w2 ⟨rfl, rfl⟩
  rw [sgn0]
  go_wp2_with fail
  go_ret3
  exact ⟨rfl, rfl⟩

set_option maxHeartbeats 400000 in
theorem getInt_yes {w : World} {b off len cap : Nat} {zs : List Int} (h : BRow w b off len cap zs) (hl : 4 ≤ len) :
    Calls Try.prog 76 #[.slice (some ⟨b, off, none⟩) len cap] w fun e w' => ∃ off', e = .returned (.tuple #[.int .i64 (int4 zs), .slice (some ⟨b, off', none⟩) (len - 4) (cap - 4), .int .i64 0]) ∧
      BRow w' b off' (len - 4) (cap - 4) (zs.drop 4) ∧ Below w.heap.size w w' := by
  have H : Hid _ := h
  clear h
  go_enter Try.func76, Try.ntmps76
  go_wp2_with fail
  refine (bget H.out 4 (by omega) (by omega) hl _ rfl).mono ?_
  rintro e w1 ⟨off', rfl, hR, hB⟩
  go_wp2_with fail
  refine (signed_yes _ 4 _ (by omega) (by omega)).mono ?_
  rintro e w2 ⟨rfl, rfl⟩
  have HE : Hid (sgn (numTo zs 4) 4 = int4 zs) := rfl
  generalize sgn (numTo zs 4) 4 = z at *
  go_wp2_with fail
  go_ret3
  rw [← HE.out]
  exact ⟨off', rfl, hR, hB⟩
end Go.Proofs.Ytcecdklgiocbaaa

namespace Go.Proofs.Ytcecdklgiocbaaa
open Go.RowKit
set_option linter.unusedVariables false
set_option linter.unusedSimpArgs false

set_option maxHeartbeats 400000 in
theorem getText_short0 (a : Option Addr) (len cap : Nat) (w : World) (hl : len < 2) :
    Calls Try.prog 75 #[.slice a len cap] w fun e w' => e = .returned (.tuple #[.string ByteArray.empty, .slice none 0 0, .int .i64 10]) ∧ Below w.heap.size w w' := by
  go_enter Try.func75, Try.ntmps75
  go_wp2_with fail
  refine (bget_short a len cap 2 _ (by omega) (by omega) hl _ rfl).mono ?_
  rintro e w1 ⟨rfl, rfl⟩
  go_wp2_with fail
  go_ret3
  exact ⟨rfl, Below.refl _ _⟩

set_option maxHeartbeats 400000 in
theorem getText_short {w : World} {b off len cap : Nat} {zs : List Int} (h : BRow w b off len cap zs) (hl : 2 ≤ len) (hn : ((len - 2 : Nat) : Int) < numTo zs 2) :
    Calls Try.prog 75 #[.slice (some ⟨b, off, none⟩) len cap] w fun e w' => e = .returned (.tuple #[.string ByteArray.empty, .slice none 0 0, .int .i64 10]) ∧ Below w.heap.size w w' := by
  have H : Hid _ := h
  have hlm : len ≤ maxLen := Nat.le_trans h.le h.cap_le
  have HN : Hid _ := hn
  have HLM : Hid (len - 2 ≤ maxLen) := (by omega : len - 2 ≤ maxLen)
  have hcn := conv_nil
  clear h hn hlm
  go_enter Try.func75, Try.ntmps75
  go_wp2_with fail
  refine (bget H.out 2 (by omega) (by omega) hl _ rfl).mono ?_
  rintro e w1 ⟨off', rfl, hR, hB⟩
  go_wp2_with fail
  refine (btake_short _ _ _ _ _ HLM.out HN.out).mono ?_
  rintro e w2 ⟨rfl, rfl⟩
  go_wp2_with fail
  go_ret3
  exact ⟨rfl, hB⟩

set_option maxHeartbeats 400000 in
theorem getText_yes {w : World} {b off len cap : Nat} {zs : List Int} (h : BRow w b off len cap zs) (hsm : len ≤ 140737488351232) (n : Nat) (hl : 2 + n ≤ len) (hn : numTo zs 2 = n) :
    Calls Try.prog 75 #[.slice (some ⟨b, off, none⟩) len cap] w fun e w' => ∃ off', e = .returned (.tuple #[.string (strOfNums ((zs.drop 2).take n)), .slice (some ⟨b, off', none⟩) (len - 2 - n) (cap - 2 - n), .int .i64 0]) ∧
      BRow w' b off' (len - 2 - n) (cap - 2 - n) (zs.drop (2 + n)) ∧ Below w.heap.size w w' := by
  have H : Hid _ := h
  have HN : Hid _ := hn
  clear h hn
  go_enter Try.func75, Try.ntmps75
  go_wp2_with fail
  refine (bget H.out 2 (by omega) (by omega) (by omega) _ rfl).mono ?_
  rintro e w1 ⟨off', rfl, hR, hB⟩
  have HR : Hid _ := hR
  clear hR
  go_wp2_with fail
  refine (btake HR.out n (by omega) (by omega) _ HN.out).mono ?_
  rintro e w2 ⟨off2, rfl, hX, hR2, hB2, _⟩
  have hcv := hX.conv
  rw [List.drop_drop] at hR2
  have HR2 : Hid _ := hR2
  obtain ⟨T, hT⟩ : ∃ T, T = strOfNums ((zs.drop 2).take n) := ⟨_, rfl⟩
  rw [← hT] at hcv
  have HT : Hid _ := hT
  clear hX hR2 hT
  go_wp2_with fail
  go_ret3
  exact ⟨off2, by rw [← HT.out]; rfl, HR2.out, hB.trans (hB2.mono hB.size)⟩
end Go.Proofs.Ytcecdklgiocbaaa
