/-
  Octets: their mathematics and contracts, and bytes in memory (carried over).
-/
import Derived.Test.YtfkhcgkobffpiaaRows
import Derived.WalkKit
import Derived.Laws.BitsAllLaws
import Derived.WalkSpells
import Derived.WalkLawsBesides
import Derived.Deep.QuietTactic
import Derived.BigQuiet
import Derived.Deep.OwnRows
import Derived.Laws.CopyOwn
import Derived.OpenShut
import Derived.Laws.BytesArg
import Derived.Lib.Bytes
import Derived.Lib.AppendStr
import Derived.Deep.DeepCutAuto
import Derived.Deep.RegionHeld3
import Derived.Laws.AppendOwnNone
namespace Go.Proofs.Ytfkhcgkobffpiaa
open Go.RowKit

/-- The number of the first k of the bytes zs, the highest first. -/
def numTo (zs : List Int) (k : Nat) : Int := (zs.take k).foldl (fun x z => x * 256 + z) 0

theorem numTo_succ (zs : List Int) (k : Nat) (h : k < zs.length) : numTo zs (k + 1) = numTo zs k * 256 + zs[k]?.getD 0 := by
  unfold numTo
  rw [List.take_succ_eq_append_getElem h, List.foldl_append]
  simp [h]

theorem numTo_bound (zs : List Int) (hr : ∀ j : Nat, 0 ≤ zs[j]?.getD 0 ∧ zs[j]?.getD 0 ≤ 255) (k : Nat) (h : k ≤ zs.length) : 0 ≤ numTo zs k ∧ numTo zs k < 256 ^ k := by
  induction k with
  | zero => simp [numTo]
  | succ k ih =>
    have := ih (by omega)
    have hk := hr k
    rw [numTo_succ zs k (by omega), Int.pow_succ]
    omega

theorem numTo_lt (zs : List Int) (hr : ∀ j : Nat, 0 ≤ zs[j]?.getD 0 ∧ zs[j]?.getD 0 ≤ 255) (k : Nat) (h : k ≤ zs.length) (h8 : k ≤ 8) : 0 ≤ numTo zs k ∧ numTo zs k < 18446744073709551616 := by
  have hb := numTo_bound zs hr k h
  have e : ∀ k : Fin 9, (256 : Int) ^ (k : Nat) ≤ 18446744073709551616 := by decide
  have := e ⟨k, by omega⟩
  simp only at this
  omega

theorem or_byte (a z : Int) (h0 : 0 ≤ a) (h1 : a * 256 < 18446744073709551616) (hz0 : 0 ≤ z) (hz1 : z ≤ 255) : bits .or .u64 (IntKind.u64.wrap (a * 256)) z = a * 256 + z := by
  have e : IntKind.u64.wrap (a * 256) = a * 256 := by rw [IntKind.wrap_u64]; omega
  rw [e, u64_or (a * 256) z (by omega) h1 hz0 (by omega), nat_join 8 _ _ (by omega) (by omega)]
  omega

/-- The i-th of the n lowest bytes of x, the highest first. -/
def byteAt (x : Int) (n i : Nat) : Int := x / 2 ^ (8 * (n - 1 - i)) % 256
def putL (x : Int) (n : Nat) : List Int := (List.range n).map (byteAt x n)

theorem one_to_eight {n : Nat} (h1 : 1 ≤ n) (h2 : n ≤ 8) : n = 1 ∨ n = 2 ∨ n = 3 ∨ n = 4 ∨ n = 5 ∨ n = 6 ∨ n = 7 ∨ n = 8 := by omega

theorem numTo_putL (x : Int) (n : Nat) (more : List Int) (h1 : 1 ≤ n) (h2 : n ≤ 8) : numTo (putL x n ++ more) n = x % 2 ^ (8 * n) := by
  rcases one_to_eight h1 h2 with rfl | rfl | rfl | rfl | rfl | rfl | rfl | rfl <;>
  (simp [numTo, putL, byteAt, List.range_succ] <;> omega)

theorem putL_length (x : Int) (n : Nat) : (putL x n).length = n := by simp [putL]

theorem byteAt_range (x : Int) (n i : Nat) : 0 ≤ byteAt x n i ∧ byteAt x n i ≤ 255 := by unfold byteAt; omega

theorem putL_range (x : Int) (n : Nat) : ∀ j : Nat, 0 ≤ (putL x n)[j]?.getD 0 ∧ (putL x n)[j]?.getD 0 ≤ 255 := by
  intro j
  by_cases h : j < n
  · simp only [putL, List.getElem?_map, List.getElem?_range h, Option.map_some, Option.getD_some]; exact byteAt_range x n j
  · simp [putL, List.getElem?_eq_none (l := List.range n) (i := j) (by simpa using h)]

theorem i64_and7 (n : Int) : bits .and .i64 n 7 = n % 8 := by
  have h7 : (BitVec.ofInt 64 7).toNat = 2 ^ 3 - 1 := by decide
  have key : (BitVec.ofInt 64 n &&& BitVec.ofInt 64 7).toNat = (n % ((2 ^ 64 : Nat) : Int)).toNat % 2 ^ 3 := by
    rw [BitVec.toNat_and, BitVec.toNat_ofInt, h7, Nat.and_two_pow_sub_one_eq_mod]
  show IntKind.i64.wrap ((BitVec.ofInt 64 n &&& BitVec.ofInt 64 7).toNat : Nat) = n % 8
  rw [key, IntKind.wrap_i64]
  omega

/-- The number of the lowest n bytes of x with their sign. -/
def sgn (x : Int) (n : Nat) : Int := if 2 ^ (8 * n - 1) ≤ x % 2 ^ (8 * n) then x % 2 ^ (8 * n) - 2 ^ (8 * n) else x % 2 ^ (8 * n)

theorem signed_eq (x : Int) (n : Nat) (h1 : 1 ≤ n) (h2 : n ≤ 8) : wrap64 (IntKind.u64.wrap (x * 2 ^ (8 * (8 - n)))) / 2 ^ (8 * (8 - n)) = sgn x n := by
  unfold wrap64
  rw [IntKind.wrap_u64]
  rcases one_to_eight h1 h2 with rfl | rfl | rfl | rfl | rfl | rfl | rfl | rfl <;>
  (simp [sgn]; omega)


end Go.Proofs.Ytfkhcgkobffpiaa

namespace Go.Proofs.Ytfkhcgkobffpiaa
open Go.RowKit
set_option linter.unusedVariables false

def fitsB (n : Int) : Bool := decide (1 ≤ n) && decide (n ≤ 8)

set_option maxHeartbeats 400000 in
theorem fits_any (n : Int) (w : World) :
    Calls Try.prog 27 #[.int .i64 n] w fun e w' => e = .returned (.bool (fitsB n)) ∧ w' = w := by
  by_cases h : 1 ≤ n
  · go_enter Try.func27, Try.ntmps27
    go_wp2
    go_ret
    exact ⟨by simp [fitsB, h], rfl⟩
  · have hd : decide (1 ≤ n) = false := by simpa using h
    go_enter Try.func27, Try.ntmps27
    go_wp2
    go_ret
    exact ⟨by simp [fitsB, hd], rfl⟩


theorem Try.info5 : (Try.prog.info? 5).map (fun i => (i.zero, i.size, i.bytes)) = some (some (.int .u8 0), 1, 1) := by kernel_rfl

/-- The cells of a new row of n bytes of which the first k are laid. -/
def putCells (x : Int) (n k : Nat) : Array Value := ((List.range n).map fun i => if i < k then Value.int .u8 (byteAt x n i) else .int .u8 0).toArray

theorem putCells_zero (x : Int) (n : Nat) : putCells x n 0 = madeCells #[.int .u8 0] n := by
  apply Array.ext'
  rw [toList_madeCells_one]
  simp [putCells, List.map_const']

theorem putCells_size (x : Int) (n k : Nat) : (putCells x n k).size = n := by simp [putCells]

theorem putCells_set (x : Int) (n k : Nat) (h : k < n) : (putCells x n k).setIfInBounds k (.int .u8 (byteAt x n k)) = putCells x n (k + 1) := by
  apply Array.ext (by simp [putCells])
  intro i h1 h2
  rw [Array.getElem_setIfInBounds]
  · by_cases e : k = i
    · subst e; simp [putCells]
    · rw [if_neg e]
      simp only [putCells, List.getElem_toArray, List.getElem_map, List.getElem_range]
      by_cases hi : i < k
      · rw [if_pos hi, if_pos (by omega)]
      · rw [if_neg hi, if_neg (by omega)]
  · simpa using h1

theorem putCells_at (x : Int) (n k : Nat) (h : k < n) : (putCells x n k)[k]? = some (.int .u8 0) := by
  simp [putCells, h]

set_option maxHeartbeats 400000 in
theorem put_yes (x : Int) (n : Nat) (w : World) (h1 : 1 ≤ n) (h2 : n ≤ 8) (hx : 0 ≤ x) :
    Calls Try.prog 20 #[.int .u64 x, .int .i64 n] w fun e w' => e = .returned (.slice (some ⟨w.heap.size, 0, none⟩) n n) ∧ w' = w.alloc (.cells (putCells x n n) 5) := by
  have hb : fitsB (n : Int) = true := by simp [fitsB]; omega
  have hmk := run_make_row' (P := Try.prog) 24 5 (.int .u8 0) 1 Try.underlying24 Try.info5 rfl .i64 .i64 n (by omega) (by omega)
  go_enter Try.func20, Try.ntmps20
  go_wp2_with (go_at_call 27; refine (fits_any _ _).mono ?_; rintro e w' ⟨rfl, rfl⟩)
  go_loopw [13] (fun i wr => ∃ k : Nat, k ≤ n ∧ i = .int .i64 k ∧ wr = w'.alloc (.cells (putCells x n k) 5)) (fun i _ => n - (intOf i).toNat)
  case atStart => exact ⟨0, by omega, rfl, by rw [putCells_zero]⟩
  case round =>
    obtain ⟨k, hk, rfl, rfl⟩ := hrel
    by_cases hlt : k < n
    · have hc := putCells_at x n k hlt
      go_wp2
      go_roundw
      case rel => exact ⟨k + 1, by omega, by go_num, by rw [← putCells_set x n k hlt]; rfl⟩
      case measure => simp [intOf]; omega
    · have e : k = n := by omega
      subst e
      go_wp2
      go_ret
      exact ⟨rfl, rfl⟩

theorem fitsB_no {n : Int} (h : n < 1 ∨ 8 < n) : fitsB n = false := by
  simp only [fitsB, Bool.and_eq_false_iff, decide_eq_false_iff_not]; omega

set_option maxHeartbeats 400000 in
theorem put_no (x n : Int) (w : World) (h : n < 1 ∨ 8 < n) :
    Calls Try.prog 20 #[.int .u64 x, .int .i64 n] w fun e w' => e = .returned (.slice none 0 0) ∧ w' = w := by
  have hb := fitsB_no h
  clear h
  go_enter Try.func20, Try.ntmps20
  go_wp2_with (go_at_call 27; refine (fits_any _ _).mono ?_; rintro e w' ⟨rfl, rfl⟩)
  go_ret
  exact ⟨rfl, rfl⟩

set_option maxHeartbeats 400000 in
theorem get_no (b : Option Addr) (len cap : Nat) (n : Int) (w : World) (h : n < 1 ∨ 8 < n) :
    Calls Try.prog 24 #[.slice b len cap, .int .i64 n] w fun e w' => e = .returned (.tuple #[.int .u64 0, .slice none 0 0, .int .i64 1]) ∧ w' = w := by
  have hb := fitsB_no h
  clear h
  go_enter Try.func24, Try.ntmps24
  go_wp2_with (go_at_call 27; refine (fits_any _ _).mono ?_; rintro e w' ⟨rfl, rfl⟩)
  go_ret3
  exact ⟨rfl, rfl⟩

set_option maxHeartbeats 400000 in
theorem get_short (b : Option Addr) (len cap n : Nat) (w : World) (h1 : 1 ≤ n) (h2 : n ≤ 8) (hl : len < n) :
    Calls Try.prog 24 #[.slice b len cap, .int .i64 n] w fun e w' => e = .returned (.tuple #[.int .u64 0, .slice none 0 0, .int .i64 10]) ∧ w' = w := by
  have hb : fitsB (n : Int) = true := by simp [fitsB]; omega
  go_enter Try.func24, Try.ntmps24
  go_wp2_with (go_at_call 27; refine (fits_any _ _).mono ?_; rintro e w' ⟨rfl, rfl⟩)
  go_ret3
  exact ⟨rfl, rfl⟩

set_option maxHeartbeats 400000 in
theorem get_yes (b off len cap n : Nat) (zs : List Int) (w : World) (h1 : 1 ≤ n) (h2 : n ≤ 8) (hl : n ≤ len) (hc : len ≤ cap) (hm : cap ≤ maxLen)
    (hcell : ∀ i, i < len → w.cell? ⟨b, off + i, none⟩ = some (.int .u8 (zs.getD i 0))) (hz : len ≤ zs.length) (hr : ∀ j : Nat, 0 ≤ zs[j]?.getD 0 ∧ zs[j]?.getD 0 ≤ 255) :
    Calls Try.prog 24 #[.slice (some ⟨b, off, none⟩) len cap, .int .i64 n] w fun e w' => ∃ off' q, (n < len → off' = off + n) ∧
      e = .returned (.tuple #[.int .u64 (numTo zs n), .slice (some ⟨b, off', none⟩) (len - n) (cap - n), .int .i64 0]) ∧ w' = w.drewN q := by
  have hb : fitsB (n : Int) = true := by simp [fitsB]; omega
  unfold maxLen at hm
  go_enter Try.func24, Try.ntmps24
  go_wp2_with (go_at_call 27; refine (fits_any _ _).mono ?_; rintro e w' ⟨rfl, rfl⟩)
  go_loop [7, 17] (fun x i => ∃ k : Nat, k ≤ n ∧ i = .int .i64 k ∧ x = .int .u64 (numTo zs k)) (fun _ i => n - (intOf i).toNat)
  case atStart => exact ⟨0, by omega, rfl, rfl⟩
  case round =>
    obtain ⟨k, hk, rfl, rfl⟩ := hrel
    by_cases hlt : k < n
    · have hck := hcell k (by omega)
      have hrk := hr k
      have hb1 := numTo_lt zs hr (k + 1) (by omega) (by omega)
      have hb0 := numTo_lt zs hr k (by omega) (by omega)
      have HE : Hid (bits .or .u64 (IntKind.u64.wrap (numTo zs k * 256)) (zs[k]?.getD 0) = numTo zs (k + 1)) := by
        rw [numTo_succ zs k (by omega)] at hb1 ⊢
        exact or_byte _ _ hb0.1 (by omega) hrk.1 hrk.2
      clear hb1 hb0 hr
      go_wp2
      go_round
      case rel => exact ⟨k + 1, by omega, by go_num, by rw [HE.out]⟩
      case measure => simp [intOf]; omega
    · have e : k = n := by omega
      subst e
      clear hcell hr
      by_cases hck : cap = k
      · subst hck
        go_wp2
        go_quiet (fail)
        go_wp2
        go_ret3
        refine ⟨off, _, fun h => by omega, by simp; omega, rfl⟩
      · go_wp2
        go_quiet (fail)
        go_wp2
        go_ret3
        refine ⟨off + k, _, fun h => rfl, rfl, rfl⟩

theorem fitsB_yes {n : Nat} (h1 : 1 ≤ n) (h2 : n ≤ 8) : fitsB (n : Int) = true := by simp [fitsB]; omega


end Go.Proofs.Ytfkhcgkobffpiaa

namespace Go.Proofs.Ytfkhcgkobffpiaa
open Go.RowKit
set_option linter.unusedVariables false

theorem Try.size5 : (Try.prog.info? 5).map (·.size) = some 1 := by kernel_rfl

set_option maxHeartbeats 400000 in
theorem take_short (b : Option Addr) (len cap : Nat) (n : Int) (w : World) (hm : len ≤ maxLen) (h : (len : Int) < n) :
    Calls Try.prog 25 #[.slice b len cap, .int .u64 n] w fun e w' => e = .returned (.tuple #[.slice none 0 0, .slice none 0 0, .int .i64 10]) ∧ w' = w := by
  unfold maxLen at hm
  go_enter Try.func25, Try.ntmps25
  go_wp2
  go_ret3
  exact ⟨rfl, rfl⟩

theorem bytes_one (zs : List Int) : ∀ v ∈ zs.map (Value.int .u8), v.oneCell' = true := by
  intro v hv; obtain ⟨z, _, rfl⟩ := List.mem_map.1 hv; rfl

theorem splice_all (z : Value) (n : Nat) (cs : List Value) (h : cs.length = n) : splice (List.replicate n z) 0 cs = cs := by
  simp [splice, h]

set_option maxHeartbeats 400000 in
theorem take_yes (b off len cap n : Nat) (zs : List Int) (w : World) (hl : n ≤ len) (hc : len ≤ cap) (hm0 : cap ≤ maxLen) (hsm : len ≤ 140737488351232)
    (hcell : ∀ i, i < len → w.cell? ⟨b, off + i, none⟩ = some (.int .u8 (zs.getD i 0))) (hz : len ≤ zs.length) (hbl : 0 < len → b < w.heap.size) :
    Calls Try.prog 25 #[.slice (some ⟨b, off, none⟩) len cap, .int .u64 n] w fun e w' => ∃ off', (n < len → off' = off + n) ∧
      e = .returned (.tuple #[.slice (some ⟨w.heap.size, 0, none⟩) n n, .slice (some ⟨b, off', none⟩) (len - n) (cap - n), .int .i64 0]) ∧
      w'.heap[w.heap.size]? = some (.cells ((zs.take n).map (Value.int .u8)).toArray 5 (0, 0)) ∧ Below w.heap.size w w' := by
  have hm := hm0
  unfold maxLen at hm
  clear hm0
  have hmk := run_make_row' (P := Try.prog) 24 5 (.int .u8 0) 1 Try.underlying24 Try.info5 rfl .u64 .u64 n (by omega) (by omega)
  obtain ⟨X, hX⟩ : ∃ X, X = (zs.take n).map (Value.int .u8) := ⟨_, rfl⟩
  have hXl : X.length = n := by rw [hX]; simp; omega
  have hX1 : ∀ v ∈ X, v.oneCell' = true := by rw [hX]; exact bytes_one _
  have hXc : ∀ j v, X[j]? = some v → w.cell? ⟨b, off + j, none⟩ = some v ∧ b < w.heap.size := by
    intro j v hj
    have hjn : j < n := by have := (List.getElem?_eq_some_iff.1 hj).1; omega
    rw [hX, List.getElem?_map, List.getElem?_take_of_lt hjn] at hj
    have := hcell j (by omega)
    rw [List.getD_eq_getElem?_getD] at this
    obtain ⟨z, hz1, rfl⟩ := Option.map_eq_some_iff.1 hj
    rw [hz1] at this
    exact ⟨this, hbl (by omega)⟩
  obtain ⟨Z, hZ⟩ : ∃ Z, Z = List.replicate n (Value.int .u8 0) := ⟨_, rfl⟩
  have hZm : madeCells #[.int .u8 0] n = Z.toArray := by rw [hZ]; apply Array.ext'; rw [toList_madeCells_one]
  rw [hZm] at hmk
  have hZl : Z.length = n := by rw [hZ]; simp
  have HS : Hid (splice Z 0 X = (zs.take n).map (Value.int .u8)) := by rw [← hX, hZ]; exact splice_all _ _ _ hXl
  have HXl : Hid (X.length = n) := hXl
  have HZl : Hid (Z.length = n) := hZl
  have HXc : Hid (∀ j v, X[j]? = some v → w.cell? ⟨b, off + j, none⟩ = some v ∧ b < w.heap.size) := hXc
  have HX1 : Hid (∀ v ∈ X, v.oneCell' = true) := hX1
  clear hX hZ hXl hZl hZm hXc hX1 hcell hbl
  go_enter Try.func25, Try.ntmps25
  go_wp2_with (refine wpList_copy_splice rfl (.tmp 15) (.tmp 16) 24 24 rfl 5 Try.underlying24 Try.size5 _ _ _ _ _ _ rfl rfl w.heap.size 0 Z 5 ?ca X ?cb ?cc ?cd ?ce w.heap.size w ?cf ?cg ?_; rotate_right; intro w2 hG hB)
  case ca => exact heap_alloc_new w _
  case cb => rw [HXl.out]; show n = min len n; omega
  case cc =>
    intro _ j v hj
    have h2 := HXc.out j v hj
    rw [World.cell?_alloc_past _ _ _ h2.2]
    exact h2.1
  case cd => rw [HXl.out, HZl.out]; omega
  case ce => exact HX1.out
  case cf => exact (Below.refl _ _).alloc (Nat.le_refl _) _
  case cg => exact Nat.le_refl _
  have HG : Hid (w2.heap[w.heap.size]? = some (.cells ((zs.take n).map (Value.int .u8)).toArray 5 (0, 0))) := by
    have h := hG.out; rw [HS.out] at h; exact h
  clear hG HS HXc HX1 HXl HZl hmk
  by_cases hck : cap = n
  · subst hck
    go_quiet (fail)
    go_wp2
    go_ret3
    refine ⟨off, fun h => by omega, by simp; omega, ?_, ?_⟩
    · exact HG.out
    · exact below_drewN hB _
  · go_quiet (fail)
    go_wp2
    go_ret3
    refine ⟨off + n, fun h => rfl, rfl, ?_, ?_⟩
    · exact HG.out
    · exact below_drewN hB _

set_option maxHeartbeats 400000 in
theorem take_nil (w : World) :
    Calls Try.prog 25 #[.slice none 0 0, .int .u64 0] w fun e w' =>
      e = .returned (.tuple #[.slice (some ⟨w.heap.size, 0, none⟩) 0 0, .slice none 0 0, .int .i64 0]) ∧
      w'.heap[w.heap.size]? = some (.cells #[] 5 (0, 0)) ∧ Below w.heap.size w w' := by
  have hmk := fun w => run_make_row' (P := Try.prog) 24 5 (.int .u8 0) 1 Try.underlying24 Try.info5 rfl .u64 .u64 0 (by omega) (by omega) w
  have e0 : madeCells #[.int .u8 0] 0 = #[] := by simp [madeCells]
  simp only [e0, Int.natCast_zero] at hmk
  go_enter Try.func25, Try.ntmps25
  go_wp2_with (refine wpList_copy_splice rfl (.tmp 15) (.tmp 16) 24 24 rfl 5 Try.underlying24 Try.size5 _ _ _ _ _ _ rfl rfl w.heap.size 0 [] 5 ?ca [] ?cb ?cc ?cd ?ce w.heap.size w ?cf ?cg ?_; rotate_right; intro w2 hG hB)
  case ca => exact heap_alloc_new w _
  case cb => rfl
  case cd => simp
  case ce => intro v hv; simp at hv
  case cf => exact (Below.refl _ _).alloc (Nat.le_refl _) _
  case cg => exact Nat.le_refl _
  go_quiet (fail)
  go_wp2
  go_ret3
  refine ⟨rfl, ?_, ?_⟩
  · have h := hG.out; simpa [splice] using h
  · exact below_drewN hB _


end Go.Proofs.Ytfkhcgkobffpiaa

namespace Go.Proofs.Ytfkhcgkobffpiaa
open Go.RowKit
set_option linter.unusedVariables false

/-- A slice of integers that came in: it is nil; or it leads to a row of 'cap' cells, the numbers 'zs' (the first 'len' are its elements, the rest its spare room), each fitting its kind. -/
def IsRow (k : IntKind) (w : World) (a : Option Addr) (len cap : Nat) (zs : List Int) : Prop :=
  (a = none ∧ len = 0 ∧ cap = 0 ∧ zs = []) ∨
  ∃ x, a = some x ∧ len ≤ cap ∧ cap ≤ maxLen ∧ zs.length = cap ∧ (∀ i, i < zs.length → w.cell? (x.add i) = some (.int k (zs.getD i 0))) ∧ ∀ n ∈ zs, (Lit.int k n).wf = true

/-- Where there is a place for an element the row's place is known. -/
theorem IsRow.at {k : IntKind} {w : World} {a : Option Addr} {len cap : Nat} {zs : List Int} (h : IsRow k w a len cap zs) (hp : 0 < cap) :
    ∃ b off, a = some ⟨b, off, none⟩ ∧ len ≤ cap ∧ cap ≤ maxLen ∧ zs.length = cap ∧ b < w.heap.size ∧ (∀ i, i < cap → w.cell? ⟨b, off + i, none⟩ = some (.int k (zs.getD i 0))) ∧ ∀ n ∈ zs, (Lit.int k n).wf = true := by
  rcases h with ⟨_, _, h, _⟩ | ⟨x, rfl, hl, hm, hz, hcell, hwz⟩
  · omega
  · obtain ⟨b, off, spot⟩ := x
    have hc := hcell 0 (by omega)
    have hspot : spot = none := by simpa [Addr.add] using World.cell?_spot hc
    subst hspot
    refine ⟨b, off, rfl, hl, hm, hz, ?_, ?_, hwz⟩
    · have := block_lt_of_cell hc
      simpa [Addr.add] using this
    · intro i hi
      have := hcell i (by omega)
      have hplain : (⟨b, off, none⟩ : Addr).add i = ⟨b, off + i, none⟩ := by unfold Addr.add; split <;> simp_all
      rwa [hplain] at this

theorem IsRow.le {k : IntKind} {w : World} {a : Option Addr} {len cap : Nat} {zs : List Int} (h : IsRow k w a len cap zs) : len ≤ cap ∧ cap ≤ maxLen := by
  rcases h with ⟨_, h, h', _⟩ | ⟨x, rfl, hl, hm, hz, hcell, hwz⟩
  · exact ⟨by omega, by unfold maxLen; omega⟩
  · exact ⟨hl, hm⟩

theorem range_of_wf {zs : List Int} (h : ∀ n ∈ zs, (Lit.int .u8 n).wf = true) : ∀ j : Nat, 0 ≤ zs[j]?.getD 0 ∧ zs[j]?.getD 0 ≤ 255 := by
  intro j
  by_cases hj : j < zs.length
  · rw [List.getElem?_eq_getElem hj, Option.getD_some]
    have := bounds_u8 (h _ (List.getElem_mem hj))
    omega
  · rw [List.getElem?_eq_none (by omega)]; simp

theorem getD_sub (zs : List Int) (n len i : Nat) (h : i < len - n) : ((zs.take len).drop n).getD i 0 = zs.getD (n + i) 0 := by
  simp only [List.getD_eq_getElem?_getD, List.getElem?_drop]
  rw [List.getElem?_take_of_lt (by omega)]

/-- The text of no bytes. -/
theorem conv_empty (b o c : Nat) (wx : World) : (convert 24 9 (.slice (some ⟨b, o, none⟩) 0 c)).run Try.prog wx = .ok (.string ByteArray.empty) wx :=
  run_convert_bytes_arg (P := Try.prog) wx 24 5 Try.underlying24 Try.underlying5 b o 0 c [] rfl (fun i hi => by omega) 9 Try.underlying9

theorem conv_nil (c : Nat) (wx : World) : (convert 24 9 (.slice none 0 c)).run Try.prog wx = .ok (.string ByteArray.empty) wx :=
  run_convert_bytes_nil (P := Try.prog) wx 24 5 Try.underlying24 Try.underlying5 0 c 9 Try.underlying9

theorem conv_void (a : Option Addr) (c : Nat) (wx : World) : (convert 24 9 (.slice a 0 c)).run Try.prog wx = .ok (.string ByteArray.empty) wx := by
  cases a with
  | none => exact conv_nil c wx
  | some x =>
    rw [run_convert_bytes_string wx 24 9 5 _ 0 c Try.underlying24 Try.underlying5 Try.underlying9]
    have h := run_loadCells_list (P := Try.prog) wx x [] (fun j v hj => by simp at hj)
    exact run_bytesToString (P := Try.prog) wx x 0 c [] h

/-- The text of the bytes from n on. -/
theorem conv_rest (w w1 : World) (b off off' n len cap cap' : Nat) (zs : List Int) (hn : n ≤ len) (hz : len ≤ zs.length) (ho : n < len → off' = off + n)
    (hcell : ∀ i, i < len → w1.cell? ⟨b, off + i, none⟩ = some (.int .u8 (zs.getD i 0))) (q : Nat) :
    (convert 24 9 (.slice (some ⟨b, off', none⟩) (len - n) cap')).run Try.prog (w1.drewN q) = .ok (.string (strOfNums ((zs.take len).drop n))) (w1.drewN q) := by
  refine run_convert_bytes_arg (P := Try.prog) (w1.drewN q) 24 5 Try.underlying24 Try.underlying5 b off' (len - n) cap' _ (by simp; omega) ?_ 9 Try.underlying9
  intro i hi
  rw [getD_sub zs n len i hi, ho (by omega)]
  have := hcell (n + i) (by omega)
  rw [← Nat.add_assoc] at this
  simpa using this
end Go.Proofs.Ytfkhcgkobffpiaa

namespace Go.Proofs.Ytfkhcgkobffpiaa
open Go.RowKit
set_option linter.unusedVariables false

theorem putL_succ (x : Int) (n j : Nat) (h : j < n) : (putL x n).take (j + 1) = (putL x n).take j ++ [byteAt x n j] := by
  rw [List.take_succ_eq_append_getElem (by rw [putL_length]; exact h)]
  simp [putL]

theorem div_more (x : Int) (k : Nat) : x / 2 ^ (8 * k) / 256 = x / 2 ^ (8 * (k + 1)) := by
  have hp : (0 : Int) < 2 ^ (8 * k) := Int.pow_pos (by omega)
  rw [Int.ediv_ediv, if_neg (by omega), Int.sub_zero, Nat.mul_succ, Int.pow_add]
  rfl

theorem div_bound (x : Int) (k : Nat) (h0 : 0 ≤ x) (h1 : x < 18446744073709551616) : 0 ≤ x / 2 ^ (8 * k) ∧ x / 2 ^ (8 * k) < 18446744073709551616 := by
  have hp : (0 : Int) < 2 ^ (8 * k) := Int.pow_pos (by omega)
  refine ⟨Int.ediv_nonneg h0 (by omega), ?_⟩
  have := Int.ediv_le_self (2 ^ (8 * k)) h0
  omega

/-- The number of the first k of the bytes zs with a sign, the highest first. -/
def sTo (zs : List Int) (k : Nat) : Int := if k = 0 then 0 else if (128 : Int) ≤ zs[0]?.getD 0 then numTo zs k - 256 ^ k else numTo zs k

theorem sTo_one_big (zs : List Int) (h : 0 < zs.length) (hb : (128 : Int) ≤ zs[0]?.getD 0) : sTo zs 1 = zs[0]?.getD 0 - 256 := by
  simp only [sTo]
  rw [if_neg (by omega), if_pos hb, numTo_succ zs 0 h]
  simp [numTo]

theorem sTo_one_small (zs : List Int) (h : 0 < zs.length) (hb : ¬ (128 : Int) ≤ zs[0]?.getD 0) : sTo zs 1 = zs[0]?.getD 0 := by
  simp only [sTo]
  rw [if_neg (by omega), if_neg hb, numTo_succ zs 0 h]
  simp [numTo]

theorem sTo_succ (zs : List Int) (k : Nat) (h : k < zs.length) (hk : 0 < k) : sTo zs (k + 1) = sTo zs k * 256 + zs[k]?.getD 0 := by
  have e1 : ∀ a b : Int, (if k + 1 = 0 then a else b) = b := fun a b => if_neg (by omega)
  have e2 : ∀ a b : Int, (if k = 0 then a else b) = b := fun a b => if_neg (by omega)
  simp only [sTo, e1, e2, numTo_succ zs k h]
  by_cases hb : (128 : Int) ≤ zs[0]?.getD 0
  · rw [if_pos hb, if_pos hb, Int.pow_succ]; omega
  · rw [if_neg hb, if_neg hb]

theorem numTo_top (zs : List Int) (hr : ∀ j : Nat, 0 ≤ zs[j]?.getD 0 ∧ zs[j]?.getD 0 ≤ 255) (k : Nat) (h : k + 1 ≤ zs.length) :
    zs[0]?.getD 0 * 256 ^ k ≤ numTo zs (k + 1) ∧ numTo zs (k + 1) < (zs[0]?.getD 0 + 1) * 256 ^ k := by
  induction k with
  | zero => rw [numTo_succ zs 0 (by omega)]; simp [numTo]; omega
  | succ k ih =>
    have := ih (by omega)
    have hk := hr (k + 1)
    rw [numTo_succ zs (k + 1) (by omega), Int.pow_succ, ← Int.mul_assoc, ← Int.mul_assoc]
    omega

theorem sTo_bound (zs : List Int) (hr : ∀ j : Nat, 0 ≤ zs[j]?.getD 0 ∧ zs[j]?.getD 0 ≤ 255) (k : Nat) (h : k ≤ zs.length) (h7 : k ≤ 7) : -36028797018963968 ≤ sTo zs k ∧ sTo zs k ≤ 36028797018963967 := by
  rcases Nat.eq_zero_or_pos k with rfl | hp
  · simp [sTo]
  · have h0 := hr 0
    obtain ⟨j, rfl⟩ : ∃ j, k = j + 1 := ⟨k - 1, by omega⟩
    have ht := numTo_top zs hr j h
    simp only [sTo]
    rw [if_neg (by omega)]
    rcases (show j = 0 ∨ j = 1 ∨ j = 2 ∨ j = 3 ∨ j = 4 ∨ j = 5 ∨ j = 6 from by omega) with rfl | rfl | rfl | rfl | rfl | rfl | rfl <;>
    (split <;> (simp at ht ⊢; omega))

theorem sTo_putL (x : Int) (n : Nat) (h1 : 1 ≤ n) (h2 : n ≤ 8) : sTo (putL x n) n = sgn x n := by
  have hn := numTo_putL x n [] h1 h2
  rw [List.append_nil] at hn
  have h0 : (putL x n)[0]?.getD 0 = byteAt x n 0 := by rw [← List.getD_eq_getElem?_getD]; simp [putL, List.getD_eq_getElem?_getD, List.getElem?_range h1]
  unfold sTo
  rw [if_neg (by omega), hn, h0]
  unfold sgn byteAt
  rcases one_to_eight h1 h2 with rfl | rfl | rfl | rfl | rfl | rfl | rfl | rfl <;> (simp <;> split <;> split <;> omega)

/-- What a slice that owns its row, and is not empty, is. -/
theorem own_full {w : World} {base : Nat} {v : Value} {n : Nat} {X : List Int} (h : w.ownsRow base 5 1 v n (X.map (Value.int .u8))) (hp : 0 < n) :
    ∃ g cap, v = .slice (some ⟨g, 0, none⟩) n cap ∧ n ≤ cap ∧ cap ≤ maxLen ∧ base ≤ g ∧ g < w.heap.size ∧ ∀ t, t < n → w.cell? ⟨g, t, none⟩ = some (.int .u8 (X.getD t 0)) := by
  obtain ⟨hlen, h2⟩ := id h
  rcases h2 with ⟨rfl, rfl⟩ | ⟨g, cap, cur, rfl, hg, hh, hc, hm, hs, hx⟩
  · omega
  · refine ⟨g, cap, rfl, hc, hm, hg, (h.lt g rfl).2, fun t ht => ?_⟩
    rw [h.cellAt t (by omega)]
    simp only [List.length_map, Nat.mul_one] at hlen
    simp [show t < X.length by omega]
end Go.Proofs.Ytfkhcgkobffpiaa

namespace Go.Proofs.Ytfkhcgkobffpiaa
open Go.RowKit
set_option linter.unusedVariables false
set_option linter.unusedSimpArgs false

/-- The slice at block b from off on, len long, has the bytes zs. -/
structure BRow (w : World) (b off len cap : Nat) (zs : List Int) : Prop where
  len_eq : zs.length = len
  le : len ≤ cap
  cap_le : cap ≤ maxLen
  lt : 0 < len → b < w.heap.size
  cell : ∀ i, i < len → w.cell? ⟨b, off + i, none⟩ = some (.int .u8 (zs.getD i 0))
  rng : ∀ j : Nat, 0 ≤ zs[j]?.getD 0 ∧ zs[j]?.getD 0 ≤ 255

theorem BRow.below {w W : World} {b off len cap : Nat} {zs : List Int} (h : BRow w b off len cap zs) {base : Nat} (hB : Below base w W) (hb : 0 < len → b < base) : BRow W b off len cap zs :=
  ⟨h.len_eq, h.le, h.cap_le, fun hl => Nat.lt_of_lt_of_le (h.lt hl) hB.size, fun i hi => (hB.cell (hb (by omega))).trans (h.cell i hi), h.rng⟩

theorem BRow.old {w W : World} {b off len cap : Nat} {zs : List Int} (h : BRow w b off len cap zs) (hB : Below w.heap.size w W) : BRow W b off len cap zs := h.below hB h.lt

theorem range_drop {zs : List Int} (h : ∀ j : Nat, 0 ≤ zs[j]?.getD 0 ∧ zs[j]?.getD 0 ≤ 255) (k : Nat) : ∀ j : Nat, 0 ≤ (zs.drop k)[j]?.getD 0 ∧ (zs.drop k)[j]?.getD 0 ≤ 255 := by
  intro j; rw [List.getElem?_drop]; exact h _

theorem range_take {zs : List Int} (h : ∀ j : Nat, 0 ≤ zs[j]?.getD 0 ∧ zs[j]?.getD 0 ≤ 255) (k : Nat) : ∀ j : Nat, 0 ≤ (zs.take k)[j]?.getD 0 ∧ (zs.take k)[j]?.getD 0 ≤ 255 := by
  intro j
  by_cases hj : j < k
  · rw [List.getElem?_take_of_lt hj]; exact h _
  · rw [List.getElem?_eq_none (by simp; omega)]; simp

theorem BRow.drop {w : World} {b off off' len cap : Nat} {zs : List Int} (h : BRow w b off len cap zs) (k : Nat) (hk : k ≤ len) (ho : k < len → off' = off + k) : BRow w b off' (len - k) (cap - k) (zs.drop k) := by
  have hl := h.len_eq
  have hc := h.le
  have hm := h.cap_le
  refine ⟨by simp; omega, by omega, by omega, fun hp => h.lt (by omega), fun i hi => ?_, range_drop h.rng k⟩
  rw [ho (by omega), Nat.add_assoc, h.cell (k + i) (by omega), List.getD_eq_getElem?_getD, List.getD_eq_getElem?_getD, List.getElem?_drop]

theorem BRow.conv {w : World} {b off len cap : Nat} {zs : List Int} (h : BRow w b off len cap zs) :
    (convert 24 9 (.slice (some ⟨b, off, none⟩) len cap)).run Try.prog w = .ok (.string (strOfNums zs)) w :=
  run_convert_bytes_arg (P := Try.prog) w 24 5 Try.underlying24 Try.underlying5 b off len cap zs h.len_eq h.cell 9 Try.underlying9

theorem row_cell {w : World} {g : Nat} {X : List Int} (h : w.heap[g]? = some (.cells (X.map (Value.int .u8)).toArray 5 (0, 0))) (i : Nat) (hi : i < X.length) :
    w.cell? ⟨g, i, none⟩ = some (.int .u8 (X.getD i 0)) := by
  rw [Lib.cell_of_heap h]; simp [hi]

/-- octets.Get, enough bytes. -/
theorem bget {w : World} {b off len cap : Nat} {zs : List Int} (h : BRow w b off len cap zs) (n : Nat) (h1 : 1 ≤ n) (h2 : n ≤ 8) (hl : n ≤ len) (m : Int) (hm : m = n) :
    Calls Try.prog 24 #[.slice (some ⟨b, off, none⟩) len cap, .int .i64 m] w fun e w' => ∃ off', e = .returned (.tuple #[.int .u64 (numTo zs n), .slice (some ⟨b, off', none⟩) (len - n) (cap - n), .int .i64 0]) ∧
      BRow w' b off' (len - n) (cap - n) (zs.drop n) ∧ Below w.heap.size w w' := by
  subst hm
  refine (get_yes b off len cap n zs w h1 h2 hl h.le h.cap_le h.cell (by have := h.len_eq; omega) h.rng).mono ?_
  rintro e w' ⟨off', q, ho, rfl, rfl⟩
  have hB : Below w.heap.size w (w.drewN q) := below_drewN (Below.refl _ _) q
  exact ⟨off', rfl, (h.old hB).drop n hl ho, hB⟩

theorem bget_short (a : Option Addr) (len cap n : Nat) (w : World) (h1 : 1 ≤ n) (h2 : n ≤ 8) (hl : len < n) (m : Int) (hm : m = n) :
    Calls Try.prog 24 #[.slice a len cap, .int .i64 m] w fun e w' => e = .returned (.tuple #[.int .u64 0, .slice none 0 0, .int .i64 10]) ∧ w' = w := by
  subst hm; exact get_short a len cap n w h1 h2 hl

/-- octets.Take, enough bytes. -/
theorem btake {w : World} {b off len cap : Nat} {zs : List Int} (h : BRow w b off len cap zs) (n : Nat) (hl : n ≤ len) (hsm : len ≤ 140737488351232) (m : Int) (hm : m = n) :
    Calls Try.prog 25 #[.slice (some ⟨b, off, none⟩) len cap, .int .u64 m] w fun e w' => ∃ off', e = .returned (.tuple #[.slice (some ⟨w.heap.size, 0, none⟩) n n, .slice (some ⟨b, off', none⟩) (len - n) (cap - n), .int .i64 0]) ∧
      BRow w' w.heap.size 0 n n (zs.take n) ∧ BRow w' b off' (len - n) (cap - n) (zs.drop n) ∧ Below w.heap.size w w' ∧ w.heap.size < w'.heap.size := by
  subst hm
  have hz := h.len_eq
  refine (take_yes b off len cap n zs w hl h.le h.cap_le hsm h.cell (by omega) h.lt).mono ?_
  rintro e w' ⟨off', ho, rfl, hrow, hB⟩
  have hX : (zs.take n).length = n := by simp; omega
  refine ⟨off', rfl, ⟨hX, Nat.le_refl _, by unfold maxLen; omega, fun hp => ?_, fun i hi => ?_, range_take h.rng n⟩, (h.old hB).drop n hl ho, hB, (Array.getElem?_eq_some_iff.1 hrow).1⟩
  · exact block_lt_of_cell (row_cell hrow 0 (by omega))
  · rw [Nat.zero_add]; exact row_cell hrow i (by omega)

theorem btake_short (a : Option Addr) (len cap : Nat) (n : Int) (w : World) (hm : len ≤ maxLen) (h : (len : Int) < n) :
    Calls Try.prog 25 #[.slice a len cap, .int .u64 n] w fun e w' => e = .returned (.tuple #[.slice none 0 0, .slice none 0 0, .int .i64 10]) ∧ w' = w := take_short a len cap n w hm h

/-- An int with its sign, of four bytes. -/
def int4 (zs : List Int) : Int := sgn (numTo zs 4) 4

theorem int4_bounds (zs : List Int) : -2147483648 ≤ int4 zs ∧ int4 zs ≤ 2147483647 := by
  unfold int4 sgn
  generalize numTo zs 4 = x
  simp only [show 8 * 4 - 1 = 31 from rfl, show 8 * 4 = 32 from rfl]
  split <;> omega

theorem sgn0 : sgn 0 4 = 0 := by decide
end Go.Proofs.Ytfkhcgkobffpiaa

namespace Go.Proofs.Ytfkhcgkobffpiaa
open Go.RowKit
set_option linter.unusedVariables false
set_option linter.unusedSimpArgs false

theorem bcell {W w1 : World} (hb : Below W.heap.size W w1) : (∀ b o, b < W.heap.size → w1.cell? ⟨b, o, none⟩ = W.cell? ⟨b, o, none⟩) ∧ (∀ b o, b < W.heap.size → w1.frozen? ⟨b, o, none⟩ = W.frozen? ⟨b, o, none⟩) :=
  ⟨fun b o h => hb.cell (p := ⟨b, o, none⟩) h, fun b o h => hb.frozen (p := ⟨b, o, none⟩) h⟩

theorem below_one (w : World) (o : Obj) : Below w.heap.size w (w.alloc o) := (Below.refl _ _).alloc (Nat.le_refl _) _

theorem BRow.set {w : World} {b off len cap : Nat} {zs : List Int} (h : BRow w b off len cap zs) {g k : Nat} (hg : g ≠ b) (v : Value) : BRow (w.setCell ⟨g, k, none⟩ v) b off len cap zs :=
  ⟨h.len_eq, h.le, h.cap_le, fun hl => by simpa using h.lt hl, fun i hi => (World.cell?_setCell_other (w := w) (a := ⟨g, k, none⟩) (b := ⟨b, off + i, none⟩) (v := v) (by intro e; cases e; exact hg rfl)).trans (h.cell i hi), h.rng⟩

theorem below_two {w w1 : World} {o : Obj} (hB : Below (w.alloc o).heap.size (w.alloc o) w1) (u v : Value) : Below w.heap.size w ((w1.setCell ⟨w.heap.size, 0, none⟩ u).setCell ⟨w.heap.size, 1, none⟩ v) :=
  (((below_one w o).trans (hB.mono (by simp))).setCell (Nat.le_refl _) _).setCell (Nat.le_refl _) _

theorem below_on (w1 : World) (s : Nat) (u v : Value) : Below s w1 ((w1.setCell ⟨s, 0, none⟩ u).setCell ⟨s, 1, none⟩ v) :=
  ((Below.refl s w1).setCell (p := ⟨s, 0, none⟩) (Nat.le_refl _) u).setCell (p := ⟨s, 1, none⟩) (Nat.le_refl _) v

theorem int4_tests {zs : List Int} (h : 0 ≤ int4 zs) : decide (int4 zs < -2) = false ∧ (int4 zs == -2) = false ∧ (int4 zs == -1) = false := by
  refine ⟨by simp; omega, by simp; omega, by simp; omega⟩
end Go.Proofs.Ytfkhcgkobffpiaa

namespace Go.Proofs.Ytfkhcgkobffpiaa
open Go.RowKit
set_option linter.unusedVariables false
set_option linter.unusedSimpArgs false

/-- A text's bytes as numbers. -/
def sNums (s : ByteArray) : List Int := s.data.toList.map fun c => (c.toNat : Int)

theorem sNums_cells (s : ByteArray) : Lib.strCells s = (sNums s).map (Value.int .u8) := by
  simp [Lib.strCells, sNums, Function.comp_def]

theorem sNums_length (s : ByteArray) : (sNums s).length = s.size := by
  rw [sNums, List.length_map, Array.length_toList]
  rfl

theorem sNums_range (s : ByteArray) : ∀ j : Nat, 0 ≤ (sNums s)[j]?.getD 0 ∧ (sNums s)[j]?.getD 0 ≤ 255 := by
  intro j
  by_cases h : j < (sNums s).length
  · rw [List.getElem?_eq_getElem h, Option.getD_some]
    have hj : j < s.data.toList.length := by simpa [sNums] using h
    have : (sNums s)[j] = ((s.data.toList[j]).toNat : Int) := by simp [sNums]
    rw [this]
    have := (s.data.toList[j]).toNat_lt
    omega
  · rw [List.getElem?_eq_none (by omega)]; simp

theorem strOfNums_sNums (s : ByteArray) : strOfNums (sNums s) = s := by
  apply ByteArray.ext
  apply Array.ext'
  simp [strOfNums, sNums, Function.comp_def]

theorem range_append {A B : List Int} (hA : ∀ j : Nat, 0 ≤ A[j]?.getD 0 ∧ A[j]?.getD 0 ≤ 255) (hB : ∀ j : Nat, 0 ≤ B[j]?.getD 0 ∧ B[j]?.getD 0 ≤ 255) :
    ∀ j : Nat, 0 ≤ (A ++ B)[j]?.getD 0 ∧ (A ++ B)[j]?.getD 0 ≤ 255 := by
  intro j
  by_cases h : j < A.length
  · rw [List.getElem?_append_left h]; exact hA j
  · rw [List.getElem?_append_right (by omega)]; exact hB _

/-- A slice that owns its row of bytes X, n long. -/
def OwnB (w : World) (base : Nat) (v : Value) (n : Nat) (X : List Int) : Prop := w.ownsRow base 5 1 v n (X.map (Value.int .u8))

theorem OwnB.len {w : World} {base : Nat} {v : Value} {n : Nat} {X : List Int} (h : OwnB w base v n X) : X.length = n := by
  have := h.1; simpa using this

theorem OwnB.row {w : World} {base : Nat} {v : Value} {n : Nat} {X : List Int} (h : OwnB w base v n X) (hp : 0 < n) (hr : ∀ j : Nat, 0 ≤ X[j]?.getD 0 ∧ X[j]?.getD 0 ≤ 255) :
    ∃ g cap, v = .slice (some ⟨g, 0, none⟩) n cap ∧ base ≤ g ∧ g < w.heap.size ∧ BRow w g 0 n cap X := by
  obtain ⟨g, cap, rfl, hnc, hcm, hg, hgs, hcell⟩ := own_full h hp
  exact ⟨g, cap, rfl, hg, hgs, h.len, hnc, hcm, fun _ => hgs, fun i hi => by rw [Nat.zero_add]; exact hcell i hi, hr⟩

theorem putCells_full (x : Int) (n : Nat) : (putCells x n n).toList = (putL x n).map (Value.int .u8) := by
  simp only [putCells, putL, List.map_map]
  apply List.map_congr_left
  intro i hi
  rw [List.mem_range] at hi
  simp [hi]

theorem put_own (x : Int) (n : Nat) (w : World) (h1 : 1 ≤ n) (h2 : n ≤ 8) (hx : 0 ≤ x) (m : Int) (hm : m = n) :
    Calls Try.prog 20 #[.int .u64 x, .int .i64 m] w fun e w' => ∃ v, e = .returned v ∧ OwnB w' w.heap.size v n (putL x n) ∧ Below w.heap.size w w' := by
  subst hm
  refine (put_yes x n w h1 h2 hx).mono ?_
  rintro e w' ⟨rfl, rfl⟩
  refine ⟨_, rfl, ⟨by simp [putL_length], .inr ⟨w.heap.size, n, putCells x n n, rfl, Nat.le_refl _, heap_alloc_new w _, Nat.le_refl _, by unfold maxLen; omega, by simp [putCells_size], ?_⟩⟩, below_one _ _⟩
  rw [Nat.mul_one, putCells_full, List.take_of_length_le (by simp [putL_length])]

theorem OwnB.join {w : World} {base : Nat} {v : Value} {n m : Nat} {X Y : List Int} {cs : List Value} (h : w.ownsRow base 5 1 v (n + m) (X.map (Value.int .u8) ++ cs)) (hc : cs = Y.map (Value.int .u8)) : OwnB w base v (n + m) (X ++ Y) := by
  subst hc; rw [← List.map_append] at h; exact h

theorem OwnB.block {w : World} {base : Nat} {v : Value} {n : Nat} {X : List Int} (h : OwnB w base v n X) : ∀ k, v.ownBlock = some k → base ≤ k := fun k hk => (World.ownsRow.lt h k hk).1
end Go.Proofs.Ytfkhcgkobffpiaa

namespace Go.Proofs.Ytfkhcgkobffpiaa
open Go.RowKit
set_option maxRecDepth 100000
set_option linter.unusedVariables false
set_option linter.unusedSimpArgs false

/-- A slice of bytes that came in: it has the bytes zs; where there are any, its row is known. -/
def IsB (w : World) (a : Option Addr) (len cap : Nat) (zs : List Int) : Prop :=
  zs.length = len ∧ len ≤ cap ∧ cap ≤ maxLen ∧ (a = none → len = 0 ∧ cap = 0) ∧ (0 < len → ∃ b off, a = some ⟨b, off, none⟩ ∧ BRow w b off len cap zs)

theorem IsRow.isB {w : World} {a : Option Addr} {len cap : Nat} {zs : List Int} (h : IsRow .u8 w a len cap zs) : IsB w a len cap (zs.take len) := by
  have hle := h.le
  refine ⟨?_, hle.1, hle.2, ?_, ?_⟩
  · rcases h with ⟨_, rfl, _, rfl⟩ | ⟨y, h, hl, hm, hz, hcell, hwz⟩
    · simp
    · simp; omega
  · rcases h with ⟨_, rfl, _, rfl⟩ | ⟨y, rfl, hl, hm, hz, hcell, hwz⟩
    · intro _; exact ⟨rfl, by assumption⟩
    · intro h; cases h
  · intro hp
    obtain ⟨b, off, rfl, hlc, hm, hz, hb, hcell, hwf⟩ := h.at (by omega)
    refine ⟨b, off, rfl, by simp; omega, hlc, hm, fun _ => hb, fun i hi => ?_, range_of_wf (fun n hn => hwf n (List.mem_of_mem_take hn))⟩
    rw [hcell i (by omega), List.getD_eq_getElem?_getD, List.getD_eq_getElem?_getD, List.getElem?_take_of_lt hi]

theorem IsB.old {w W : World} {a : Option Addr} {len cap : Nat} {zs : List Int} (h : IsB w a len cap zs) (hB : Below w.heap.size w W) : IsB W a len cap zs := by
  obtain ⟨h1, h2, h3, h4, h5⟩ := h
  refine ⟨h1, h2, h3, h4, fun hp => ?_⟩
  obtain ⟨b, off, rfl, hR⟩ := h5 hp
  exact ⟨b, off, rfl, hR.old hB⟩

theorem IsB.conv {w : World} {a : Option Addr} {len cap : Nat} {zs : List Int} (h : IsB w a len cap zs) :
    (convert 24 9 (.slice a len cap)).run Try.prog w = .ok (.string (strOfNums zs)) w := by
  obtain ⟨h1, h2, h3, h4, h5⟩ := h
  by_cases hp : 0 < len
  · obtain ⟨b, off, rfl, hR⟩ := h5 hp
    exact hR.conv
  · obtain rfl : len = 0 := by omega
    obtain rfl : zs = [] := List.eq_nil_of_length_eq_zero h1
    exact conv_void a cap w

theorem IsB.range {w : World} {a : Option Addr} {len cap : Nat} {zs : List Int} (h : IsB w a len cap zs) : ∀ j : Nat, 0 ≤ zs[j]?.getD 0 ∧ zs[j]?.getD 0 ≤ 255 := by
  obtain ⟨h1, h2, h3, h4, h5⟩ := h
  by_cases hp : 0 < len
  · obtain ⟨b, off, rfl, hR⟩ := h5 hp
    exact hR.rng
  · obtain rfl : zs = [] := List.eq_nil_of_length_eq_zero (by omega)
    intro j; simp

theorem IsB.news {w : World} {x : Addr} {len cap : Nat} {zs : List Int} (h : IsB w (some x) len cap zs) :
    ∀ j u, (zs.map (Value.int .u8))[j]? = some u → w.cell? (x.add j) = some u := by
  obtain ⟨h1, h2, h3, h4, h5⟩ := h
  intro j u hj
  have hjl : j < len := by have := (List.getElem?_eq_some_iff.1 hj).1; simp at this; omega
  obtain ⟨b, off, hx, hR⟩ := h5 (by omega)
  cases hx
  have hplain : (⟨b, off, none⟩ : Addr).add j = ⟨b, off + j, none⟩ := by unfold Addr.add; split <;> simp_all
  rw [hplain, hR.cell j hjl, ← hj, List.getElem?_map, List.getD_eq_getElem?_getD, List.getElem?_eq_getElem (by omega)]
  rfl

theorem OwnB.mono {w : World} {base base' : Nat} {v : Value} {n : Nat} {X : List Int} (h : OwnB w base v n X) (hb : base' ≤ base) : OwnB w base' v n X := by
  obtain ⟨h1, h2⟩ := h
  refine ⟨h1, ?_⟩
  rcases h2 with h2 | ⟨g, cap, cur, h3, h4, h5⟩
  · exact .inl h2
  · exact .inr ⟨g, cap, cur, h3, Nat.le_trans hb h4, h5⟩

theorem u64_m1 : putL (IntKind.u64.wrap (-1)) 4 = [255, 255, 255, 255] := by decide +kernel
theorem u64_m2 : putL (IntKind.u64.wrap (-2)) 4 = [255, 255, 255, 254] := by decide +kernel

theorem append_bytes_run {w : World} {base : Nat} {v : Value} {n : Nat} {X : List Int} (hown : OwnB w base v n X) {xa : Option Addr} {len cap : Nat} {zs : List Int} (hB : IsB w xa len cap zs) (hbd : n + len ≤ 140737488355328) (hbase : base ≤ w.heap.size) (ty : TypeId) :
    ∃ v' w', (Builtin.append_ #[24, 24] ty #[v, .slice xa len cap]).run Try.prog w = .ok v' w' ∧ OwnB w' base v' (n + len) (X ++ zs) ∧ Below base w w' := by
  obtain ⟨i0, hi, hz0, hz1, hz2⟩ := info_parts Try.info5
  cases xa with
  | none =>
    obtain ⟨h1, h2, h3, h4, h5⟩ := hB
    obtain ⟨rfl, rfl⟩ := h4 rfl
    obtain rfl : zs = [] := List.eq_nil_of_length_eq_zero h1
    refine ⟨v, w, run_append_owned_none (P := Try.prog) (w := w) base 24 ty 5 i0 1 Try.underlying24 hi v n _ hown, ?_, Below.refl _ _⟩
    rw [List.append_nil]; exact hown
  | some x =>
    have hl : (zs.map (Value.int .u8)).length = len * 1 := by rw [List.length_map, hB.1, Nat.mul_one]
    obtain ⟨v', w', hr, h2, h3, h4⟩ := run_append_own (P := Try.prog) w base 24 ty 5 i0 (.int .u8 0) 1 1 Try.underlying24 hi hz0 hz1 hz2 rfl (by decide) v n _ hown x len cap _ hl hB.news (bytes_one zs) (by unfold maxLen; omega) (by omega) hbase
    refine ⟨v', w', hr, OwnB.join h2 rfl, (Below.refl _ _).grown h3 hbase hown.block⟩

theorem step_append_bytes {ops : Array Oper} {o : Oper} {a : Act} {w : World} {K : Act → World → Prop} {Q : Exit → Act → World → Prop} {E : Prop} (hgd : o.guard = none) (s x : Operand)
    (ho : o.op = .call { callee := .builtin .append, args := #[s, x], argTypes := #[24, 24] })
    {base : Nat} {v : Value} {n : Nat} {X : List Int} (hs : a.eval s = v) (hown : OwnB w base v n X) {xa : Option Addr} {len cap : Nat} {zs : List Int} (hx : a.eval x = .slice xa len cap) (hB : IsB w xa len cap zs) (hbd : n + len ≤ 140737488355328) (hbase : base ≤ w.heap.size)
    (h : ∀ v' w', OwnB w' base v' (n + len) (X ++ zs) → Below base w w' → K (a.put o.dst v') w') :
    if Region.wanted o (yielded ops a.tmps) = true then Oper.wp Try.prog o a w K Q else E := by
  have hw : Region.wanted o (yielded ops a.tmps) = true := by simp [Region.wanted, hgd]
  rw [if_pos hw]
  obtain ⟨v', w', hr, h2, h3⟩ := append_bytes_run hown hB hbd hbase o.type
  unfold Oper.wp
  simp [execOp, ho, resolve, invoke, builtin, hs, hx, hr, Result.andThen]
  exact h v' w' h2 h3

theorem wpList_append_bytes {ops : Array Oper} {rest : List Oper} {o : Oper} {a : Act} {w : World} {Q : Exit → Act → World → Prop} (hgd : o.guard = none) (s x : Operand)
    (ho : o.op = .call { callee := .builtin .append, args := #[s, x], argTypes := #[24, 24] })
    {base : Nat} {v : Value} {n : Nat} {X : List Int} (hs : a.eval s = v) (hown : OwnB w base v n X) {xa : Option Addr} {len cap : Nat} {zs : List Int} (hx : a.eval x = .slice xa len cap) (hB : IsB w xa len cap zs) (hbd : n + len ≤ 140737488355328) (hbase : base ≤ w.heap.size)
    (h : ∀ v' w', OwnB w' base v' (n + len) (X ++ zs) → Below base w w' → wpList Try.prog ops Q rest (a.put o.dst v') w') : wpList Try.prog ops Q (o :: rest) a w := by
  refine wpList_plain hgd fun K hK => ?_
  obtain ⟨v', w', hr, h2, h3⟩ := append_bytes_run hown hB hbd hbase o.type
  unfold Oper.wp
  simp [execOp, ho, resolve, invoke, builtin, hs, hx, hr, Result.andThen]
  exact hK _ _ (h v' w' h2 h3)

theorem cell_on {w w1 w2 : World} {u : Value} {s : Nat} (hB : Below (s + 1) w1 w2) (h : w1.cell? ⟨s, 1, none⟩ = some u) : w2.cell? ⟨s, 1, none⟩ = some u := (hB.cell (by simp)).trans h

/-- A row of four bytes that is written out. -/
theorem own_four (w : World) (a b c d : Int) (base H : Nat) (hH : w.heap.size = H) (hb : base ≤ H) : OwnB (w.alloc (.cells #[.int .u8 a, .int .u8 b, .int .u8 c, .int .u8 d] 5)) base (.slice (some ⟨H, 0, none⟩) 4 4) 4 [a, b, c, d] := by
  subst hH
  exact ⟨rfl, .inr ⟨w.heap.size, 4, _, rfl, hb, heap_alloc_new w _, Nat.le_refl _, by unfold maxLen; omega, rfl, rfl⟩⟩
end Go.Proofs.Ytfkhcgkobffpiaa

namespace Go.Proofs.Ytfkhcgkobffpiaa
open Go.RowKit
set_option maxRecDepth 100000
set_option linter.unusedVariables false
set_option linter.unusedSimpArgs false

/-- What a text or a value that is got is: its kind, its bytes, how many bytes are done with, the error. -/
structure Ans where
  kind : Int
  bytes : List Int
  done : Nat
  err : Int

def textA (zs : List Int) : Ans :=
  if zs.length < 2 then ⟨0, [], 0, 10⟩ else if ((zs.length - 2 : Nat) : Int) < numTo zs 2 then ⟨0, [], 0, 10⟩ else ⟨0, (zs.drop 2).take (numTo zs 2).toNat, 2 + (numTo zs 2).toNat, 0⟩

def valueA (zs : List Int) : Ans :=
  if zs.length < 4 then ⟨0, [], 0, 10⟩ else if int4 zs < -2 then ⟨0, [], 0, 11⟩ else if int4 zs = -2 then ⟨1, [], 4, 0⟩ else if int4 zs = -1 then ⟨0, [], 4, 0⟩ else
  if ((zs.length - 4 : Nat) : Int) < int4 zs then ⟨0, [], 0, 10⟩ else ⟨2, (zs.drop 4).take (int4 zs).toNat, 4 + (int4 zs).toNat, 0⟩

/-- What is behind: nothing at an error, else the bytes from a place on. -/
def Behind (w : World) (a r : Option Addr) (lr cr : Nat) (zs : List Int) (d : Nat) (er : Int) : Prop :=
  (er ≠ 0 ∧ lr = 0) ∨ (er = 0 ∧ d ≤ zs.length ∧ 0 < zs.length ∧ ∃ b o off, a = some ⟨b, o, none⟩ ∧ r = some ⟨b, off, none⟩ ∧ b < w.heap.size ∧ BRow w b off lr cr (zs.drop d))

theorem Behind.old {w W : World} {a r : Option Addr} {lr cr : Nat} {zs : List Int} {d : Nat} {er : Int} (h : Behind w a r lr cr zs d er) (hB : Below w.heap.size w W) : Behind W a r lr cr zs d er := by
  rcases h with h | ⟨h1, h2, h3, b, o, off, h0, h4, h5, h6⟩
  · exact .inl h
  · exact .inr ⟨h1, h2, h3, b, o, off, h0, h4, Nat.lt_of_lt_of_le h5 hB.size, h6.old hB⟩

theorem str_nil : ByteArray.empty = strOfNums [] := rfl

theorem BRow.isB {w : World} {b off len cap : Nat} {zs : List Int} (h : BRow w b off len cap zs) : IsB w (some ⟨b, off, none⟩) len cap zs :=
  ⟨h.len_eq, h.le, h.cap_le, (fun e => by cases e), fun _ => ⟨b, off, rfl, h⟩⟩

theorem isB_nil (w : World) : IsB w none 0 0 [] := ⟨rfl, Nat.le_refl _, by unfold maxLen; omega, fun _ => ⟨rfl, rfl⟩, fun h => by omega⟩

/-- A slice's place is new: nil, or a block from base on that is there. -/
def Fresh (base : Nat) (w : World) (x : Option Addr) : Prop := ∀ p, x = some p → base ≤ p.block ∧ p.block < w.heap.size

theorem Fresh.none {base : Nat} {w : World} : Fresh base w Option.none := fun p h => by cases h

theorem Fresh.at {base : Nat} {w : World} {g k : Nat} (h : base ≤ g) (hl : g < w.heap.size) : Fresh base w (some ⟨g, k, Option.none⟩) := fun p e => by cases e; exact ⟨h, hl⟩
end Go.Proofs.Ytfkhcgkobffpiaa

namespace Go.Proofs.Ytfkhcgkobffpiaa
open Go.RowKit
set_option linter.unusedVariables false
set_option linter.unusedSimpArgs false

set_option maxHeartbeats 400000 in
theorem rget_at_short (b : Option Addr) (len cap d n : Nat) (w : World) (h1 : 1 ≤ n) (h2 : n ≤ 8) (hd : d ≤ len) (hm : len ≤ maxLen) (hl : len < d + n) (p q : Int) (hp : p = d) (hq : q = n) :
    Calls Try.prog 26 #[.slice b len cap, .int .i64 p, .int .i64 q] w fun e w' => e = .returned (.tuple #[.int .u64 0, .int .i64 0, .int .i64 10]) ∧ w' = w := by
  subst hp hq
  unfold maxLen at hm
  have h' : decide ((n : Int) < 1) = false := by simp; omega
  have h8 : decide ((8 : Int) < n) = false := by simp; omega
  have h9 : (len : Int) - d < n := by omega
  go_enter Try.func26, Try.ntmps26
  go_wp2
  go_ret3
  exact ⟨rfl, rfl⟩

set_option maxHeartbeats 400000 in
theorem rget_at_yes {w : World} {b off len cap : Nat} {zs : List Int} (h : BRow w b off len cap zs) (d n : Nat) (h1 : 1 ≤ n) (h2 : n ≤ 8) (hl : d + n ≤ len) (p q : Int) (hp : p = d) (hq : q = n) :
    Calls Try.prog 26 #[.slice (some ⟨b, off, none⟩) len cap, .int .i64 p, .int .i64 q] w fun e w' => e = .returned (.tuple #[.int .u64 (numTo (zs.drop d) n), .int .i64 ((d + n : Nat) : Int), .int .i64 0]) ∧ w' = w := by
  subst hp hq
  have hz := h.len_eq
  have hc := h.le
  have hm := h.cap_le
  unfold maxLen at hm
  have hcell := h.cell
  have hr : ∀ j : Nat, 0 ≤ (zs.drop d)[j]?.getD 0 ∧ (zs.drop d)[j]?.getD 0 ≤ 255 := range_drop h.rng d
  have hzl : (zs.drop d).length = len - d := by rw [List.length_drop, hz]
  have HC : Hid (∀ k, k < n → w.cell? ⟨b, off + (d + k), none⟩ = some (.int .u8 ((zs.drop d)[k]?.getD 0))) := by
    intro k hk
    rw [hcell (d + k) (by omega), List.getD_eq_getElem?_getD, List.getElem?_drop]
  have h' : decide ((n : Int) < 1) = false := by simp; omega
  have h8 : decide ((8 : Int) < n) = false := by simp; omega
  have h9 : decide ((len : Int) - d < n) = false := by simp; omega
  generalize zs.drop d = ys at *
  clear h hcell hz
  go_enter Try.func26, Try.ntmps26
  go_wp2
  go_loop [9, 10] (fun x i => ∃ k : Nat, k ≤ n ∧ i = .int .i64 k ∧ x = .int .u64 (numTo ys k)) (fun _ i => n - (intOf i).toNat)
  case atStart => exact ⟨0, by omega, rfl, rfl⟩
  case round =>
    obtain ⟨k, hk, rfl, rfl⟩ := hrel
    by_cases hlt : k < n
    · have hck := HC.out k hlt
      have hrk := hr k
      have hb1 := numTo_lt ys hr (k + 1) (by omega) (by omega)
      have hb0 := numTo_lt ys hr k (by omega) (by omega)
      have hs := numTo_succ ys k (by omega)
      rw [hs] at hb1
      have HE : Hid (numTo ys (k + 1) = numTo ys k * 256 + ys[k]?.getD 0) := hs
      clear hr hs
      go_wp2
      go_round
      case rel => exact ⟨k + 1, by omega, by go_num, by rw [HE.out]⟩
      case measure => simp [intOf]; omega
    · have e : k = n := by omega
      subst e
      clear hr
      go_wp2
      go_ret3
      exact ⟨by simp, rfl⟩

/-- The text of a piece of a row. -/
theorem BRow.piece {w : World} {b off len cap : Nat} {zs : List Int} (h : BRow w b off len cap zs) (at_ n off' c : Nat) (hn : at_ + n ≤ len) (ho : 0 < n → off' = off + at_) :
    (convert 24 9 (.slice (some ⟨b, off', none⟩) n c)).run Try.prog w = .ok (.string (strOfNums ((zs.drop at_).take n))) w := by
  have hl := h.len_eq
  refine run_convert_bytes_arg (P := Try.prog) w 24 5 Try.underlying24 Try.underlying5 b off' n c _ (by simp; omega) (fun i hi => ?_) 9 Try.underlying9
  rw [ho (by omega), Nat.add_assoc, h.cell (at_ + i) (by omega), List.getD_eq_getElem?_getD, List.getD_eq_getElem?_getD, List.getElem?_take_of_lt hi, List.getElem?_drop]


end Go.Proofs.Ytfkhcgkobffpiaa
