/-
  The contracts of the small functions of package octets, over the translation.
-/
import Derived.Test.YtnapeecmlkkolaaDoorRows
import Derived.Test.YtnapeecmlkkolaaDoorMath
import Derived.WalkKit
import Derived.WalkSpells
import Derived.WalkLawsBesides
import Derived.Deep.QuietTactic
import Derived.BigQuiet
import Derived.Deep.OwnRows
namespace Go.Proofs.YtnapeecmlkkolaaDoor
open Go.RowKit
set_option linter.unusedVariables false

def fitsB (n : Int) : Bool := decide (1 ≤ n) && decide (n ≤ 8)

set_option maxHeartbeats 400000 in
theorem fits_any (n : Int) (w : World) :
    Calls Tryd.prog 86 #[.int .i64 n] w fun e w' => e = .returned (.bool (fitsB n)) ∧ w' = w := by
  by_cases h : 1 ≤ n
  · go_enter Tryd.func86, Tryd.ntmps86
    go_wp2
    go_ret
    exact ⟨by simp [fitsB, h], rfl⟩
  · have hd : decide (1 ≤ n) = false := by simpa using h
    go_enter Tryd.func86, Tryd.ntmps86
    go_wp2
    go_ret
    exact ⟨by simp [fitsB, hd], rfl⟩


theorem Tryd.info5 : (Tryd.prog.info? 5).map (fun i => (i.zero, i.size, i.bytes)) = some (some (.int .u8 0), 1, 1) := by kernel_rfl

/-- The cells of a new row of n bytes of which the first k are laid. -/
def putCells (x : Int) (n k : Nat) : Array Value := ((List.range n).map fun i => if i < k then Value.int .u8 (byteAt x n i) else .int .u8 0).toArray

theorem putCells_zero (x : Int) (n : Nat) : putCells x n 0 = madeCells #[.int .u8 0] n := by
  apply Array.ext'
  rw [toList_madeCells_one]
  simp [putCells, List.map_const']

theorem putCells_size (x : Int) (n k : Nat) : (putCells x n k).size = n := by simp [putCells]

theorem putCells_set (x : Int) (n k : Nat) (h : k < n) : (putCells x n k).setIfInBounds k (.int .u8 (byteAt x n k)) = putCells x n (k + 1) := by
  apply Array.ext (by simp [putCells])
  intro i h1 h2
  rw [Array.getElem_setIfInBounds]
  · by_cases e : k = i
    · subst e; simp [putCells]
    · rw [if_neg e]
      simp only [putCells, List.getElem_toArray, List.getElem_map, List.getElem_range]
      by_cases hi : i < k
      · rw [if_pos hi, if_pos (by omega)]
      · rw [if_neg hi, if_neg (by omega)]
  · simpa using h1

theorem putCells_at (x : Int) (n k : Nat) (h : k < n) : (putCells x n k)[k]? = some (.int .u8 0) := by
  simp [putCells, h]

set_option maxHeartbeats 400000 in
theorem put_yes (x : Int) (n : Nat) (w : World) (h1 : 1 ≤ n) (h2 : n ≤ 8) (hx : 0 ≤ x) :
    Calls Tryd.prog 80 #[.int .u64 x, .int .i64 n] w fun e w' => e = .returned (.slice (some ⟨w.heap.size, 0, none⟩) n n) ∧ w' = w.alloc (.cells (putCells x n n) 5) := by
  have hb : fitsB (n : Int) = true := by simp [fitsB]; omega
  have hmk := run_make_row' (P := Tryd.prog) 22 5 (.int .u8 0) 1 Tryd.underlying22 Tryd.info5 rfl .i64 .i64 n (by omega) (by omega)
  go_enter Tryd.func80, Tryd.ntmps80
  go_wp2_with (go_at_call 86; refine (fits_any _ _).mono ?_; rintro e w' ⟨rfl, rfl⟩)
  go_loopw [13] (fun i wr => ∃ k : Nat, k ≤ n ∧ i = .int .i64 k ∧ wr = w'.alloc (.cells (putCells x n k) 5)) (fun i _ => n - (intOf i).toNat)
  case atStart => exact ⟨0, by omega, rfl, by rw [putCells_zero]⟩
  case round =>
    obtain ⟨k, hk, rfl, rfl⟩ := hrel
    by_cases hlt : k < n
    · have hc := putCells_at x n k hlt
      go_wp2
      go_roundw
      case rel => exact ⟨k + 1, by omega, by go_num, by rw [← putCells_set x n k hlt]; rfl⟩
      case measure => simp [intOf]; omega
    · have e : k = n := by omega
      subst e
      go_wp2
      go_ret
      exact ⟨rfl, rfl⟩

theorem fitsB_no {n : Int} (h : n < 1 ∨ 8 < n) : fitsB n = false := by
  simp only [fitsB, Bool.and_eq_false_iff, decide_eq_false_iff_not]; omega

set_option maxHeartbeats 400000 in
theorem put_no (x n : Int) (w : World) (h : n < 1 ∨ 8 < n) :
    Calls Tryd.prog 80 #[.int .u64 x, .int .i64 n] w fun e w' => e = .returned (.slice none 0 0) ∧ w' = w := by
  have hb := fitsB_no h
  clear h
  go_enter Tryd.func80, Tryd.ntmps80
  go_wp2_with (go_at_call 86; refine (fits_any _ _).mono ?_; rintro e w' ⟨rfl, rfl⟩)
  go_ret
  exact ⟨rfl, rfl⟩

set_option maxHeartbeats 400000 in
theorem get_no (b : Option Addr) (len cap : Nat) (n : Int) (w : World) (h : n < 1 ∨ 8 < n) :
    Calls Tryd.prog 78 #[.slice b len cap, .int .i64 n] w fun e w' => e = .returned (.tuple #[.int .u64 0, .slice none 0 0, .int .i64 1]) ∧ w' = w := by
  have hb := fitsB_no h
  clear h
  go_enter Tryd.func78, Tryd.ntmps78
  go_wp2_with (go_at_call 86; refine (fits_any _ _).mono ?_; rintro e w' ⟨rfl, rfl⟩)
  go_ret3
  exact ⟨rfl, rfl⟩

set_option maxHeartbeats 400000 in
theorem get_short (b : Option Addr) (len cap n : Nat) (w : World) (h1 : 1 ≤ n) (h2 : n ≤ 8) (hl : len < n) :
    Calls Tryd.prog 78 #[.slice b len cap, .int .i64 n] w fun e w' => e = .returned (.tuple #[.int .u64 0, .slice none 0 0, .int .i64 10]) ∧ w' = w := by
  have hb : fitsB (n : Int) = true := by simp [fitsB]; omega
  go_enter Tryd.func78, Tryd.ntmps78
  go_wp2_with (go_at_call 86; refine (fits_any _ _).mono ?_; rintro e w' ⟨rfl, rfl⟩)
  go_ret3
  exact ⟨rfl, rfl⟩

set_option maxHeartbeats 400000 in
theorem get_yes (b off len cap n : Nat) (zs : List Int) (w : World) (h1 : 1 ≤ n) (h2 : n ≤ 8) (hl : n ≤ len) (hc : len ≤ cap) (hm : cap ≤ maxLen)
    (hcell : ∀ i, i < len → w.cell? ⟨b, off + i, none⟩ = some (.int .u8 (zs.getD i 0))) (hz : len ≤ zs.length) (hr : ∀ j : Nat, 0 ≤ zs[j]?.getD 0 ∧ zs[j]?.getD 0 ≤ 255) :
    Calls Tryd.prog 78 #[.slice (some ⟨b, off, none⟩) len cap, .int .i64 n] w fun e w' => ∃ off' q, (n < len → off' = off + n) ∧
      e = .returned (.tuple #[.int .u64 (numTo zs n), .slice (some ⟨b, off', none⟩) (len - n) (cap - n), .int .i64 0]) ∧ w' = w.drewN q := by
  have hb : fitsB (n : Int) = true := by simp [fitsB]; omega
  unfold maxLen at hm
  go_enter Tryd.func78, Tryd.ntmps78
  go_wp2_with (go_at_call 86; refine (fits_any _ _).mono ?_; rintro e w' ⟨rfl, rfl⟩)
  go_loop [7, 17] (fun x i => ∃ k : Nat, k ≤ n ∧ i = .int .i64 k ∧ x = .int .u64 (numTo zs k)) (fun _ i => n - (intOf i).toNat)
  case atStart => exact ⟨0, by omega, rfl, rfl⟩
  case round =>
    obtain ⟨k, hk, rfl, rfl⟩ := hrel
    by_cases hlt : k < n
    · have hck := hcell k (by omega)
      have hrk := hr k
      have hb1 := numTo_lt zs hr (k + 1) (by omega) (by omega)
      have hb0 := numTo_lt zs hr k (by omega) (by omega)
      have HE : Hid (bits .or .u64 (IntKind.u64.wrap (numTo zs k * 256)) (zs[k]?.getD 0) = numTo zs (k + 1)) := by
        rw [numTo_succ zs k (by omega)] at hb1 ⊢
        exact or_byte _ _ hb0.1 (by omega) hrk.1 hrk.2
      clear hb1 hb0 hr
      go_wp2
      go_round
      case rel => exact ⟨k + 1, by omega, by go_num, by rw [HE.out]⟩
      case measure => simp [intOf]; omega
    · have e : k = n := by omega
      subst e
      clear hcell hr
      by_cases hck : cap = k
      · subst hck
        go_wp2
        go_quiet (fail)
        go_wp2
        go_ret3
        refine ⟨off, _, fun h => by omega, by simp; omega, rfl⟩
      · go_wp2
        go_quiet (fail)
        go_wp2
        go_ret3
        refine ⟨off + k, _, fun h => rfl, rfl, rfl⟩

theorem fitsB_yes {n : Nat} (h1 : 1 ≤ n) (h2 : n ≤ 8) : fitsB (n : Int) = true := by simp [fitsB]; omega


end Go.Proofs.YtnapeecmlkkolaaDoor
