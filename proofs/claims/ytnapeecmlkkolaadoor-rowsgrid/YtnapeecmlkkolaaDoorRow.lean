/-
  A row of bytes that a slice leads to, and the contracts of octets.Get and octets.Take said over it.
-/
import Derived.Test.YtnapeecmlkkolaaDoorRefPut
namespace Go.Proofs.YtnapeecmlkkolaaDoor
open Go.RowKit
set_option linter.unusedVariables false
set_option linter.unusedSimpArgs false

/-- The slice at block b from off on, len long, has the bytes zs. -/
structure BRow (w : World) (b off len cap : Nat) (zs : List Int) : Prop where
  len_eq : zs.length = len
  le : len ≤ cap
  cap_le : cap ≤ maxLen
  lt : 0 < len → b < w.heap.size
  cell : ∀ i, i < len → w.cell? ⟨b, off + i, none⟩ = some (.int .u8 (zs.getD i 0))
  rng : ∀ j : Nat, 0 ≤ zs[j]?.getD 0 ∧ zs[j]?.getD 0 ≤ 255

theorem BRow.below {w W : World} {b off len cap : Nat} {zs : List Int} (h : BRow w b off len cap zs) {base : Nat} (hB : Below base w W) (hb : 0 < len → b < base) : BRow W b off len cap zs :=
  ⟨h.len_eq, h.le, h.cap_le, fun hl => Nat.lt_of_lt_of_le (h.lt hl) hB.size, fun i hi => (hB.cell (hb (by omega))).trans (h.cell i hi), h.rng⟩

theorem BRow.old {w W : World} {b off len cap : Nat} {zs : List Int} (h : BRow w b off len cap zs) (hB : Below w.heap.size w W) : BRow W b off len cap zs := h.below hB h.lt

theorem range_drop {zs : List Int} (h : ∀ j : Nat, 0 ≤ zs[j]?.getD 0 ∧ zs[j]?.getD 0 ≤ 255) (k : Nat) : ∀ j : Nat, 0 ≤ (zs.drop k)[j]?.getD 0 ∧ (zs.drop k)[j]?.getD 0 ≤ 255 := by
  intro j; rw [List.getElem?_drop]; exact h _

theorem range_take {zs : List Int} (h : ∀ j : Nat, 0 ≤ zs[j]?.getD 0 ∧ zs[j]?.getD 0 ≤ 255) (k : Nat) : ∀ j : Nat, 0 ≤ (zs.take k)[j]?.getD 0 ∧ (zs.take k)[j]?.getD 0 ≤ 255 := by
  intro j
  by_cases hj : j < k
  · rw [List.getElem?_take_of_lt hj]; exact h _
  · rw [List.getElem?_eq_none (by simp; omega)]; simp

theorem BRow.drop {w : World} {b off off' len cap : Nat} {zs : List Int} (h : BRow w b off len cap zs) (k : Nat) (hk : k ≤ len) (ho : k < len → off' = off + k) : BRow w b off' (len - k) (cap - k) (zs.drop k) := by
  have hl := h.len_eq
  have hc := h.le
  have hm := h.cap_le
  refine ⟨by simp; omega, by omega, by omega, fun hp => h.lt (by omega), fun i hi => ?_, range_drop h.rng k⟩
  rw [ho (by omega), Nat.add_assoc, h.cell (k + i) (by omega), List.getD_eq_getElem?_getD, List.getD_eq_getElem?_getD, List.getElem?_drop]

theorem BRow.conv {w : World} {b off len cap : Nat} {zs : List Int} (h : BRow w b off len cap zs) :
    (convert 22 9 (.slice (some ⟨b, off, none⟩) len cap)).run Tryd.prog w = .ok (.string (strOfNums zs)) w :=
  run_convert_bytes_arg (P := Tryd.prog) w 22 5 Tryd.underlying22 Tryd.underlying5 b off len cap zs h.len_eq h.cell 9 Tryd.underlying9

theorem row_cell {w : World} {g : Nat} {X : List Int} (h : w.heap[g]? = some (.cells (X.map (Value.int .u8)).toArray 5 (0, 0))) (i : Nat) (hi : i < X.length) :
    w.cell? ⟨g, i, none⟩ = some (.int .u8 (X.getD i 0)) := by
  rw [Lib.cell_of_heap h]; simp [hi]

/-- octets.Get, enough bytes. -/
theorem bget {w : World} {b off len cap : Nat} {zs : List Int} (h : BRow w b off len cap zs) (n : Nat) (h1 : 1 ≤ n) (h2 : n ≤ 8) (hl : n ≤ len) (m : Int) (hm : m = n) :
    Calls Tryd.prog 78 #[.slice (some ⟨b, off, none⟩) len cap, .int .i64 m] w fun e w' => ∃ off', e = .returned (.tuple #[.int .u64 (numTo zs n), .slice (some ⟨b, off', none⟩) (len - n) (cap - n), .int .i64 0]) ∧
      BRow w' b off' (len - n) (cap - n) (zs.drop n) ∧ Below w.heap.size w w' := by
  subst hm
  refine (get_yes b off len cap n zs w h1 h2 hl h.le h.cap_le h.cell (by have := h.len_eq; omega) h.rng).mono ?_
  rintro e w' ⟨off', q, ho, rfl, rfl⟩
  have hB : Below w.heap.size w (w.drewN q) := below_drewN (Below.refl _ _) q
  exact ⟨off', rfl, (h.old hB).drop n hl ho, hB⟩

theorem bget_short (a : Option Addr) (len cap n : Nat) (w : World) (h1 : 1 ≤ n) (h2 : n ≤ 8) (hl : len < n) (m : Int) (hm : m = n) :
    Calls Tryd.prog 78 #[.slice a len cap, .int .i64 m] w fun e w' => e = .returned (.tuple #[.int .u64 0, .slice none 0 0, .int .i64 10]) ∧ w' = w := by
  subst hm; exact get_short a len cap n w h1 h2 hl

/-- octets.Take, enough bytes. -/
theorem btake {w : World} {b off len cap : Nat} {zs : List Int} (h : BRow w b off len cap zs) (n : Nat) (hl : n ≤ len) (hsm : len ≤ 140737488351232) (m : Int) (hm : m = n) :
    Calls Tryd.prog 68 #[.slice (some ⟨b, off, none⟩) len cap, .int .u64 m] w fun e w' => ∃ off', e = .returned (.tuple #[.slice (some ⟨w.heap.size, 0, none⟩) n n, .slice (some ⟨b, off', none⟩) (len - n) (cap - n), .int .i64 0]) ∧
      BRow w' w.heap.size 0 n n (zs.take n) ∧ BRow w' b off' (len - n) (cap - n) (zs.drop n) ∧ Below w.heap.size w w' ∧ w.heap.size < w'.heap.size := by
  subst hm
  have hz := h.len_eq
  refine (take_yes b off len cap n zs w hl h.le h.cap_le hsm h.cell (by omega) h.lt).mono ?_
  rintro e w' ⟨off', ho, rfl, hrow, hB⟩
  have hX : (zs.take n).length = n := by simp; omega
  refine ⟨off', rfl, ⟨hX, Nat.le_refl _, by unfold maxLen; omega, fun hp => ?_, fun i hi => ?_, range_take h.rng n⟩, (h.old hB).drop n hl ho, hB, (Array.getElem?_eq_some_iff.1 hrow).1⟩
  · exact block_lt_of_cell (row_cell hrow 0 (by omega))
  · rw [Nat.zero_add]; exact row_cell hrow i (by omega)

theorem btake_short (a : Option Addr) (len cap : Nat) (n : Int) (w : World) (hm : len ≤ maxLen) (h : (len : Int) < n) :
    Calls Tryd.prog 68 #[.slice a len cap, .int .u64 n] w fun e w' => e = .returned (.tuple #[.slice none 0 0, .slice none 0 0, .int .i64 10]) ∧ w' = w := take_short a len cap n w hm h
end Go.Proofs.YtnapeecmlkkolaaDoor
