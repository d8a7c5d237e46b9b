/-
  The contracts of prims.Text, Long, Consistency and of the document's Text and Long.
-/
import Derived.Test.YtabadlgjocgkjaaValueGet
import Derived.Lib.AppendStr
namespace Go.Proofs.Ytabadlgjocgkjaa
open Go.RowKit
set_option linter.unusedVariables false
set_option linter.unusedSimpArgs false

/-- A text's bytes as numbers. -/
def sNums (s : ByteArray) : List Int := s.data.toList.map fun c => (c.toNat : Int)

theorem sNums_cells (s : ByteArray) : Lib.strCells s = (sNums s).map (Value.int .u8) := by
  simp [Lib.strCells, sNums, Function.comp_def]

theorem sNums_length (s : ByteArray) : (sNums s).length = s.size := by
  rw [sNums, List.length_map, Array.length_toList]
  rfl

theorem sNums_range (s : ByteArray) : ∀ j : Nat, 0 ≤ (sNums s)[j]?.getD 0 ∧ (sNums s)[j]?.getD 0 ≤ 255 := by
  intro j
  by_cases h : j < (sNums s).length
  · rw [List.getElem?_eq_getElem h, Option.getD_some]
    have hj : j < s.data.toList.length := by simpa [sNums] using h
    have : (sNums s)[j] = ((s.data.toList[j]).toNat : Int) := by simp [sNums]
    rw [this]
    have := (s.data.toList[j]).toNat_lt
    omega
  · rw [List.getElem?_eq_none (by omega)]; simp

theorem strOfNums_sNums (s : ByteArray) : strOfNums (sNums s) = s := by
  apply ByteArray.ext
  apply Array.ext'
  simp [strOfNums, sNums, Function.comp_def]

theorem range_append {A B : List Int} (hA : ∀ j : Nat, 0 ≤ A[j]?.getD 0 ∧ A[j]?.getD 0 ≤ 255) (hB : ∀ j : Nat, 0 ≤ B[j]?.getD 0 ∧ B[j]?.getD 0 ≤ 255) :
    ∀ j : Nat, 0 ≤ (A ++ B)[j]?.getD 0 ∧ (A ++ B)[j]?.getD 0 ≤ 255 := by
  intro j
  by_cases h : j < A.length
  · rw [List.getElem?_append_left h]; exact hA j
  · rw [List.getElem?_append_right (by omega)]; exact hB _

/-- A slice that owns its row of bytes X, n long. -/
def OwnB (w : World) (base : Nat) (v : Value) (n : Nat) (X : List Int) : Prop := w.ownsRow base 5 1 v n (X.map (Value.int .u8))

theorem OwnB.len {w : World} {base : Nat} {v : Value} {n : Nat} {X : List Int} (h : OwnB w base v n X) : X.length = n := by
  have := h.1; simpa using this

theorem OwnB.row {w : World} {base : Nat} {v : Value} {n : Nat} {X : List Int} (h : OwnB w base v n X) (hp : 0 < n) (hr : ∀ j : Nat, 0 ≤ X[j]?.getD 0 ∧ X[j]?.getD 0 ≤ 255) :
    ∃ g cap, v = .slice (some ⟨g, 0, none⟩) n cap ∧ base ≤ g ∧ g < w.heap.size ∧ BRow w g 0 n cap X := by
  obtain ⟨g, cap, rfl, hnc, hcm, hg, hgs, hcell⟩ := own_full h hp
  exact ⟨g, cap, rfl, hg, hgs, h.len, hnc, hcm, fun _ => hgs, fun i hi => by rw [Nat.zero_add]; exact hcell i hi, hr⟩

theorem putCells_full (x : Int) (n : Nat) : (putCells x n n).toList = (putL x n).map (Value.int .u8) := by
  simp only [putCells, putL, List.map_map]
  apply List.map_congr_left
  intro i hi
  rw [List.mem_range] at hi
  simp [hi]

theorem put_own (x : Int) (n : Nat) (w : World) (h1 : 1 ≤ n) (h2 : n ≤ 8) (hx : 0 ≤ x) (m : Int) (hm : m = n) :
    Calls Try.prog 31 #[.int .u64 x, .int .i64 m] w fun e w' => ∃ v, e = .returned v ∧ OwnB w' w.heap.size v n (putL x n) ∧ Below w.heap.size w w' := by
  subst hm
  refine (put_yes x n w h1 h2 hx).mono ?_
  rintro e w' ⟨rfl, rfl⟩
  refine ⟨_, rfl, ⟨by simp [putL_length], .inr ⟨w.heap.size, n, putCells x n n, rfl, Nat.le_refl _, heap_alloc_new w _, Nat.le_refl _, by unfold maxLen; omega, by simp [putCells_size], ?_⟩⟩, below_one _ _⟩
  rw [Nat.mul_one, putCells_full, List.take_of_length_le (by simp [putL_length])]

theorem OwnB.join {w : World} {base : Nat} {v : Value} {n m : Nat} {X Y : List Int} {cs : List Value} (h : w.ownsRow base 5 1 v (n + m) (X.map (Value.int .u8) ++ cs)) (hc : cs = Y.map (Value.int .u8)) : OwnB w base v (n + m) (X ++ Y) := by
  subst hc; rw [← List.map_append] at h; exact h

theorem OwnB.block {w : World} {base : Nat} {v : Value} {n : Nat} {X : List Int} (h : OwnB w base v n X) : ∀ k, v.ownBlock = some k → base ≤ k := fun k hk => (World.ownsRow.lt h k hk).1
end Go.Proofs.Ytabadlgjocgkjaa
