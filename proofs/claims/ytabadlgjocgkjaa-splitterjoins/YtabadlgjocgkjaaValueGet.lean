/-
  The contract of prims.GetValue.
-/
import Derived.Test.YtabadlgjocgkjaaTextGet
namespace Go.Proofs.Ytabadlgjocgkjaa
open Go.RowKit
set_option linter.unusedVariables false
set_option linter.unusedSimpArgs false

theorem bcell {W w1 : World} (hb : Below W.heap.size W w1) : (∀ b o, b < W.heap.size → w1.cell? ⟨b, o, none⟩ = W.cell? ⟨b, o, none⟩) ∧ (∀ b o, b < W.heap.size → w1.frozen? ⟨b, o, none⟩ = W.frozen? ⟨b, o, none⟩) :=
  ⟨fun b o h => hb.cell (p := ⟨b, o, none⟩) h, fun b o h => hb.frozen (p := ⟨b, o, none⟩) h⟩

theorem below_one (w : World) (o : Obj) : Below w.heap.size w (w.alloc o) := (Below.refl _ _).alloc (Nat.le_refl _) _

theorem BRow.set {w : World} {b off len cap : Nat} {zs : List Int} (h : BRow w b off len cap zs) {g k : Nat} (hg : g ≠ b) (v : Value) : BRow (w.setCell ⟨g, k, none⟩ v) b off len cap zs :=
  ⟨h.len_eq, h.le, h.cap_le, fun hl => by simpa using h.lt hl, fun i hi => (World.cell?_setCell_other (w := w) (a := ⟨g, k, none⟩) (b := ⟨b, off + i, none⟩) (v := v) (by intro e; cases e; exact hg rfl)).trans (h.cell i hi), h.rng⟩

theorem below_two {w w1 : World} {o : Obj} (hB : Below (w.alloc o).heap.size (w.alloc o) w1) (u v : Value) : Below w.heap.size w ((w1.setCell ⟨w.heap.size, 0, none⟩ u).setCell ⟨w.heap.size, 1, none⟩ v) :=
  (((below_one w o).trans (hB.mono (by simp))).setCell (Nat.le_refl _) _).setCell (Nat.le_refl _) _

theorem below_on (w1 : World) (s : Nat) (u v : Value) : Below s w1 ((w1.setCell ⟨s, 0, none⟩ u).setCell ⟨s, 1, none⟩ v) :=
  ((Below.refl s w1).setCell (p := ⟨s, 0, none⟩) (Nat.le_refl _) u).setCell (p := ⟨s, 1, none⟩) (Nat.le_refl _) v

theorem int4_tests {zs : List Int} (h : 0 ≤ int4 zs) : decide (int4 zs < -2) = false ∧ (int4 zs == -2) = false ∧ (int4 zs == -1) = false := by
  refine ⟨by simp; omega, by simp; omega, by simp; omega⟩
end Go.Proofs.Ytabadlgjocgkjaa
