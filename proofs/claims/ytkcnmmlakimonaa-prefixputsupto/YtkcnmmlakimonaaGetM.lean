/-
  The contract of maps.GetMultis.
-/
import Derived.Test.YtkcnmmlakimonaaGetP
namespace Go.Proofs.Ytkcnmmlakimonaa
open Go.RowKit
set_option maxRecDepth 100000
set_option linter.unusedVariables false
set_option linter.unusedSimpArgs false

theorem Fresh.old {base : Nat} {w W : World} {x : Option Addr} (h : Fresh base w x) (hs : w.heap.size ≤ W.heap.size) : Fresh base W x := fun p hp => ⟨(h p hp).1, Nat.lt_of_lt_of_le (h p hp).2 hs⟩
theorem Fresh.mono {base base' : Nat} {w : World} {x : Option Addr} (h : Fresh base w x) (hb : base' ≤ base) : Fresh base' w x := fun p hp => ⟨Nat.le_trans hb (h p hp).1, (h p hp).2⟩

/-- Two cells of one block are written: the others stay. -/
theorem two_far (w : World) (s : Nat) (u v : Value) : ∀ k, k < w.heap.size → some k ≠ some s → ((w.setCell ⟨s, 0, none⟩ u).setCell ⟨s, 1, none⟩ v).heap[k]? = w.heap[k]? := by
  intro k hk hne
  rw [Below.heap_setCell _ _ _ _ (by simpa using hne), Below.heap_setCell _ _ _ _ (by simpa using hne)]

theorem Fresh.far {base : Nat} {w : World} {x : Option Addr} {l c s : Nat} (h : Fresh base w x) (hs : s < base) : ∀ k, (Value.slice x l c).ownBlock = some k → some s ≠ some k := by
  intro k hk e
  cases x with
  | none => simp [Value.ownBlock] at hk
  | some p =>
    simp [Value.ownBlock] at hk
    have := (h p rfl).1
    cases e
    omega

theorem fresh_block {H base base0 : Nat} {w : World} {v : Value} (s : ByteArray) {x : Option Addr} {l c : Nat} (hb0 : base0 ≤ base) (hF : Fresh base w x) (hH : w.heap.size ≤ H) (hv : ∀ k, v.ownBlock = some k → k < base) :
    ∀ j k, j < 2 → ([Value.string s, Value.slice x l c].getD j default).ownBlock = some k → k < H ∧ v.ownBlock ≠ some k ∧ base0 ≤ k := by
  intro j k hj hk
  match j, hj with
  | 0, _ => simp [Value.ownBlock] at hk
  | 1, _ =>
    cases x with
    | none => simp [Value.ownBlock] at hk
    | some p =>
      simp [Value.ownBlock] at hk
      have := hF p rfl
      refine ⟨by omega, fun e => ?_, by omega⟩
      have := hv k e
      omega
end Go.Proofs.Ytkcnmmlakimonaa
