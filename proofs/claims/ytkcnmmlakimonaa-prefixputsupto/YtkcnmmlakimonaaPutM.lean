/-
  The contract of maps.Multis.
-/
import Derived.Test.YtkcnmmlakimonaaPutP
namespace Go.Proofs.Ytkcnmmlakimonaa
open Go.RowKit
set_option maxRecDepth 100000
set_option linter.unusedVariables false
set_option linter.unusedSimpArgs false

theorem goB_len {α : Type} (f : α → List Int × Int) (M : Nat) (xs : List α) (hM : ∀ x ∈ xs, (f x).1.length ≤ M) : ∀ acc, (goB f xs acc).1.length ≤ acc.length + xs.length * M := by
  induction xs with
  | nil => intro acc; simp [goB]
  | cons x r ih =>
    intro acc
    rw [goB]
    split
    · have h1 := ih (fun y hy => hM y (List.mem_cons_of_mem _ hy)) (acc ++ (f x).1)
      have h2 := hM x List.mem_cons_self
      rw [List.length_append] at h1
      rw [List.length_cons, Nat.succ_mul]
      omega
    · simp

theorem listB_len {α : Type} (f : α → List Int × Int) (M : Nat) (xs : List α) (hM : ∀ x ∈ xs, (f x).1.length ≤ M) : (listB f xs).1.length ≤ 2 + xs.length * M := by
  by_cases h : xs.length ≤ 65535
  · rw [listB, if_pos h]
    have h2 := goB_len f M xs hM (putL xs.length 2)
    rw [putL_length] at h2
    exact h2
  · rw [listB, if_neg h]; simp

theorem listB_textB_len (ss : List ByteArray) : (listB textB ss).1.length ≤ 2 + 65535 * 65537 := by
  by_cases h : ss.length ≤ 65535
  · have h1 := listB_len textB 65537 ss (fun x _ => textB_len x)
    exact Nat.le_trans h1 (Nat.add_le_add_left (Nat.mul_le_mul_right _ h) _)
  · rw [listB, if_neg h]; exact Nat.zero_le _

/-- The cells of a map of lists. -/
theorem View.multi {w : World} {a : Option Addr} {len cap : Nat} {ss : List (ByteArray × List ByteArray)} (h : View 2 VM w a len cap ss) {k : Nat} (hk : k < len) :
    ∃ b off a1 l1 c1, a = some ⟨b, off, none⟩ ∧ w.cell? ⟨b, off + k * 2, none⟩ = some (.string (ss.getD k default).1) ∧ w.cell? ⟨b, off + k * 2 + 1, none⟩ = some (.slice a1 l1 c1) ∧ View 1 VS w a1 l1 c1 (ss.getD k default).2 := by
  obtain ⟨h1, h2, h3, h4, h5⟩ := h
  obtain ⟨b, off, ha, hb, hc⟩ := h5 (by omega)
  obtain ⟨c, hcell, hv0, a1, l1, c1, hv1, hv⟩ := hc k hk
  have h0 := hcell 0 (by omega)
  have h1 := hcell 1 (by omega)
  rw [hv0] at h0
  rw [hv1] at h1
  exact ⟨b, off, a1, l1, c1, ha, by simpa using h0, by rw [Nat.add_assoc]; exact h1, hv⟩
end Go.Proofs.Ytkcnmmlakimonaa
