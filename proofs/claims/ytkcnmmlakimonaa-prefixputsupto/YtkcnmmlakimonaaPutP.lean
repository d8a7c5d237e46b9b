/-
  The contract of maps.Pairs.
-/
import Derived.Test.YtkcnmmlakimonaaPutS
namespace Go.Proofs.Ytkcnmmlakimonaa
open Go.RowKit
set_option maxRecDepth 100000
set_option linter.unusedVariables false
set_option linter.unusedSimpArgs false

theorem keyB_key {α : Type} {g : α → List Int × Int} {x : ByteArray × α} {Y : List Int × Int} (hY : Y = keyB g x) {B : List Int × Int} (hB : B = textB x.1) (he : B.2 ≠ 0) : Y = ([], B.2) := by
  subst hB; rw [hY, keyB, if_neg he]
theorem keyB_part {α : Type} {g : α → List Int × Int} {x : ByteArray × α} {Y : List Int × Int} (hY : Y = keyB g x) {B : List Int × Int} (hB : B = textB x.1) (he : B.2 = 0) {B2 : List Int × Int} (hB2 : B2 = g x.2) (he2 : B2.2 ≠ 0) : Y = ([], B2.2) := by
  subst hB; subst hB2; rw [hY, keyB, if_pos he, if_neg he2]
theorem keyB_both {α : Type} {g : α → List Int × Int} {x : ByteArray × α} {Y : List Int × Int} (hY : Y = keyB g x) {B : List Int × Int} (hB : B = textB x.1) (he : B.2 = 0) {B2 : List Int × Int} (hB2 : B2 = g x.2) (he2 : B2.2 = 0) : Y = (B.1 ++ B2.1, 0) := by
  subst hB; subst hB2; rw [hY, keyB, if_pos he, if_pos he2]

theorem keyB_len {α : Type} (g : α → List Int × Int) (x : ByteArray × α) : (keyB g x).1.length ≤ 65537 + (g x.2).1.length := by
  have := textB_len x.1
  unfold keyB
  split
  · split
    · rw [List.length_append]; omega
    · simp
  · simp

theorem keyB_textB_len (x : ByteArray × ByteArray) : (keyB textB x).1.length ≤ 131074 := by
  have := keyB_len textB x
  have := textB_len x.2
  omega

/-- The cells of a map of texts. -/
theorem View.pair {w : World} {a : Option Addr} {len cap : Nat} {ss : List (ByteArray × ByteArray)} (h : View 2 VP w a len cap ss) {k : Nat} (hk : k < len) :
    ∃ b off, a = some ⟨b, off, none⟩ ∧ w.cell? ⟨b, off + k * 2, none⟩ = some (.string (ss.getD k default).1) ∧ w.cell? ⟨b, off + k * 2 + 1, none⟩ = some (.string (ss.getD k default).2) := by
  obtain ⟨h1, h2, h3, h4, h5⟩ := h
  obtain ⟨b, off, ha, hb, hc⟩ := h5 (by omega)
  obtain ⟨c, hcell, hv⟩ := hc k hk
  have h0 := hcell 0 (by omega)
  have h1 := hcell 1 (by omega)
  rw [hv.1] at h0
  rw [hv.2] at h1
  exact ⟨b, off, ha, by simpa using h0, by rw [Nat.add_assoc]; exact h1⟩
end Go.Proofs.Ytkcnmmlakimonaa
