/-
  The contract of the document's Same: one and the same frames, laid twice, are the same.
-/
import Derived.Test.YtabadlgjocgkjaaRefs2
namespace Go.Proofs.Ytabadlgjocgkjaa
open Go.RowKit
set_option linter.unusedVariables false
set_option linter.unusedSimpArgs false

/-- The cells of one of the document's frames. -/
theorem View.f_cells {w : World} {a : Option Addr} {len cap : Nat} {fs : List Fr} (h : View 6 VF w a len cap fs) {i : Nat} (hi : i < len) :
    ∃ b off, a = some ⟨b, off, none⟩ ∧ b < w.heap.size ∧ w.cell? ⟨b, off + i * 6, none⟩ = some (.int .u8 (Fr.v (fs.getD i default))) ∧ w.cell? ⟨b, off + i * 6 + 1, none⟩ = some (.int .u8 (Fr.f (fs.getD i default))) ∧ w.cell? ⟨b, off + i * 6 + 2, none⟩ = some (.int .i16 (Fr.s (fs.getD i default))) ∧
      w.cell? ⟨b, off + i * 6 + 3, none⟩ = some (.int .u8 (Fr.o (fs.getD i default))) ∧ w.cell? ⟨b, off + i * 6 + 4, none⟩ = some (.int .u32 (Fr.l (fs.getD i default))) ∧ w.cell? ⟨b, off + i * 6 + 5, none⟩ = some (.string (strOfNums (Fr.b (fs.getD i default)))) := by
  obtain ⟨h1, h2, h3, h4, h5⟩ := h
  obtain ⟨b, off, rfl, hb, hc⟩ := h5 (by omega)
  obtain ⟨c, hcell, k0, k1, k2, k3, k4, k5⟩ := hc i hi
  refine ⟨b, off, rfl, hb, ?_, ?_, ?_, ?_, ?_, ?_⟩
  · rw [← k0]; exact hcell 0 (by omega)
  · rw [← k1, Nat.add_assoc]; exact hcell 1 (by omega)
  · rw [← k2, Nat.add_assoc]; exact hcell 2 (by omega)
  · rw [← k3, Nat.add_assoc]; exact hcell 3 (by omega)
  · rw [← k4, Nat.add_assoc]; exact hcell 4 (by omega)
  · rw [← k5, Nat.add_assoc]; exact hcell 5 (by omega)

set_option maxHeartbeats 1000000 in
theorem same_any {w : World} {a : Option Addr} {len cap : Nat} {a2 : Option Addr} {cap2 : Nat} {fs : List Fr} (h : View 6 VF w a len cap fs) (h2 : View 6 VF w a2 len cap2 fs) :
    Calls Try.prog 15 #[.slice a len cap, .slice a2 len cap2] w fun e w' => e = .returned (.bool true) ∧ Below w.heap.size w w' := by
  have H : Hid (View 6 VF w a len cap fs) := h
  have H2 : Hid (View 6 VF w a2 len cap2 fs) := h2
  have hc1 := h.2.1
  have hm1 := h.2.2.1
  have hc2 := h2.2.1
  have hm2 := h2.2.2.1
  unfold maxLen at hm1 hm2
  clear h h2
  go_enter Try.func15, Try.ntmps15
  go_wp2_with fail
  go_loopw [5] (fun i wr => ∃ k : Nat, k ≤ len ∧ i = .int .i64 k ∧ Hid (Below w.heap.size w wr)) (fun i _ => len - (intOf i).toNat)
  case atStart => exact ⟨0, by omega, rfl, Below.refl _ _⟩
  case round =>
    obtain ⟨k, hk, rfl, HB⟩ := hrel
    by_cases hlt : k < len
    · obtain ⟨b, off, ha, hb, q0, q1, q2, q3, q4, q5⟩ := (H.out.old stays_f HB.out).f_cells hlt
      obtain ⟨b', off', ha', hb', r0, r1, r2, r3, r4, r5⟩ := (H2.out.old stays_f HB.out).f_cells hlt
      subst ha ha'
      obtain ⟨x, hx⟩ : ∃ x, x = fs.getD k default := ⟨_, rfl⟩
      rw [← hx] at q0 q1 q2 q3 q4 q5 r0 r1 r2 r3 r4 r5
      obtain ⟨SX, hSX⟩ : ∃ S, S = strOfNums (Fr.b x) := ⟨_, rfl⟩
      rw [← hSX] at q5 r5
      clear hx hSX
      go_wp2_with fail
      go_quiet (fail)
      go_wp2_with fail
      go_roundw
      case rel => exact ⟨k + 1, by omega, by go_num, below_drewN HB.out _⟩
      case measure => simp [intOf]; omega
    · go_wp2_with fail
      go_ret
      exact ⟨rfl, HB.out⟩
end Go.Proofs.Ytabadlgjocgkjaa
