/-
  The contract of the document's own Same, where both rows are the same.
-/
import Derived.Test.YtcecdklgiocbaaaConv
import Derived.BigQuiet
namespace Go.Proofs.Ytcecdklgiocbaaa
open Go.RowKit
set_option linter.unusedVariables false
set_option linter.unusedSimpArgs false

theorem View.item {w : World} {a : Option Addr} {len cap : Nat} {xs : List It} (h : View 5 VI w a len cap xs) {k : Nat} (hk : k < len) :
    ∃ b off a1 l1 c1, a = some ⟨b, off, none⟩ ∧ w.cell? ⟨b, off + k * 5, none⟩ = some (.string (xs.getD k default).key) ∧ w.cell? ⟨b, off + k * 5 + 1, none⟩ = some (.string (xs.getD k default).text) ∧
      w.cell? ⟨b, off + k * 5 + 2, none⟩ = some (.slice a1 l1 c1) ∧ w.cell? ⟨b, off + k * 5 + 3, none⟩ = some (.int .i64 (xs.getD k default).kind) ∧ w.cell? ⟨b, off + k * 5 + 4, none⟩ = some (.string (xs.getD k default).bytes) ∧ View 1 VS w a1 l1 c1 (xs.getD k default).texts := by
  obtain ⟨h1, h2, h3, h4, h5⟩ := h
  obtain ⟨b, off, ha, hb, hc⟩ := h5 (by omega)
  obtain ⟨c, hcell, hv0, hv1, ⟨a1, l1, c1, hv2, hv⟩, hv3, hv4⟩ := hc k hk
  have h0 := hcell 0 (by omega)
  have h1 := hcell 1 (by omega)
  have h2 := hcell 2 (by omega)
  have h3 := hcell 3 (by omega)
  have h4 := hcell 4 (by omega)
  rw [hv0] at h0
  rw [hv1] at h1
  rw [hv2] at h2
  rw [hv3] at h3
  rw [hv4] at h4
  exact ⟨b, off, a1, l1, c1, ha, by simpa using h0, by rw [Nat.add_assoc]; exact h1, by rw [Nat.add_assoc]; exact h2, by rw [Nat.add_assoc]; exact h3, by rw [Nat.add_assoc]; exact h4, hv⟩

set_option maxRecDepth 100000 in
set_option maxHeartbeats 4000000 in
theorem same_yes {w : World} {a a' : Option Addr} {len cap cap' : Nat} {xs : List It} (h : View 5 VI w a len cap xs) (h' : View 5 VI w a' len cap' xs) :
    Calls Try.prog 51 #[.slice a len cap, .slice a' len cap'] w fun e w' => e = .returned (.bool true) ∧ ∃ q, w' = w.drewN q := by
  have H : Hid (View 5 VI w a len cap xs) := h
  have H' : Hid (View 5 VI w a' len cap' xs) := h'
  have hc1 := h.2.1
  have hc2 : cap ≤ 9223372036854775807 := h.2.2.1
  have hc3 := h'.2.1
  have hc4 : cap' ≤ 9223372036854775807 := h'.2.2.1
  clear h h'
  go_enter Try.func51, Try.ntmps51
  go_wp2_with fail
  go_loopw [5] (fun i wr => ∃ (k q : Nat), k ≤ len ∧ i = .int .i64 k ∧ wr = w.drewN q) (fun i _ => len - (intOf i).toNat)
  case atStart => exact ⟨0, 0, by omega, rfl, rfl⟩
  case round =>
    obtain ⟨k, q, hk, rfl, rfl⟩ := hrel
    by_cases hlt : k < len
    · obtain ⟨b, off, a1, l1, c1, rfl, d0, d1, d2, d3, d4, hv⟩ := H.out.item hlt
      obtain ⟨b', off', a1', l1', c1', rfl, e0, e1, e2, e3, e4, hv'⟩ := H'.out.item hlt
      obtain ⟨x, hx⟩ : ∃ x, x = xs.getD k default := ⟨_, rfl⟩
      rw [← hx] at d0 d1 d3 d4 e0 e1 e3 e4 hv hv'
      obtain rfl : l1' = l1 := by rw [← hv.1, ← hv'.1]
      have HV : Hid (View _ _ _ _ _ _ _) := hv
      have HV' : Hid (View _ _ _ _ _ _ _) := hv'
      have hd1 := hv.2.1
      have hd2 : c1 ≤ 9223372036854775807 := hv.2.2.1
      have hd3 := hv'.2.1
      have hd4 : c1' ≤ 9223372036854775807 := hv'.2.2.1
      clear hx hv hv'
      go_wp2_with fail
      go_quiet (fail)
      go_wp2_with fail
      go_loopw [6] (fun i wr => ∃ (m q : Nat), m ≤ l1' ∧ i = .int .i64 m ∧ wr = w.drewN q) (fun i _ => l1' - (intOf i).toNat)
      case atStart => exact ⟨0, q + nq, by omega, rfl, by simp⟩
      case round =>
        obtain ⟨m, q2, hm, rfl, rfl⟩ := hrel
        by_cases hml : m < l1'
        · obtain ⟨b3, o3, rfl, hs3⟩ := HV.out.str hml
          obtain ⟨b4, o4, rfl, hs4⟩ := HV'.out.str hml
          generalize x.texts.getD m default = s at *
          go_wp2_with fail
          go_quiet (fail)
          go_wp2
          go_roundw
          case rel => exact ⟨m + 1, _, by omega, by go_num, rfl⟩
          case measure => simp [intOf]; omega
        · go_wp2_with fail
          go_roundw
          case rel => exact ⟨k + 1, q2, by omega, by go_num, rfl⟩
          case measure => simp [intOf]; omega
    · go_wp2_with fail
      go_ret
      exact ⟨rfl, q, rfl⟩
end Go.Proofs.Ytcecdklgiocbaaa
