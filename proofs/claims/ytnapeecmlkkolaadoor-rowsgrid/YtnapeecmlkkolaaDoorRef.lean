/-
  The contract of the document's own Get, over the translation.
-/
import Derived.Test.YtnapeecmlkkolaaDoorTake
namespace Go.Proofs.YtnapeecmlkkolaaDoor
open Go.RowKit
set_option linter.unusedVariables false

set_option maxHeartbeats 400000 in
theorem rget_no (b : Option Addr) (len cap : Nat) (n : Int) (w : World) (h : n < 1 ∨ 8 < n) :
    Calls Tryd.prog 51 #[.slice b len cap, .int .i64 0, .int .i64 n] w fun e w' => e = .returned (.tuple #[.int .u64 0, .int .i64 0, .int .i64 1]) ∧ w' = w := by
  rcases h with h | h
  · go_enter Tryd.func51, Tryd.ntmps51
    go_wp2
    go_ret3
    exact ⟨rfl, rfl⟩
  · have h' : decide (n < 1) = false := by simp; omega
    go_enter Tryd.func51, Tryd.ntmps51
    go_wp2
    go_ret3
    exact ⟨rfl, rfl⟩

set_option maxHeartbeats 400000 in
theorem rget_short (b : Option Addr) (len cap n : Nat) (w : World) (h1 : 1 ≤ n) (h2 : n ≤ 8) (hl : len < n) :
    Calls Tryd.prog 51 #[.slice b len cap, .int .i64 0, .int .i64 n] w fun e w' => e = .returned (.tuple #[.int .u64 0, .int .i64 0, .int .i64 10]) ∧ w' = w := by
  have h' : decide ((n : Int) < 1) = false := by simp; omega
  have h8 : decide ((8 : Int) < n) = false := by simp; omega
  go_enter Tryd.func51, Tryd.ntmps51
  go_wp2
  go_ret3
  exact ⟨rfl, rfl⟩

set_option maxHeartbeats 400000 in
theorem rget_yes (b off len cap n : Nat) (zs : List Int) (w : World) (h1 : 1 ≤ n) (h2 : n ≤ 8) (hl : n ≤ len) (hc : len ≤ cap) (hm : cap ≤ maxLen)
    (hcell : ∀ i, i < len → w.cell? ⟨b, off + i, none⟩ = some (.int .u8 (zs.getD i 0))) (hz : len ≤ zs.length) (hr : ∀ j : Nat, 0 ≤ zs[j]?.getD 0 ∧ zs[j]?.getD 0 ≤ 255) :
    Calls Tryd.prog 51 #[.slice (some ⟨b, off, none⟩) len cap, .int .i64 0, .int .i64 n] w fun e w' =>
      e = .returned (.tuple #[.int .u64 (numTo zs n), .int .i64 n, .int .i64 0]) ∧ w' = w := by
  unfold maxLen at hm
  have h' : decide ((n : Int) < 1) = false := by simp; omega
  have h8 : decide ((8 : Int) < n) = false := by simp; omega
  go_enter Tryd.func51, Tryd.ntmps51
  go_wp2
  go_loop [9, 10] (fun x i => ∃ k : Nat, k ≤ n ∧ i = .int .i64 k ∧ x = .int .u64 (numTo zs k)) (fun _ i => n - (intOf i).toNat)
  case atStart => exact ⟨0, by omega, rfl, rfl⟩
  case round =>
    obtain ⟨k, hk, rfl, rfl⟩ := hrel
    by_cases hlt : k < n
    · have hck := hcell k (by omega)
      have hrk := hr k
      have hb1 := numTo_lt zs hr (k + 1) (by omega) (by omega)
      have hb0 := numTo_lt zs hr k (by omega) (by omega)
      have hs := numTo_succ zs k (by omega)
      rw [hs] at hb1
      have HE : Hid (numTo zs (k + 1) = numTo zs k * 256 + zs[k]?.getD 0) := hs
      clear hr hs
      go_wp2
      go_round
      case rel => exact ⟨k + 1, by omega, by go_num, by rw [HE.out]⟩
      case measure => simp [intOf]; omega
    · have e : k = n := by omega
      subst e
      clear hcell hr
      go_wp2
      go_ret3
      exact ⟨rfl, rfl⟩
end Go.Proofs.YtnapeecmlkkolaaDoor
