/-
  MurmurNoughts walked: it answers true, and turns nothing that was there.
-/
import Derived.Test.YtpbclipckkdgfaaOwn
import Derived.Test.YtpbclipckkdgfaaHashes
namespace Go.Proofs.Ytpbclipckkdgfaa
open Go.RowKit
set_option linter.unusedVariables false

/-- A row of n bytes of which the first k are z, the others 0. -/
def rowC (z : Int) (n k : Nat) : Array Value := ((List.range n).map fun i => if i < k then Value.int .u8 z else .int .u8 0).toArray

theorem rowC_zero (z : Int) (n : Nat) : rowC z n 0 = madeCells #[.int .u8 0] n := by
  apply Array.ext'
  rw [toList_madeCells_one]
  simp [rowC, List.map_const']

theorem rowC_size (z : Int) (n k : Nat) : (rowC z n k).size = n := by simp [rowC]

theorem rowC_at (z : Int) (n k : Nat) (h : k < n) : (rowC z n k)[k]? = some (.int .u8 0) := by
  simp [rowC, h]

theorem rowC_get (z : Int) (n k i : Nat) (h : i < n) : (rowC z n k)[i]? = some (.int .u8 (if i < k then z else 0)) := by
  simp [rowC, h]; split <;> rfl

theorem rowC_set (z : Int) (n k : Nat) (h : k < n) : (rowC z n k).setIfInBounds k (.int .u8 z) = rowC z n (k + 1) := by
  apply Array.ext (by simp [rowC])
  intro i h1 h2
  rw [Array.getElem_setIfInBounds]
  · by_cases e : k = i
    · subst e; simp [rowC]
    · rw [if_neg e]
      simp only [rowC, List.getElem_toArray, List.getElem_map, List.getElem_range]
      by_cases hi : i < k
      · rw [if_pos hi, if_pos (by omega)]
      · rw [if_neg hi, if_neg (by omega)]
  · simpa using h1

theorem rowC_byR (w : World) (z : Int) (n k : Nat) (hz : 0 ≤ z ∧ z ≤ 255) (hn : n ≤ 1000) : ByR (w.alloc (.cells (rowC z n k) 5)) (some ⟨w.heap.size, 0, none⟩) n n (fun i => if i < k then z else 0) := by
  refine ⟨fun i => by simp only; split <;> omega, .inr ⟨_, _, rfl, Nat.le_refl _, by unfold maxLen; omega, fun i hi => ?_⟩⟩
  rw [Nat.zero_add, World.cell?_alloc_at _ _ _ _ rfl]
  exact rowC_get z n k i hi

set_option maxRecDepth 20000 in
set_option maxHeartbeats 2000000 in
theorem noughts_walk (n : Int) (ones : Bool) (w : World) (hn : 0 ≤ n ∧ n ≤ 65535) :
    Calls Try.prog 7 #[.int .u16 n, .bool ones] w fun e w' => e = .returned (.bool true) ∧ Below w.heap.size w w' := by
  obtain ⟨κ, hκ, hκ3⟩ : ∃ k : Nat, n % 600 = k ∧ k ≤ 599 := ⟨(n % 600).toNat, by omega, by omega⟩
  obtain ⟨z, hz, hzo⟩ : ∃ z : Int, (0 ≤ z ∧ z ≤ 255) ∧ (ones = true → z = 255) ∧ (ones = false → z = 0) := by
    cases ones
    · exact ⟨0, by omega, by simp, by simp⟩
    · exact ⟨255, by omega, by simp, by simp⟩
  have hmk := run_make_row' (P := Try.prog) 22 5 (.int .u8 0) 1 Try.underlying22 Try.info5 rfl .i64 .i64 κ (by omega) (by omega)
  have HZ0 : Hid (∀ k, k < κ → z = 0 → rowC z κ (k + 1) = rowC z κ k) := fun k hk h0 => by
    subst h0
    apply Array.ext'
    simp only [rowC]
    apply List.map_congr_left
    intro i hi
    by_cases h1 : i < k
    · rw [if_pos h1, if_pos (by omega)]
    · rw [if_neg h1]; split <;> rfl
  go_enter Try.func7, Try.ntmps7
  go_wp2_with (go_at_call 8; refine (awake_any _).mono ?_; rintro e w1 ⟨rfl, hB1⟩)
  go_loopw [7] (fun i wr => ∃ j : Nat, j ≤ κ ∧ i = .int .i64 j ∧ wr = w1.alloc (.cells (rowC z κ j) 5)) (fun i _ => κ - (intOf i).toNat)
  case atStart => exact ⟨0, by omega, rfl, by rw [rowC_zero]⟩
  case round =>
    obtain ⟨j, hj, rfl, rfl⟩ := hrel
    by_cases hlt : j < κ
    · have hca := rowC_at z κ j hlt
      cases ones with
      | true =>
        obtain rfl : z = 255 := hzo.1 rfl
        go_wp2
        go_roundw
        case rel => exact ⟨j + 1, by omega, by go_num, by rw [← rowC_set 255 κ j hlt]⟩
        case measure => simp [intOf] <;> omega
      | false =>
        obtain rfl : z = 0 := hzo.2 rfl
        go_wp2
        go_roundw
        case rel => exact ⟨j + 1, by omega, by go_num, by rw [HZ0.out j hlt rfl]⟩
        case measure => simp [intOf] <;> omega
    · obtain rfl : j = κ := by omega
      obtain ⟨wa, hwa⟩ : ∃ wa, wa = w1.alloc (.cells (rowC z j j) 5) := ⟨_, rfl⟩
      have hby := rowC_byR w1 z j j hz (by omega)
      have hBa : Below w.heap.size w wa := by rw [hwa]; exact hB1.alloc hB1.size _
      rw [← hwa] at hby ⊢
      obtain ⟨a, ha⟩ : ∃ a : Option Addr, a = some ⟨w1.heap.size, 0, none⟩ := ⟨_, rfl⟩
      rw [← ha] at hby ⊢
      obtain ⟨f, hf⟩ : ∃ f : Nat → Int, f = fun i => if i < j then z else 0 := ⟨_, rfl⟩
      rw [← hf] at hby
      obtain ⟨x, y, _, h9, h10, h11, h12⟩ := both_hash a j j f (by omega)
      have H9 : Hid _ := h9
      have H10 : Hid _ := h10
      have H11 : Hid _ := h11
      have H12 : Hid _ := h12
      have HB : Hid (∀ q, ByR (wa.drewN q) a j j f) := fun q => hby.drewN q
      have HB0 : Hid (ByR wa a j j f) := hby
      clear h9 h10 h11 h12 hf hby hwa ha hmk
      go_wp2_with fail
      refine Calls.mono (H9.out _ HB0.out) ?_
      rintro e w2 ⟨q, rfl, hw2⟩
      have HR : Hid (∀ q, ByR (w2.drewN q) a j j f) := fun q' => by rw [hw2, World.drewN_drewN]; exact HB.out _
      have HR0 : Hid (ByR w2 a j j f) := by rw [hw2]; exact HB.out _
      have hB2 : Below w.heap.size w w2 := by rw [hw2]; exact below_drewN hBa _
      clear hw2
      go_wp2_with fail
      refine Calls.mono (H10.out _ HR0.out) ?_
      rintro e w3 ⟨rfl, rfl⟩
      go_wp2_with fail
      refine Calls.mono (H11.out w3 HR0.out 0) ?_
      rintro e w4 ⟨rfl, m, hw4⟩
      have HR4 : Hid (ByR w4 a j j f) := by rw [hw4]; exact HR.out _
      have hB4 : Below w.heap.size w w4 := by rw [hw4]; exact below_drewN hB2 _
      clear hw4
      go_wp2_with fail
      refine Calls.mono (H12.out w4 HR4.out 0) ?_
      rintro e w5 ⟨rfl, m5, hw5⟩
      have hB5 : Below w.heap.size w w5 := by rw [hw5]; exact below_drewN hB4 _
      clear hw5
      go_wp2
      go_ret
      exact ⟨by simp, hB5⟩
end Go.Proofs.Ytpbclipckkdgfaa
