/-
  RoutingParts walked: it answers true, and turns nothing that was there.
-/
import Derived.Test.YtfkhcgkobffpiaaAw
import Derived.Test.YtfkhcgkobffpiaaRp
namespace Go.Proofs.Ytfkhcgkobffpiaa
open Go.RowKit
set_option maxRecDepth 100000
set_option linter.unusedVariables false
set_option linter.unusedSimpArgs false

set_option maxHeartbeats 2000000 in
theorem parts_walk (a : Option Addr) (len cap : Nat) (zs : List Int) (w : World) (h : IsB w a len cap zs) :
    Calls Try.prog 4 #[.slice a len cap] w fun e w' => e = .returned (.bool true) ∧ Below w.heap.size w w' := by
  have hmx : len ≤ 9223372036854775807 := by have := h.2.1; have := h.2.2.1; unfold maxLen at this; omega
  have HI : Hid (IsB w a len cap zs) := h
  clear h
  by_cases hl : 2000 < len
  · have hl' : (2000 : Int) < len := by omega
    go_enter Try.func4, Try.ntmps4
    go_wp2_with (go_at_call 9; refine (awake_any _).mono ?_; rintro e w1 ⟨rfl, hB1⟩)
    go_ret
    exact ⟨rfl, hB1⟩
  · have hl' : decide ((2000 : Int) < len) = false := by simp; omega
    obtain ⟨Y, hY⟩ : ∃ Y, Y = partsA zs := ⟨_, rfl⟩
    have HC : Hid (Y.2.length ≤ 2000) := by
      have := partsR_count zs.length zs []
      rw [HI.out.1] at this
      rw [hY]
      show (partsR zs.length zs []).2.length ≤ 2000
      rw [HI.out.1]
      simp at this
      omega
    have HY : Hid (Y = partsA zs) := hY
    clear hY
    go_enter Try.func4, Try.ntmps4
    go_wp2_with (go_at_call 9; refine (awake_any _).mono ?_; rintro e w1 ⟨rfl, hB1⟩)
    refine (parts_any (HI.out.old hB1) (by omega) HY.out).mono ?_
    rintro e w2 ⟨v2, rfl, HO2, hB2⟩
    have hB02 : Below w.heap.size w w2 := hB1.trans (hB2.mono hB1.size)
    obtain ⟨x2, c2, rfl, hV2, _⟩ := HO2.out.view
    obtain ⟨n, hn⟩ : ∃ n, n = Y.2.length := ⟨_, rfl⟩
    have hn2 : n ≤ 2000 := by rw [hn]; exact HC.out
    rw [← hn] at hV2 ⊢
    have HV2 : Hid (View 1 VB w2 x2 n c2 Y.2) := hV2
    obtain ⟨E, hE⟩ : ∃ E, E = Y.1 := ⟨_, rfl⟩
    have HE : Hid (E = Y.1) := hE
    rw [← hE]
    clear hV2 HO2 hn hE hB1 hB2
    go_wp2_with fail
    refine (rparts_any (HI.out.old hB02) (by omega) HY.out).mono ?_
    rintro e w3 ⟨v3, rfl, HO3, hB3⟩
    rw [← HE.out]
    have hB03 : Below w.heap.size w w3 := hB02.trans (hB3.mono hB02.size)
    obtain ⟨x3, c3, rfl, hV3, _⟩ := HO3.out.view
    obtain ⟨m, hm⟩ : ∃ m, m = (Y.2.map strOfNums).length := ⟨_, rfl⟩
    rw [← hm] at hV3 ⊢
    have HV3 : Hid (View 1 VS w3 x3 m c3 (Y.2.map strOfNums)) := hV3
    have HV23 : Hid (View 1 VB w3 x2 n c2 Y.2) := HV2.out.old stays_b hB3
    clear hV3 HO3 hm hB3
    go_wp2_with fail
    refine (texts_any HV23.out (by omega) rfl).mono ?_
    rintro e w4 ⟨x4, c4, rfl, HV4, hB4⟩
    have HV34 : Hid (View 1 VS w4 x3 m c3 (Y.2.map strOfNums)) := HV3.out.old stays_s hB4
    have hB04 : Below w.heap.size w w4 := hB03.trans (hB4.mono hB03.size)
    go_wp2_with fail
    refine (same_any HV4.out HV34.out (r := true) (by simp)).mono ?_
    rintro e w5 ⟨rfl, q, rfl⟩
    go_wp2_with fail
    go_ret
    exact ⟨by simp, below_drewN hB04 q⟩
end Go.Proofs.Ytfkhcgkobffpiaa
