/-
  The document's examples, as the statements ask them first: awake answers true, and turns nothing that was there.
-/
import Derived.Test.YtcceindlcheipaaRefGet
namespace Go.Proofs.Ytcceindlcheipaa
open Go.RowKit
set_option linter.unusedVariables false
set_option linter.unusedSimpArgs false

theorem text_ab (w : World) : Calls Try.prog 7 #[.string ⟨#[97, 98]⟩] w fun e w' => ∃ g cap, e = .returned (.tuple #[.slice (some ⟨g, 0, none⟩) 4 cap, .int .i64 0]) ∧ g < w'.heap.size ∧ Hid (BRow w' g 0 4 cap [0, 2, 97, 98]) ∧ Below w.heap.size w w' := by
  refine (text_yes ⟨#[97, 98]⟩ w (by decide)).mono ?_
  rintro e w' ⟨v, rfl, ho, hB⟩
  obtain ⟨g, cap, rfl, hg, hgs, hR⟩ := ho.row (by decide) (range_append (putL_range _ _) (sNums_range _))
  exact ⟨g, cap, rfl, hgs, hR, hB⟩

theorem value_un (w : World) : Calls Try.prog 16 #[.agg #[.int .i64 1, .slice none 0 0]] w fun e w' => ∃ g cap, e = .returned (.tuple #[.slice (some ⟨g, 0, none⟩) 4 cap, .int .i64 0]) ∧ 4 ≤ cap ∧ cap ≤ 9223372036854775807 ∧ g < w'.heap.size ∧ w'.cell? ⟨g, 3, none⟩ = some (.int .u8 254) ∧ Below w.heap.size w w' := by
  refine (value_unset none 0 0 w).mono ?_
  rintro e w' ⟨v, rfl, ho, hB⟩
  obtain ⟨g, cap, rfl, hg, hgs, hR⟩ := ho.row (by decide) (by intro j; rcases j with _ | _ | _ | _ | j <;> simp)
  have hm := hR.cap_le
  unfold maxLen at hm
  have := hR.cell 3 (by decide)
  exact ⟨g, cap, rfl, hR.le, hm, hgs, by simpa using this, hB⟩

theorem row_of_six (w : World) : BRow (w.alloc (.cells #[.int .u8 0, .int .u8 0, .int .u8 0, .int .u8 1, .int .u8 97, .int .u8 98] 5)) w.heap.size 0 6 6 [0, 0, 0, 1, 97, 98] := by
  refine ⟨rfl, Nat.le_refl _, by unfold maxLen; omega, fun _ => by simp, fun i hi => ?_, by intro j; rcases j with _ | _ | _ | _ | _ | _ | j <;> simp⟩
  rw [World.cell?_alloc_at _ _ _ _ rfl]
  rcases (show i = 0 ∨ i = 1 ∨ i = 2 ∨ i = 3 ∨ i = 4 ∨ i = 5 from by omega) with rfl | rfl | rfl | rfl | rfl | rfl <;> rfl

theorem row_of_four (w : World) (a b c d : Int) (h : ∀ j : Nat, 0 ≤ [a, b, c, d][j]?.getD 0 ∧ [a, b, c, d][j]?.getD 0 ≤ 255) : BRow (w.alloc (.cells #[.int .u8 a, .int .u8 b, .int .u8 c, .int .u8 d] 5)) w.heap.size 0 4 4 [a, b, c, d] := by
  refine ⟨rfl, Nat.le_refl _, by unfold maxLen; omega, fun _ => by simp, fun i hi => ?_, h⟩
  rw [World.cell?_alloc_at _ _ _ _ rfl]
  rcases (show i = 0 ∨ i = 1 ∨ i = 2 ∨ i = 3 from by omega) with rfl | rfl | rfl | rfl <;> rfl

theorem getLong_a (w : World) (W : World) (H : Nat) (hH : w.heap.size = H) (hW : W = w.alloc (.cells #[.int .u8 0, .int .u8 0, .int .u8 0, .int .u8 1, .int .u8 97, .int .u8 98] 5)) :
    Calls Try.prog 14 #[.slice (some ⟨H, 0, none⟩) 6 6] W fun e w' => ∃ off', e = .returned (.tuple #[.string ⟨#[97]⟩, .slice (some ⟨H, off', none⟩) 1 1, .int .i64 0]) ∧ Below w.heap.size w w' := by
  subst hH hW
  refine (getLong_yes (row_of_six w) (by omega) 1 (by omega) (by decide)).mono ?_
  rintro e w' ⟨off', rfl, hR, hB⟩
  exact ⟨off', rfl, (below_one w _).trans (hB.mono (by simp))⟩

theorem getValue_bad (w : World) (W : World) (H : Nat) (hH : w.heap.size = H) (hW : W = w.alloc (.cells #[.int .u8 255, .int .u8 255, .int .u8 255, .int .u8 253] 5)) :
    Calls Try.prog 18 #[.slice (some ⟨H, 0, none⟩) 4 4] W fun e w' => e = .returned (.tuple #[.agg #[.int .i64 0, .slice none 0 0], .slice none 0 0, .int .i64 11]) ∧ Below w.heap.size w w' := by
  subst hH hW
  refine (getValue_form (row_of_four w 255 255 255 253 (by intro j; rcases j with _ | _ | _ | _ | j <;> simp)) (by omega) (by decide)).mono ?_
  rintro e w' ⟨rfl, hB⟩
  exact ⟨rfl, (below_one w _).trans (hB.mono (by simp))⟩

set_option maxHeartbeats 1000000 in
theorem awake_any (w : World) :
    Calls Try.prog 6 #[] w fun e w' => e = .returned (.bool true) ∧ Below w.heap.size w w' := by
  go_enter Try.func6, Try.ntmps6
  go_wp2_with fail
  refine (text_ab _).mono ?_
  rintro e w1 ⟨g1, cap1, rfl, hg1, HR1, hB1⟩
  go_wp2_with fail
  refine (value_un _).mono ?_
  rintro e w2 ⟨g2, cap2, rfl, hc4, hcm, hg2, hcell2, hB2⟩
  go_wp2_with fail
  refine (getLong_a w2 _ _ rfl rfl).mono ?_
  rintro e w3 ⟨off3, rfl, hB3⟩
  go_wp2_with fail
  refine (getValue_bad w3 _ _ rfl rfl).mono ?_
  rintro e w4 ⟨rfl, hB4⟩
  have hB24 : Below w2.heap.size w2 w4 := hB3.trans (hB4.mono hB3.size)
  have hB14 : Below w1.heap.size w1 w4 := hB2.trans (hB24.mono hB2.size)
  have hB04 : Below w.heap.size w w4 := hB1.trans (hB14.mono hB1.size)
  have hc3 : w4.cell? ⟨g2, 3, none⟩ = some (.int .u8 254) := (hB24.cell hg2).trans hcell2
  have hgs4 : g2 < w4.heap.size := Nat.lt_of_lt_of_le hg2 hB24.size
  have hcv := ((HR1.out.old hB14).old (below_one w4 (.cells #[.int .i64 0, .slice none 0 0] 35))).conv
  have hst : strOfNums [0, 2, 97, 98] = ⟨#[0, 2, 97, 98]⟩ := rfl
  rw [hst] at hcv
  clear hst HR1 hcell2 hB24 hB14 hB1 hB2 hB3 hB4
  go_wp2_with (go_at_call 20; refine (cons_no _ _ (by omega) (by omega) (by omega)).mono ?_; rintro e w5 ⟨rfl, rfl⟩)
  go_ret
  exact ⟨rfl, hB04.alloc hB04.size _⟩
end Go.Proofs.Ytcceindlcheipaa
