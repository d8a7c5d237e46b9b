/-
  The document's example, as the statements ask it first: awake answers true, and turns nothing that was there.
-/
import Derived.Test.YtalmlaeijjoffaaGetH
namespace Go.Proofs.Ytalmlaeijjoffaa
open Go.RowKit
set_option linter.unusedVariables false
set_option linter.unusedSimpArgs false

theorem put_q (w : World) : Calls Try.prog 9 #[.agg #[.int .u8 4, .int .u8 0, .int .i16 3, .int .u8 7, .int .u32 5]] w fun e w' => ∃ x c, e = .returned (.tuple #[.slice x 9 c, .int .i64 0]) ∧ Hid (IsB w' x 9 c [4, 0, 0, 3, 7, 0, 0, 0, 5]) ∧ Below w.heap.size w w' := by
  have h : HOk 4 0 3 7 5 := ⟨by omega, by omega, by omega, by omega, by omega, by omega, by omega, by omega, by omega, by omega⟩
  refine (put_ok 4 0 3 7 5 w h (by decide)).mono ?_
  rintro e w' ⟨v, rfl, ho, hB⟩
  obtain ⟨x, c, rfl, HI⟩ := ho.isB (by omega) (hdB_range h)
  exact ⟨x, c, rfl, HI, hB⟩

theorem row_of_ten (w : World) : IsB (w.alloc (.cells #[.int .u8 132, .int .u8 8, .int .u8 255, .int .u8 255, .int .u8 12, .int .u8 0, .int .u8 0, .int .u8 0, .int .u8 1, .int .u8 7] 5)) (some ⟨w.heap.size, 0, none⟩) 10 10 [132, 8, 255, 255, 12, 0, 0, 0, 1, 7] := by
  refine BRow.isB ⟨rfl, Nat.le_refl _, by unfold maxLen; omega, fun _ => by simp, fun i hi => ?_, by intro j; rcases j with _ | _ | _ | _ | _ | _ | _ | _ | _ | _ | j <;> simp⟩
  rw [World.cell?_alloc_at _ _ _ _ rfl]
  rcases (show i = 0 ∨ i = 1 ∨ i = 2 ∨ i = 3 ∨ i = 4 ∨ i = 5 ∨ i = 6 ∨ i = 7 ∨ i = 8 ∨ i = 9 from by omega) with rfl | rfl | rfl | rfl | rfl | rfl | rfl | rfl | rfl | rfl <;> rfl

theorem get_e (w W : World) (H : Nat) (hH : w.heap.size = H) (hW : W = w.alloc (.cells #[.int .u8 132, .int .u8 8, .int .u8 255, .int .u8 255, .int .u8 12, .int .u8 0, .int .u8 0, .int .u8 0, .int .u8 1, .int .u8 7] 5)) :
    Calls Try.prog 14 #[.slice (some ⟨H, 0, none⟩) 10 10] W fun e w' => e = .returned (.tuple #[.agg #[.int .u8 132, .int .u8 8, .int .i16 (-1), .int .u8 12, .int .u32 1], .int .i64 0]) ∧ Below w.heap.size w w' := by
  subst hH hW
  refine (get_any (row_of_ten w)).mono ?_
  rintro e w' ⟨rfl, hB⟩
  have eV : gV [132, 8, 255, 255, 12, 0, 0, 0, 1, 7] = 132 := by decide +kernel
  have eF : gF [132, 8, 255, 255, 12, 0, 0, 0, 1, 7] = 8 := by decide +kernel
  have eS : gS [132, 8, 255, 255, 12, 0, 0, 0, 1, 7] = -1 := by decide +kernel
  have eO : gO [132, 8, 255, 255, 12, 0, 0, 0, 1, 7] = 12 := by decide +kernel
  have eL : gL [132, 8, 255, 255, 12, 0, 0, 0, 1, 7] = 1 := by decide +kernel
  have eE : gE [132, 8, 255, 255, 12, 0, 0, 0, 1, 7] = 0 := by decide +kernel
  exact ⟨by rw [eV, eF, eS, eO, eL, eE], (below_one w _).trans (hB.mono (by simp))⟩

theorem check_0 (w : World) : Calls Try.prog 12 #[.agg #[.int .u8 0, .int .u8 0, .int .i16 0, .int .u8 0, .int .u32 0]] w fun e w' => e = .returned (.int .i64 20) ∧ Below w.heap.size w w' := check_no 0 0 0 0 0 w (by decide) (by decide)

set_option maxHeartbeats 1000000 in
theorem awake_any (w : World) :
    Calls Try.prog 8 #[] w fun e w' => e = .returned (.bool true) ∧ Below w.heap.size w w' := by
  go_enter Try.func8, Try.ntmps8
  go_wp2_with fail
  refine (put_q _).mono ?_
  rintro e w1 ⟨x1, c1, rfl, HI1, hB1⟩
  go_wp2_with fail
  refine (get_e w1 _ _ rfl rfl).mono ?_
  rintro e w2 ⟨rfl, hB2⟩
  have hA : Below w.heap.size w w2 := hB1.trans (hB2.mono hB1.size)
  have hcv := ((HI1.out.old hB2).old (below_one w2 (.cells #[.int .u8 132, .int .u8 8, .int .i16 (-1), .int .u8 12, .int .u32 1] 25))).conv
  have hst : strOfNums [4, 0, 0, 3, 7, 0, 0, 0, 5] = ⟨#[4, 0, 0, 3, 7, 0, 0, 0, 5]⟩ := rfl
  rw [hst] at hcv
  clear hst HI1 hB1 hB2
  go_wp2_with (go_at_call 12; refine (check_0 _).mono ?_; rintro e w5 ⟨rfl, hB5⟩)
  go_ret
  exact ⟨rfl, (hA.alloc hA.size _).trans (hB5.mono (by have := hA.size; simp; omega))⟩
end Go.Proofs.Ytalmlaeijjoffaa
