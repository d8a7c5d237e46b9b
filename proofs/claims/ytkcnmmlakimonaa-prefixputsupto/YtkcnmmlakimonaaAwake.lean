/-
  The document's examples, as the statements ask them first: awake answers true, and turns nothing that was there.
-/
import Derived.Test.YtkcnmmlakimonaaPutE
namespace Go.Proofs.Ytkcnmmlakimonaa
open Go.RowKit
set_option maxRecDepth 100000
set_option linter.unusedVariables false
set_option linter.unusedSimpArgs false

theorem ab_bytes : (([0, 2, 0, 1, 97, 0, 1, 98] : List Int), (0 : Int)) = listB textB [⟨#[97]⟩, ⟨#[98]⟩] := by kernel_rfl
theorem ab_pairs : (⟨[(⟨#[97]⟩, ⟨#[]⟩)], 7, 0⟩ : Res (List (ByteArray × ByteArray))) = listR (keyR textR) [0, 1, 0, 1, 97, 0, 0, 9] := by kernel_rfl
theorem ab_multis : (⟨[], 0, 10⟩ : Res (List (ByteArray × List ByteArray))) = listR (keyR (listR textR)) [0, 1] := by kernel_rfl
theorem ab_entries : (⟨[(⟨#[]⟩, 0, ⟨#[]⟩)], 8, 0⟩ : Res (List (ByteArray × Int × ByteArray))) = listR (keyR valueR) [0, 1, 0, 0, 255, 255, 255, 255] := by kernel_rfl

theorem row_of_two (w : World) : BRow (w.alloc (.cells #[.int .u8 0, .int .u8 1] 5)) w.heap.size 0 2 2 [0, 1] := by
  refine ⟨rfl, Nat.le_refl _, by unfold maxLen; omega, fun _ => by simp, fun i hi => ?_, by intro j; rcases j with _ | _ | j <;> simp⟩
  rw [World.cell?_alloc_at _ _ _ _ rfl]
  rcases (show i = 0 ∨ i = 1 from by omega) with rfl | rfl <;> rfl

theorem row_of_eight (w : World) (a b c d e f g h : Int) (hr : ∀ j : Nat, 0 ≤ [a, b, c, d, e, f, g, h][j]?.getD 0 ∧ [a, b, c, d, e, f, g, h][j]?.getD 0 ≤ 255) :
    BRow (w.alloc (.cells #[.int .u8 a, .int .u8 b, .int .u8 c, .int .u8 d, .int .u8 e, .int .u8 f, .int .u8 g, .int .u8 h] 5)) w.heap.size 0 8 8 [a, b, c, d, e, f, g, h] := by
  refine ⟨rfl, Nat.le_refl _, by unfold maxLen; omega, fun _ => by simp, fun i hi => ?_, hr⟩
  rw [World.cell?_alloc_at _ _ _ _ rfl]
  rcases (show i = 0 ∨ i = 1 ∨ i = 2 ∨ i = 3 ∨ i = 4 ∨ i = 5 ∨ i = 6 ∨ i = 7 from by omega) with rfl | rfl | rfl | rfl | rfl | rfl | rfl | rfl <;> rfl

theorem view_ab (w : World) : View 1 VS (w.alloc (.cells #[.string ⟨#[97]⟩, .string ⟨#[98]⟩] 9)) (some ⟨w.heap.size, 0, none⟩) 2 2 [⟨#[97]⟩, ⟨#[98]⟩] := by
  refine ⟨rfl, Nat.le_refl _, by unfold maxLen; omega, (fun e => by cases e), fun _ => ⟨_, _, rfl, by simp, fun i hi => ?_⟩⟩
  rcases (show i = 0 ∨ i = 1 from by omega) with rfl | rfl
  · refine ⟨fun _ => .string ⟨#[97]⟩, fun j hj => ?_, rfl⟩
    obtain rfl : j = 0 := by omega
    rw [World.cell?_alloc_at _ _ _ _ rfl]; rfl
  · refine ⟨fun _ => .string ⟨#[98]⟩, fun j hj => ?_, rfl⟩
    obtain rfl : j = 0 := by omega
    rw [World.cell?_alloc_at _ _ _ _ rfl]; rfl

theorem aw_texts (w W : World) (H : Nat) (hH : w.heap.size = H) (hW : W = w.alloc (.cells #[.string ⟨#[97]⟩, .string ⟨#[98]⟩] 9)) :
    Calls Try.prog 40 #[.slice (some ⟨H, 0, none⟩) 2 2] W fun e w' => ∃ a cp, e = .returned (.tuple #[.slice a 8 cp, .int .i64 0]) ∧ Hid (IsB w' a 8 cp [0, 2, 0, 1, 97, 0, 1, 98]) ∧ Below w.heap.size w w' := by
  subst hH hW
  refine (texts_any (view_ab w) (by intro x hx; simp at hx; rcases hx with rfl | rfl <;> decide) ab_bytes).mono ?_
  rintro e w' ⟨a, cp, rfl, HP, hB⟩
  exact ⟨a, cp, rfl, HP.out.2, (below_one w _).trans (hB.mono (by simp))⟩

theorem aw_entries (w W : World) (H : Nat) (hH : w.heap.size = H) (hW : W = w.alloc (.cells #[.int .u8 0, .int .u8 1, .int .u8 0, .int .u8 0, .int .u8 255, .int .u8 255, .int .u8 255, .int .u8 255] 5)) :
    Calls Try.prog 34 #[.slice (some ⟨H, 0, none⟩) 8 8] W fun e w' => ∃ a cp r, e = .returned (.tuple #[.slice a 1 cp, r, .int .i64 0]) ∧ Below w.heap.size w w' := by
  subst hH hW
  refine (getEntries_any (row_of_eight w 0 1 0 0 255 255 255 255 (by intro j; rcases j with _ | _ | _ | _ | _ | _ | _ | _ | j <;> simp)).isB (by omega) ab_entries).mono ?_
  rintro e w' ⟨v, r, lr, cr, rfl, HO, HB, hB⟩
  obtain ⟨a, cp, rfl, hv, hf⟩ := HO.out.view
  exact ⟨a, cp, _, rfl, (below_one w _).trans (hB.mono (by simp))⟩
end Go.Proofs.Ytkcnmmlakimonaa
