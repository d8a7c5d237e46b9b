/-
  The document's examples, as the statements ask them first: awake answers true, and turns nothing that was there.
-/
import Derived.Test.YtohgaeamfobcaaaPutE
namespace Go.Proofs.Ytohgaeamfobcaaa
open Go.RowKit
set_option linter.unusedVariables false
set_option linter.unusedSimpArgs false

theorem ab_bytes : (([0, 2, 0, 1, 97, 0, 1, 98] : List Int), (0 : Int)) = listB textB [⟨#[97]⟩, ⟨#[98]⟩] := by kernel_rfl
theorem ab_pairs : (⟨[(⟨#[97]⟩, ⟨#[]⟩)], 7, 0⟩ : Res (List (ByteArray × ByteArray))) = listR (keyR textR) [0, 1, 0, 1, 97, 0, 0, 9] := by kernel_rfl
theorem ab_multis : (⟨[], 0, 10⟩ : Res (List (ByteArray × List ByteArray))) = listR (keyR (listR textR)) [0, 1] := by kernel_rfl
theorem ab_entries : (⟨[(⟨#[]⟩, 0, ⟨#[]⟩)], 8, 0⟩ : Res (List (ByteArray × Int × ByteArray))) = listR (keyR valueR) [0, 1, 0, 0, 255, 255, 255, 255] := by kernel_rfl

theorem row_of_two (w : World) : BRow (w.alloc (.cells #[.int .u8 0, .int .u8 1] 5)) w.heap.size 0 2 2 [0, 1] := by
  refine ⟨rfl, Nat.le_refl _, by unfold maxLen; omega, fun _ => by simp, fun i hi => ?_, by intro j; rcases j with _ | _ | j <;> simp⟩
  rw [World.cell?_alloc_at _ _ _ _ rfl]
  rcases (show i = 0 ∨ i = 1 from by omega) with rfl | rfl <;> rfl

theorem row_of_eight (w : World) (a b c d e f g h : Int) (hr : ∀ j : Nat, 0 ≤ [a, b, c, d, e, f, g, h][j]?.getD 0 ∧ [a, b, c, d, e, f, g, h][j]?.getD 0 ≤ 255) :
    BRow (w.alloc (.cells #[.int .u8 a, .int .u8 b, .int .u8 c, .int .u8 d, .int .u8 e, .int .u8 f, .int .u8 g, .int .u8 h] 5)) w.heap.size 0 8 8 [a, b, c, d, e, f, g, h] := by
  refine ⟨rfl, Nat.le_refl _, by unfold maxLen; omega, fun _ => by simp, fun i hi => ?_, hr⟩
  rw [World.cell?_alloc_at _ _ _ _ rfl]
  rcases (show i = 0 ∨ i = 1 ∨ i = 2 ∨ i = 3 ∨ i = 4 ∨ i = 5 ∨ i = 6 ∨ i = 7 from by omega) with rfl | rfl | rfl | rfl | rfl | rfl | rfl | rfl <;> rfl

theorem view_ab (w : World) : View 1 VS (w.alloc (.cells #[.string ⟨#[97]⟩, .string ⟨#[98]⟩] 9)) (some ⟨w.heap.size, 0, none⟩) 2 2 [⟨#[97]⟩, ⟨#[98]⟩] := by
  refine ⟨rfl, Nat.le_refl _, by unfold maxLen; omega, (fun e => by cases e), fun _ => ⟨_, _, rfl, by simp, fun i hi => ?_⟩⟩
  rcases (show i = 0 ∨ i = 1 from by omega) with rfl | rfl
  · refine ⟨fun _ => .string ⟨#[97]⟩, fun j hj => ?_, rfl⟩
    obtain rfl : j = 0 := by omega
    rw [World.cell?_alloc_at _ _ _ _ rfl]; rfl
  · refine ⟨fun _ => .string ⟨#[98]⟩, fun j hj => ?_, rfl⟩
    obtain rfl : j = 0 := by omega
    rw [World.cell?_alloc_at _ _ _ _ rfl]; rfl

theorem aw_texts (w W : World) (H : Nat) (hH : w.heap.size = H) (hW : W = w.alloc (.cells #[.string ⟨#[97]⟩, .string ⟨#[98]⟩] 9)) :
    Calls Try.prog 11 #[.slice (some ⟨H, 0, none⟩) 2 2] W fun e w' => ∃ a cp, e = .returned (.tuple #[.slice a 8 cp, .int .i64 0]) ∧ Hid (IsB w' a 8 cp [0, 2, 0, 1, 97, 0, 1, 98]) ∧ Below w.heap.size w w' := by
  subst hH hW
  refine (texts_any (view_ab w) (by intro x hx; simp at hx; rcases hx with rfl | rfl <;> decide) ab_bytes).mono ?_
  rintro e w' ⟨a, cp, rfl, HP, hB⟩
  exact ⟨a, cp, rfl, HP.out.2, (below_one w _).trans (hB.mono (by simp))⟩

theorem aw_pairs (w W : World) (H : Nat) (hH : w.heap.size = H) (hW : W = w.alloc (.cells #[.int .u8 0, .int .u8 1, .int .u8 0, .int .u8 1, .int .u8 97, .int .u8 0, .int .u8 0, .int .u8 9] 5)) :
    Calls Try.prog 19 #[.slice (some ⟨H, 0, none⟩) 8 8] W fun e w' => ∃ g o cp r cr, e = .returned (.tuple #[.slice (some ⟨g, o, none⟩) 1 cp, .slice r 1 cr, .int .i64 0]) ∧ g < w'.heap.size ∧ 1 ≤ cp ∧ cp ≤ 9223372036854775807 ∧ w'.cell? ⟨g, o, none⟩ = some (.string ⟨#[97]⟩) ∧ Below w.heap.size w w' := by
  subst hH hW
  refine (getPairs_any (row_of_eight w 0 1 0 1 97 0 0 9 (by intro j; rcases j with _ | _ | _ | _ | _ | _ | _ | _ | j <;> simp)).isB (by omega) ab_pairs).mono ?_
  rintro e w' ⟨v, r, lr, cr, rfl, HO, HB, hB⟩
  obtain ⟨a, cp, rfl, hv, hf⟩ := HO.out.view
  have hcm := hv.2.2.1
  unfold maxLen at hcm
  obtain ⟨b, off, rfl, hc0, hc1⟩ := hv.pair (k := 0) (by decide)
  obtain ⟨_, off2, rfl, hR⟩ := HB.out.row rfl
  have hlr : lr = 1 := hR.len_eq.symm
  subst hlr
  exact ⟨b, off, cp, _, cr, rfl, (hf _ rfl).2, hv.2.1, hcm, by simpa using hc0, (below_one w _).trans (hB.mono (by simp))⟩

theorem aw_multis (w W : World) (H : Nat) (hH : w.heap.size = H) (hW : W = w.alloc (.cells #[.int .u8 0, .int .u8 1] 5)) :
    Calls Try.prog 22 #[.slice (some ⟨H, 0, none⟩) 2 2] W fun e w' => ∃ v r, e = .returned (.tuple #[v, r, .int .i64 10]) ∧ Below w.heap.size w w' := by
  subst hH hW
  refine (getMultis_any (row_of_two w).isB (by omega) ab_multis).mono ?_
  rintro e w' ⟨v, r, lr, cr, rfl, HO, HB, hB⟩
  exact ⟨v, _, rfl, (below_one w _).trans (hB.mono (by simp))⟩

theorem aw_entries (w W : World) (H : Nat) (hH : w.heap.size = H) (hW : W = w.alloc (.cells #[.int .u8 0, .int .u8 1, .int .u8 0, .int .u8 0, .int .u8 255, .int .u8 255, .int .u8 255, .int .u8 255] 5)) :
    Calls Try.prog 25 #[.slice (some ⟨H, 0, none⟩) 8 8] W fun e w' => ∃ a cp r, e = .returned (.tuple #[.slice a 1 cp, r, .int .i64 0]) ∧ Below w.heap.size w w' := by
  subst hH hW
  refine (getEntries_any (row_of_eight w 0 1 0 0 255 255 255 255 (by intro j; rcases j with _ | _ | _ | _ | _ | _ | _ | _ | j <;> simp)).isB (by omega) ab_entries).mono ?_
  rintro e w' ⟨v, r, lr, cr, rfl, HO, HB, hB⟩
  obtain ⟨a, cp, rfl, hv, hf⟩ := HO.out.view
  exact ⟨a, cp, _, rfl, (below_one w _).trans (hB.mono (by simp))⟩

set_option maxHeartbeats 2000000 in
theorem awake_any (w : World) :
    Calls Try.prog 10 #[] w fun e w' => e = .returned (.bool true) ∧ Below w.heap.size w w' := by
  go_enter Try.func10, Try.ntmps10
  go_wp2_with fail
  refine (aw_texts w _ _ rfl rfl).mono ?_
  rintro e w1 ⟨a1, cp1, rfl, HI1, hB1⟩
  go_wp2_with fail
  refine (aw_pairs w1 _ _ rfl rfl).mono ?_
  rintro e w2 ⟨g2, o2, cp2, r2, cr2, rfl, hg2, hc2, hm2, hcell2, hB2⟩
  go_wp2_with fail
  refine (aw_multis w2 _ _ rfl rfl).mono ?_
  rintro e w3 ⟨v3, r3, rfl, hB3⟩
  go_wp2_with fail
  refine (aw_entries w3 _ _ rfl rfl).mono ?_
  rintro e w4 ⟨a4, cp4, r4, rfl, hB4⟩
  have hB24 : Below w2.heap.size w2 w4 := hB3.trans (hB4.mono hB3.size)
  have hB14 : Below w1.heap.size w1 w4 := hB2.trans (hB24.mono hB2.size)
  have hB04 : Below w.heap.size w w4 := hB1.trans (hB14.mono hB1.size)
  have hc : w4.cell? ⟨g2, o2, none⟩ = some (.string ⟨#[97]⟩) := (hB24.cell hg2).trans hcell2
  have hgs4 : g2 < w4.heap.size := Nat.lt_of_lt_of_le hg2 hB24.size
  have hcv := (HI1.out.old hB14).conv
  have hst : strOfNums [0, 2, 0, 1, 97, 0, 1, 98] = ⟨#[0, 2, 0, 1, 97, 0, 1, 98]⟩ := rfl
  rw [hst] at hcv
  clear hst HI1 hcell2 hB24 hB14 hB1 hB2 hB3 hB4
  go_wp2_with fail
  go_ret
  exact ⟨rfl, hB04⟩
end Go.Proofs.Ytohgaeamfobcaaa
