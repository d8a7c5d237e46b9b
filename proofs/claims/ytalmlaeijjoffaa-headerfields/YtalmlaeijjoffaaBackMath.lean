/-
  What is put is got, and what is got is put as it was: plain facts on the nine bytes.
-/
import Derived.Test.YtalmlaeijjoffaaPutsH
namespace Go.Proofs.Ytalmlaeijjoffaa
open Go.RowKit
set_option linter.unusedVariables false
set_option linter.unusedSimpArgs false

theorem hd_strm {v f s o l : Int} (h : HOk v f s o l) (Z : List Int) : strm (hdB v f s o l ++ Z) = s := by
  have := h.s0; have := h.s1
  show sgn (s % 65536 / 256 * 256 + s % 256) 2 = s
  unfold sgn
  simp only [show 8 * 2 - 1 = 15 from rfl, show 8 * 2 = 16 from rfl]
  split <;> omega

theorem hd_leng {v f s o l : Int} (h : HOk v f s o l) (Z : List Int) : leng (hdB v f s o l ++ Z) = l := by
  have := h.l0; have := h.l1
  show ((l / 16777216 % 256 * 256 + l / 65536 % 256) * 256 + l / 256 % 256) * 256 + l % 256 = l
  omega

/-- What is put is got, whatever is behind. -/
theorem got_put {v f s o l : Int} (h : HOk v f s o l) (hc : chk v f o l = 0) (Z : List Int) :
    gE (hdB v f s o l ++ Z) = 0 ∧ gV (hdB v f s o l ++ Z) = v ∧ gF (hdB v f s o l ++ Z) = f ∧ gS (hdB v f s o l ++ Z) = s ∧ gO (hdB v f s o l ++ Z) = o ∧ gL (hdB v f s o l ++ Z) = l := by
  have e0 : (hdB v f s o l ++ Z).getD 0 0 = v := rfl
  have e1 : (hdB v f s o l ++ Z).getD 1 0 = f := rfl
  have e4 : (hdB v f s o l ++ Z).getD 4 0 = o := rfl
  have hE : gE (hdB v f s o l ++ Z) = 0 := by
    rw [gE_long (by rw [List.length_append, hdB_len]; omega), e0, e1, e4, hd_leng h]
    exact hc
  refine ⟨hE, ?_, ?_, ?_, ?_, ?_⟩
  · unfold gV; rw [if_pos hE, e0]
  · unfold gF; rw [if_pos hE, e1]
  · unfold gS; rw [if_pos hE, hd_strm h]
  · unfold gO; rw [if_pos hE, e4]
  · unfold gL; rw [if_pos hE, hd_leng h]

theorem nine_of {zs : List Int} (h : 9 ≤ zs.length) : ∃ a b c d e f g i j r, zs = a :: b :: c :: d :: e :: f :: g :: i :: j :: r := by
  match zs, h with
  | a :: b :: c :: d :: e :: f :: g :: i :: j :: r, _ => exact ⟨a, b, c, d, e, f, g, i, j, r, rfl⟩

/-- What is got is put as it was. -/
theorem put_got {zs : List Int} (hl : 9 ≤ zs.length) (hr : ∀ j : Nat, 0 ≤ zs[j]?.getD 0 ∧ zs[j]?.getD 0 ≤ 255) (hE : gE zs = 0) :
    hdB (gV zs) (gF zs) (gS zs) (gO zs) (gL zs) = zs.take 9 ∧ chk (gV zs) (gF zs) (gO zs) (gL zs) = 0 ∧ HOk (gV zs) (gF zs) (gS zs) (gO zs) (gL zs) := by
  have hc := gE_long hl
  have e0 : gV zs = zs.getD 0 0 := if_pos hE
  have e1 : gF zs = zs.getD 1 0 := if_pos hE
  have e2 : gS zs = strm zs := if_pos hE
  have e3 : gO zs = zs.getD 4 0 := if_pos hE
  have e4 : gL zs = leng zs := if_pos hE
  rw [e0, e1, e2, e3, e4]
  refine ⟨?_, by rw [← hc]; exact hE, hok_of hr⟩
  have h2 := getD_rng hr 2; have h3 := getD_rng hr 3
  have h5 := getD_rng hr 5; have h6 := getD_rng hr 6; have h7 := getD_rng hr 7; have h8 := getD_rng hr 8
  unfold strm
  clear e0 e1 e2 e3 e4 hc hE hr
  obtain ⟨a, b, c, d, e, f, g, i, j, r, rfl⟩ := nine_of hl
  simp only [leng, hdB, sgn, List.getD_cons_zero, List.getD_cons_succ, List.take_succ_cons, List.take_zero, List.cons.injEq, and_true, true_and, show 8 * 2 - 1 = 15 from rfl, show 8 * 2 = 16 from rfl] at *
  refine ⟨?_, ?_, ?_, ?_, ?_, ?_⟩ <;> (try split) <;> omega

/-- Beside an error all fields are noughts. -/
theorem got_none {zs : List Int} (hE : gE zs ≠ 0) : gV zs = 0 ∧ gF zs = 0 ∧ gS zs = 0 ∧ gO zs = 0 ∧ gL zs = 0 := ⟨if_neg hE, if_neg hE, if_neg hE, if_neg hE, if_neg hE⟩
end Go.Proofs.Ytalmlaeijjoffaa
