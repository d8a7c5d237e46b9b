/-
  HeaderPuts walked: it answers true, and turns nothing that was there.
-/
import Derived.Test.YtalmlaeijjoffaaAwake
import Derived.Test.YtalmlaeijjoffaaRefPutH
import Derived.Deep.RegionHeld
namespace Go.Proofs.Ytalmlaeijjoffaa
open Go.RowKit
set_option linter.unusedVariables false
set_option linter.unusedSimpArgs false

/-- The bytes that are put: none at an error. -/
def pB (v f s o l : Int) : List Int := if chk v f o l = 0 then hdB v f s o l else []

theorem put_any (v f s o l : Int) (w : World) (h : HOk v f s o l) :
    Calls Try.prog 9 #[.agg #[.int .u8 v, .int .u8 f, .int .i16 s, .int .u8 o, .int .u32 l]] w fun e w' => ∃ x n c, e = .returned (.tuple #[.slice x n c, .int .i64 (chk v f o l)]) ∧ Hid (IsB w' x n c (pB v f s o l)) ∧ Below w.heap.size w w' := by
  by_cases hc : chk v f o l = 0
  · refine (put_ok v f s o l w h hc).mono ?_
    rintro e w' ⟨val, rfl, ho, hB⟩
    obtain ⟨x, c, rfl, HI⟩ := ho.isB (by omega) (hdB_range h)
    exact ⟨x, 9, c, by rw [hc], by rw [pB, if_pos hc]; exact HI, hB⟩
  · refine (put_err v f s o l w h hc).mono ?_
    rintro e w' ⟨rfl, hB⟩
    exact ⟨none, 0, 0, rfl, by rw [pB, if_neg hc]; exact isB_nil _, hB⟩

theorem rput_any (v f s o l : Int) (w : World) (h : HOk v f s o l) :
    Calls Try.prog 10 #[.agg #[.int .u8 v, .int .u8 f, .int .i16 s, .int .u8 o, .int .u32 l]] w fun e w' => ∃ x n c, e = .returned (.tuple #[.slice x n c, .int .i64 (chk v f o l)]) ∧ Hid (IsB w' x n c (pB v f s o l)) ∧ Below w.heap.size w w' := by
  by_cases hc : chk v f o l = 0
  · refine (rput_ok v f s o l w h hc).mono ?_
    rintro e w' ⟨val, rfl, ho, hB⟩
    obtain ⟨x, c, rfl, HI⟩ := ho.isB (by omega) (hdB_range h)
    exact ⟨x, 9, c, by rw [hc], by rw [pB, if_pos hc]; exact HI, hB⟩
  · refine (rput_err v f s o l w h hc).mono ?_
    rintro e w' ⟨rfl, hB⟩
    exact ⟨none, 0, 0, rfl, by rw [pB, if_neg hc]; exact isB_nil _, hB⟩

theorem check_from {w0 W : World} (hW : Below w0.heap.size w0 W) (v f s o l : Int) (h : HOk v f s o l) :
    Calls Try.prog 12 #[.agg #[.int .u8 v, .int .u8 f, .int .i16 s, .int .u8 o, .int .u32 l]] W fun e w' => e = .returned (.int .i64 (chk v f o l)) ∧ Below w0.heap.size w0 w' :=
  (check_any v f s o l W h).mono fun e w' ⟨he, hB⟩ => ⟨he, hW.trans (hB.mono hW.size)⟩

theorem rcheck_from {w0 W : World} (hW : Below w0.heap.size w0 W) (v f s o l : Int) (h : HOk v f s o l) :
    Calls Try.prog 13 #[.agg #[.int .u8 v, .int .u8 f, .int .i16 s, .int .u8 o, .int .u32 l]] W fun e w' => e = .returned (.int .i64 (chk v f o l)) ∧ Below w0.heap.size w0 w' :=
  (rcheck_any v f s o l W h).mono fun e w' ⟨he, hB⟩ => ⟨he, hW.trans (hB.mono hW.size)⟩

theorem model_from {w0 W : World} (hW : Below w0.heap.size w0 W) (v f s o l : Int) :
    Calls Try.prog 11 #[.agg #[.int .u8 v, .int .u8 f, .int .i16 s, .int .u8 o, .int .u32 l]] W fun e w' => e = .returned (.agg #[.int .u8 v, .int .u8 f, .int .i16 s, .int .u8 o, .int .u32 l]) ∧ Below w0.heap.size w0 w' :=
  (model_any v f s o l W).mono fun e w' ⟨he, hB⟩ => ⟨he, hW.trans (hB.mono hW.size)⟩

set_option maxHeartbeats 4000000 in
theorem puts_walk (v f s o l : Int) (w : World) (h : HOk v f s o l) :
    Calls Try.prog 3 #[.agg #[.int .u8 v, .int .u8 f, .int .i16 s, .int .u8 o, .int .u32 l]] w fun e w' => e = .returned (.bool true) ∧ Below w.heap.size w w' := by
  have H : Hid (HOk v f s o l) := h
  clear h
  go_enter Try.func3, Try.ntmps3
  go_wp2_with fail
  refine (awake_any _).mono ?_
  rintro e w1 ⟨rfl, hB1⟩
  have hC1 : Below (w.heap.size + 1) (w.alloc (.cells #[.int .u8 v, .int .u8 f, .int .i16 s, .int .u8 o, .int .u32 l] 25)) w1 := hB1.mono (by simp)
  obtain ⟨c0, c1, c2, c3, c4, hz⟩ := box5 hC1
  go_wp2_with fail
  refine (put_any v f s o l _ H.out).mono ?_
  rintro e w2 ⟨x2, n2, p2, rfl, HI2, hB2⟩
  have hC2 := hC1.trans (hB2.mono (by omega))
  clear c0 c1 c2 c3 c4 hz
  obtain ⟨c0, c1, c2, c3, c4, hz⟩ := box5 hC2
  go_wp2_with fail
  refine (model_any v f s o l _).mono ?_
  rintro e w3 ⟨rfl, hB3⟩
  have hC3 := hC2.trans (hB3.mono (by omega))
  clear c0 c1 c2 c3 c4 hz
  obtain ⟨c0, c1, c2, c3, c4, hz⟩ := box5 hC3
  go_wp2_with fail
  refine (rput_any v f s o l _ H.out).mono ?_
  rintro e w4 ⟨x4, n4, p4, rfl, HI4, hB4⟩
  have hC4 := hC3.trans (hB4.mono (by omega))
  have hD4 : Below w2.heap.size w2 w4 := hB3.trans (hB4.mono hB3.size)
  obtain ⟨T, hT⟩ : ∃ T, T = strOfNums (pB v f s o l) := ⟨_, rfl⟩
  have HCV : Hid (∀ W, Below w4.heap.size w4 W → (convert 27 9 (.slice x2 n2 p2)).run Try.prog W = .ok (.string T) W ∧ (convert 27 9 (.slice x4 n4 p4)).run Try.prog W = .ok (.string T) W ∧
      W.cell? ⟨w.heap.size, 0, none⟩ = some (.int .u8 v) ∧ W.cell? ⟨w.heap.size, 1, none⟩ = some (.int .u8 f) ∧ W.cell? ⟨w.heap.size, 2, none⟩ = some (.int .i16 s) ∧ W.cell? ⟨w.heap.size, 3, none⟩ = some (.int .u8 o) ∧ W.cell? ⟨w.heap.size, 4, none⟩ = some (.int .u32 l)) := by
    intro W hW
    have a := ((HI2.out.old hD4).old hW).conv
    have b := (HI4.out.old hW).conv
    rw [← hT] at a b
    have hs4 := hC4.size
    simp at hs4
    obtain ⟨e0, e1, e2, e3, e4, _⟩ := box5 (hC4.trans (hW.mono (by omega)))
    exact ⟨a, b, e0, e1, e2, e3, e4⟩
  have hE : Below w.heap.size w w4 := (below_one _ _).trans (hC4.mono (by omega))
  clear c0 c1 c2 c3 c4 hz hC1 hC2 hC3 hB1 hB2 hB3 hB4 hT HI2 HI4 hD4 hC4
  have hD : Below w4.heap.size w4 w4.drew := (Below.refl _ _).drew
  obtain ⟨a0, a1, a2, a3, a4, a5, a6⟩ := HCV.out _ hD
  obtain ⟨y0, y1, y2, y3, y4, y5, y6⟩ := HCV.out _ (Below.refl w4.heap.size w4)
  go_wp2_with fail
  go_region_held (fun W => (convert 27 9 (.slice x2 n2 p2)).run Try.prog W = .ok (.string T) W ∧ (convert 27 9 (.slice x4 n4 p4)).run Try.prog W = .ok (.string T) W ∧
      W.cell? ⟨w.heap.size, 0, none⟩ = some (.int .u8 v) ∧ W.cell? ⟨w.heap.size, 1, none⟩ = some (.int .u8 f) ∧ W.cell? ⟨w.heap.size, 2, none⟩ = some (.int .i16 s) ∧ W.cell? ⟨w.heap.size, 3, none⟩ = some (.int .u8 o) ∧ W.cell? ⟨w.heap.size, 4, none⟩ = some (.int .u32 l))
    (exact ⟨by assumption, by assumption, by assumption, by assumption, by assumption, by assumption, by assumption⟩) (first
    | (go_at_call 12; refine (check_from (w0 := w4) (by first | exact hTc | exact hTb | exact hD) _ _ _ _ _ H.out).mono ?_; rintro e wa ⟨rfl, hTa⟩; obtain ⟨b0, b1, b2, b3, b4, b5, b6⟩ := HCV.out _ hTa)
    | (go_at_call 11; refine (model_from (w0 := w4) (by first | exact hTa | exact hD) _ _ _ _ _).mono ?_; rintro e wb ⟨rfl, hTb⟩; obtain ⟨d0, d1, d2, d3, d4, d5, d6⟩ := HCV.out _ hTb)
    | (go_at_call 13; refine (rcheck_from (w0 := w4) (by first | exact hTa | exact hTb) _ _ _ _ _ H.out).mono ?_; rintro e wc ⟨rfl, hTc⟩; obtain ⟨i0, i1, i2, i3, i4, i5, i6⟩ := HCV.out _ hTc))
  all_goals
    go_wp2_with fail
    go_ret
    refine ⟨rfl, ?_⟩
    first | exact hE.trans (hTa.mono hE.size) | exact hE.trans (hTc.mono hE.size)
end Go.Proofs.Ytalmlaeijjoffaa
