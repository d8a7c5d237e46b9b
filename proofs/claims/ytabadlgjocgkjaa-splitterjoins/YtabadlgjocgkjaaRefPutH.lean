/-
  The contract of the document's own Put.
-/
import Derived.Test.YtabadlgjocgkjaaPut
namespace Go.Proofs.Ytabadlgjocgkjaa
open Go.RowKit
set_option linter.unusedVariables false
set_option linter.unusedSimpArgs false

set_option maxHeartbeats 400000 in
theorem rput_err (v f s o l : Int) (w : World) (h : HOk v f s o l) (hc : chk v f o l ≠ 0) :
    Calls Try.prog 26 #[.agg #[.int .u8 v, .int .u8 f, .int .i16 s, .int .u8 o, .int .u32 l]] w fun e w' => e = .returned (.tuple #[.slice none 0 0, .int .i64 (chk v f o l)]) ∧ Below w.heap.size w w' := by
  have t : (chk v f o l != 0) = true := by simpa using hc
  have H : Hid (HOk v f s o l) := h
  clear h hc
  go_enter Try.func26, Try.ntmps26
  go_wp2_with fail
  refine (rcheck_any v f s o l _ H.out).mono ?_
  rintro e w1 ⟨rfl, hB1⟩
  go_wp2_with fail
  go_ret2
  exact ⟨rfl, (below_one _ _).trans (hB1.mono (by simp))⟩

/-- A row of nine bytes that is written out. -/
theorem own_nine (w : World) (a b c d e f g h i : Int) (base : Nat) (hb : base ≤ w.heap.size) (X : List Int) (hX : [a, b, c, d, e, f, g, h, i] = X) :
    OwnB (w.alloc (.cells #[.int .u8 a, .int .u8 b, .int .u8 c, .int .u8 d, .int .u8 e, .int .u8 f, .int .u8 g, .int .u8 h, .int .u8 i] 5)) base (.slice (some ⟨w.heap.size, 0, none⟩) 9 9) 9 X := by
  subst hX
  exact ⟨rfl, .inr ⟨w.heap.size, 9, _, rfl, hb, heap_alloc_new w _, Nat.le_refl _, by unfold maxLen; omega, rfl, rfl⟩⟩

set_option maxHeartbeats 1000000 in
theorem rput_ok (v f s o l : Int) (w : World) (h : HOk v f s o l) (hc : chk v f o l = 0) :
    Calls Try.prog 26 #[.agg #[.int .u8 v, .int .u8 f, .int .i16 s, .int .u8 o, .int .u32 l]] w fun e w' => ∃ val, e = .returned (.tuple #[val, .int .i64 0]) ∧ OwnB w' w.heap.size val 9 (hdB v f s o l) ∧ Below w.heap.size w w' := by
  have H : Hid (HOk v f s o l) := h
  have HC : Hid (chk v f o l = 0) := hc
  obtain ⟨v0, v1, f0, f1, s0, s1, o0, o1, l0, l1⟩ := h
  clear hc
  by_cases hs : s < 0
  all_goals
    go_enter Try.func26, Try.ntmps26
    go_wp2_with fail
    refine (rcheck_any v f s o l _ H.out).mono ?_
    rintro e w1 ⟨rfl, hB1⟩
    rw [HC.out]
    have hB1' : Below (w.heap.size + 1) (w.alloc (.cells #[.int .u8 v, .int .u8 f, .int .i16 s, .int .u8 o, .int .u32 l] 48)) w1 := hB1.mono (by simp)
    obtain ⟨c0, c1, c2, c3, c4, hz⟩ := box5 hB1'
    go_wp2_with fail
    go_ret2
    refine ⟨_, rfl, own_nine w1 _ _ _ _ _ _ _ _ _ _ (by omega) _ ?_, ((below_one _ _).trans (hB1'.mono (by omega))).alloc (by omega) _⟩
    unfold hdB
    simp only [List.cons.injEq, and_true, true_and]
    omega
end Go.Proofs.Ytabadlgjocgkjaa
