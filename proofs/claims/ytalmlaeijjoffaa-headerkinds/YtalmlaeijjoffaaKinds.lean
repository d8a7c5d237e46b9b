/-
  HeaderKinds walked: it answers true, and turns nothing that was there.
-/
import Derived.Test.YtalmlaeijjoffaaAwake
namespace Go.Proofs.Ytalmlaeijjoffaa
open Go.RowKit
set_option linter.unusedVariables false
set_option linter.unusedSimpArgs false

theorem chain3 {w W w1 w2 w3 : World} (h : Below w.heap.size w W) (h1 : Below W.heap.size W w1) (h2 : Below w1.heap.size w1 w2) (h3 : Below w2.heap.size w2 w3) : Below w.heap.size w w3 :=
  have a := h.trans (h1.mono h.size)
  have b := a.trans (h2.mono a.size)
  b.trans (h3.mono b.size)

set_option maxHeartbeats 2000000 in
theorem kinds_walk (r : Bool) (f o s : Int) (w : World) (h : HOk 4 f s o 0) :
    Calls Try.prog 7 #[.bool r, .int .u8 f, .int .u8 o, .int .i16 s] w fun e w' => e = .returned (.bool true) ∧ Below w.heap.size w w' := by
  have H4 : Hid (HOk 4 f s o 0) := h
  have H1 : Hid (HOk 132 f s o 0) := (⟨by omega, by omega, h.f0, h.f1, h.s0, h.s1, h.o0, h.o1, h.l0, h.l1⟩ : HOk 132 f s o 0)
  clear h
  cases r
  · go_enter Try.func7, Try.ntmps7
    go_wp2_with fail
    refine (awake_any _).mono ?_
    rintro e w1 ⟨rfl, hB1⟩
    go_wp2_with fail
    have hA : Below w.heap.size w ((w1.alloc (.cells #[.int .u8 4, .int .u8 f, .int .i16 s, .int .u8 o, .int .u32 0] 25)).drew) := (hB1.alloc hB1.size _).drew
    go_region_with (first
      | (go_at_call 12; refine (check_any _ _ _ _ _ _ H4.out).mono ?_; rintro e wa ⟨rfl, hBa⟩; obtain ⟨hca, hfa⟩ := bcell hBa)
      | (go_at_call 11; refine (model_any _ _ _ _ _ _).mono ?_; rintro e wb ⟨rfl, hBb⟩; obtain ⟨hcb, hfb⟩ := bcell hBb)
      | (go_at_call 13; refine (rcheck_any _ _ _ _ _ _ H4.out).mono ?_; rintro e wc ⟨rfl, hBc⟩; obtain ⟨hcc, hfc⟩ := bcell hBc))
    all_goals
      go_wp2_with fail
      go_ret
      refine ⟨rfl, ?_⟩
      first | exact chain3 hA hBa hBb hBc | exact chain3 hA hBb hBa hBc | exact chain3 hA hBb hBc hBa
  · go_enter Try.func7, Try.ntmps7
    go_wp2_with fail
    refine (awake_any _).mono ?_
    rintro e w1 ⟨rfl, hB1⟩
    go_wp2_with fail
    have hA : Below w.heap.size w ((w1.alloc (.cells #[.int .u8 132, .int .u8 f, .int .i16 s, .int .u8 o, .int .u32 0] 25)).drew) := (hB1.alloc hB1.size _).drew
    go_region_with (first
      | (go_at_call 12; refine (check_any _ _ _ _ _ _ H1.out).mono ?_; rintro e wa ⟨rfl, hBa⟩; obtain ⟨hca, hfa⟩ := bcell hBa)
      | (go_at_call 11; refine (model_any _ _ _ _ _ _).mono ?_; rintro e wb ⟨rfl, hBb⟩; obtain ⟨hcb, hfb⟩ := bcell hBb)
      | (go_at_call 13; refine (rcheck_any _ _ _ _ _ _ H1.out).mono ?_; rintro e wc ⟨rfl, hBc⟩; obtain ⟨hcc, hfc⟩ := bcell hBc))
    all_goals
      go_wp2_with fail
      go_ret
      refine ⟨rfl, ?_⟩
      first | exact chain3 hA hBa hBb hBc | exact chain3 hA hBb hBa hBc | exact chain3 hA hBb hBc hBa
end Go.Proofs.Ytalmlaeijjoffaa
