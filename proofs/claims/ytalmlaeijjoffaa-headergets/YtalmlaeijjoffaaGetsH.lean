/-
  HeaderGets walked: it answers true, and turns nothing that was there.
-/
import Derived.Test.YtalmlaeijjoffaaAwake
import Derived.Test.YtalmlaeijjoffaaRefGetH
namespace Go.Proofs.Ytalmlaeijjoffaa
open Go.RowKit
set_option linter.unusedVariables false
set_option linter.unusedSimpArgs false

set_option maxHeartbeats 2000000 in
theorem gets_walk (a : Option Addr) (len cap : Nat) (zs : List Int) (w : World) (h : IsRow .u8 w a len cap zs) :
    Calls Try.prog 4 #[.slice a len cap] w fun e w' => e = .returned (.bool true) ∧ Below w.heap.size w w' := by
  have HI : Hid (IsB w a len cap (zs.take len)) := h.isB
  generalize zs.take len = Z at HI
  clear h
  have HG : Hid (∀ W, Below w.heap.size w W → Calls Try.prog 14 #[.slice a len cap] W fun e w' => e = .returned (.tuple #[.agg #[.int .u8 (gV Z), .int .u8 (gF Z), .int .i16 (gS Z), .int .u8 (gO Z), .int .u32 (gL Z)], .int .i64 (gE Z)]) ∧ Below W.heap.size W w') := fun W hW => get_any (HI.out.old hW)
  have HR : Hid (∀ W, Below w.heap.size w W → Calls Try.prog 15 #[.slice a len cap] W fun e w' => e = .returned (.tuple #[.agg #[.int .u8 (gV Z), .int .u8 (gF Z), .int .i16 (gS Z), .int .u8 (gO Z), .int .u32 (gL Z)], .int .i64 (gE Z)]) ∧ Below W.heap.size W w') := fun W hW => rget_any (HI.out.old hW)
  generalize gV Z = v at HG HR
  generalize gF Z = f at HG HR
  generalize gS Z = s at HG HR
  generalize gO Z = o at HG HR
  generalize gL Z = l at HG HR
  generalize gE Z = E at HG HR
  clear HI
  go_enter Try.func4, Try.ntmps4
  go_wp2_with fail
  refine (awake_any _).mono ?_
  rintro e w1 ⟨rfl, hB1⟩
  go_wp2_with fail
  refine Calls.mono (HG.out _ hB1) ?_
  rintro e w2 ⟨rfl, hB2⟩
  have hA2 : Below w.heap.size w w2 := hB1.trans (hB2.mono hB1.size)
  have hA2' : Below w.heap.size w (w2.alloc (.cells #[.int .u8 v, .int .u8 f, .int .i16 s, .int .u8 o, .int .u32 l] 25)) := hA2.alloc hA2.size _
  go_wp2_with fail
  refine Calls.mono (HR.out _ hA2') ?_
  rintro e w3 ⟨rfl, hB3⟩
  have hA3 : Below w.heap.size w w3 := hA2'.trans (hB3.mono hA2'.size)
  have hB3' : Below (w2.heap.size + 1) (w2.alloc (.cells #[.int .u8 v, .int .u8 f, .int .i16 s, .int .u8 o, .int .u32 l] 25)) w3 := hB3.mono (by simp)
  obtain ⟨c0, c1, c2, c3, c4, hz⟩ := box5 hB3'
  have hA : Below w.heap.size w ((w3.alloc (.cells #[.int .u8 v, .int .u8 f, .int .i16 s, .int .u8 o, .int .u32 l] 32)).drew) := (hA3.alloc hA3.size _).drew
  clear HG HR hB1 hB2 hA2 hA2' hB3 hB3'
  go_wp2_with fail
  go_region_with (go_at_call 11; refine (model_any _ _ _ _ _ _).mono ?_; rintro e wb ⟨rfl, hBb⟩; obtain ⟨hcb, hfb⟩ := bcell hBb)
  all_goals
    go_wp2_with fail
    go_ret
    refine ⟨rfl, ?_⟩
    exact hA.trans (hBb.mono hA.size)
end Go.Proofs.Ytalmlaeijjoffaa
