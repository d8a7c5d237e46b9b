/-
  RingReads: the walk.
-/
import Derived.Test.YtohkpihjkaffoaaDoorRd
namespace Go.Proofs.YtohkpihjkaffoaaDoor
open Go.RowKit
set_option maxRecDepth 100000
set_option linter.unusedVariables false
set_option linter.unusedSimpArgs false

/-- What the statements ask first. -/
def Awake : Prop := ∀ w, Calls Tryd.prog 8 #[] w fun e w' => e = .returned (.bool true) ∧ Below w.heap.size w w'

theorem reads_walk (hA : Awake) {w : World} (hS : Sents w) {s : ByteArray} (hz : s.size ≤ maxLen) :
    Calls Tryd.prog 4 #[.string s] w fun e w' => e = .returned (.bool true) ∧ Below w.heap.size w w' := by
  have HA : Hid (Calls Tryd.prog 8 #[] w fun e w' => e = .returned (.bool true) ∧ Below w.heap.size w w') := hA w
  have hz2 : s.size ≤ 9223372036854775807 := hz
  clear hA
  by_cases hl : s.size ≤ 300
  · obtain ⟨⟨x, er⟩, hx⟩ : ∃ p, p = rdV (rd s.data.toList) := ⟨_, rfl⟩
    have HR : Hid (∀ W, Below w.heap.size w W → Calls Tryd.prog 18 #[.string s] W fun e w' => e = .returned (.tuple #[.int .i64 x, .int .i64 er]) ∧ Below W.heap.size W w') := fun W hW => read_any (hS.old hW) (by omega) hx.symm
    have HD : Hid (∀ W, Calls Tryd.prog 19 #[.string s] W fun e w' => e = .returned (.tuple #[.int .i64 x, .int .i64 er]) ∧ w' = W) := fun W => refRead_any (by omega) hx.symm
    have hl2 : ¬ 300 < s.size := by omega
    clear hx hS
    go_enter Tryd.func4, Tryd.ntmps4
    go_wp2_with (go_at_call 8; refine Calls.mono HA.out ?_; rintro e w1 ⟨rfl, hB⟩; have HB1 : Hid (Below w.heap.size w w1) := hB; clear hB)
    refine Calls.mono (HR.out w1 HB1.out) ?_
    rintro e w2 ⟨rfl, hB2⟩
    have HB2 : Hid (Below w.heap.size w w2) := HB1.out.trans (hB2.mono HB1.out.size)
    clear hB2
    go_wp2_with fail
    refine Calls.mono (HD.out w2) ?_
    rintro e w3 ⟨rfl, rfl⟩
    go_wp2_with fail
    go_ret
    exact ⟨rfl, HB2.out⟩
  · have hl2 : 300 < s.size := by omega
    go_enter Tryd.func4, Tryd.ntmps4
    go_wp2_with (go_at_call 8; refine Calls.mono HA.out ?_; rintro e w1 ⟨rfl, hB⟩; have HB1 : Hid (Below w.heap.size w w1) := hB; clear hB)
    go_ret
    exact ⟨rfl, HB1.out⟩
end Go.Proofs.YtohkpihjkaffoaaDoor
