/-
  MurmurShort walked: it answers true, and turns nothing that was there.
-/
import Derived.Test.YtpbclipckkdgfaaOwn
import Derived.Test.YtpbclipckkdgfaaHashes
namespace Go.Proofs.Ytpbclipckkdgfaa
open Go.RowKit
set_option linter.unusedVariables false

set_option maxRecDepth 20000 in
set_option maxHeartbeats 2000000 in
theorem short_walk (n c d : Int) (w : World) (hn : 0 ≤ n ∧ n ≤ 255) (hc : 0 ≤ c ∧ c ≤ 255) (hd : 0 ≤ d ∧ d ≤ 255) :
    Calls Try.prog 4 #[.int .u8 n, .int .u8 c, .int .u8 d] w fun e w' => e = .returned (.bool true) ∧ Below w.heap.size w w' := by
  obtain ⟨κ, hκ, hκ3⟩ : ∃ k : Nat, n % 33 = k ∧ k ≤ 32 := ⟨(n % 33).toNat, by omega, by omega⟩
  obtain ⟨B, hB⟩ : ∃ B : Nat → Int, B = fun i => if i % 2 = 0 then c else d := ⟨_, rfl⟩
  have HBr : Hid (∀ i, 0 ≤ B i ∧ B i ≤ 255) := fun i => by rw [hB]; simp only; split <;> assumption
  have HBe : Hid (∀ j, j % 2 = 0 → B j = c) := fun j h => by rw [hB]; simp only; rw [if_pos h]
  have HBo : Hid (∀ j, ¬ j % 2 = 0 → B j = d) := fun j h => by rw [hB]; simp only; rw [if_neg h]
  clear hB
  go_enter Try.func4, Try.ntmps4
  go_wp2_with (go_at_call 8; refine (awake_any _).mono ?_; rintro e w1 ⟨rfl, hB1⟩)
  go_loopw [8, 9] (fun v i wr => ∃ j : Nat, j ≤ κ ∧ i = .int .i64 j ∧ Hid (OwnB wr w.heap.size v j ((List.range j).map B)) ∧ Below w.heap.size w wr) (fun _ i _ => κ - (intOf i).toNat)
  case atStart => exact ⟨0, by omega, rfl, own_none _ _, hB1⟩
  case round =>
    obtain ⟨j, hj, rfl, hown, hBr⟩ := hrel
    by_cases hlt : j < κ
    · have hbs := hBr.size
      by_cases hp : j % 2 = 0
      · have hp' : ((j : Int) % 2 == 0) = true := by simp; omega
        have HOW : Hid (OwnB (wr.alloc (.cells #[.int .u8 c] 5)) w.heap.size _ j ((List.range j).map B)) := hown.out.laid _
        have HC : Hid _ := isB_one wr c hc.1 hc.2
        have HX : Hid (B j = c) := HBe.out j hp
        go_wp2_with (at_builtin; refine wpList_append_bytes rfl (.tmp 27) (.tmp 29) rfl rfl HOW.out rfl HC.out (by omega) ?c3 ?_)
        case c3 => simp; omega
        intro v' w3 hown' hB3
        have R1 : Hid (OwnB w3 w.heap.size v' (j + 1) ((List.range (j + 1)).map B)) := by rw [upto_succ, HX.out]; exact hown'
        have R2 : Below w.heap.size w w3 := (hBr.alloc hbs _).trans hB3
        clear hown' HOW HC hown
        go_wp2
        go_roundw
        case rel => exact ⟨j + 1, by omega, by go_num, R1, R2⟩
        case measure => simp [intOf] <;> omega
      · have hp' : ((j : Int) % 2 == 0) = false := by simp; omega
        have HOW : Hid (OwnB (wr.alloc (.cells #[.int .u8 d] 5)) w.heap.size _ j ((List.range j).map B)) := hown.out.laid _
        have HC : Hid _ := isB_one wr d hd.1 hd.2
        have HX : Hid (B j = d) := HBo.out j hp
        go_wp2_with (at_builtin; refine wpList_append_bytes rfl (.tmp 31) (.tmp 33) rfl rfl HOW.out rfl HC.out (by omega) ?c3 ?_)
        case c3 => simp; omega
        intro v' w3 hown' hB3
        have R1 : Hid (OwnB w3 w.heap.size v' (j + 1) ((List.range (j + 1)).map B)) := by rw [upto_succ, HX.out]; exact hown'
        have R2 : Below w.heap.size w w3 := (hBr.alloc hbs _).trans hB3
        clear hown' HOW HC hown
        go_wp2
        go_roundw
        case rel => exact ⟨j + 1, by omega, by go_num, R1, R2⟩
        case measure => simp [intOf] <;> omega
    · obtain rfl : j = κ := by omega
      obtain ⟨a, cap, rfl, hby⟩ := hown.out.byR (upto_range B HBr.out j)
      obtain ⟨f, hf⟩ : ∃ f : Nat → Int, f = fun i => ((List.range j).map B).getD i 0 := ⟨_, rfl⟩
      rw [← hf] at hby
      obtain ⟨x, y, _, h9, h10, h11, h12⟩ := both_hash a j cap f (by omega)
      have H9 : Hid _ := h9
      have H10 : Hid _ := h10
      have H11 : Hid _ := h11
      have H12 : Hid _ := h12
      have HB : Hid (∀ q, ByR (wr.drewN q) a j cap f) := fun q => hby.drewN q
      have HB0 : Hid (ByR wr a j cap f) := hby
      clear h9 h10 h11 h12 hf hby hown
      go_wp2_with fail
      refine Calls.mono (H9.out _ HB0.out) ?_
      rintro e w2 ⟨q, rfl, hw2⟩
      have HR : Hid (∀ q, ByR (w2.drewN q) a j cap f) := fun q' => by rw [hw2, World.drewN_drewN]; exact HB.out _
      have HR0 : Hid (ByR w2 a j cap f) := by rw [hw2]; exact HB.out _
      have hB2 : Below w.heap.size w w2 := by rw [hw2]; exact below_drewN hBr _
      clear hw2
      go_wp2_with fail
      refine Calls.mono (H10.out _ HR0.out) ?_
      rintro e w3 ⟨rfl, rfl⟩
      go_wp2_with fail
      refine Calls.mono (H11.out w3 HR0.out 0) ?_
      rintro e w4 ⟨rfl, m, hw4⟩
      have HR4 : Hid (ByR w4 a j cap f) := by rw [hw4]; exact HR.out _
      have hB4 : Below w.heap.size w w4 := by rw [hw4]; exact below_drewN hB2 _
      clear hw4
      go_wp2_with fail
      refine Calls.mono (H12.out w4 HR4.out 0) ?_
      rintro e w5 ⟨rfl, m5, hw5⟩
      have hB5 : Below w.heap.size w w5 := by rw [hw5]; exact below_drewN hB4 _
      clear hw5
      go_wp2
      go_ret
      exact ⟨by simp, hB5⟩
end Go.Proofs.Ytpbclipckkdgfaa
