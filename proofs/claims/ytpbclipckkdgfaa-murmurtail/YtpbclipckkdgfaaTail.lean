/-
  MurmurTail walked: it answers true, and turns nothing that was there.
-/
import Derived.Test.YtpbclipckkdgfaaOwn
import Derived.Test.YtpbclipckkdgfaaHashes
namespace Go.Proofs.Ytpbclipckkdgfaa
open Go.RowKit
set_option linter.unusedVariables false

theorem app_range {X Y : List Int} (hx : ∀ i : Nat, 0 ≤ X.getD i 0 ∧ X.getD i 0 ≤ 255) (hy : ∀ i : Nat, 0 ≤ Y.getD i 0 ∧ Y.getD i 0 ≤ 255) : ∀ i : Nat, 0 ≤ (X ++ Y).getD i 0 ∧ (X ++ Y).getD i 0 ≤ 255 := by
  intro i
  simp only [List.getD_eq_getElem?_getD] at hx hy ⊢
  by_cases h : i < X.length
  · rw [List.getElem?_append_left h]; exact hx i
  · rw [List.getElem?_append_right (by omega)]; exact hy _

set_option maxRecDepth 20000 in
set_option maxHeartbeats 2000000 in
theorem tail_long (n c : Int) (a : Option Addr) (len cap : Nat) (w : World) (hm : len ≤ maxLen) (hl : 40 < len) :
    Calls Try.prog 6 #[.int .u8 n, .slice a len cap, .int .u8 c] w fun e w' => e = .returned (.bool true) ∧ Below w.heap.size w w' := by
  unfold maxLen at hm
  have hl' : (40 : Int) < len := by omega
  go_enter Try.func6, Try.ntmps6
  go_wp2_with (go_at_call 8; refine (awake_any _).mono ?_; rintro e w1 ⟨rfl, hB1⟩)
  go_ret
  exact ⟨rfl, hB1⟩

set_option maxRecDepth 20000 in
set_option maxHeartbeats 2000000 in
theorem tail_walk (n c : Int) (a : Option Addr) (len cap : Nat) (zs : List Int) (w : World) (hn : 0 ≤ n ∧ n ≤ 255) (hc : 0 ≤ c ∧ c ≤ 255) (h : IsRow .u8 w a len cap zs) (hl : len ≤ 40) :
    Calls Try.prog 6 #[.int .u8 n, .slice a len cap, .int .u8 c] w fun e w' => e = .returned (.bool true) ∧ Below w.heap.size w w' := by
  obtain ⟨κ, hκ, hκ3⟩ : ∃ k : Nat, n % 4 = k ∧ k ≤ 3 := ⟨(n % 4).toNat, by omega, by omega⟩
  obtain ⟨B, hB⟩ : ∃ B : Nat → Int, B = fun (i : Nat) => (c + (i : Int) * 7) % 256 := ⟨_, rfl⟩
  have HBr : Hid (∀ i, 0 ≤ B i ∧ B i ≤ 255) := fun i => by rw [hB]; simp only; omega
  have HBe : Hid (∀ i : Nat, B i = (c + (i : Int) * 7) % 256) := fun i => by rw [hB]
  have HI : Hid (IsB w a len cap (zs.take len)) := h.isB
  have HZ : Hid (∀ i : Nat, 0 ≤ (zs.take len).getD i 0 ∧ (zs.take len).getD i 0 ≤ 255) := fun i => by
    have := byR_row h
    by_cases hi : i < len
    · have h2 := this.1 i
      rwa [List.getD_eq_getElem?_getD, List.getElem?_take_of_lt hi, ← List.getD_eq_getElem?_getD]
    · rw [List.getD_eq_getElem?_getD, List.getElem?_eq_none (by simp; omega)]; simp
  have hl' : decide ((40 : Int) < len) = false := by simp; omega
  clear hB h
  go_enter Try.func6, Try.ntmps6
  go_wp2_with (go_at_call 8; refine (awake_any _).mono ?_; rintro e w1 ⟨rfl, hB1⟩)
  go_loopw [8, 9] (fun v i wr => ∃ j : Nat, j ≤ 16 * κ ∧ i = .int .i64 j ∧ Hid (OwnB wr w.heap.size v j ((List.range j).map B)) ∧ Below w.heap.size w wr) (fun _ i _ => 16 * κ - (intOf i).toNat)
  case atStart => exact ⟨0, by omega, rfl, own_none _ _, hB1⟩
  case round =>
    obtain ⟨j, hj, rfl, hown, hBr⟩ := hrel
    have hbs := hBr.size
    by_cases hlt : j < 16 * κ
    · have HX : Hid (B j = (c + (j : Int) * 7) % 256) := HBe.out j
      have hyr := HBr.out j
      rw [HX.out] at hyr
      have HOW : Hid (OwnB (wr.alloc (.cells #[.int .u8 ((c + (j : Int) * 7) % 256)] 5)) w.heap.size _ j ((List.range j).map B)) := hown.out.laid _
      have HC : Hid _ := isB_one wr ((c + (j : Int) * 7) % 256) hyr.1 hyr.2
      go_wp2_with (at_builtin; refine wpList_append_bytes rfl (.tmp 28) (.tmp 34) rfl rfl HOW.out rfl HC.out (by omega) ?c3 ?_)
      case c3 => simp; omega
      intro v' w3 hown' hB3
      have R1 : Hid (OwnB w3 w.heap.size v' (j + 1) ((List.range (j + 1)).map B)) := by rw [upto_succ, HX.out]; exact hown'
      have R2 : Below w.heap.size w w3 := (hBr.alloc hbs _).trans hB3
      clear hown' HOW HC hown
      go_wp2
      go_roundw
      case rel => exact ⟨j + 1, by omega, by go_num, R1, R2⟩
      case measure => simp [intOf] <;> omega
    · have HT : Hid (IsB wr a len cap (zs.take len)) := HI.out.old hBr
      go_wp2_with (at_builtin; refine wpList_append_bytes rfl (.tmp 36) (.tmp 37) rfl rfl hown.out rfl HT.out (by omega) ?c3 ?_)
      case c3 => exact hbs
      intro v' w3 hown' hB3
      have hB4 : Below w.heap.size w w3 := hBr.trans hB3
      obtain ⟨a', cap', rfl, hby⟩ := OwnB.byR hown' (app_range (upto_range B HBr.out j) HZ.out)
      obtain ⟨f, hf⟩ : ∃ f : Nat → Int, f = fun i => ((List.range j).map B ++ zs.take len).getD i 0 := ⟨_, rfl⟩
      rw [← hf] at hby
      obtain ⟨J, hJ⟩ : ∃ J, J = j + len := ⟨_, rfl⟩
      rw [← hJ] at hby ⊢
      obtain ⟨x, y, _, h9, h10, h11, h12⟩ := both_hash a' J cap' f (by omega)
      have H9 : Hid _ := h9
      have H10 : Hid _ := h10
      have HB : Hid (∀ q, ByR (w3.drewN q) a' J cap' f) := fun q => hby.drewN q
      have HB0 : Hid (ByR w3 a' J cap' f) := hby
      clear h9 h10 h11 h12 hf hby hown hown' HT hJ
      go_wp2_with fail
      refine Calls.mono (H9.out _ HB0.out) ?_
      rintro e w4 ⟨q, rfl, hw4⟩
      have HR0 : Hid (ByR w4 a' J cap' f) := by rw [hw4]; exact HB.out _
      have hB5 : Below w.heap.size w w4 := by rw [hw4]; exact below_drewN hB4 _
      clear hw4
      go_wp2_with fail
      refine Calls.mono (H10.out _ HR0.out) ?_
      rintro e w5 ⟨rfl, rfl⟩
      go_wp2
      go_ret
      exact ⟨by simp, hB5⟩

theorem tail_any (n c : Int) (a : Option Addr) (len cap : Nat) (zs : List Int) (w : World) (hn : 0 ≤ n ∧ n ≤ 255) (hc : 0 ≤ c ∧ c ≤ 255) (h : IsRow .u8 w a len cap zs) :
    Calls Try.prog 6 #[.int .u8 n, .slice a len cap, .int .u8 c] w fun e w' => e = .returned (.bool true) ∧ Below w.heap.size w w' := by
  by_cases hl : len ≤ 40
  · exact tail_walk n c a len cap zs w hn hc h hl
  · exact tail_long n c a len cap w (Nat.le_trans h.le.1 h.le.2) (by omega)
end Go.Proofs.Ytpbclipckkdgfaa
