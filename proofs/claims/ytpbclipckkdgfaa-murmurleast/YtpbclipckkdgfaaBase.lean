/-
  The contracts of the small functions of package murmur, and of the document's, over the translation.
-/
import Derived.Test.YtpbclipckkdgfaaRows
import Derived.Test.YtpbclipckkdgfaaMath
import Derived.WalkKit
import Derived.WalkSpells
import Derived.WalkLawsBesides
import Derived.Deep.QuietTactic
import Derived.BigQuiet
import Derived.Deep.OwnRows
namespace Go.Proofs.Ytpbclipckkdgfaa
open Go.RowKit
set_option linter.unusedVariables false

theorem left_27 (x : Int) (w : World) : Calls Try.prog 19 #[.int .u64 x, .int .u64 27] w fun e w' => e = .returned (.int .u64 (rot x 27)) ∧ w' = w := by
  go_enter Try.func19, Try.ntmps19
  go_wp2
  go_ret
  exact ⟨rfl, rfl⟩

theorem rot_27 (x : Int) (w : World) : Calls Try.prog 14 #[.int .u64 x, .int .i64 27] w fun e w' => e = .returned (.int .u64 (rot x 27)) ∧ w' = w := by
  have h : bits .and .u64 27 63 = 27 := by decide
  go_enter Try.func14, Try.ntmps14
  go_wp2
  go_ret
  exact ⟨rfl, rfl⟩

theorem left_31 (x : Int) (w : World) : Calls Try.prog 19 #[.int .u64 x, .int .u64 31] w fun e w' => e = .returned (.int .u64 (rot x 31)) ∧ w' = w := by
  go_enter Try.func19, Try.ntmps19
  go_wp2
  go_ret
  exact ⟨rfl, rfl⟩

theorem rot_31 (x : Int) (w : World) : Calls Try.prog 14 #[.int .u64 x, .int .i64 31] w fun e w' => e = .returned (.int .u64 (rot x 31)) ∧ w' = w := by
  have h : bits .and .u64 31 63 = 31 := by decide
  go_enter Try.func14, Try.ntmps14
  go_wp2
  go_ret
  exact ⟨rfl, rfl⟩

theorem left_33 (x : Int) (w : World) : Calls Try.prog 19 #[.int .u64 x, .int .u64 33] w fun e w' => e = .returned (.int .u64 (rot x 33)) ∧ w' = w := by
  go_enter Try.func19, Try.ntmps19
  go_wp2
  go_ret
  exact ⟨rfl, rfl⟩

theorem rot_33 (x : Int) (w : World) : Calls Try.prog 14 #[.int .u64 x, .int .i64 33] w fun e w' => e = .returned (.int .u64 (rot x 33)) ∧ w' = w := by
  have h : bits .and .u64 33 63 = 33 := by decide
  go_enter Try.func14, Try.ntmps14
  go_wp2
  go_ret
  exact ⟨rfl, rfl⟩

theorem rot_any (x n : Int) (w : World) (h : n = 27 ∨ n = 31 ∨ n = 33) : Calls Try.prog 14 #[.int .u64 x, .int .i64 n] w fun e w' => e = .returned (.int .u64 (rot x n.toNat)) ∧ w' = w := by
  rcases h with rfl | rfl | rfl
  · exact rot_27 x w
  · exact rot_31 x w
  · exact rot_33 x w

theorem left_any (x n : Int) (w : World) (h : n = 27 ∨ n = 31 ∨ n = 33) : Calls Try.prog 19 #[.int .u64 x, .int .u64 n] w fun e w' => e = .returned (.int .u64 (rot x n.toNat)) ∧ w' = w := by
  rcases h with rfl | rfl | rfl
  · exact left_27 x w
  · exact left_31 x w
  · exact left_33 x w

theorem fst1_any (x : Int) (w : World) : Calls Try.prog 15 #[.int .u64 x] w fun e w' => e = .returned (.int .u64 (fst1 x)) ∧ w' = w := by
  go_enter Try.func15, Try.ntmps15
  go_wp2_with (go_at_call 14; refine (rot_31 _ _).mono ?_; rintro e w' ⟨rfl, rfl⟩)
  go_ret
  exact ⟨rfl, rfl⟩

theorem snd1_any (x : Int) (w : World) : Calls Try.prog 16 #[.int .u64 x] w fun e w' => e = .returned (.int .u64 (snd1 x)) ∧ w' = w := by
  go_enter Try.func16, Try.ntmps16
  go_wp2_with (go_at_call 14; refine (rot_33 _ _).mono ?_; rintro e w' ⟨rfl, rfl⟩)
  go_ret
  exact ⟨rfl, rfl⟩

theorem rfst1_any (x : Int) (w : World) : Calls Try.prog 20 #[.int .u64 x] w fun e w' => e = .returned (.int .u64 (fst1 x)) ∧ w' = w := by
  go_enter Try.func20, Try.ntmps20
  go_wp2_with (go_at_call 19; refine (left_31 _ _).mono ?_; rintro e w' ⟨rfl, rfl⟩)
  go_ret
  exact ⟨rfl, rfl⟩

theorem rsnd1_any (x : Int) (w : World) : Calls Try.prog 21 #[.int .u64 x] w fun e w' => e = .returned (.int .u64 (snd1 x)) ∧ w' = w := by
  go_enter Try.func21, Try.ntmps21
  go_wp2_with (go_at_call 19; refine (left_33 _ _).mono ?_; rintro e w' ⟨rfl, rfl⟩)
  go_ret
  exact ⟨rfl, rfl⟩

theorem rmix_any (x : Int) (w : World) : Calls Try.prog 22 #[.int .u64 x] w fun e w' => e = .returned (.int .u64 (mixd x)) ∧ w' = w := by
  go_enter Try.func22, Try.ntmps22
  go_wp2
  go_ret
  exact ⟨rfl, rfl⟩

theorem mix_any (x : Int) (w : World) : Calls Try.prog 24 #[.int .u64 x] w fun e w' => e = .returned (.int .u64 (mixd x)) ∧ w' = w := by
  go_enter Try.func24, Try.ntmps24
  go_wp2
  go_ret
  exact ⟨rfl, rfl⟩

theorem signed_any (x : Int) (w : World) : Calls Try.prog 23 #[.int .u8 x] w fun e w' => e = .returned (.int .u64 (sgd x)) ∧ w' = w := by
  go_enter Try.func23, Try.ntmps23
  go_wp2
  go_ret
  exact ⟨rfl, rfl⟩

theorem fin_any (h g n : Int) (w : World) : Calls Try.prog 18 #[.int .u64 h, .int .u64 g, .int .u64 n] w fun e w' => e = .returned (.tuple #[.int .u64 (fin1 h g n), .int .u64 (fin2 h g n)]) ∧ w' = w := by
  go_enter Try.func18, Try.ntmps18
  go_wp2_with (go_at_call 24; refine (mix_any _ _).mono ?_; rintro e w' ⟨rfl, rfl⟩)
  go_ret2
  exact ⟨rfl, rfl⟩

set_option maxHeartbeats 400000 in
theorem number_at (b off cap : Nat) (f : Nat → Int) (w : World) (hm : cap ≤ maxLen) (hc : 8 ≤ cap) (hcell : ∀ i, i < 8 → w.cell? ⟨b, off + i, none⟩ = some (.int .u8 (f i))) (hr : ∀ i, 0 ≤ f i ∧ f i ≤ 255) :
    Calls Try.prog 13 #[.slice (some ⟨b, off, none⟩) 8 cap] w fun e w' => e = .returned (.int .u64 (low f 8)) ∧ w' = w := by
  have HR : Hid (∀ i, 0 ≤ f i ∧ f i ≤ 255) := hr
  clear hr
  go_enter Try.func13, Try.ntmps13
  go_wp2
  go_loopw [3, 5] (fun x i wr => ∃ k : Nat, k ≤ 8 ∧ i = .int .i64 k ∧ x = .int .u64 (low f k) ∧ wr = w) (fun _ i _ => 8 - (intOf i).toNat)
  case atStart => exact ⟨0, by omega, rfl, rfl, rfl⟩
  case round =>
    obtain ⟨k, hk, rfl, rfl, rfl⟩ := hrel
    by_cases hlt : k < 8
    · have hck := hcell k hlt
      have hwk : IntKind.u64.wrap (f k) = f k := by rw [IntKind.wrap_u64]; have := HR.out k; omega
      have HE : Hid _ := or_low f HR.out k hlt
      go_wp2
      go_roundw
      case rel => exact ⟨k + 1, by omega, by go_num, by rw [← HE.out], trivial⟩
      case measure => simp [intOf]; omega
    · obtain rfl : k = 8 := by omega
      go_wp2
      go_ret
      exact ⟨rfl, rfl⟩
end Go.Proofs.Ytpbclipckkdgfaa
