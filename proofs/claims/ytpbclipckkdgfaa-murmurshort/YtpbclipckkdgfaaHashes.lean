/-
  MurmurHashes walked: it answers true, and turns nothing that was there.
-/
import Derived.Test.YtpbclipckkdgfaaArg
namespace Go.Proofs.Ytpbclipckkdgfaa
open Go.RowKit
set_option linter.unusedVariables false

theorem quiet_hash (a : Option Addr) (len cap : Nat) (f : Nat → Int) (w : World) (n : Nat) (h : ByR w a len cap f) :
    Calls Try.prog 11 #[.slice a len cap] (w.drewN n) fun e w'' => e = .returned (.int .i64 (tok (sumH f len))) ∧ ∃ m, w'' = w.drewN m :=
  Calls.quiet_of ((token_any a len cap f _ (h.drewN n)).mono fun _ _ ⟨q, he, hw⟩ => ⟨he, q, hw⟩)

/-- Both sides' contracts, said of bytes that lie still from a world on. -/
theorem both_hash (a : Option Addr) (len cap : Nat) (f : Nat → Int) (hs : len ≤ 100000) :
    ∃ x y, (x = sumH f len ∧ 0 ≤ x ∧ x < 18446744073709551616) ∧
      (∀ W, ByR W a len cap f → Calls Try.prog 9 #[.slice a len cap] W fun e w' => ∃ q, e = .returned (.tuple #[.int .u64 x, .int .u64 y]) ∧ w' = W.drewN q) ∧
      (∀ W, ByR W a len cap f → Calls Try.prog 10 #[.slice a len cap] W fun e w' => e = .returned (.tuple #[.int .u64 x, .int .u64 y]) ∧ w' = W) ∧
      (∀ W, ByR W a len cap f → ∀ n, Calls Try.prog 11 #[.slice a len cap] (W.drewN n) fun e w'' => e = .returned (.int .i64 (tok x)) ∧ ∃ m, w'' = W.drewN m) ∧
      (∀ W, ByR W a len cap f → ∀ n, Calls Try.prog 12 #[.slice a len cap] (W.drewN n) fun e w'' => e = .returned (.int .i64 (tok x)) ∧ ∃ m, w'' = W.drewN m) :=
  ⟨sumH f len, sumG f len, ⟨rfl, sumH_range f len⟩, fun W h => hash_any a len cap f W h, fun W h => rhash_any a len cap f W hs h,
    fun W h n => quiet_hash a len cap f W n h, fun W h n => Calls.quiet_of_same (rtoken_any a len cap f _ hs (h.drewN n))⟩

set_option maxHeartbeats 1000000 in
theorem hashes_walk (a : Option Addr) (len cap : Nat) (zs : List Int) (w : World) (h : IsRow .u8 w a len cap zs) :
    Calls Try.prog 3 #[.slice a len cap] w fun e w' => e = .returned (.bool true) ∧ Below w.heap.size w w' := by
  have hle := h.le
  have hmx : len ≤ 9223372036854775807 := by have := hle.2; unfold maxLen at this; omega
  have HI : Hid _ := h
  clear h hle
  by_cases hl : 3000 < len
  · have hl' : (3000 : Int) < len := by omega
    go_enter Try.func3, Try.ntmps3
    go_wp2_with (go_at_call 8; refine (awake_any _).mono ?_; rintro e w1 ⟨rfl, hB1⟩)
    go_ret
    exact ⟨rfl, hB1⟩
  · have hl' : decide ((3000 : Int) < len) = false := by simp; omega
    obtain ⟨f, hf⟩ : ∃ f : Nat → Int, f = fun i => zs.getD i 0 := ⟨_, rfl⟩
    obtain ⟨x, y, _, h9, h10, h11, h12⟩ := both_hash a len cap f (by omega)
    have H9 : Hid _ := h9
    have H10 : Hid _ := h10
    have H11 : Hid _ := h11
    have H12 : Hid _ := h12
    have HB : Hid (∀ W, Below w.heap.size w W → ByR W a len cap f) := fun W hB => by rw [hf]; exact byR_below HI.out hB
    clear h9 h10 h11 h12 hf HI
    go_enter Try.func3, Try.ntmps3
    go_wp2_with (go_at_call 8; refine (awake_any _).mono ?_; rintro e w1 ⟨rfl, hB1⟩)
    refine Calls.mono (H9.out _ (HB.out _ hB1)) ?_
    rintro e w2 ⟨q, rfl, hw2⟩
    have hB2 : Below w.heap.size w w2 := by rw [hw2]; exact below_drewN hB1 _
    clear hw2
    go_wp2_with fail
    refine Calls.mono (H10.out _ (HB.out _ hB2)) ?_
    rintro e w3 ⟨rfl, rfl⟩
    have HR : Hid (ByR w3 a len cap f) := HB.out _ hB2
    go_wp2_with fail
    refine Calls.mono (H11.out w3 HR.out 0) ?_
    rintro e w4 ⟨rfl, m, hw4⟩
    have hB4 : Below w.heap.size w w4 := by rw [hw4]; exact below_drewN hB2 _
    clear hw4
    go_wp2_with fail
    refine Calls.mono (H12.out w4 (HB.out _ hB4) 0) ?_
    rintro e w5 ⟨rfl, m5, hw5⟩
    have hB5 : Below w.heap.size w w5 := by rw [hw5]; exact below_drewN hB4 _
    clear hw5
    go_wp2
    go_ret
    exact ⟨by simp, hB5⟩

set_option maxHeartbeats 1000000 in
theorem least_walk (a : Option Addr) (len cap : Nat) (zs : List Int) (w : World) (h : IsRow .u8 w a len cap zs) :
    Calls Try.prog 5 #[.slice a len cap] w fun e w' => e = .returned (.bool true) ∧ Below w.heap.size w w' := by
  have hle := h.le
  have hmx : len ≤ 9223372036854775807 := by have := hle.2; unfold maxLen at this; omega
  have HI : Hid _ := h
  clear h hle
  by_cases hl : 3000 < len
  · have hl' : (3000 : Int) < len := by omega
    go_enter Try.func5, Try.ntmps5
    go_wp2_with (go_at_call 8; refine (awake_any _).mono ?_; rintro e w1 ⟨rfl, hB1⟩)
    go_ret
    exact ⟨rfl, hB1⟩
  · have hl' : decide ((3000 : Int) < len) = false := by simp; omega
    obtain ⟨f, hf⟩ : ∃ f : Nat → Int, f = fun i => zs.getD i 0 := ⟨_, rfl⟩
    obtain ⟨x, y, ⟨_, hx0, hx1⟩, h9, h10, h11, h12⟩ := both_hash a len cap f (by omega)
    have H9 : Hid _ := h9
    have H11 : Hid _ := h11
    have HB : Hid (∀ W, Below w.heap.size w W → ByR W a len cap f) := fun W hB => by rw [hf]; exact byR_below HI.out hB
    clear h9 h10 h11 h12 hf HI
    by_cases hx : x = 9223372036854775808
    · subst hx
      have HT : Hid (tok 9223372036854775808 = 9223372036854775807) := rfl
      go_enter Try.func5, Try.ntmps5
      go_wp2_with (go_at_call 8; refine (awake_any _).mono ?_; rintro e w1 ⟨rfl, hB1⟩)
      refine Calls.mono (H9.out _ (HB.out _ hB1)) ?_
      rintro e w2 ⟨q, rfl, hw2⟩
      have hB2 : Below w.heap.size w w2 := by rw [hw2]; exact below_drewN hB1 _
      clear hw2
      go_wp2_with fail
      refine Calls.mono (H11.out w2 (HB.out _ hB2) 0) ?_
      rintro e w3 ⟨rfl, m, hw3⟩
      have hB3 : Below w.heap.size w w3 := by rw [hw3]; exact below_drewN hB2 _
      clear hw3
      rw [HT.out]
      go_wp2
      go_ret
      exact ⟨rfl, hB3⟩
    · have hxd : (x == 9223372036854775808) = false := by simpa using hx
      have HT : Hid (tok x = wrap64 x) := if_neg hx
      obtain ⟨t, ht⟩ : ∃ t, t = wrap64 x := ⟨_, rfl⟩
      have ht0 : (t != -9223372036854775808) = true := by
        rw [ht]; simpa using fun e => hx ((tok_least hx0 hx1).1 e)
      have htw : IntKind.u64.wrap t = x := by rw [ht, wrap64_eq, IntKind.wrap_u64]; omega
      rw [← ht] at HT
      clear ht hx hx0 hx1
      go_enter Try.func5, Try.ntmps5
      go_wp2_with (go_at_call 8; refine (awake_any _).mono ?_; rintro e w1 ⟨rfl, hB1⟩)
      refine Calls.mono (H9.out _ (HB.out _ hB1)) ?_
      rintro e w2 ⟨q, rfl, hw2⟩
      have hB2 : Below w.heap.size w w2 := by rw [hw2]; exact below_drewN hB1 _
      clear hw2
      go_wp2_with fail
      refine Calls.mono (H11.out w2 (HB.out _ hB2) 0) ?_
      rintro e w3 ⟨rfl, m, hw3⟩
      have hB3 : Below w.heap.size w w3 := by rw [hw3]; exact below_drewN hB2 _
      clear hw3
      rw [HT.out]
      go_wp2
      go_ret
      exact ⟨by simp, hB3⟩
end Go.Proofs.Ytpbclipckkdgfaa
