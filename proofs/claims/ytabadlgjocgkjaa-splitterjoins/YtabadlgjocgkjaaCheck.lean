/-
  What headers may be (P5.1), as one function of the fields, and the contract of header.Check.
-/
import Derived.Test.YtabadlgjocgkjaaPair
namespace Go.Proofs.Ytabadlgjocgkjaa
open Go.RowKit
set_option linter.unusedVariables false
set_option linter.unusedSimpArgs false

def opReq (o : Int) : Bool := o == 1 || o == 5 || o == 7 || o == 9 || o == 10 || o == 11 || o == 13 || o == 15
def opRes (o : Int) : Bool := o == 0 || o == 2 || o == 3 || o == 6 || o == 8 || o == 12 || o == 14 || o == 16
/-- May frames of the version have the flags? -/
def flagB (v f : Int) : Bool := decide (f % 2 = 0) && decide (f / 2 < 8) && (v == 132 || decide (f / 2 < 4))
/-- May frames of the version have the opcode? -/
def opB (v o : Int) : Bool := if v = 132 then opRes o else opReq o
/-- Whether a header may be. -/
def chk (v f o l : Int) : Int := if v ≠ 4 ∧ v ≠ 132 then 20 else if flagB v f = false then 21 else if opB v o = false then 22 else if 1048576 < l then 12 else 0

def flg (v : Int) : Int := if v = 132 then 14 else 6

theorem flagsOf_any (v : Int) (w : World) : Calls Try.prog 33 #[.int .u8 v] w fun e w' => e = .returned (.int .u8 (flg v)) ∧ w' = w := by
  by_cases h : v = 132
  · subst h
    go_enter Try.func33, Try.ntmps33
    go_wp2
    go_ret
    exact ⟨rfl, rfl⟩
  · have h' : (v == 132) = false := by simpa using h
    go_enter Try.func33, Try.ntmps33
    go_wp2
    go_ret
    exact ⟨by simp [flg, h], rfl⟩

theorem isResponse_any (o : Int) (w : World) : Calls Try.prog 38 #[.int .u8 o] w fun e w' => e = .returned (.bool (opRes o)) ∧ w' = w := by
  go_enter Try.func38, Try.ntmps38
  go_wp2
  all_goals go_ret
  all_goals exact ⟨by simp_all [opRes], rfl⟩

theorem isRequest_any (o : Int) (w : World) : Calls Try.prog 39 #[.int .u8 o] w fun e w' => e = .returned (.bool (opReq o)) ∧ w' = w := by
  go_enter Try.func39, Try.ntmps39
  go_wp2
  all_goals go_ret
  all_goals exact ⟨by simp_all [opReq], rfl⟩

theorem isOpcodeOf_any (v o : Int) (w : World) : Calls Try.prog 34 #[.int .u8 v, .int .u8 o] w fun e w' => e = .returned (.bool (opB v o)) ∧ w' = w := by
  by_cases h : v = 132
  · subst h
    go_enter Try.func34, Try.ntmps34
    go_wp2_with (go_at_call 38; refine (isResponse_any _ _).mono ?_; rintro e w' ⟨rfl, rfl⟩)
    go_ret
    exact ⟨rfl, rfl⟩
  · have h' : (v == 132) = false := by simpa using h
    go_enter Try.func34, Try.ntmps34
    go_wp2_with (go_at_call 39; refine (isRequest_any _ _).mono ?_; rintro e w' ⟨rfl, rfl⟩)
    go_ret
    exact ⟨by simp [opB, h], rfl⟩

theorem flag14 (f : Int) (h0 : 0 ≤ f) (h1 : f ≤ 255) : (bits .andNot .u8 f 14 != 0) = !flagB 132 f := by
  have e : ∀ k : Fin 256, (bits .andNot .u8 ((k : Nat) : Int) 14 != 0) = !flagB 132 ((k : Nat) : Int) := by decide +kernel
  obtain ⟨n, rfl⟩ := Int.eq_ofNat_of_zero_le h0
  exact e ⟨n, by omega⟩

theorem flag6 (f : Int) (h0 : 0 ≤ f) (h1 : f ≤ 255) : (bits .andNot .u8 f 6 != 0) = !flagB 4 f := by
  have e : ∀ k : Fin 256, (bits .andNot .u8 ((k : Nat) : Int) 6 != 0) = !flagB 4 ((k : Nat) : Int) := by decide +kernel
  obtain ⟨n, rfl⟩ := Int.eq_ofNat_of_zero_le h0
  exact e ⟨n, by omega⟩

theorem flg_bits (v f : Int) (hv : v = 132 ∨ v = 4) (h0 : 0 ≤ f) (h1 : f ≤ 255) : (bits .andNot .u8 f (flg v) != 0) = !flagB v f := by
  rcases hv with rfl | rfl
  · exact flag14 f h0 h1
  · exact flag6 f h0 h1

/-- The fields of a header fit their kinds. -/
structure HOk (v f s o l : Int) : Prop where
  v0 : 0 ≤ v
  v1 : v ≤ 255
  f0 : 0 ≤ f
  f1 : f ≤ 255
  s0 : -32768 ≤ s
  s1 : s ≤ 32767
  o0 : 0 ≤ o
  o1 : o ≤ 255
  l0 : 0 ≤ l
  l1 : l ≤ 4294967295

set_option maxHeartbeats 400000 in
theorem check_no (v f s o l : Int) (w : World) (h4 : v ≠ 4) (h132 : v ≠ 132) :
    Calls Try.prog 30 #[.agg #[.int .u8 v, .int .u8 f, .int .i16 s, .int .u8 o, .int .u32 l]] w fun e w' => e = .returned (.int .i64 20) ∧ Below w.heap.size w w' := by
  have t1 : (v != 4) = true := by simpa using h4
  have t2 : (v != 132) = true := by simpa using h132
  clear h4 h132
  go_enter Try.func30, Try.ntmps30
  go_wp2
  go_ret
  exact ⟨rfl, below_one _ _⟩

set_option maxHeartbeats 1000000 in
theorem check_yes (v f s o l : Int) (w : World) (hv : v = 132 ∨ v = 4) (h : HOk v f s o l) :
    Calls Try.prog 30 #[.agg #[.int .u8 v, .int .u8 f, .int .i16 s, .int .u8 o, .int .u32 l]] w fun e w' => e = .returned (.int .i64 (chk v f o l)) ∧ Below w.heap.size w w' := by
  have hfl := flg_bits v f hv h.f0 h.f1
  have HC : Hid (chk v f o l = if flagB v f = false then 21 else if opB v o = false then 22 else if 1048576 < l then 12 else 0) := by
    show chk v f o l = _
    unfold chk; rw [if_neg (by omega)]
  have l0 := h.l0
  have l1 := h.l1
  clear h
  rcases hv with rfl | rfl
  all_goals
    cases hF : flagB _ f
    · rw [hF] at hfl HC
      have hfl' : (bits .andNot .u8 f (flg _) != 0) = true := hfl
      clear hfl
      go_enter Try.func30, Try.ntmps30
      go_wp2
      go_quiet ((go_at_call 33; exact Calls.quiet_of_same (flagsOf_any _ _)))
      go_wp2
      go_ret
      rw [HC.out]
      exact ⟨rfl, below_drewN (below_one _ _) _⟩
    · rw [hF] at hfl HC
      have hfl' : (bits .andNot .u8 f (flg _) != 0) = false := hfl
      clear hfl
      cases hO : opB _ o
      · rw [hO] at HC
        go_enter Try.func30, Try.ntmps30
        go_wp2
        go_quiet ((go_at_call 33; exact Calls.quiet_of_same (flagsOf_any _ _)))
        go_wp2_with (go_at_call 34; refine (isOpcodeOf_any _ _ _).mono ?_; rintro e w' ⟨rfl, rfl⟩)
        go_ret
        rw [HC.out]
        exact ⟨rfl, below_drewN (below_one _ _) _⟩
      · rw [hO] at HC
        by_cases hL : 1048576 < l
        all_goals
          go_enter Try.func30, Try.ntmps30
          go_wp2
          go_quiet ((go_at_call 33; exact Calls.quiet_of_same (flagsOf_any _ _)))
          go_wp2_with (go_at_call 34; refine (isOpcodeOf_any _ _ _).mono ?_; rintro e w' ⟨rfl, rfl⟩)
          go_ret
          rw [HC.out]
          exact ⟨by simp [hL], below_drewN (below_one _ _) _⟩

theorem check_any (v f s o l : Int) (w : World) (h : HOk v f s o l) :
    Calls Try.prog 30 #[.agg #[.int .u8 v, .int .u8 f, .int .i16 s, .int .u8 o, .int .u32 l]] w fun e w' => e = .returned (.int .i64 (chk v f o l)) ∧ Below w.heap.size w w' := by
  by_cases hv : v = 132 ∨ v = 4
  · exact check_yes v f s o l w hv h
  · refine (check_no v f s o l w (by omega) (by omega)).mono ?_
    rintro e w' ⟨rfl, hB⟩
    exact ⟨by unfold chk; rw [if_pos (by omega)], hB⟩
end Go.Proofs.Ytabadlgjocgkjaa
