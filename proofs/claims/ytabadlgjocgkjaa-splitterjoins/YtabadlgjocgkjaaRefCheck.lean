/-
  The document's own Check, and the header as the document has it.
-/
import Derived.Test.YtabadlgjocgkjaaCheck
namespace Go.Proofs.Ytabadlgjocgkjaa
open Go.RowKit
set_option linter.unusedVariables false
set_option linter.unusedSimpArgs false

/-- Is the number among the first k letters? -/
def fnd (S : ByteArray) (k : Nat) (o : Int) : Bool := (S.data.toList.take k).any fun c => (c.toNat : Int) == o

theorem take_snoc (s : ByteArray) (k : Nat) (h : k < s.size) : s.data.toList.take (k + 1) = s.data.toList.take k ++ [s[k]] := by
  rw [List.take_succ_eq_append_getElem (by simpa using h)]; rfl

theorem fnd_succ (S : ByteArray) (k : Nat) (o : Int) (h : k < S.size) : fnd S (k + 1) o = (fnd S k o || ((S[k].toNat : Int) == o)) := by
  unfold fnd; rw [take_snoc S k h, List.any_append]; simp

def sReq : ByteArray := ⟨#[1, 5, 7, 9, 10, 11, 13, 15]⟩
def sRes : ByteArray := ⟨#[0, 2, 3, 6, 8, 12, 14, 16]⟩

theorem beq_flip (a b : Int) : (a == b) = (b == a) := by
  rw [Bool.eq_iff_iff, beq_iff_eq, beq_iff_eq]; exact eq_comm

theorem fnd_req (o : Int) : fnd sReq 8 o = opReq o := by
  show ([1, 5, 7, 9, 10, 11, 13, 15] : List UInt8).any (fun c => (c.toNat : Int) == o) = _
  simp only [List.any_cons, List.any_nil, opReq, Bool.or_false, Bool.or_assoc]
  rw [beq_flip o 1, beq_flip o 5, beq_flip o 7, beq_flip o 9, beq_flip o 10, beq_flip o 11, beq_flip o 13, beq_flip o 15]
  rfl

theorem fnd_res (o : Int) : fnd sRes 8 o = opRes o := by
  show ([0, 2, 3, 6, 8, 12, 14, 16] : List UInt8).any (fun c => (c.toNat : Int) == o) = _
  simp only [List.any_cons, List.any_nil, opRes, Bool.or_false, Bool.or_assoc]
  rw [beq_flip o 0, beq_flip o 2, beq_flip o 3, beq_flip o 6, beq_flip o 8, beq_flip o 12, beq_flip o 14, beq_flip o 16]
  rfl

set_option maxHeartbeats 1000000 in
theorem rcheck_a (f s o l : Int) (w : World) (f0 : 0 ≤ f) (f1 : f ≤ 255) (l0 : 0 ≤ l) (l1 : l ≤ 4294967295) (t2 : (f % 2 == 1) = false) (t8 : decide (8 ≤ f / 2) = false) (t4 : decide (4 ≤ f / 2) = true)
    (HC : Hid (chk 132 f o l = if opB 132 o = false then 22 else if 1048576 < l then 12 else 0)) :
    Calls Try.prog 27 #[.agg #[.int .u8 132, .int .u8 f, .int .i16 s, .int .u8 o, .int .u32 l]] w fun e w' => e = .returned (.int .i64 (chk 132 f o l)) ∧ Below w.heap.size w w' := by
  go_enter Try.func27, Try.ntmps27
  go_wp2
  have HE : Hid (fnd sRes 8 o = opB 132 o) := fnd_res o
  go_loopw [6, 7] (fun b i wr => ∃ k q : Nat, k ≤ 8 ∧ i = .int .i64 k ∧ b = .bool (fnd sRes k o) ∧ wr = (w.alloc (.cells #[.int .u8 132, .int .u8 f, .int .i16 s, .int .u8 o, .int .u32 l] 48)).drewN q) (fun _ i _ => 8 - (intOf i).toNat)
  case atStart => exact ⟨0, 0, by omega, rfl, rfl, rfl⟩
  case round =>
    obtain ⟨k, q, hk, rfl, rfl, rfl⟩ := hrel
    by_cases hlt : k < 8
    · have HS : Hid _ := fnd_succ sRes k o (by have : (sRes).size = 8 := rfl; omega)
      cases hf : fnd sRes k o
      · rw [hf] at HS
        go_wp2
        go_quiet (fail)
        go_wp2
        go_roundw
        case rel => exact ⟨k + 1, _, by omega, by go_num, by rw [HS.out]; rfl, rfl⟩
        case measure => simp [intOf]; omega
      · rw [hf] at HS
        go_wp2
        go_quiet (fail)
        go_wp2
        go_roundw
        case rel => exact ⟨k + 1, _, by omega, by go_num, by rw [HS.out]; rfl, rfl⟩
        case measure => simp [intOf]; omega
    · obtain rfl : k = 8 := by omega
      rw [HE.out]
      cases hO : opB 132 o
      · rw [hO] at HC
        go_wp2
        go_ret
        rw [HC.out]
        exact ⟨rfl, below_drewN (below_one _ _) _⟩
      · rw [hO] at HC
        by_cases hL : 1048576 < l
        all_goals
          go_wp2
          go_ret
          rw [HC.out]
          exact ⟨by simp [hL], below_drewN (below_one _ _) _⟩

set_option maxHeartbeats 1000000 in
theorem rcheck_b (f s o l : Int) (w : World) (f0 : 0 ≤ f) (f1 : f ≤ 255) (l0 : 0 ≤ l) (l1 : l ≤ 4294967295) (t2 : (f % 2 == 1) = false) (t8 : decide (8 ≤ f / 2) = false) (t4 : decide (4 ≤ f / 2) = false)
    (HC : Hid (chk 132 f o l = if opB 132 o = false then 22 else if 1048576 < l then 12 else 0)) :
    Calls Try.prog 27 #[.agg #[.int .u8 132, .int .u8 f, .int .i16 s, .int .u8 o, .int .u32 l]] w fun e w' => e = .returned (.int .i64 (chk 132 f o l)) ∧ Below w.heap.size w w' := by
  go_enter Try.func27, Try.ntmps27
  go_wp2
  have HE : Hid (fnd sRes 8 o = opB 132 o) := fnd_res o
  go_loopw [6, 7] (fun b i wr => ∃ k q : Nat, k ≤ 8 ∧ i = .int .i64 k ∧ b = .bool (fnd sRes k o) ∧ wr = (w.alloc (.cells #[.int .u8 132, .int .u8 f, .int .i16 s, .int .u8 o, .int .u32 l] 48)).drewN q) (fun _ i _ => 8 - (intOf i).toNat)
  case atStart => exact ⟨0, 0, by omega, rfl, rfl, rfl⟩
  case round =>
    obtain ⟨k, q, hk, rfl, rfl, rfl⟩ := hrel
    by_cases hlt : k < 8
    · have HS : Hid _ := fnd_succ sRes k o (by have : (sRes).size = 8 := rfl; omega)
      cases hf : fnd sRes k o
      · rw [hf] at HS
        go_wp2
        go_quiet (fail)
        go_wp2
        go_roundw
        case rel => exact ⟨k + 1, _, by omega, by go_num, by rw [HS.out]; rfl, rfl⟩
        case measure => simp [intOf]; omega
      · rw [hf] at HS
        go_wp2
        go_quiet (fail)
        go_wp2
        go_roundw
        case rel => exact ⟨k + 1, _, by omega, by go_num, by rw [HS.out]; rfl, rfl⟩
        case measure => simp [intOf]; omega
    · obtain rfl : k = 8 := by omega
      rw [HE.out]
      cases hO : opB 132 o
      · rw [hO] at HC
        go_wp2
        go_ret
        rw [HC.out]
        exact ⟨rfl, below_drewN (below_one _ _) _⟩
      · rw [hO] at HC
        by_cases hL : 1048576 < l
        all_goals
          go_wp2
          go_ret
          rw [HC.out]
          exact ⟨by simp [hL], below_drewN (below_one _ _) _⟩

set_option maxHeartbeats 1000000 in
theorem rcheck_c (f s o l : Int) (w : World) (f0 : 0 ≤ f) (f1 : f ≤ 255) (l0 : 0 ≤ l) (l1 : l ≤ 4294967295) (t2 : (f % 2 == 1) = false) (t8 : decide (8 ≤ f / 2) = false) (t4 : decide (4 ≤ f / 2) = false)
    (HC : Hid (chk 4 f o l = if opB 4 o = false then 22 else if 1048576 < l then 12 else 0)) :
    Calls Try.prog 27 #[.agg #[.int .u8 4, .int .u8 f, .int .i16 s, .int .u8 o, .int .u32 l]] w fun e w' => e = .returned (.int .i64 (chk 4 f o l)) ∧ Below w.heap.size w w' := by
  go_enter Try.func27, Try.ntmps27
  go_wp2
  have HE : Hid (fnd sReq 8 o = opB 4 o) := fnd_req o
  go_loopw [6, 7] (fun b i wr => ∃ k q : Nat, k ≤ 8 ∧ i = .int .i64 k ∧ b = .bool (fnd sReq k o) ∧ wr = (w.alloc (.cells #[.int .u8 4, .int .u8 f, .int .i16 s, .int .u8 o, .int .u32 l] 48)).drewN q) (fun _ i _ => 8 - (intOf i).toNat)
  case atStart => exact ⟨0, 0, by omega, rfl, rfl, rfl⟩
  case round =>
    obtain ⟨k, q, hk, rfl, rfl, rfl⟩ := hrel
    by_cases hlt : k < 8
    · have HS : Hid _ := fnd_succ sReq k o (by have : (sReq).size = 8 := rfl; omega)
      cases hf : fnd sReq k o
      · rw [hf] at HS
        go_wp2
        go_quiet (fail)
        go_wp2
        go_roundw
        case rel => exact ⟨k + 1, _, by omega, by go_num, by rw [HS.out]; rfl, rfl⟩
        case measure => simp [intOf]; omega
      · rw [hf] at HS
        go_wp2
        go_quiet (fail)
        go_wp2
        go_roundw
        case rel => exact ⟨k + 1, _, by omega, by go_num, by rw [HS.out]; rfl, rfl⟩
        case measure => simp [intOf]; omega
    · obtain rfl : k = 8 := by omega
      rw [HE.out]
      cases hO : opB 4 o
      · rw [hO] at HC
        go_wp2
        go_ret
        rw [HC.out]
        exact ⟨rfl, below_drewN (below_one _ _) _⟩
      · rw [hO] at HC
        by_cases hL : 1048576 < l
        all_goals
          go_wp2
          go_ret
          rw [HC.out]
          exact ⟨by simp [hL], below_drewN (below_one _ _) _⟩

set_option maxHeartbeats 400000 in
theorem rcheck_no (v f s o l : Int) (w : World) (h4 : v ≠ 4) (h132 : v ≠ 132) :
    Calls Try.prog 27 #[.agg #[.int .u8 v, .int .u8 f, .int .i16 s, .int .u8 o, .int .u32 l]] w fun e w' => e = .returned (.int .i64 20) ∧ Below w.heap.size w w' := by
  have t1 : (v != 4) = true := by simpa using h4
  have t2 : (v == 132) = false := by simpa using h132
  clear h4 h132
  go_enter Try.func27, Try.ntmps27
  go_wp2
  go_ret
  exact ⟨rfl, below_one _ _⟩

set_option maxHeartbeats 400000 in
theorem rcheck_odd (v f s o l : Int) (w : World) (hv : v = 132 ∨ v = 4) (f0 : 0 ≤ f) (f1 : f ≤ 255) (t2 : (f % 2 == 1) = true) :
    Calls Try.prog 27 #[.agg #[.int .u8 v, .int .u8 f, .int .i16 s, .int .u8 o, .int .u32 l]] w fun e w' => e = .returned (.int .i64 21) ∧ Below w.heap.size w w' := by
  rcases hv with rfl | rfl
  all_goals
    go_enter Try.func27, Try.ntmps27
    go_wp2
    go_ret
    exact ⟨rfl, below_one _ _⟩

set_option maxHeartbeats 400000 in
theorem rcheck_eight (v f s o l : Int) (w : World) (hv : v = 132 ∨ v = 4) (f0 : 0 ≤ f) (f1 : f ≤ 255) (t2 : (f % 2 == 1) = false) (t8 : decide (8 ≤ f / 2) = true) :
    Calls Try.prog 27 #[.agg #[.int .u8 v, .int .u8 f, .int .i16 s, .int .u8 o, .int .u32 l]] w fun e w' => e = .returned (.int .i64 21) ∧ Below w.heap.size w w' := by
  rcases hv with rfl | rfl
  all_goals
    go_enter Try.func27, Try.ntmps27
    go_wp2
    go_ret
    exact ⟨rfl, below_one _ _⟩

set_option maxHeartbeats 400000 in
theorem rcheck_four (f s o l : Int) (w : World) (f0 : 0 ≤ f) (f1 : f ≤ 255) (t2 : (f % 2 == 1) = false) (t8 : decide (8 ≤ f / 2) = false) (t4 : decide (4 ≤ f / 2) = true) :
    Calls Try.prog 27 #[.agg #[.int .u8 4, .int .u8 f, .int .i16 s, .int .u8 o, .int .u32 l]] w fun e w' => e = .returned (.int .i64 21) ∧ Below w.heap.size w w' := by
  go_enter Try.func27, Try.ntmps27
  go_wp2
  go_ret
  exact ⟨rfl, below_one _ _⟩

theorem chk_op (v f o l : Int) (hv : v = 132 ∨ v = 4) (hF : flagB v f = true) : chk v f o l = if opB v o = false then 22 else if 1048576 < l then 12 else 0 := by
  unfold chk; rw [if_neg (by omega), if_neg (by simp [hF])]

theorem chk_flag (v f o l : Int) (hv : v = 132 ∨ v = 4) (hF : flagB v f = false) : chk v f o l = 21 := by
  unfold chk; rw [if_neg (by omega), if_pos hF]

theorem rcheck_any (v f s o l : Int) (w : World) (h : HOk v f s o l) :
    Calls Try.prog 27 #[.agg #[.int .u8 v, .int .u8 f, .int .i16 s, .int .u8 o, .int .u32 l]] w fun e w' => e = .returned (.int .i64 (chk v f o l)) ∧ Below w.heap.size w w' := by
  by_cases hv : v = 132 ∨ v = 4
  · cases t2 : (f % 2 == 1)
    · cases t8 : decide (8 ≤ f / 2)
      · have h2 : f % 2 = 0 := by simp at t2; omega
        have h8 : f / 2 < 8 := by simp at t8; omega
        cases t4 : decide (4 ≤ f / 2)
        · have h4 : f / 2 < 4 := by simp at t4; omega
          have hF : flagB v f = true := by simp [flagB, h2, h8, h4]
          rcases hv with rfl | rfl
          · exact rcheck_b f s o l w h.f0 h.f1 h.l0 h.l1 t2 t8 t4 (chk_op _ _ _ _ (.inl rfl) hF)
          · exact rcheck_c f s o l w h.f0 h.f1 h.l0 h.l1 t2 t8 t4 (chk_op _ _ _ _ (.inr rfl) hF)
        · have h4 : ¬ f / 2 < 4 := by simp at t4; omega
          rcases hv with rfl | rfl
          · exact rcheck_a f s o l w h.f0 h.f1 h.l0 h.l1 t2 t8 t4 (chk_op _ _ _ _ (.inl rfl) (by simp [flagB, h2, h8]))
          · rw [chk_flag 4 f o l (.inr rfl) (by simp [flagB]; omega)]
            exact rcheck_four f s o l w h.f0 h.f1 t2 t8 t4
      · have h8 : ¬ f / 2 < 8 := by simp at t8; omega
        rw [chk_flag v f o l hv (by simp [flagB]; omega)]
        exact rcheck_eight v f s o l w hv h.f0 h.f1 t2 t8
    · have h2 : ¬ f % 2 = 0 := by simp at t2; omega
      rw [chk_flag v f o l hv (by simp [flagB]; omega)]
      exact rcheck_odd v f s o l w hv h.f0 h.f1 t2
  · refine (rcheck_no v f s o l w (by omega) (by omega)).mono ?_
    rintro e w' ⟨rfl, hB⟩
    exact ⟨by unfold chk; rw [if_pos (by omega)], hB⟩
end Go.Proofs.Ytabadlgjocgkjaa
