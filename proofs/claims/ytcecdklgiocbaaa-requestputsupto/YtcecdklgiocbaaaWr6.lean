/-
  Which flags a run has; the writer's method run.
-/
import Derived.Test.YtcecdklgiocbaaaWr5
namespace Go.Proofs.Ytcecdklgiocbaaa
open Go.RowKit
set_option maxRecDepth 100000
set_option linter.unusedVariables false
set_option linter.unusedSimpArgs false

set_option maxHeartbeats 400000 in
theorem flagIf_any (b : Bool) (k : Int) (w : World) : Calls Try.prog 98 #[.bool b, .int .u8 k] w fun e w' => e = .returned (.int .u8 (bN b k)) ∧ w' = w := by
  cases b with
  | true =>
    go_enter Try.func98, Try.ntmps98
    go_wp2
    go_ret
    exact ⟨rfl, rfl⟩
  | false =>
    go_enter Try.func98, Try.ntmps98
    go_wp2
    go_ret
    exact ⟨rfl, rfl⟩

theorem flagIf_quiet (b : Bool) (k : Int) (w : World) : Calls Try.prog 98 #[.bool b, .int .u8 k] w fun e w' => e = .returned (.int .u8 (bN b k)) ∧ ∃ nq, w' = w.drewN nq := by
  refine (flagIf_any b k w).mono ?_
  rintro e w1 ⟨rfl, rfl⟩
  exact ⟨rfl, 0, rfl⟩

theorem flN_or : ∀ v s p r e t n : Bool, bits .or .u8 (bits .or .u8 (bits .or .u8 (bits .or .u8 (bits .or .u8 (bits .or .u8 (bN v 1) (bN s 2)) (bN p 4)) (bN r 8)) (bN e 16)) (bN t 32)) (bN n 64) = flN v s p r e t n := by decide +kernel

theorem int_pos (n : Nat) : decide ((0 : Int) < n) = decide (0 < n) := by simp

set_option maxHeartbeats 1000000 in
theorem flagsOf_any (co : Int) (a : Option Addr) (l c : Nat) (na : Option Addr) (nl nc : Nat) (sk pg : Bool) (pn : Int) (rs : Bool) (k : Int) (sa : Option Addr) (sl sc : Nat) (se : Bool) (sr : Int) (ti : Bool) (tm : Int) (w : World) :
    Calls Try.prog 60 #[.agg #[.int .u16 co, .slice a l c, .slice na nl nc, .bool sk, .bool pg, .int .i32 pn, .bool rs, .int .i64 k, .slice sa sl sc, .bool se, .int .u16 sr, .bool ti, .int .i64 tm]] w fun e w' =>
      e = .returned (.int .u8 (flN (decide (0 < l)) sk pg rs se ti (decide (0 < nl)))) ∧ Hid (Below w.heap.size w w') := by
  have HE' : Hid (_ = flN (decide (0 < l)) sk pg rs se ti (decide (0 < nl))) := flN_or (decide (0 < l)) sk pg rs se ti (decide (0 < nl))
  go_enter Try.func60, Try.ntmps60
  go_wp2_with fail
  go_quiet (first | (go_at_call 98; exact Calls.quiet_of (flagIf_quiet _ _ _)))
  go_wp2_with fail
  go_ret
  refine ⟨?_, below_drewN (below_one _ _) _⟩
  rw [← HE'.out]
  rfl

/-- The cells of a run's block. -/
theorem run_cells {w : World} {q : Nat} {c0 c1 c2 c3 c4 c5 c6 c7 c8 c9 c10 c11 c12 : Value} {t : TypeId} (h : w.heap[q]? = some (.cells #[c0, c1, c2, c3, c4, c5, c6, c7, c8, c9, c10, c11, c12] t (0, 0))) :
    w.cell? ⟨q, 0, none⟩ = some c0 ∧ w.cell? ⟨q, 1, none⟩ = some c1 ∧ w.cell? ⟨q, 2, none⟩ = some c2 ∧ w.cell? ⟨q, 3, none⟩ = some c3 ∧ w.cell? ⟨q, 4, none⟩ = some c4 ∧ w.cell? ⟨q, 5, none⟩ = some c5 ∧ w.cell? ⟨q, 6, none⟩ = some c6 ∧ w.cell? ⟨q, 7, none⟩ = some c7 ∧ w.cell? ⟨q, 8, none⟩ = some c8 ∧ w.cell? ⟨q, 9, none⟩ = some c9 ∧ w.cell? ⟨q, 10, none⟩ = some c10 ∧ w.cell? ⟨q, 11, none⟩ = some c11 ∧ w.cell? ⟨q, 12, none⟩ = some c12 := by
  refine ⟨?_, ?_, ?_, ?_, ?_, ?_, ?_, ?_, ?_, ?_, ?_, ?_, ?_⟩ <;> simp [World.cell?, h]
end Go.Proofs.Ytcecdklgiocbaaa
