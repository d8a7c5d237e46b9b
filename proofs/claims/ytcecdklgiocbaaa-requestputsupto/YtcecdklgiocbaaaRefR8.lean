/-
  The document's flags of a run, and a run's bytes.
-/
import Derived.Test.YtcecdklgiocbaaaRefV8
import Derived.Test.YtcecdklgiocbaaaRowOps
namespace Go.Proofs.Ytcecdklgiocbaaa
open Go.RowKit
set_option maxRecDepth 100000
set_option linter.unusedVariables false
set_option linter.unusedSimpArgs false

theorem Try.isz45 : (Try.prog.info? 45).map (·.size) = some 13 := by kernel_rfl
theorem Try.agg45 (w : World) : (isAgg 45).run Try.prog w = .ok true w := by
  simp [isAgg, run_underlying Try.underlying45, Result.andThen]

theorem run_cells13 {w : World} {q : Nat} {c0 c1 c2 c3 c4 c5 c6 c7 c8 c9 c10 c11 c12 : Value} {t : TypeId} {fr : Nat × Nat} (h : w.heap[q]? = some (.cells #[c0, c1, c2, c3, c4, c5, c6, c7, c8, c9, c10, c11, c12] t fr)) :
    w.cell? ⟨q, 0, none⟩ = some c0 ∧ w.cell? ⟨q, 1, none⟩ = some c1 ∧ w.cell? ⟨q, 2, none⟩ = some c2 ∧ w.cell? ⟨q, 3, none⟩ = some c3 ∧ w.cell? ⟨q, 4, none⟩ = some c4 ∧ w.cell? ⟨q, 5, none⟩ = some c5 ∧ w.cell? ⟨q, 6, none⟩ = some c6 ∧ w.cell? ⟨q, 7, none⟩ = some c7 ∧ w.cell? ⟨q, 8, none⟩ = some c8 ∧ w.cell? ⟨q, 9, none⟩ = some c9 ∧ w.cell? ⟨q, 10, none⟩ = some c10 ∧ w.cell? ⟨q, 11, none⟩ = some c11 ∧ w.cell? ⟨q, 12, none⟩ = some c12 := by
  refine ⟨?_, ?_, ?_, ?_, ?_, ?_, ?_, ?_, ?_, ?_, ?_, ?_, ?_⟩ <;> simp [World.cell?, h]

theorem bN_rng (b : Bool) (k : Int) (hk : 0 ≤ k) : 0 ≤ bN b k ∧ bN b k ≤ k := by
  cases b with
  | true => exact ⟨hk, Int.le_refl _⟩
  | false => exact ⟨Int.le_refl _, hk⟩

set_option maxHeartbeats 4000000 in
theorem rflg_any {w : World} {co : Int} {a : Option Addr} {l c : Nat} {na : Option Addr} {nl nc : Nat} {sk pg : Bool} {pn : Int} {rs : Bool} {k1 : Int} {sb : ByteArray} {se : Bool} {sr : Int} {ti : Bool} {tm : Int} (hl : l ≤ maxLen) (hnl : nl ≤ maxLen) :
    Calls Try.prog 71 #[.agg #[.int .u16 co, .slice a l c, .slice na nl nc, .bool sk, .bool pg, .int .i32 pn, .bool rs, .int .i64 k1, .string sb, .bool se, .int .u16 sr, .bool ti, .int .i64 tm]] w fun e w' => e = .returned (.int .u8 (flN (decide (0 < l)) sk pg rs se ti (decide (0 < nl)))) ∧ Hid (Below w.heap.size w w') := by
  unfold maxLen at hl hnl
  obtain ⟨w1, hw1⟩ : ∃ w1, w1 = w.alloc (.cells #[.int .u16 co, .slice a l c, .slice na nl nc, .bool sk, .bool pg, .int .i32 pn, .bool rs, .int .i64 k1, .string sb, .bool se, .int .u16 sr, .bool ti, .int .i64 tm] 45) := ⟨_, rfl⟩
  have HB1 : Hid (Below w.heap.size w w1) := by rw [hw1]; exact below_one _ _
  have hq : w1.heap[w.heap.size]? = some (.cells #[.int .u16 co, .slice a l c, .slice na nl nc, .bool sk, .bool pg, .int .i32 pn, .bool rs, .int .i64 k1, .string sb, .bool se, .int .u16 sr, .bool ti, .int .i64 tm] 45 (0, 0)) := by rw [hw1]; exact heap_alloc_new w _
  have HW1 : Hid (w.alloc (.cells #[.int .u16 co, .slice a l c, .slice na nl nc, .bool sk, .bool pg, .int .i32 pn, .bool rs, .int .i64 k1, .string sb, .bool se, .int .u16 sr, .bool ti, .int .i64 tm] 45) = w1) := hw1.symm
  obtain ⟨d0, d1, d2, d3, d4, d5, d6, d7, d8, d9, d10, d11, d12⟩ := run_cells13 hq
  clear hw1 hq
  go_enter Try.func71, Try.ntmps71
  go_upto_region 1 with fail
  rw [HW1.out]
  clear HW1
  obtain ⟨x1, hx1⟩ : ∃ x1 : Int, x1 = (0 : Int) + bN (decide (0 < l)) 1 := ⟨_, rfl⟩
  have rx1 := bN_rng (decide (0 < l)) 1 (by decide)
  have bx1 : 0 ≤ x1 ∧ x1 ≤ 1 := by omega
  clear rx1
  have Hx1 : Hid (x1 = (0 : Int) + bN (decide (0 < l)) 1) := hx1
  clear hx1
  go_upto_if 7 with fail
  go_cut [3] (fun f wc => f = .int .u8 x1 ∧ w1 = wc)
  case first =>
    by_cases h : 0 < l
    · skip
      go_wp2_with fail
      go_meet
      case rel => exact ⟨by rw [Hx1.out]; simp [bN, h], rfl⟩
    · go_wp2_with fail
      go_meet
      case rel => exact ⟨by rw [Hx1.out]; simp [bN, h], rfl⟩
  case rest =>
    obtain ⟨rfl, rfl⟩ := hcut
    obtain ⟨x2, hx2⟩ : ∃ x2 : Int, x2 = x1 + bN (sk) 2 := ⟨_, rfl⟩
    have rx2 := bN_rng (sk) 2 (by decide)
    have bx2 : 0 ≤ x2 ∧ x2 ≤ 3 := by omega
    clear rx2
    have Hx2 : Hid (x2 = x1 + bN (sk) 2) := hx2
    clear hx2
    go_upto_if 11 with fail
    go_cut [3] (fun f wc => f = .int .u8 x2 ∧ w1 = wc)
    case first =>
      cases sk with
      | true =>
        have hw : IntKind.u8.wrap (x1 + 2) = x1 + 2 := wrap_u8 _ (by omega) (by omega)
        go_wp2_with fail
        go_meet
        case rel => exact ⟨by rw [Hx2.out]; simp [bN], rfl⟩
      | false =>
        go_wp2_with fail
        go_meet
        case rel => exact ⟨by rw [Hx2.out]; simp [bN], rfl⟩
    case rest =>
      obtain ⟨rfl, rfl⟩ := hcut
      obtain ⟨x3, hx3⟩ : ∃ x3 : Int, x3 = x2 + bN (pg) 4 := ⟨_, rfl⟩
      have rx3 := bN_rng (pg) 4 (by decide)
      have bx3 : 0 ≤ x3 ∧ x3 ≤ 7 := by omega
      clear rx3
      have Hx3 : Hid (x3 = x2 + bN (pg) 4) := hx3
      clear hx3
      go_upto_if 15 with fail
      go_cut [3] (fun f wc => f = .int .u8 x3 ∧ w1 = wc)
      case first =>
        cases pg with
        | true =>
          have hw : IntKind.u8.wrap (x2 + 4) = x2 + 4 := wrap_u8 _ (by omega) (by omega)
          go_wp2_with fail
          go_meet
          case rel => exact ⟨by rw [Hx3.out]; simp [bN], rfl⟩
        | false =>
          go_wp2_with fail
          go_meet
          case rel => exact ⟨by rw [Hx3.out]; simp [bN], rfl⟩
      case rest =>
        obtain ⟨rfl, rfl⟩ := hcut
        obtain ⟨x4, hx4⟩ : ∃ x4 : Int, x4 = x3 + bN (rs) 8 := ⟨_, rfl⟩
        have rx4 := bN_rng (rs) 8 (by decide)
        have bx4 : 0 ≤ x4 ∧ x4 ≤ 15 := by omega
        clear rx4
        have Hx4 : Hid (x4 = x3 + bN (rs) 8) := hx4
        clear hx4
        go_upto_if 19 with fail
        go_cut [3] (fun f wc => f = .int .u8 x4 ∧ w1 = wc)
        case first =>
          cases rs with
          | true =>
            have hw : IntKind.u8.wrap (x3 + 8) = x3 + 8 := wrap_u8 _ (by omega) (by omega)
            go_wp2_with fail
            go_meet
            case rel => exact ⟨by rw [Hx4.out]; simp [bN], rfl⟩
          | false =>
            go_wp2_with fail
            go_meet
            case rel => exact ⟨by rw [Hx4.out]; simp [bN], rfl⟩
        case rest =>
          obtain ⟨rfl, rfl⟩ := hcut
          obtain ⟨x5, hx5⟩ : ∃ x5 : Int, x5 = x4 + bN (se) 16 := ⟨_, rfl⟩
          have rx5 := bN_rng (se) 16 (by decide)
          have bx5 : 0 ≤ x5 ∧ x5 ≤ 31 := by omega
          clear rx5
          have Hx5 : Hid (x5 = x4 + bN (se) 16) := hx5
          clear hx5
          go_upto_if 23 with fail
          go_cut [3] (fun f wc => f = .int .u8 x5 ∧ w1 = wc)
          case first =>
            cases se with
            | true =>
              have hw : IntKind.u8.wrap (x4 + 16) = x4 + 16 := wrap_u8 _ (by omega) (by omega)
              go_wp2_with fail
              go_meet
              case rel => exact ⟨by rw [Hx5.out]; simp [bN], rfl⟩
            | false =>
              go_wp2_with fail
              go_meet
              case rel => exact ⟨by rw [Hx5.out]; simp [bN], rfl⟩
          case rest =>
            obtain ⟨rfl, rfl⟩ := hcut
            obtain ⟨x6, hx6⟩ : ∃ x6 : Int, x6 = x5 + bN (ti) 32 := ⟨_, rfl⟩
            have rx6 := bN_rng (ti) 32 (by decide)
            have bx6 : 0 ≤ x6 ∧ x6 ≤ 63 := by omega
            clear rx6
            have Hx6 : Hid (x6 = x5 + bN (ti) 32) := hx6
            clear hx6
            go_upto_if 27 with fail
            go_cut [3] (fun f wc => f = .int .u8 x6 ∧ w1 = wc)
            case first =>
              cases ti with
              | true =>
                have hw : IntKind.u8.wrap (x5 + 32) = x5 + 32 := wrap_u8 _ (by omega) (by omega)
                go_wp2_with fail
                go_meet
                case rel => exact ⟨by rw [Hx6.out]; simp [bN], rfl⟩
              | false =>
                go_wp2_with fail
                go_meet
                case rel => exact ⟨by rw [Hx6.out]; simp [bN], rfl⟩
            case rest =>
              obtain ⟨rfl, rfl⟩ := hcut
              obtain ⟨x7, hx7⟩ : ∃ x7 : Int, x7 = x6 + bN (decide (0 < nl)) 64 := ⟨_, rfl⟩
              have rx7 := bN_rng (decide (0 < nl)) 64 (by decide)
              have bx7 : 0 ≤ x7 ∧ x7 ≤ 127 := by omega
              clear rx7
              have Hx7 : Hid (x7 = x6 + bN (decide (0 < nl)) 64) := hx7
              clear hx7
              go_upto_if 33 with fail
              go_cut [3] (fun f wc => f = .int .u8 x7 ∧ w1 = wc)
              case first =>
                by_cases h : 0 < nl
                · skip
                  have hw : IntKind.u8.wrap (x6 + 64) = x6 + 64 := wrap_u8 _ (by omega) (by omega)
                  go_wp2_with fail
                  go_meet
                  case rel => exact ⟨by rw [Hx7.out]; simp [bN, h], rfl⟩
                · go_wp2_with fail
                  go_meet
                  case rel => exact ⟨by rw [Hx7.out]; simp [bN, h], rfl⟩
              case rest =>
                obtain ⟨rfl, rfl⟩ := hcut
                have ex : x7 = flN (decide (0 < l)) sk pg rs se ti (decide (0 < nl)) := by rw [Hx7.out, Hx6.out, Hx5.out, Hx4.out, Hx3.out, Hx2.out, Hx1.out]; simp only [flN, Int.zero_add]
                have HEX : Hid _ := ex
                clear ex
                go_wp2_with fail
                go_ret
                exact ⟨by rw [← HEX.out]; rfl, HB1⟩
end Go.Proofs.Ytcecdklgiocbaaa
