/-
  The law's own check of the document's examples: it answers true, and turns nothing that was there.
-/
import Derived.Test.YtcecdklgiocbaaaGetC
namespace Go.Proofs.Ytcecdklgiocbaaa
open Go.RowKit
set_option maxRecDepth 100000
set_option linter.unusedVariables false
set_option linter.unusedSimpArgs false

theorem ex9 : (([0, 0, 0, 1, 97], 0) : BE) = putB (9, [], ⟨#[97]⟩, ByteArray.empty, (0, [], [], false, false, 0, false, (0, ByteArray.empty), false, 0, false, 0), [], (0, ByteArray.empty), 0, []) := by kernel_rfl
theorem ex7 : (([0, 0, 0, 1, 97, 0, 1, 32, 255, 255, 255, 255, 255, 255, 255, 255], 0) : BE) = putB (7, [], ⟨#[97]⟩, ByteArray.empty, (1, [], [], false, false, 0, false, (0, ByteArray.empty), false, 0, true, -1), [], (0, ByteArray.empty), 0, []) := by kernel_rfl
theorem ex0 : (([], 22) : BE) = putB (0, [], ByteArray.empty, ByteArray.empty, (0, [], [], false, false, 0, false, (0, ByteArray.empty), false, 0, false, 0), [], (0, ByteArray.empty), 0, []) := by kernel_rfl
theorem exg7 : (0 : Int) = getE 7 [0, 0, 0, 1, 97, 0, 1, 32, 255, 255, 255, 255, 255, 255, 255, 255] := by kernel_rfl
theorem exv7 : ((getR 7 [0, 0, 0, 1, 97, 0, 1, 32, 255, 255, 255, 255, 255, 255, 255, 255]).val).run.time = -1 := by kernel_rfl
theorem exg5 : (23 : Int) = getE 5 [1] := by kernel_rfl

theorem run_small (w : World) {co tm : Int} (h1 : 0 ≤ co ∧ co ≤ 65535) (h2 : -9223372036854775808 ≤ tm ∧ tm ≤ 9223372036854775807) (ti : Bool) : RunAt w none 0 0 none 0 0 none 0 0 (co, [], [], false, false, 0, false, (0, ByteArray.empty), false, 0, ti, tm) :=
  ⟨view_nil _ _ _, view_nil _ _ _, isB_nil _, h1, ⟨Int.le_refl 0, show (0 : Int) ≤ 65535 by decide⟩, ⟨show (-2147483648 : Int) ≤ 0 by decide, show (0 : Int) ≤ 2147483647 by decide⟩, h2⟩
theorem rq_small (w : World) {op co tm : Int} (h : 0 ≤ op ∧ op ≤ 255) (h1 : 0 ≤ co ∧ co ≤ 65535) (h2 : -9223372036854775808 ≤ tm ∧ tm ≤ 9223372036854775807) (ti : Bool) (tx : ByteArray) : RqAt w none 0 0 none 0 0 none 0 0 none 0 0 none 0 0 none 0 0 none 0 0 none 0 0 (op, [], tx, ByteArray.empty, (co, [], [], false, false, 0, false, (0, ByteArray.empty), false, 0, ti, tm), [], (0, ByteArray.empty), 0, []) :=
  ⟨h, view_nil _ _ _, isB_nil _, run_small w h1 h2 ti, view_nil _ _ _, isB_nil _, ⟨Int.le_refl 0, show (0 : Int) ≤ 255 by decide⟩, view_nil _ _ _⟩
theorem fit_small (op co tm : Int) (ti : Bool) (tx : ByteArray) (hx : tx.size ≤ 10) : FitQ (op, [], tx, ByteArray.empty, (co, [], [], false, false, 0, false, (0, ByteArray.empty), false, 0, ti, tm), [], (0, ByteArray.empty), 0, []) := by
  refine ⟨fun y hy => (by cases hy), ⟨fun y hy => (by cases hy), fun y hy => (by cases hy), ?_⟩, fun y hy => (by cases hy), ?_, fun s hs => (by cases hs), ?_⟩
  · show ByteArray.empty.size ≤ _; decide
  · show ByteArray.empty.size ≤ _; decide
  · show 16 + tx.size + ByteArray.empty.size + (32 + 0 + 0 + ByteArray.empty.size) + 0 ≤ _
    have : ByteArray.empty.size = 0 := rfl
    omega

theorem aw_1 (w : World) : Calls Try.prog 10 #[.agg #[.int .u8 9, .slice none 0 0, .string ⟨#[97]⟩, .slice none 0 0, .int .u16 0, .slice none 0 0, .slice none 0 0, .bool false, .bool false, .int .i32 0, .bool false, .int .i64 0, .slice none 0 0, .bool false, .int .u16 0, .bool false, .int .i64 0, .slice none 0 0, .int .i64 0, .slice none 0 0, .int .u8 0, .slice none 0 0]] w fun e w' => ∃ a cp, e = .returned (.tuple #[.slice a 5 cp, .int .i64 0]) ∧ Hid (IsB w' a 5 cp [0, 0, 0, 1, 97]) ∧ Hid (Below w.heap.size w w') := by
  refine (put_any (rq_small w ⟨by decide, by decide⟩ ⟨by decide, by decide⟩ ⟨by decide, by decide⟩ false ⟨#[97]⟩) (fit_small 9 0 0 false ⟨#[97]⟩ (by decide)) ex9).mono ?_
  rintro e w' ⟨a, cp, rfl, HP, HB⟩
  exact ⟨a, cp, rfl, HP.out.2, HB⟩
theorem aw_2 (w : World) : Calls Try.prog 10 #[.agg #[.int .u8 7, .slice none 0 0, .string ⟨#[97]⟩, .slice none 0 0, .int .u16 1, .slice none 0 0, .slice none 0 0, .bool false, .bool false, .int .i32 0, .bool false, .int .i64 0, .slice none 0 0, .bool false, .int .u16 0, .bool true, .int .i64 (-1), .slice none 0 0, .int .i64 0, .slice none 0 0, .int .u8 0, .slice none 0 0]] w fun e w' => ∃ a cp, e = .returned (.tuple #[.slice a 16 cp, .int .i64 0]) ∧ Hid (IsB w' a 16 cp [0, 0, 0, 1, 97, 0, 1, 32, 255, 255, 255, 255, 255, 255, 255, 255]) ∧ Hid (Below w.heap.size w w') := by
  refine (put_any (rq_small w ⟨by decide, by decide⟩ ⟨by decide, by decide⟩ ⟨by decide, by decide⟩ true ⟨#[97]⟩) (fit_small 7 1 (-1) true ⟨#[97]⟩ (by decide)) ex7).mono ?_
  rintro e w' ⟨a, cp, rfl, HP, HB⟩
  exact ⟨a, cp, rfl, HP.out.2, HB⟩
theorem aw_3 (w : World) : Calls Try.prog 10 #[.agg #[.int .u8 0, .slice none 0 0, .string ⟨#[]⟩, .slice none 0 0, .int .u16 0, .slice none 0 0, .slice none 0 0, .bool false, .bool false, .int .i32 0, .bool false, .int .i64 0, .slice none 0 0, .bool false, .int .u16 0, .bool false, .int .i64 0, .slice none 0 0, .int .i64 0, .slice none 0 0, .int .u8 0, .slice none 0 0]] w fun e w' => ∃ a cp, e = .returned (.tuple #[.slice a 0 cp, .int .i64 22]) ∧ Hid (Below w.heap.size w w') := by
  refine (put_any (rq_small w ⟨by decide, by decide⟩ ⟨by decide, by decide⟩ ⟨by decide, by decide⟩ false ByteArray.empty) (fit_small 0 0 0 false ByteArray.empty (by decide)) ex0).mono ?_
  rintro e w' ⟨a, cp, rfl, HP, HB⟩
  exact ⟨a, cp, rfl, HB⟩

/-- A row of one byte. -/
theorem row_of_one (w : World) : BRow (w.alloc (.cells #[.int .u8 1] 5)) w.heap.size 0 1 1 [1] := by
  refine ⟨rfl, Nat.le_refl _, by unfold maxLen; omega, fun _ => by simp, fun i hi => ?_, fun j => ?_⟩
  · obtain rfl : i = 0 := by omega
    simp [go_sem]
  · rcases j with _ | j <;> simp

theorem time_of {opr : Int} {os : List (ByteArray × ByteArray)} {tx id : ByteArray} {r : Rn} {es : List ByteArray} {tk : Vl} {kd : Int} {ss : List St} {v : Rq} (h : (opr, os, tx, id, r, es, tk, kd, ss) = v) : r.time = v.run.time := by rw [← h]; rfl

set_option maxHeartbeats 8000000 in
theorem awake_any (w : World) : Calls Try.prog 8 #[] w fun e w' => e = .returned (.bool true) ∧ Hid (Below w.heap.size w w') := by
  go_enter Try.func8, Try.ntmps8
  go_wp2_with fail
  refine (aw_1 w).mono ?_
  rintro e w1 ⟨a1, cp1, rfl, HI1, HB1⟩
  go_wp2_with fail
  refine (aw_2 w1).mono ?_
  rintro e w2 ⟨a2, cp2, rfl, HI2, HB2⟩
  go_wp2_with fail
  refine (get_any (op := 7) HI2.out (by omega) ⟨by decide, by decide⟩ exg7).mono ?_
  rintro e w3 ⟨opr, oa, ol, oc, os, tx, ia, il, ic, id, co, a, l, c, vs, na, nl, nc, ns, b2, b4, pn, b8, sk1, sb, sa, sl, sc, b16, sr, b32, tm, ea, el, ec, es, tk, tb, ta, tl, tc, kd, aa, al, ac, ss, rfl, _, HV3, _, HB3⟩
  have htm : tm = -1 := by
    have h1 := time_of (HV3.out rfl)
    rw [exv7] at h1
    exact h1
  subst htm
  go_wp2_with (refine wpList_store_hid (old := #[.int .u8 0, .slice none 0 0, .string ⟨#[]⟩, .slice none 0 0, .int .u16 0, .slice none 0 0, .slice none 0 0, .bool false, .bool false, .int .i32 0, .bool false, .int .i64 0, .slice none 0 0, .bool false, .int .u16 0, .bool false, .int .i64 0, .slice none 0 0, .int .i64 0, .slice none 0 0, .int .u8 0, .slice none 0 0]) (T := 33) rfl 33 (.tmp 5) (.tmp 25) rfl rfl rfl Try.isz33 (by simp [Value.oneCell']) (heap_alloc_new _ _) rfl ?_)
  intro w4 hq4 hK4 hs4
  have HB4 : Hid (Below w3.heap.size w3 w4) := ((kept_of (below_one w3 _)).trans hK4 (fun _ _ e => e)).below (S := fun k => k = w3.heap.size) (Nat.le_refl _) (fun k hk e => by omega)
  obtain ⟨_, _, _, _, _, _, _, _, _, _, _, _, _, _, _, _, hc16, _, _, _, _, _⟩ := req_cells hq4
  have hl4 := block_lt hq4
  clear hq4 hK4 hs4
  go_wp2_with fail
  refine (get_any (op := 5) (row_of_one w4).isB (by omega) ⟨by decide, by decide⟩ exg5).mono ?_
  rintro e w5 ⟨opr', oa', ol', oc', os', tx', ia', il', ic', id', co', a', l', c', vs', na', nl', nc', ns', b2', b4', pn', b8', sk1', sb', sa', sl', sc', b16', sr', b32', tm', ea', el', ec', es', tk', tb', ta', tl', tc', kd', aa', al', ac', ss', rfl, _, _, _, HB5x⟩
  have HB5 : Hid (Below w4.heap.size w4 w5) := (below_one w4 _).trans (HB5x.out.mono (by simp))
  go_wp2_with (refine wpList_store_hid (old := #[.int .u8 0, .slice none 0 0, .string ⟨#[]⟩, .slice none 0 0, .int .u16 0, .slice none 0 0, .slice none 0 0, .bool false, .bool false, .int .i32 0, .bool false, .int .i64 0, .slice none 0 0, .bool false, .int .u16 0, .bool false, .int .i64 0, .slice none 0 0, .int .i64 0, .slice none 0 0, .int .u8 0, .slice none 0 0]) (T := 33) rfl 33 (.tmp 7) (.tmp 30) rfl rfl rfl Try.isz33 (by simp [Value.oneCell']) (heap_alloc_new _ _) rfl ?_)
  intro w6 hq6 hK6 hs6
  have HB6 : Hid (Below w5.heap.size w5 w6) := ((kept_of (below_one w5 _)).trans hK6 (fun _ _ e => e)).below (S := fun k => k = w5.heap.size) (Nat.le_refl _) (fun k hk e => by omega)
  clear hq6 hK6 hs6
  go_wp2_with fail
  refine (aw_3 w6).mono ?_
  rintro e w7 ⟨a7, cp7, rfl, HB7⟩
  have HB47 : Hid (Below w4.heap.size w4 w7) := (HB5.out.trans (HB6.out.mono HB5.out.size)).trans (HB7.out.mono (Nat.le_trans HB5.out.size HB6.out.size))
  have HB17 : Hid (Below w1.heap.size w1 w7) := ((HB2.out.trans (HB3.out.mono HB2.out.size)).trans (HB4.out.mono (Nat.le_trans HB2.out.size HB3.out.size))).trans (HB47.out.mono (Nat.le_trans HB2.out.size (Nat.le_trans HB3.out.size HB4.out.size)))
  have hcv : (convert 23 9 (.slice a1 5 cp1)).run Try.prog w7 = .ok (.string ⟨#[0, 0, 0, 1, 97]⟩) w7 := (HI1.out.old HB17.out).conv
  have hc16' : w7.cell? ⟨w3.heap.size, 16, none⟩ = some (.int .i64 (-1)) := (HB47.out.cell (p := ⟨w3.heap.size, 16, none⟩) hl4).trans hc16
  clear hc16
  go_wp2_with fail
  go_ret
  exact ⟨by simp, HB1.out.trans (HB17.out.mono HB1.out.size)⟩
end Go.Proofs.Ytcecdklgiocbaaa
