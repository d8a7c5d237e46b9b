/-
  Is a table small enough?
-/
import Derived.Test.YtnapeecmlkkolaaDoorAwake10
import Derived.Test.YtnapeecmlkkolaaDoorFew
namespace Go.Proofs.YtnapeecmlkkolaaDoor
open Go.RowKit
set_option maxRecDepth 100000
set_option linter.unusedVariables false
set_option linter.unusedSimpArgs false

def slB (T : Tb) : Bool := (decide (T.2.1.length ≤ 20) && decide (T.2.2.2.2.length ≤ 20)) && (T.2.1.all (fun c => fewF 26 c.2.2.2) && T.2.2.2.2.all (fun r => decide (r.length ≤ 30)))

set_option maxHeartbeats 2000000 in
theorem slight_any {m : Nat} {F : Nat → Prop} {w : World} {cnt : Int} {L : List Col} {mo : Bool} {vk : Int} {vb : ByteArray} {Q : List (List Vl)} {ca : Option Addr} {cl cc : Nat} {x : Option Addr} {lx cx : Nat} {ra : Option Addr} {rl rc : Nat} (h : TbV (m + 1) F w ((cnt, L, mo, (vk, vb), Q) : Tb) ca cl cc x lx cx ra rl rc) {d : Bool} (hd : d = slB ((cnt, L, mo, (vk, vb), Q) : Tb)) :
    Calls Tryd.prog 16 #[.agg #[.int .i64 cnt, .slice ca cl cc, .bool mo, .int .i64 vk, .slice x lx cx, .slice ra rl rc]] w fun e w' => e = .returned (.bool d) ∧ Hid (Below w.heap.size w w') := by
  obtain ⟨w0, hw0⟩ : ∃ w0, w0 = w.alloc (.cells #[.int .i64 cnt, .slice ca cl cc, .bool mo, .int .i64 vk, .slice x lx cx, .slice ra rl rc] 29) := ⟨_, rfl⟩
  have HW0 : Hid (w.alloc (.cells #[.int .i64 cnt, .slice ca cl cc, .bool mo, .int .i64 vk, .slice x lx cx, .slice ra rl rc] 29) = w0) := hw0.symm
  have hB0 : Below w.heap.size w w0 := by rw [hw0]; exact below_one _ _
  have HB0 : Hid (Below w.heap.size w w0) := hB0
  obtain ⟨q, hq⟩ : ∃ q, q = w.heap.size := ⟨_, rfl⟩
  have HQE : Hid (w.heap.size = q) := hq.symm
  have HG0 : Hid (w0.heap[q]? = some (.cells #[.int .i64 cnt, .slice ca cl cc, .bool mo, .int .i64 vk, .slice x lx cx, .slice ra rl rc] 29 (0, 0))) := by rw [hw0, hq]; exact heap_alloc_new w _
  have HCS : Hid (Sees 8 F (VCol (m + 1) F w0) w0 ca cl cc L) := (h.old hB0).1
  have HRS : Hid (Sees 1 F (VRowS F w0) w0 ra rl rc Q) := (h.old hB0).2.2
  have HLC : Hid (L.length = cl) := h.1.1
  have HLQ : Hid (Q.length = rl) := h.2.2.1
  have hmx := h.2.2.max
  have hmc := h.1.max
  unfold maxLen at hmx hmc
  have HD : Hid (d = slB ((cnt, L, mo, (vk, vb), Q) : Tb)) := hd
  obtain ⟨⟨a0, a1, a2, a3, a4, a5⟩, _⟩ := blk6 HG0.out
  have hlq := block_lt HG0.out
  clear hw0 hB0 hq h hd
  by_cases h1 : (20 : Int) < cl
  · have HE : Hid (d = false) := by
      show _ = _
      rw [HD.out]
      show ((decide (L.length ≤ 20) && _) && _) = false
      rw [HLC.out, decide_eq_false (show ¬ cl ≤ 20 by omega)]; rfl
    go_enter Tryd.func16, Tryd.ntmps16
    go_upto_region 1 with fail
    (try rw [HQE.out])
    rw [HW0.out]
    clear HW0
    go_wp2_with fail
    go_ret
    exact ⟨by rw [HE.out]; rfl, HB0⟩
  by_cases h2 : (20 : Int) < rl
  · have HE : Hid (d = false) := by
      show _ = _
      rw [HD.out]
      show ((decide (L.length ≤ 20) && decide (Q.length ≤ 20)) && _) = false
      rw [HLQ.out, decide_eq_false (show ¬ rl ≤ 20 by omega)]; simp
    go_enter Tryd.func16, Tryd.ntmps16
    go_upto_region 1 with fail
    (try rw [HQE.out])
    rw [HW0.out]
    clear HW0
    go_wp2_with fail
    go_ret
    exact ⟨by rw [HE.out]; rfl, HB0⟩
  have HDD : Hid (((L.drop 0).all (fun c => fewF 26 c.2.2.2) && Q.all (fun r => decide (r.length ≤ 30))) = d) := by
    show _ = _
    rw [HD.out, List.drop_zero]
    show _ = ((decide (L.length ≤ 20) && decide (Q.length ≤ 20)) && _)
    rw [HLC.out, HLQ.out, decide_eq_true (show cl ≤ 20 by omega), decide_eq_true (show rl ≤ 20 by omega)]
    rfl
  go_enter Tryd.func16, Tryd.ntmps16
  go_upto_region 1 with fail
  (try rw [HQE.out])
  rw [HW0.out]
  clear HW0
  go_wp2_with fail
  go_loopw [3] (fun i wr => ∃ k : Nat, k ≤ cl ∧ i = .int .i64 k ∧ Hid (((L.drop k).all (fun c => fewF 26 c.2.2.2) && Q.all (fun r => decide (r.length ≤ 30))) = d) ∧ Hid (Below w0.heap.size w0 wr)) (fun i _ => cl - (intOf i).toNat)
  case atStart => exact ⟨0, by omega, rfl, HDD, Below.refl _ _⟩
  case round =>
    obtain ⟨k, hk, rfl, HI, HBk⟩ := hrel
    have hgk := (HBk.out.block q hlq).trans HG0.out
    obtain ⟨⟨a0, a1, a2, a3, a4, a5⟩, _⟩ := blk6 hgk
    have hlqk := block_lt hgk
    clear hgk
    by_cases hlt : k < cl
    · obtain ⟨s, t, nm, X, b8, off, na, nl, nc, ka, kl, kc, hx, rfl, hbs, _, ⟨c0, c1, c2, c3, c4, c5, c6, c7⟩, hsz, hty⟩ := (HCS.out.kept (stays_col (m + 1)) (F' := F) (fun k hk _ => HBk.out.block k hk) HBk.out.size (fun _ _ hf => hf)).col hlt
      have HTY : Hid (TyAt m F wr X na nl nc ka kl kc) := hty
      have HX : Hid (L.drop k = (s, t, nm, X) :: L.drop (k + 1)) := drop_cons hx
      obtain ⟨u, hu⟩ : ∃ u, u = fewF 26 X := ⟨_, rfl⟩
      have HU : Hid (u = fewF 26 X) := hu
      clear hx hsz hty hu
      go_wp2_with fail
      refine (few_any HTY.out HU.out).mono ?_
      rintro e w2 ⟨rfl, hB2⟩
      have HB2 : Hid (Below w0.heap.size w0 w2) := HBk.out.trans (hB2.mono HBk.out.size)
      clear hB2
      cases u with
      | true =>
        have HE : Hid (((L.drop (k + 1)).all (fun c => fewF 26 c.2.2.2) && Q.all (fun r => decide (r.length ≤ 30))) = d) := by
          show _ = _
          rw [← HI.out, HX.out, List.all_cons, ← HU.out]; rfl
        go_wp2_with fail
        go_roundw
        case rel => exact ⟨k + 1, by omega, by go_num, HE, HB2⟩
        case measure => simp [intOf]; omega
      | false =>
        have HE : Hid (d = false) := by
          show _ = _
          rw [← HI.out, HX.out, List.all_cons, ← HU.out]; rfl
        go_wp2_with fail
        go_ret
        exact ⟨by rw [HE.out]; rfl, HB0.out.trans (HB2.out.mono HB0.out.size)⟩
    · have HJ0 : Hid ((Q.drop 0).all (fun r => decide (r.length ≤ 30)) = d) := by
        show _ = _
        have e0 : L.drop k = [] := List.drop_eq_nil_of_le (by rw [HLC.out]; omega)
        rw [← HI.out, e0, List.drop_zero]
        rfl
      go_wp2_with fail
      go_loopw [5] (fun i wr2 => ∃ k : Nat, k ≤ rl ∧ i = .int .i64 k ∧ Hid ((Q.drop k).all (fun r => decide (r.length ≤ 30)) = d) ∧ wr2 = wr) (fun i _ => rl - (intOf i).toNat)
      case atStart => exact ⟨0, by omega, rfl, HJ0, rfl⟩
      case round =>
        obtain ⟨j, hj, rfl, HJ, rfl⟩ := hrel
        by_cases hlt2 : j < rl
        · obtain ⟨r, br, ofr, y, ly, cy, hx, rfl, hbr, _, crow, hrow⟩ := (HRS.out.kept stays_rowS (F' := F) (fun k hk _ => HBk.out.block k hk) HBk.out.size (fun _ _ hf => hf)).row hlt2
          have HX : Hid (Q.drop j = r :: Q.drop (j + 1)) := drop_cons hx
          have HLY : Hid (r.length = ly) := hrow.1
          have hmy := hrow.max
          unfold maxLen at hmy
          clear hx hrow
          by_cases hly : (30 : Int) < ly
          · have HE : Hid (d = false) := by
              show _ = _
              rw [← HJ.out, HX.out, List.all_cons, HLY.out, decide_eq_false (show ¬ ly ≤ 30 by omega)]; rfl
            go_wp2_with fail
            go_ret
            exact ⟨by rw [HE.out]; rfl, HB0.out.trans (HBk.out.mono HB0.out.size)⟩
          · have HE : Hid ((Q.drop (j + 1)).all (fun r => decide (r.length ≤ 30)) = d) := by
              show _ = _
              rw [← HJ.out, HX.out, List.all_cons, HLY.out, decide_eq_true (show ly ≤ 30 by omega)]; rfl
            go_wp2_with fail
            go_roundw
            case rel => first | exact ⟨j + 1, by omega, by go_num, HE, rfl⟩ | exact ⟨j + 1, by omega, by go_num, HE, trivial⟩
            case measure => simp [intOf]; omega
        · have HE : Hid (d = true) := by
            show _ = _
            have e0 : Q.drop j = [] := List.drop_eq_nil_of_le (by rw [HLQ.out]; omega)
            rw [← HJ.out, e0]
            rfl
          go_wp2_with fail
          go_ret
          exact ⟨by rw [HE.out]; rfl, HB0.out.trans (HBk.out.mono HB0.out.size)⟩

end Go.Proofs.YtnapeecmlkkolaaDoor
