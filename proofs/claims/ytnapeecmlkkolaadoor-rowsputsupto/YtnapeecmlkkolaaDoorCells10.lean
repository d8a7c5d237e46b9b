/-
  Is a table small enough? The walk of RowsCells.
-/
import Derived.Test.YtnapeecmlkkolaaDoorAwake10
import Derived.Test.YtnapeecmlkkolaaDoorFew
import Derived.Test.YtnapeecmlkkolaaDoorSame
import Derived.Deep.RegionHeld3
namespace Go.Proofs.YtnapeecmlkkolaaDoor
open Go.RowKit
set_option maxRecDepth 100000
set_option linter.unusedVariables false
set_option linter.unusedSimpArgs false

def slB (T : Tb) : Bool := (decide (T.2.1.length ≤ 20) && decide (T.2.2.2.2.length ≤ 20)) && (T.2.1.all (fun c => fewF 26 c.2.2.2) && T.2.2.2.2.all (fun r => decide (r.length ≤ 30)))

set_option maxHeartbeats 2000000 in
theorem slight_any {m : Nat} {F : Nat → Prop} {w : World} {cnt : Int} {L : List Col} {mo : Bool} {vk : Int} {vb : ByteArray} {Q : List (List Vl)} {ca : Option Addr} {cl cc : Nat} {x : Option Addr} {lx cx : Nat} {ra : Option Addr} {rl rc : Nat} (h : TbV (m + 1) F w ((cnt, L, mo, (vk, vb), Q) : Tb) ca cl cc x lx cx ra rl rc) {d : Bool} (hd : d = slB ((cnt, L, mo, (vk, vb), Q) : Tb)) :
    Calls Tryd.prog 16 #[.agg #[.int .i64 cnt, .slice ca cl cc, .bool mo, .int .i64 vk, .slice x lx cx, .slice ra rl rc]] w fun e w' => e = .returned (.bool d) ∧ Hid (Below w.heap.size w w') := by
  obtain ⟨w0, hw0⟩ : ∃ w0, w0 = w.alloc (.cells #[.int .i64 cnt, .slice ca cl cc, .bool mo, .int .i64 vk, .slice x lx cx, .slice ra rl rc] 29) := ⟨_, rfl⟩
  have HW0 : Hid (w.alloc (.cells #[.int .i64 cnt, .slice ca cl cc, .bool mo, .int .i64 vk, .slice x lx cx, .slice ra rl rc] 29) = w0) := hw0.symm
  have hB0 : Below w.heap.size w w0 := by rw [hw0]; exact below_one _ _
  have HB0 : Hid (Below w.heap.size w w0) := hB0
  obtain ⟨q, hq⟩ : ∃ q, q = w.heap.size := ⟨_, rfl⟩
  have HQE : Hid (w.heap.size = q) := hq.symm
  have HG0 : Hid (w0.heap[q]? = some (.cells #[.int .i64 cnt, .slice ca cl cc, .bool mo, .int .i64 vk, .slice x lx cx, .slice ra rl rc] 29 (0, 0))) := by rw [hw0, hq]; exact heap_alloc_new w _
  have HCS : Hid (Sees 8 F (VCol (m + 1) F w0) w0 ca cl cc L) := (h.old hB0).1
  have HRS : Hid (Sees 1 F (VRowS F w0) w0 ra rl rc Q) := (h.old hB0).2.2
  have HLC : Hid (L.length = cl) := h.1.1
  have HLQ : Hid (Q.length = rl) := h.2.2.1
  have hmx := h.2.2.max
  have hmc := h.1.max
  unfold maxLen at hmx hmc
  have HD : Hid (d = slB ((cnt, L, mo, (vk, vb), Q) : Tb)) := hd
  obtain ⟨⟨a0, a1, a2, a3, a4, a5⟩, _⟩ := blk6 HG0.out
  have hlq := block_lt HG0.out
  clear hw0 hB0 hq h hd
  by_cases h1 : (20 : Int) < cl
  · have HE : Hid (d = false) := by
      show _ = _
      rw [HD.out]
      show ((decide (L.length ≤ 20) && _) && _) = false
      rw [HLC.out, decide_eq_false (show ¬ cl ≤ 20 by omega)]; rfl
    go_enter Tryd.func16, Tryd.ntmps16
    go_upto_region 1 with fail
    (try rw [HQE.out])
    rw [HW0.out]
    clear HW0
    go_wp2_with fail
    go_ret
    exact ⟨by rw [HE.out]; rfl, HB0⟩
  by_cases h2 : (20 : Int) < rl
  · have HE : Hid (d = false) := by
      show _ = _
      rw [HD.out]
      show ((decide (L.length ≤ 20) && decide (Q.length ≤ 20)) && _) = false
      rw [HLQ.out, decide_eq_false (show ¬ rl ≤ 20 by omega)]; simp
    go_enter Tryd.func16, Tryd.ntmps16
    go_upto_region 1 with fail
    (try rw [HQE.out])
    rw [HW0.out]
    clear HW0
    go_wp2_with fail
    go_ret
    exact ⟨by rw [HE.out]; rfl, HB0⟩
  have HDD : Hid (((L.drop 0).all (fun c => fewF 26 c.2.2.2) && Q.all (fun r => decide (r.length ≤ 30))) = d) := by
    show _ = _
    rw [HD.out, List.drop_zero]
    show _ = ((decide (L.length ≤ 20) && decide (Q.length ≤ 20)) && _)
    rw [HLC.out, HLQ.out, decide_eq_true (show cl ≤ 20 by omega), decide_eq_true (show rl ≤ 20 by omega)]
    rfl
  go_enter Tryd.func16, Tryd.ntmps16
  go_upto_region 1 with fail
  (try rw [HQE.out])
  rw [HW0.out]
  clear HW0
  go_wp2_with fail
  go_loopw [3] (fun i wr => ∃ k : Nat, k ≤ cl ∧ i = .int .i64 k ∧ Hid (((L.drop k).all (fun c => fewF 26 c.2.2.2) && Q.all (fun r => decide (r.length ≤ 30))) = d) ∧ Hid (Below w0.heap.size w0 wr)) (fun i _ => cl - (intOf i).toNat)
  case atStart => exact ⟨0, by omega, rfl, HDD, Below.refl _ _⟩
  case round =>
    obtain ⟨k, hk, rfl, HI, HBk⟩ := hrel
    have hgk := (HBk.out.block q hlq).trans HG0.out
    obtain ⟨⟨a0, a1, a2, a3, a4, a5⟩, _⟩ := blk6 hgk
    have hlqk := block_lt hgk
    clear hgk
    by_cases hlt : k < cl
    · obtain ⟨s, t, nm, X, b8, off, na, nl, nc, ka, kl, kc, hx, rfl, hbs, _, ⟨c0, c1, c2, c3, c4, c5, c6, c7⟩, hsz, hty⟩ := (HCS.out.kept (stays_col (m + 1)) (F' := F) (fun k hk _ => HBk.out.block k hk) HBk.out.size (fun _ _ hf => hf)).col hlt
      have HTY : Hid (TyAt m F wr X na nl nc ka kl kc) := hty
      have HX : Hid (L.drop k = (s, t, nm, X) :: L.drop (k + 1)) := drop_cons hx
      obtain ⟨u, hu⟩ : ∃ u, u = fewF 26 X := ⟨_, rfl⟩
      have HU : Hid (u = fewF 26 X) := hu
      clear hx hsz hty hu
      go_wp2_with fail
      refine (few_any HTY.out HU.out).mono ?_
      rintro e w2 ⟨rfl, hB2⟩
      have HB2 : Hid (Below w0.heap.size w0 w2) := HBk.out.trans (hB2.mono HBk.out.size)
      clear hB2
      cases u with
      | true =>
        have HE : Hid (((L.drop (k + 1)).all (fun c => fewF 26 c.2.2.2) && Q.all (fun r => decide (r.length ≤ 30))) = d) := by
          show _ = _
          rw [← HI.out, HX.out, List.all_cons, ← HU.out]; rfl
        go_wp2_with fail
        go_roundw
        case rel => exact ⟨k + 1, by omega, by go_num, HE, HB2⟩
        case measure => simp [intOf]; omega
      | false =>
        have HE : Hid (d = false) := by
          show _ = _
          rw [← HI.out, HX.out, List.all_cons, ← HU.out]; rfl
        go_wp2_with fail
        go_ret
        exact ⟨by rw [HE.out]; rfl, HB0.out.trans (HB2.out.mono HB0.out.size)⟩
    · have HJ0 : Hid ((Q.drop 0).all (fun r => decide (r.length ≤ 30)) = d) := by
        show _ = _
        have e0 : L.drop k = [] := List.drop_eq_nil_of_le (by rw [HLC.out]; omega)
        rw [← HI.out, e0, List.drop_zero]
        rfl
      go_wp2_with fail
      go_loopw [5] (fun i wr2 => ∃ k : Nat, k ≤ rl ∧ i = .int .i64 k ∧ Hid ((Q.drop k).all (fun r => decide (r.length ≤ 30)) = d) ∧ wr2 = wr) (fun i _ => rl - (intOf i).toNat)
      case atStart => exact ⟨0, by omega, rfl, HJ0, rfl⟩
      case round =>
        obtain ⟨j, hj, rfl, HJ, rfl⟩ := hrel
        by_cases hlt2 : j < rl
        · obtain ⟨r, br, ofr, y, ly, cy, hx, rfl, hbr, _, crow, hrow⟩ := (HRS.out.kept stays_rowS (F' := F) (fun k hk _ => HBk.out.block k hk) HBk.out.size (fun _ _ hf => hf)).row hlt2
          have HX : Hid (Q.drop j = r :: Q.drop (j + 1)) := drop_cons hx
          have HLY : Hid (r.length = ly) := hrow.1
          have hmy := hrow.max
          unfold maxLen at hmy
          clear hx hrow
          by_cases hly : (30 : Int) < ly
          · have HE : Hid (d = false) := by
              show _ = _
              rw [← HJ.out, HX.out, List.all_cons, HLY.out, decide_eq_false (show ¬ ly ≤ 30 by omega)]; rfl
            go_wp2_with fail
            go_ret
            exact ⟨by rw [HE.out]; rfl, HB0.out.trans (HBk.out.mono HB0.out.size)⟩
          · have HE : Hid ((Q.drop (j + 1)).all (fun r => decide (r.length ≤ 30)) = d) := by
              show _ = _
              rw [← HJ.out, HX.out, List.all_cons, HLY.out, decide_eq_true (show ly ≤ 30 by omega)]; rfl
            go_wp2_with fail
            go_roundw
            case rel => first | exact ⟨j + 1, by omega, by go_num, HE, rfl⟩ | exact ⟨j + 1, by omega, by go_num, HE, trivial⟩
            case measure => simp [intOf]; omega
        · have HE : Hid (d = true) := by
            show _ = _
            have e0 : Q.drop j = [] := List.drop_eq_nil_of_le (by rw [HLQ.out]; omega)
            rw [← HJ.out, e0]
            rfl
          go_wp2_with fail
          go_ret
          exact ⟨by rw [HE.out]; rfl, HB0.out.trans (HBk.out.mono HB0.out.size)⟩

end Go.Proofs.YtnapeecmlkkolaaDoor
namespace Go.Proofs.YtnapeecmlkkolaaDoor
open Go.RowKit
set_option maxRecDepth 100000
set_option linter.unusedVariables false
set_option linter.unusedSimpArgs false

theorem idxC_at {nm : ByteArray} {L : List Col} {j : Nat} {s t n : ByteArray} {X : Ty} (hx : L[j]? = some (s, t, n, X)) : idxC nm (L.drop j) j = if nmB n nm = true then (j : Int) else idxC nm (L.drop (j + 1)) (j + 1) := by
  rw [drop_cons hx]
  conv => lhs; unfold idxC

set_option maxHeartbeats 4000000 in
theorem cells_any {m : Nat} {w : World} (hT : Tab w) {cnt : Int} {L : List Col} {mo : Bool} {vk : Int} {vb : ByteArray} {Q : List (List Vl)} {ca : Option Addr} {cl cc : Nat} {x : Option Addr} {lx cx : Nat} {ra : Option Addr} {rl rc : Nat}
    (h : TbV (m + 1) (fun _ => True) w ((cnt, L, mo, (vk, vb), Q) : Tb) ca cl cc x lx cx ra rl rc) {row : Int} (hr1 : -9223372036854775808 ≤ row ∧ row ≤ 9223372036854775807) {nm : ByteArray} (hsm : ∀ r ∈ Q, ∀ V ∈ r, V.2.size ≤ 140737488355328) :
    Calls Tryd.prog 6 #[.agg #[.int .i64 cnt, .slice ca cl cc, .bool mo, .int .i64 vk, .slice x lx cx, .slice ra rl rc], .int .i64 row, .string nm] w fun e w' => e = .returned (.bool true) ∧ Below w.heap.size w w' := by
  obtain ⟨w0, hw0⟩ : ∃ w0, w0 = w.alloc (.cells #[.int .i64 cnt, .slice ca cl cc, .bool mo, .int .i64 vk, .slice x lx cx, .slice ra rl rc] 29) := ⟨_, rfl⟩
  have HW0 : Hid (w.alloc (.cells #[.int .i64 cnt, .slice ca cl cc, .bool mo, .int .i64 vk, .slice x lx cx, .slice ra rl rc] 29) = w0) := hw0.symm
  have hB0 : Below w.heap.size w w0 := by rw [hw0]; exact below_one _ _
  have HB0 : Hid (Below w.heap.size w w0) := hB0
  obtain ⟨q, hq⟩ : ∃ q, q = w.heap.size := ⟨_, rfl⟩
  have HQE : Hid (w.heap.size = q) := hq.symm
  have HG0 : Hid (w0.heap[q]? = some (.cells #[.int .i64 cnt, .slice ca cl cc, .bool mo, .int .i64 vk, .slice x lx cx, .slice ra rl rc] 29 (0, 0))) := by rw [hw0, hq]; exact heap_alloc_new w _
  have HV0 : Hid (TbV (m + 1) (fun _ => True) w0 ((cnt, L, mo, (vk, vb), Q) : Tb) ca cl cc x lx cx ra rl rc) := h.old hB0
  have HT0 : Hid (Tab w0) := hT.old hB0
  have HSM : Hid (∀ r ∈ Q, ∀ V ∈ r, V.2.size ≤ 140737488355328) := hsm
  have HLC : Hid (L.length = cl) := h.1.1
  have HLQ : Hid (Q.length = rl) := h.2.2.1
  have hmx := h.2.2.max
  have hmc := h.1.max
  unfold maxLen at hmx hmc
  have hlq := block_lt HG0.out
  clear hw0 hB0 hq h hsm hT
  go_enter Tryd.func6, Tryd.ntmps6
  go_upto_region 1 with fail
  (try rw [HQE.out])
  rw [HW0.out]
  clear HW0
  go_wp2_with fail
  refine (awake_any _ HT0.out).mono ?_
  rintro e w1 ⟨rfl, HB1⟩
  have hg1 := (HB1.out.block q hlq).trans HG0.out
  have HG1 : Hid (w1.heap[q]? = some (.cells #[.int .i64 cnt, .slice ca cl cc, .bool mo, .int .i64 vk, .slice x lx cx, .slice ra rl rc] 29 (0, 0))) := hg1
  obtain ⟨⟨a0, a1, a2, a3, a4, a5⟩, _⟩ := blk6 hg1
  have hlq1 := block_lt hg1
  have HV1 : Hid (TbV (m + 1) (fun _ => True) w1 ((cnt, L, mo, (vk, vb), Q) : Tb) ca cl cc x lx cx ra rl rc) := HV0.out.old HB1.out
  have HBw1 : Hid (Below w.heap.size w w1) := HB0.out.trans (HB1.out.mono HB0.out.size)
  obtain ⟨d, hd⟩ : ∃ d, d = slB ((cnt, L, mo, (vk, vb), Q) : Tb) := ⟨_, rfl⟩
  have HD : Hid (d = slB ((cnt, L, mo, (vk, vb), Q) : Tb)) := hd
  clear hg1 hd
  go_wp2_with fail
  refine (slight_any HV1.out HD.out).mono ?_
  rintro e w2 ⟨rfl, HB2⟩
  have hg2 := (HB2.out.block q hlq1).trans HG1.out
  have HG2 : Hid (w2.heap[q]? = some (.cells #[.int .i64 cnt, .slice ca cl cc, .bool mo, .int .i64 vk, .slice x lx cx, .slice ra rl rc] 29 (0, 0))) := hg2
  obtain ⟨⟨a0, a1, a2, a3, a4, a5⟩, _⟩ := blk6 hg2
  have hlq2 := block_lt hg2
  have HV2 : Hid (TbV (m + 1) (fun _ => True) w2 ((cnt, L, mo, (vk, vb), Q) : Tb) ca cl cc x lx cx ra rl rc) := HV1.out.old HB2.out
  have HBw2 : Hid (Below w.heap.size w w2) := HBw1.out.trans (HB2.out.mono HBw1.out.size)
  clear hg2
  cases d with
  | false =>
    go_wp2_with fail
    go_ret
    exact ⟨rfl, HBw2.out⟩
  | true =>
    go_wp2_with fail
    refine (cell_any (T := ((cnt, L, mo, (vk, vb), Q) : Tb)) HV2.out hr1 HSM.out).mono ?_
    rintro e w3 ⟨V, vx, vl, vc, there, rfl, hI, hC, hB3, hz⟩
    have HC : Hid (cellX ((cnt, L, mo, (vk, vb), Q) : Tb) row nm = if there = true then some V else none) := hC
    have HZ : Hid (there = false → V = v0) := hz
    obtain ⟨w4, hw4⟩ : ∃ w4, w4 = w3.alloc (.cells #[.int .i64 V.1, .slice vx vl vc] 26) := ⟨_, rfl⟩
    have HW4 : Hid (w3.alloc (.cells #[.int .i64 V.1, .slice vx vl vc] 26) = w4) := hw4.symm
    obtain ⟨g, hg⟩ : ∃ g, g = w3.heap.size := ⟨_, rfl⟩
    have HG : Hid (w3.heap.size = g) := hg.symm
    have hB4 : Below w3.heap.size w3 w4 := by rw [hw4]; exact below_one _ _
    have HV9 : Hid (w4.heap[g]? = some (.cells #[.int .i64 V.1, .slice vx vl vc] 26 (0, 0))) := by rw [hw4, hg]; exact heap_alloc_new w3 _
    have hB24 : Below w2.heap.size w2 w4 := hB3.out.trans (hB4.mono hB3.out.size)
    have HI4 : Hid (IsB w4 vx vl vc (sNums V.2)) := hI.old hB4
    have HV4 : Hid (TbV (m + 1) (fun _ => True) w4 ((cnt, L, mo, (vk, vb), Q) : Tb) ca cl cc x lx cx ra rl rc) := HV2.out.old hB24
    have hg4 := (hB24.block q hlq2).trans HG2.out
    have HG4 : Hid (w4.heap[q]? = some (.cells #[.int .i64 cnt, .slice ca cl cc, .bool mo, .int .i64 vk, .slice x lx cx, .slice ra rl rc] 29 (0, 0))) := hg4
    obtain ⟨⟨a0, a1, a2, a3, a4, a5⟩, _⟩ := blk6 hg4
    obtain ⟨e0, e1, _, _⟩ := two_cells HV9.out
    have hlq4 := block_lt hg4
    have hlg4 := block_lt HV9.out
    have HBw4 : Hid (Below w.heap.size w w4) := HBw2.out.trans (hB24.mono HBw2.out.size)
    clear hw4 hg hB4 hB24 hg4 hI hC hB3 hz
    go_upto_region 8 with fail
    rw [HW4.out]
    (try rw [HG.out])
    clear HW4
    go_wp2_with fail
    go_loopw [11, 12] (fun at_ i wr => ∃ j : Nat, j ≤ cl ∧ i = .int .i64 ((j : Int) - 1) ∧ at_ = .int .i64 (idxC nm (L.drop j) j) ∧ wr = w4) (fun _ i _ => (intOf i + 1).toNat)
    case atStart =>
      have e0 : idxC nm (L.drop cl) cl = -1 := by rw [List.drop_eq_nil_of_le (by rw [HLC.out]; omega)]; rfl
      refine ⟨cl, by omega, rfl, ?_, ?_⟩
      · rw [e0]
      · first | rfl | trivial
    case round =>
      obtain ⟨j, hj, rfl, rfl, rfl⟩ := hrel
      obtain ⟨w4, hw4r⟩ : ∃ w4, w4 = wr := ⟨_, rfl⟩
      subst hw4r
      obtain ⟨R, hR⟩ : ∃ R, R = idxC nm (L.drop j) j := ⟨_, rfl⟩
      have HR : Hid (R = idxC nm (L.drop j) j) := hR
      rw [← hR]
      clear hR
      by_cases hj0 : j = 0
      · subst hj0
        have HRE : Hid (R = idxC nm L 0) := HR.out
        have hRb := idxC_bounds nm L 0
        rw [← HRE.out, HLC.out] at hRb
        by_cases hRn : R < 0
        · have HX : Hid (cellX ((cnt, L, mo, (vk, vb), Q) : Tb) row nm = none) := by
            show _ = _
            by_cases hr : row < 0
            · exact cellX_neg hr
            · unfold cellX
              rw [if_neg hr]
              show (match Q[row.toNat]? with | none => none | some r => _) = none
              cases Q[row.toNat]? with
              | none => rfl
              | some r => exact if_pos (by rw [← HRE.out]; exact hRn)
          have HTH : Hid (there = false) := by
            show _ = _
            have h1 := HC.out
            rw [HX.out] at h1
            cases there with
            | true => simp at h1
            | false => rfl
          have HVV : Hid (V = v0) := HZ.out HTH.out
          have hth := HTH.out
          subst hth
          have hvv := HVV.out
          subst hvv
          obtain rfl : vl = 0 := HI4.out.1.symm
          clear HTH HVV HC HZ
          go_wp2_with fail
          go_ret
          exact ⟨rfl, HBw4.out⟩
        · obtain ⟨i, rfl⟩ : ∃ i : Nat, R = i := ⟨R.toNat, by omega⟩
          have hnn : ¬ (i : Int) < 0 := by omega
          by_cases hrn : row < 0
          · have HX : Hid (cellX ((cnt, L, mo, (vk, vb), Q) : Tb) row nm = none) := cellX_neg hrn
            have HTH : Hid (there = false) := by
              show _ = _
              have h1 := HC.out
              rw [HX.out] at h1
              cases there with
              | true => simp at h1
              | false => rfl
            have HVV : Hid (V = v0) := HZ.out HTH.out
            have hth := HTH.out
            subst hth
            have hvv := HVV.out
            subst hvv
            obtain rfl : vl = 0 := HI4.out.1.symm
            clear HTH HVV HC HZ
            go_wp2_with fail
            go_ret
            exact ⟨rfl, HBw4.out⟩
          · obtain ⟨k, rfl⟩ : ∃ k : Nat, row = k := ⟨row.toNat, by omega⟩
            by_cases hfar : rl ≤ k
            · have HX : Hid (cellX ((cnt, L, mo, (vk, vb), Q) : Tb) k nm = none) := cellX_far (T := ((cnt, L, mo, (vk, vb), Q) : Tb)) hrn (by show Q.length ≤ _; rw [HLQ.out, Int.toNat_natCast]; exact hfar)
              have HTH : Hid (there = false) := by
                show _ = _
                have h1 := HC.out
                rw [HX.out] at h1
                cases there with
                | true => simp at h1
                | false => rfl
              have HVV : Hid (V = v0) := HZ.out HTH.out
              have hth := HTH.out
              subst hth
              have hvv := HVV.out
              subst hvv
              obtain rfl : vl = 0 := HI4.out.1.symm
              clear HTH HVV HC HZ
              go_wp2_with fail
              go_ret
              exact ⟨rfl, HBw4.out⟩
            · have hkr : k < rl := by omega
              obtain ⟨r, br, ofr, y, ly, cy, hrk, rfl, hbr, _, crow, hrow⟩ := HV4.out.2.2.row hkr
              have HRK : Hid (Q[k]? = some r) := hrk
              have HROW : Hid (Sees 2 (fun _ => True) (VVal (fun _ => True) w4) w4 y ly cy r) := hrow
              have hmy := hrow.max
              unfold maxLen at hmy
              clear hrk hrow
              by_cases hil : ly ≤ i
              · have HX : Hid (cellX ((cnt, L, mo, (vk, vb), Q) : Tb) k nm = none) := by
                  show _ = _
                  rw [cellX_some (T := ((cnt, L, mo, (vk, vb), Q) : Tb)) (r := r) hrn (by rw [Int.toNat_natCast]; exact HRK.out) (by show ¬ idxC nm L 0 < 0; rw [← HRE.out]; omega)]
                  show r[(idxC nm L 0).toNat]? = none
                  rw [← HRE.out, Int.toNat_natCast, List.getElem?_eq_none (by rw [HROW.out.1]; exact hil)]
                have HTH : Hid (there = false) := by
                  show _ = _
                  have h1 := HC.out
                  rw [HX.out] at h1
                  cases there with
                  | true => simp at h1
                  | false => rfl
                have HVV : Hid (V = v0) := HZ.out HTH.out
                have hth := HTH.out
                subst hth
                have hvv := HVV.out
                subst hvv
                obtain rfl : vl = 0 := HI4.out.1.symm
                clear HTH HVV HC HZ
                go_wp2_with fail
                go_ret
                exact ⟨rfl, HBw4.out⟩
              · have hi : i < ly := by omega
                have hic : i < cl := by omega
                obtain ⟨U, bv, ofv, ux, ul, uc, hvi, rfl, hbv, _, d0, d1, hIU⟩ := HROW.out.val hi
                have HX : Hid (cellX ((cnt, L, mo, (vk, vb), Q) : Tb) k nm = some U) := by
                  show _ = _
                  rw [cellX_some (T := ((cnt, L, mo, (vk, vb), Q) : Tb)) (r := r) hrn (by rw [Int.toNat_natCast]; exact HRK.out) (by show ¬ idxC nm L 0 < 0; rw [← HRE.out]; omega)]
                  show r[(idxC nm L 0).toNat]? = some U
                  rw [← HRE.out, Int.toNat_natCast]; exact hvi
                have hthv : there = true ∧ U = V := by
                  have h1 := HC.out
                  rw [HX.out] at h1
                  cases there with
                  | false => simp at h1
                  | true => exact ⟨rfl, by simpa using h1⟩
                obtain ⟨rfl, rfl⟩ := hthv
                obtain ⟨s, t, n8, X, b8, off, na, nl, nc, ka, kl, kc, hx, hca, hbs, _, ⟨c0, c1, c2, c3, c4, c5, c6, c7⟩, _, hty⟩ := HV4.out.1.col hic
                subst hca
                have HTY : Hid (TyAt m (fun _ => True) w4 X na nl nc ka kl kc) := hty
                have HIU : Hid (IsB w4 ux ul uc (sNums U.2)) := hIU.1
                obtain ⟨uk, ub⟩ := U
                simp only at d0
                obtain ⟨w5, hw5⟩ : ∃ w5, w5 = w4.alloc (.cells #[.int .i64 uk, .slice ux ul uc] 26) := ⟨_, rfl⟩
                have HW5 : Hid (w4.alloc (.cells #[.int .i64 uk, .slice ux ul uc] 26) = w5) := hw5.symm
                obtain ⟨g5, hg5⟩ : ∃ g5, g5 = w4.heap.size := ⟨_, rfl⟩
                have HG5 : Hid (w4.heap.size = g5) := hg5.symm
                have hB5 : Below w4.heap.size w4 w5 := by rw [hw5]; exact below_one _ _
                have hn5 : w5.heap[g5]? = some (.cells #[.int .i64 uk, .slice ux ul uc] 26 (0, 0)) := by rw [hw5, hg5]; exact heap_alloc_new w4 _
                have HB5 : Hid (Below w4.heap.size w4 w5) := hB5
                have HN5 : Hid (w5.heap[g5]? = some (.cells #[.int .i64 uk, .slice ux ul uc] 26 (0, 0))) := hn5
                have HCC : Hid (w4.cell? ⟨b8, off + i * 8 + 3, none⟩ = some (.int .u16 X.id) ∧ w4.cell? ⟨b8, off + i * 8 + 4, none⟩ = some (.string X.space) ∧ w4.cell? ⟨b8, off + i * 8 + 5, none⟩ = some (.string X.name) ∧ w4.cell? ⟨b8, off + i * 8 + 6, none⟩ = some (.slice na nl nc) ∧ w4.cell? ⟨b8, off + i * 8 + 7, none⟩ = some (.slice ka kl kc)) := ⟨c3, c4, c5, c6, c7⟩
                have HKP : Hid (∀ W, Below w5.heap.size w5 W → (W.cell? ⟨g, 0, none⟩ = some (.int .i64 uk) ∧ W.cell? ⟨g, 1, none⟩ = some (.slice vx vl vc) ∧ W.cell? ⟨g5, 0, none⟩ = some (.int .i64 uk) ∧ W.cell? ⟨g5, 1, none⟩ = some (.slice ux ul uc)) ∧ W.cell? ⟨q, 1, none⟩ = some (.slice (some ⟨b8, off, none⟩) cl cc) ∧
                    (W.cell? ⟨b8, off + i * 8 + 3, none⟩ = some (.int .u16 X.id) ∧ W.cell? ⟨b8, off + i * 8 + 4, none⟩ = some (.string X.space) ∧ W.cell? ⟨b8, off + i * 8 + 5, none⟩ = some (.string X.name) ∧ W.cell? ⟨b8, off + i * 8 + 6, none⟩ = some (.slice na nl nc) ∧ W.cell? ⟨b8, off + i * 8 + 7, none⟩ = some (.slice ka kl kc)) ∧
                    ((convert 22 9 (.slice vx vl vc)).run Tryd.prog W = .ok (.string ub) W ∧ (convert 22 9 (.slice ux ul uc)).run Tryd.prog W = .ok (.string ub) W) ∧ Below w5.heap.size w5 W) := by
                  intro W hW
                  have hW4 : Below w4.heap.size w4 W := HB5.out.trans (hW.mono HB5.out.size)
                  obtain ⟨x0, x1, _, _⟩ := two_cells ((hW4.block g hlg4).trans HV9.out)
                  obtain ⟨y0, y1, _, _⟩ := two_cells ((hW.block g5 (block_lt HN5.out)).trans HN5.out)
                  obtain ⟨⟨_, t1, _⟩, _⟩ := blk6 ((hW4.block q hlq4).trans HG4.out)
                  have hv1 := (HI4.out.old hW4).conv
                  have hv2 := (HIU.out.old hW4).conv
                  rw [strOfNums_sNums] at hv1 hv2
                  have hk : ∀ j, W.cell? ⟨b8, off + i * 8 + j, none⟩ = w4.cell? ⟨b8, off + i * 8 + j, none⟩ := fun j => hW4.cell (p := ⟨b8, off + i * 8 + j, none⟩) hbs
                  exact ⟨⟨x0, x1, y0, y1⟩, t1, ⟨(hk 3).trans HCC.out.1, (hk 4).trans HCC.out.2.1, (hk 5).trans HCC.out.2.2.1, (hk 6).trans HCC.out.2.2.2.1, (hk 7).trans HCC.out.2.2.2.2⟩, ⟨hv1, hv2⟩, hW⟩
                have HSA : Hid (∀ W, Below w5.heap.size w5 W → Calls Tryd.prog 20 #[.agg #[.int .u16 X.id, .string X.space, .string X.name, .slice na nl nc, .slice ka kl kc], .agg #[.int .u16 X.id, .string X.space, .string X.name, .slice na nl nc, .slice ka kl kc]] W fun e w' => e = .returned (.bool true) ∧ Below W.heap.size W w') := by
                  intro W hW
                  have hW4 : Below w4.heap.size w4 W := HB5.out.trans (hW.mono HB5.out.size)
                  exact same_any m _ _ W X na nl nc ka kl kc na nl nc ka kl kc (HTY.out.old hW4) (HTY.out.old hW4)
                have HBw5 : Hid (Below w.heap.size w w5) := HBw4.out.trans (hB5.mono HBw4.out.size)
                obtain ⟨n0, n1, _, _⟩ := two_cells hn5
                have hln5 := block_lt hn5
                clear hvi hx hty hIU hw5 hg5 hB5 hn5 HC HZ HX HTY
                go_upto_region 17 with fail
                rw [HW5.out]
                (try rw [HG5.out])
                clear HW5
                obtain ⟨⟨m0, m1, m2, m3⟩, m4, ⟨m5, m6, m7, m8, m9⟩, ⟨m10, m11⟩, m12⟩ := HKP.out w5 (Below.refl _ _)
                have r1 : (uk == uk) = true := by simp
                have r2 : (ub.toList == ub.toList) = true := by simp
                clear HV4 HG4 HI4 HIU HROW HRK HRE HR HN5 HCC HLC HLQ HSM HV9 HT0 HV0 HG0 HG1 HG2 HV1 HV2 HB1 HB2 HBw1 HBw2 HB0
                go_region_held3 (fun W => (W.cell? ⟨g, 0, none⟩ = some (.int .i64 uk) ∧ W.cell? ⟨g, 1, none⟩ = some (.slice vx vl vc) ∧ W.cell? ⟨g5, 0, none⟩ = some (.int .i64 uk) ∧ W.cell? ⟨g5, 1, none⟩ = some (.slice ux ul uc)) ∧ W.cell? ⟨q, 1, none⟩ = some (.slice (some ⟨b8, off, none⟩) cl cc) ∧
                    (W.cell? ⟨b8, off + i * 8 + 3, none⟩ = some (.int .u16 X.id) ∧ W.cell? ⟨b8, off + i * 8 + 4, none⟩ = some (.string X.space) ∧ W.cell? ⟨b8, off + i * 8 + 5, none⟩ = some (.string X.name) ∧ W.cell? ⟨b8, off + i * 8 + 6, none⟩ = some (.slice na nl nc) ∧ W.cell? ⟨b8, off + i * 8 + 7, none⟩ = some (.slice ka kl kc)) ∧
                    ((convert 22 9 (.slice vx vl vc)).run Tryd.prog W = .ok (.string ub) W ∧ (convert 22 9 (.slice ux ul uc)).run Tryd.prog W = .ok (.string ub) W) ∧ Below w5.heap.size w5 W) (first | (refine HKP.out _ (by repeat' (first | assumption | exact Below.refl _ _ | exact Below.size (by assumption) | exact Nat.le_refl _ | refine Below.drew ?_ | refine Below.alloc ?_ ?_ _))))
                  (first
                    | (go_at_call 20; refine (HSA.out _ (by repeat' (first | assumption | exact Below.refl _ _ | exact Below.size (by assumption) | exact Nat.le_refl _ | refine Below.drew ?_ | refine Below.alloc ?_ ?_ _))).mono ?_; rintro e w6 ⟨rfl, HB6⟩; have hB6 : Below w5.heap.size w5 w6 := Below.trans (by repeat' (first | assumption | exact Below.refl _ _ | exact Below.size (by assumption) | exact Nat.le_refl _ | refine Below.drew ?_ | refine Below.alloc ?_ ?_ _)) (HB6.mono (by simp))))
                all_goals
                  go_wp2_with fail
                  go_ret
                  exact ⟨rfl, HBw5.out.trans ((by repeat' (first | assumption | exact Below.refl _ _ | exact Below.size (by assumption) | exact Nat.le_refl _ | refine Below.drew ?_ | refine Below.alloc ?_ ?_ _) : Below w5.heap.size w5 _).mono HBw5.out.size)⟩
      · obtain ⟨i, rfl⟩ : ∃ i, j = i + 1 := ⟨j - 1, by omega⟩
        have hic : i < cl := by omega
        obtain ⟨s, t, n8, X, b8, off, na, nl, nc, ka, kl, kc, hx, hca, hbs, _, ⟨c0, c1, c2, c3, c4, c5, c6, c7⟩, _, hty⟩ := HV4.out.1.col hic
        subst hca
        have HAT : Hid (idxC nm (L.drop i) i = if nmB n8 nm = true then (i : Int) else R) := by show _ = _; rw [idxC_at hx, HR.out]
        have hcast : ((i + 1 : Nat) : Int) - 1 = i := by omega
        rw [hcast]
        clear hx hty hcast
        by_cases hnm : nmB n8 nm = true
        · have qn : (n8.toList == nm.toList) = true := hnm
          have HAE : Hid (idxC nm (L.drop i) i = (i : Int)) := by show _ = _; rw [HAT.out, if_pos hnm]
          clear hnm
          go_wp2_with fail
          go_roundw
          case rel =>
            refine ⟨i, by omega, rfl, ?_, ?_⟩
            · rw [HAE.out]
            · first | rfl | trivial
          case measure => simp [intOf]
        · have qn : (n8.toList == nm.toList) = false := by
            have : nmB n8 nm = false := by simpa using hnm
            exact this
          have HAE : Hid (idxC nm (L.drop i) i = R) := by show _ = _; rw [HAT.out, if_neg hnm]
          clear hnm
          go_wp2_with fail
          go_roundw
          case rel =>
            refine ⟨i, by omega, rfl, ?_, ?_⟩
            · rw [HAE.out]
            · first | rfl | trivial
          case measure => simp [intOf]

end Go.Proofs.YtnapeecmlkkolaaDoor
