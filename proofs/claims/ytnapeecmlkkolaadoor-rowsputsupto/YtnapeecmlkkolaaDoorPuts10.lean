/-
  The walk of RowsPuts.
-/
import Derived.Test.YtnapeecmlkkolaaDoorSame10
import Derived.Test.YtnapeecmlkkolaaDoorAwake10
import Derived.Test.YtnapeecmlkkolaaDoorDPut10
import Derived.Test.YtnapeecmlkkolaaDoorRg10
namespace Go.Proofs.YtnapeecmlkkolaaDoor
open Go.RowKit
set_option maxRecDepth 100000
set_option linter.unusedVariables false
set_option linter.unusedSimpArgs false

set_option maxHeartbeats 8000000 in
theorem putsT_any {m : Nat} {w : World} (hT : Tab w) {cnt : Int} {L : List Col} {mo : Bool} {vk : Int} {vb : ByteArray} {Q : List (List Vl)} {ca : Option Addr} {cl cc : Nat} {x : Option Addr} {lx cx : Nat} {ra : Option Addr} {rl rc : Nat}
    (h : TbV (m + 1) (fun _ => True) w ((cnt, L, mo, (vk, vb), Q) : Tb) ca cl cc x lx cx ra rl rc) (hi : -9223372036854775808 ≤ cnt ∧ cnt ≤ 9223372036854775807) (gl : Bool)
    (hvb : vb.size ≤ 1048576) (hsr : ∀ r ∈ Q, ∀ V ∈ r, V.2.size ≤ 1048576) :
    Calls Tryd.prog 5 #[.agg #[.int .i64 cnt, .slice ca cl cc, .bool mo, .int .i64 vk, .slice x lx cx, .slice ra rl rc], .bool gl] w fun e w' => e = .returned (.bool true) ∧ Below w.heap.size w w' := by
  obtain ⟨w0, hw0⟩ : ∃ w0, w0 = w.alloc (.cells #[.int .i64 cnt, .slice ca cl cc, .bool mo, .int .i64 vk, .slice x lx cx, .slice ra rl rc] 29) := ⟨_, rfl⟩
  have HW0 : Hid (w.alloc (.cells #[.int .i64 cnt, .slice ca cl cc, .bool mo, .int .i64 vk, .slice x lx cx, .slice ra rl rc] 29) = w0) := hw0.symm
  have hB0 : Below w.heap.size w w0 := by rw [hw0]; exact below_one _ _
  have HB0 : Hid (Below w.heap.size w w0) := hB0
  obtain ⟨q, hq⟩ : ∃ q, q = w.heap.size := ⟨_, rfl⟩
  have HQE : Hid (w.heap.size = q) := hq.symm
  have HG0 : Hid (w0.heap[q]? = some (.cells #[.int .i64 cnt, .slice ca cl cc, .bool mo, .int .i64 vk, .slice x lx cx, .slice ra rl rc] 29 (0, 0))) := by rw [hw0, hq]; exact heap_alloc_new w _
  have HV0 : Hid (TbV (m + 1) (fun _ => True) w0 ((cnt, L, mo, (vk, vb), Q) : Tb) ca cl cc x lx cx ra rl rc) := h.old hB0
  have HT0 : Hid (Tab w0) := hT.old hB0
  have HVB : Hid (vb.size ≤ 1048576) := hvb
  have HSR : Hid (∀ r ∈ Q, ∀ V ∈ r, V.2.size ≤ 1048576) := hsr
  have HCL : Hid (L.length = cl) := h.1.1
  have HRL : Hid (Q.length = rl) := h.2.2.1
  have hlq := block_lt HG0.out
  clear hw0 hB0 hq h hsr hvb hT
  go_enter Tryd.func5, Tryd.ntmps5
  go_upto_region 1 with fail
  (try rw [HQE.out])
  rw [HW0.out]
  clear HW0
  go_wp2_with fail
  refine (awake_any _ HT0.out).mono ?_
  rintro e w1 ⟨rfl, HB1⟩
  have hg1 := (HB1.out.block q hlq).trans HG0.out
  have HG1 : Hid (w1.heap[q]? = some (.cells #[.int .i64 cnt, .slice ca cl cc, .bool mo, .int .i64 vk, .slice x lx cx, .slice ra rl rc] 29 (0, 0))) := hg1
  obtain ⟨⟨a0, a1, a2, a3, a4, a5⟩, _⟩ := blk6 hg1
  have hlq1 := block_lt hg1
  have HV1 : Hid (TbV (m + 1) (fun _ => True) w1 ((cnt, L, mo, (vk, vb), Q) : Tb) ca cl cc x lx cx ra rl rc) := HV0.out.old HB1.out
  have HT1 : Hid (Tab w1) := HT0.out.old HB1.out
  have HBw1 : Hid (Below w.heap.size w w1) := HB0.out.trans (HB1.out.mono HB0.out.size)
  obtain ⟨d, hd⟩ : ∃ d, d = slB ((cnt, L, mo, (vk, vb), Q) : Tb) := ⟨_, rfl⟩
  have HD : Hid (d = slB ((cnt, L, mo, (vk, vb), Q) : Tb)) := hd
  clear hg1 hd
  go_wp2_with fail
  refine (slight_any HV1.out HD.out).mono ?_
  rintro e w2 ⟨rfl, HB2⟩
  have hg2 := (HB2.out.block q hlq1).trans HG1.out
  have HG2 : Hid (w2.heap[q]? = some (.cells #[.int .i64 cnt, .slice ca cl cc, .bool mo, .int .i64 vk, .slice x lx cx, .slice ra rl rc] 29 (0, 0))) := hg2
  clear a0 a1 a2 a3 a4 a5
  obtain ⟨⟨a0, a1, a2, a3, a4, a5⟩, _⟩ := blk6 hg2
  have hlq2 := block_lt hg2
  have HV2 : Hid (TbV (m + 1) (fun _ => True) w2 ((cnt, L, mo, (vk, vb), Q) : Tb) ca cl cc x lx cx ra rl rc) := HV1.out.old HB2.out
  have HT2 : Hid (Tab w2) := HT1.out.old HB2.out
  have HBw2 : Hid (Below w.heap.size w w2) := HBw1.out.trans (HB2.out.mono HBw1.out.size)
  clear hg2
  cases d with
  | false =>
    go_wp2_with fail
    go_ret
    exact ⟨rfl, HBw2.out⟩
  | true =>
    have HW : Hid (tabW 25 ((cnt, L, mo, (vk, vb), Q) : Tb) ≤ 7000000000) := sl_bd HD.out.symm HVB.out HSR.out
    have HVS : Hid (TbV (25 + 1) (fun _ => True) w2 ((cnt, L, mo, (vk, vb), Q) : Tb) ca cl cc x lx cx ra rl rc) := sl_view HV2.out HD.out.symm
    have HSP : Hid (L.length ≤ 20 ∧ Q.length ≤ 20 ∧ ∀ r ∈ Q, r.length ≤ 30) := ⟨(slB_parts HD.out.symm).1, (slB_parts HD.out.symm).2.1, (slB_parts HD.out.symm).2.2.2⟩
    obtain ⟨B, hB⟩ : ∃ B, B = putT 25 gl ((cnt, L, mo, (vk, vb), Q) : Tb) := ⟨_, rfl⟩
    have HBE : Hid (B = putT 25 gl ((cnt, L, mo, (vk, vb), Q) : Tb)) := hB
    clear hB
    go_wp2_with fail
    refine (put_any HT2.out HVS.out hi gl (by have := HVB.out; omega) (fun r hr V hV => by have := HSR.out r hr V hV; omega) (by have := HW.out; omega) HBE.out).mono ?_
    rintro e w3 ⟨v3, rfl, HO3, HR3, HB3⟩
    obtain ⟨a3x, cp3, hv3, hi3⟩ := isB_own HO3.out HR3.out
    obtain ⟨Z, hZ⟩ : ∃ Z, Z = B.1.length := ⟨_, rfl⟩
    rw [← hZ] at hv3 hi3
    subst hv3
    have HI3 : Hid (IsB w3 a3x Z cp3 B.1) := hi3
    have HZ : Hid (B.1.length = Z) := hZ.symm
    have hZm : Z ≤ 7000000000 := by rw [hZ, HBE.out]; have := HW.out; have := putT_len 25 gl ((cnt, L, mo, (vk, vb), Q) : Tb); omega
    have HBw3 : Hid (Below w.heap.size w w3) := HBw2.out.trans (HB3.out.mono HBw2.out.size)
    have HG3 : Hid (w3.heap[q]? = some (.cells #[.int .i64 cnt, .slice ca cl cc, .bool mo, .int .i64 vk, .slice x lx cx, .slice ra rl rc] 29 (0, 0))) := (HB3.out.block q hlq2).trans HG2.out
    have HVS3 : Hid (TbV (25 + 1) (fun _ => True) w3 ((cnt, L, mo, (vk, vb), Q) : Tb) ca cl cc x lx cx ra rl rc) := HVS.out.old HB3.out
    have HT3 : Hid (Tab w3) := HT2.out.old HB3.out
    clear hi3 hZ a0 a1 a2 a3 a4 a5 HO3 HR3
    obtain ⟨⟨a0, a1, a2, a3, a4, a5⟩, _⟩ := blk6 HG3.out
    have hlq3 := block_lt HG3.out
    go_wp2_with fail
    refine (tof_any HVS3.out (by have := HSP.out.1; omega) (by have := HSP.out.2.1; omega) (fun r hr => by have := HSP.out.2.2 r hr; omega)).mono ?_
    rintro e w4 ⟨ta, tc, sa, sc, rfl, HD4, HB4⟩
    have HBw4 : Hid (Below w.heap.size w w4) := HBw3.out.trans (HB4.out.mono HBw3.out.size)
    have HG4 : Hid (w4.heap[q]? = some (.cells #[.int .i64 cnt, .slice ca cl cc, .bool mo, .int .i64 vk, .slice x lx cx, .slice ra rl rc] 29 (0, 0))) := (HB4.out.block q hlq3).trans HG3.out
    have HB34 : Hid (Below w3.heap.size w3 w4) := HB4.out
    clear a0 a1 a2 a3 a4 a5
    go_wp2_with fail
    refine (dput_any (L := L) (Q := Q) (DtO.view HD4.out) hi gl (by have := HVB.out; omega) (fun r hr V hV => by have := HSR.out r hr V hV; omega) (by have := HW.out; omega) HBE.out).mono ?_
    rintro e w5 ⟨a5x, cp5, rfl, HI5, HB5⟩
    have HBw5 : Hid (Below w.heap.size w w5) := HBw4.out.trans (HB5.mono HBw4.out.size)
    have HG5 : Hid (w5.heap[q]? = some (.cells #[.int .i64 cnt, .slice ca cl cc, .bool mo, .int .i64 vk, .slice x lx cx, .slice ra rl rc] 29 (0, 0))) := (HB5.block q (block_lt HG4.out)).trans HG4.out
    have HB35 : Hid (Below w3.heap.size w3 w5) := HB34.out.trans (HB5.mono HB34.out.size)
    have HI35 : Hid (IsB w5 a3x Z cp3 B.1) := HI3.out.old HB35.out
    have HT5 : Hid (Tab w5) := HT3.out.old HB35.out
    rw [HZ.out]
    have HI5 : Hid (IsB w5 a5x Z cp5 B.1) := by have := HI5.out; rw [HZ.out] at this; exact this
    obtain ⟨S, hS⟩ : ∃ S, S = strOfNums B.1 := ⟨_, rfl⟩
    have c1 := HI35.out.conv
    have c2 := HI5.out.conv
    rw [← hS] at c1 c2
    have q1 : (S.toList != S.toList) = false := by simp
    obtain ⟨be, hbe⟩ : ∃ be, be = B.2 := ⟨_, rfl⟩
    rw [← hbe]
    have HEE : Hid (B.2 = be) := hbe.symm
    have q2 : (be != be) = false := by simp
    clear hS hbe HB5
    by_cases he : be = 0
    case neg =>
      have q3 : (be != 0) = true := by simpa using he
      clear he
      go_wp2_with fail
      go_ret
      exact ⟨rfl, HBw5.out⟩
    case pos =>
      subst he
      have HRC : Hid (endE tabR B.1 = 0 ∧ (tabR B.1).val = gotT 25 gl ((cnt, L, mo, (vk, vb), Q) : Tb)) := by
        refine end_all ?_
        have h0 := HEE.out
        rw [HBE.out] at h0 ⊢
        exact rc_tab (by have := HVB.out; show vb.size < _; omega) (fun r hr V hV => by have := HSR.out r hr V hV; omega) h0
      clear q2
      go_wp2_with fail
      refine (get_any HI35.out HT5.out (by omega)).mono ?_
      rintro e w6 ⟨T', ca', cl', cc', x', lx', cx', ra', rl', rc', rfl, HO6, HT6, HB6⟩
      have HTE : Hid (T' = gotT 25 gl ((cnt, L, mo, (vk, vb), Q) : Tb)) := by
        have h0 : T' = if endE tabR B.1 = 0 then (tabR B.1).val else tb0 := HT6
        show T' = _
        rw [h0, if_pos HRC.out.1]
        exact HRC.out.2
      have HV6 : Hid (TbV (19 + 1) (fun z => w5.heap.size ≤ z) w6 T' ca' cl' cc' x' lx' cx' ra' rl' rc') := TbO.view HO6.out
      obtain ⟨cnt', L', mo', ⟨vk', vb'⟩, Q'⟩ := T'
      have hcn : cnt' = cnt := congrArg (fun T : Tb => T.1) HTE.out
      have hl1 : L'.length = cl := by
        have h0 : L' = gotCols 25 (gl && decide (0 < L.length)) L := congrArg (fun T : Tb => T.2.1) HTE.out
        rw [h0, gotCols_len]; exact HCL.out
      have hl2 : Q'.length = rl := by
        have h0 : Q' = Q.map (List.map gotV) := congrArg (fun T : Tb => T.2.2.2.2) HTE.out
        rw [h0, List.length_map]; exact HRL.out
      obtain rfl : cnt' = cnt := hcn
      obtain rfl : cl' = cl := by rw [← hl1]; exact HV6.out.1.1.symm
      obtain rfl : rl' = rl := by rw [← hl2]; exact HV6.out.2.2.1.symm
      have HL1 : Hid (L'.length = cl') := hl1
      have HL2 : Hid (Q'.length = rl') := hl2
      have HBw6 : Hid (Below w.heap.size w w6) := HBw5.out.trans (HB6.out.mono HBw5.out.size)
      have HG6 : Hid (w6.heap[q]? = some (.cells #[.int .i64 cnt', .slice ca cl' cc, .bool mo, .int .i64 vk, .slice x lx cx, .slice ra rl' rc] 29 (0, 0))) := (HB6.out.block q (block_lt HG5.out)).trans HG5.out
      have HI6 : Hid (IsB w6 a5x Z cp5 B.1) := HI5.out.old HB6.out
      obtain ⟨g, hg⟩ : ∃ g, g = w6.heap.size := ⟨_, rfl⟩
      have HGE : Hid (w6.heap.size = g) := hg.symm
      obtain ⟨wa, hwa⟩ : ∃ wa, wa = w6.alloc (.cells #[.int .i64 cnt', .slice ca' cl' cc', .bool mo', .int .i64 vk', .slice x' lx' cx', .slice ra' rl' rc'] 29) := ⟨_, rfl⟩
      have HWA : Hid (w6.alloc (.cells #[.int .i64 cnt', .slice ca' cl' cc', .bool mo', .int .i64 vk', .slice x' lx' cx', .slice ra' rl' rc'] 29) = wa) := hwa.symm
      have HGa : Hid (wa.heap[g]? = some (.cells #[.int .i64 cnt', .slice ca' cl' cc', .bool mo', .int .i64 vk', .slice x' lx' cx', .slice ra' rl' rc'] 29 (0, 0))) := by rw [hwa, hg]; exact heap_alloc_new w6 _
      have hba : Below w6.heap.size w6 wa := by rw [hwa]; exact below_one _ _
      have HVa : Hid (TbV (19 + 1) (fun z => w5.heap.size ≤ z) wa ((cnt', L', mo', (vk', vb'), Q') : Tb) ca' cl' cc' x' lx' cx' ra' rl' rc') := HV6.out.old hba
      have HBwa : Hid (Below w.heap.size w wa) := HBw6.out.trans (hba.mono HBw6.out.size)
      have HQa : Hid (wa.heap[q]? = some (.cells #[.int .i64 cnt', .slice ca cl' cc, .bool mo, .int .i64 vk, .slice x lx cx, .slice ra rl' rc] 29 (0, 0))) := (hba.block q (block_lt HG6.out)).trans HG6.out
      have HIa : Hid (IsB wa a5x Z cp5 B.1) := HI6.out.old hba
      rw [HRC.out.1]
      clear hg hwa hba HO6 HV6 HT6 hl1 hl2 c1 c2 q1
      go_upto_region 14 with fail
      rw [HWA.out]
      (try rw [HGE.out])
      clear HWA HGE
      go_wp2_with fail
      refine (rget_any HIa.out (by omega)).mono ?_
      rintro e w8 ⟨T8, da, dc, ea, ec, rfl, HD8, HT8, HB8⟩
      have HT8E : Hid (T8 = ((cnt', L', mo', (vk', vb'), Q') : Tb)) := by
        have h0 : T8 = if endE tabR B.1 = 0 then (tabR B.1).val else tb0 := HT8.out
        show T8 = _
        rw [h0, if_pos HRC.out.1, HRC.out.2]
        exact HTE.out.symm
      obtain rfl : T8 = ((cnt', L', mo', (vk', vb'), Q') : Tb) := HT8E.out
      have HD8v : Hid (DtS (19 + 1) (fun z => wa.heap.size ≤ z) w8 L' Q' da L'.length dc ea Q'.length ec) := DtO.view HD8.out
      have HD8w : Hid (DtS (19 + 1) (fun z => wa.heap.size ≤ z) w8 L' Q' da cl' dc ea rl' ec) := by have h0 := HD8v.out; rw [HL1.out, HL2.out] at h0; exact h0
      rw [HRC.out.1]
      simp only [HL1.out, HL2.out]
      have HGb : Hid (w8.heap[g]? = some (.cells #[.int .i64 cnt', .slice ca' cl' cc', .bool mo', .int .i64 vk', .slice x' lx' cx', .slice ra' rl' rc'] 29 (0, 0))) := (HB8.out.block g (block_lt HGa.out)).trans HGa.out
      have HQb : Hid (w8.heap[q]? = some (.cells #[.int .i64 cnt', .slice ca cl' cc, .bool mo, .int .i64 vk, .slice x lx cx, .slice ra rl' rc] 29 (0, 0))) := (HB8.out.block q (block_lt HQa.out)).trans HQa.out
      have HVb : Hid (TbV (19 + 1) (fun z => w5.heap.size ≤ z) w8 ((cnt', L', mo', (vk', vb'), Q') : Tb) ca' cl' cc' x' lx' cx' ra' rl' rc') := HVa.out.old HB8.out
      have HBwb : Hid (Below w.heap.size w w8) := HBwa.out.trans (HB8.out.mono HBwa.out.size)
      obtain ⟨k, hk⟩ : ∃ k, k = w8.heap.size := ⟨_, rfl⟩
      have HKE : Hid (w8.heap.size = k) := hk.symm
      obtain ⟨w7, hw7⟩ : ∃ w7, w7 = w8.alloc (.cells #[.int .i64 cnt', .slice da cl' dc, .bool mo', .int .i64 vk', .string vb', .slice ea rl' ec] 38) := ⟨_, rfl⟩
      have HW7 : Hid (w8.alloc (.cells #[.int .i64 cnt', .slice da cl' dc, .bool mo', .int .i64 vk', .string vb', .slice ea rl' ec] 38) = w7) := hw7.symm
      have HK7 : Hid (w7.heap[k]? = some (.cells #[.int .i64 cnt', .slice da cl' dc, .bool mo', .int .i64 vk', .string vb', .slice ea rl' ec] 38 (0, 0))) := by rw [hw7, hk]; exact heap_alloc_new w8 _
      have hb7 : Below w8.heap.size w8 w7 := by rw [hw7]; exact below_one _ _
      have HG7 : Hid (w7.heap[g]? = some (.cells #[.int .i64 cnt', .slice ca' cl' cc', .bool mo', .int .i64 vk', .slice x' lx' cx', .slice ra' rl' rc'] 29 (0, 0))) := (hb7.block g (block_lt HGb.out)).trans HGb.out
      have HQ7 : Hid (w7.heap[q]? = some (.cells #[.int .i64 cnt', .slice ca cl' cc, .bool mo, .int .i64 vk, .slice x lx cx, .slice ra rl' rc] 29 (0, 0))) := (hb7.block q (block_lt HQb.out)).trans HQb.out
      have HBw7 : Hid (Below w.heap.size w w7) := HBwb.out.trans (hb7.mono HBwb.out.size)
      have HTF : Hid (∀ W, Below w7.heap.size w7 W → Calls Tryd.prog 13 #[.agg #[.int .i64 cnt', .slice ca' cl' cc', .bool mo', .int .i64 vk', .slice x' lx' cx', .slice ra' rl' rc']] W fun e w' => TofR (19 + 1) (fun z => w5.heap.size ≤ z) W cnt' L' mo' vk' vb' Q' e w') := fun W hW => tof_any (HVb.out.old (hb7.trans (hW.mono hb7.size)))
        (by have := HL1.out; have := HSP.out.1; have := HCL.out; omega) (by have := HL2.out; have := HSP.out.2.1; have := HRL.out; omega) (fun r hr => by
          have h0 : Q' = Q.map (List.map gotV) := congrArg (fun T : Tb => T.2.2.2.2) HTE.out
          rw [h0, List.mem_map] at hr
          obtain ⟨r0, hr0, rfl⟩ := hr
          rw [List.length_map]
          have := HSP.out.2.2 r0 hr0
          omega)
      have HDV : Hid (∀ W, Below w7.heap.size w7 W → DtS (19 + 1) (fun z => wa.heap.size ≤ z) W L' Q' da cl' dc ea rl' ec) := fun W hW => HD8w.out.old (hb7.trans (hW.mono hb7.size))
      have HKP : Hid (∀ W, Below w7.heap.size w7 W → (W.cell? ⟨q, 0, none⟩ = some (.int .i64 cnt') ∧ W.cell? ⟨q, 1, none⟩ = some (.slice ca cl' cc) ∧ W.cell? ⟨q, 5, none⟩ = some (.slice ra rl' rc)) ∧ (W.cell? ⟨g, 0, none⟩ = some (.int .i64 cnt') ∧ W.cell? ⟨g, 1, none⟩ = some (.slice ca' cl' cc') ∧ W.cell? ⟨g, 2, none⟩ = some (.bool mo') ∧ W.cell? ⟨g, 3, none⟩ = some (.int .i64 vk') ∧ W.cell? ⟨g, 4, none⟩ = some (.slice x' lx' cx') ∧ W.cell? ⟨g, 5, none⟩ = some (.slice ra' rl' rc')) ∧ (W.cell? ⟨k, 0, none⟩ = some (.int .i64 cnt') ∧ W.cell? ⟨k, 1, none⟩ = some (.slice da cl' dc) ∧ W.cell? ⟨k, 2, none⟩ = some (.bool mo') ∧ W.cell? ⟨k, 3, none⟩ = some (.int .i64 vk') ∧ W.cell? ⟨k, 4, none⟩ = some (.string vb') ∧ W.cell? ⟨k, 5, none⟩ = some (.slice ea rl' ec)) ∧ Below w7.heap.size w7 W) :=
        fun W hW => ⟨by obtain ⟨⟨e0, e1, e2, e3, e4, e5⟩, _⟩ := blk6 ((hW.block q (block_lt HQ7.out)).trans HQ7.out); exact ⟨e0, e1, e5⟩, (blk6 ((hW.block g (block_lt HG7.out)).trans HG7.out)).1, (blk6 ((hW.block k (block_lt HK7.out)).trans HK7.out)).1, hW⟩
      have r0 : (cnt' == cnt') = true := by simp
      have r1 : ((cl' : Int) == (cl' : Int)) = true := by simp
      have r2 : ((rl' : Int) == (rl' : Int)) = true := by simp
      clear hk hw7 hb7 HT8 HD8 HB8 HVa HVb HGa HGb HQa HQb HTE HIa HI6 HT8E HD8v HD8w HRC HSP HVB HSR HBE HEE HCL HRL HVS HVS3 HV1 HV2 HV0 HD4 HG0 HG1 HG2 HG3 HG4 HG5 HG6
      go_upto_region 15 with fail
      rw [HW7.out]
      (try rw [HKE.out])
      clear HW7 HKE
      obtain ⟨⟨l0, l1, l5⟩, ⟨m0, m1, m2, m3, m4, m5⟩, ⟨n0, n1, n2, n3, n4, n5⟩, hbz⟩ := HKP.out w7 (Below.refl _ _)
      go_region_held3 (fun W => (W.cell? ⟨q, 0, none⟩ = some (.int .i64 cnt') ∧ W.cell? ⟨q, 1, none⟩ = some (.slice ca cl' cc) ∧ W.cell? ⟨q, 5, none⟩ = some (.slice ra rl' rc)) ∧ (W.cell? ⟨g, 0, none⟩ = some (.int .i64 cnt') ∧ W.cell? ⟨g, 1, none⟩ = some (.slice ca' cl' cc') ∧ W.cell? ⟨g, 2, none⟩ = some (.bool mo') ∧ W.cell? ⟨g, 3, none⟩ = some (.int .i64 vk') ∧ W.cell? ⟨g, 4, none⟩ = some (.slice x' lx' cx') ∧ W.cell? ⟨g, 5, none⟩ = some (.slice ra' rl' rc')) ∧ (W.cell? ⟨k, 0, none⟩ = some (.int .i64 cnt') ∧ W.cell? ⟨k, 1, none⟩ = some (.slice da cl' dc) ∧ W.cell? ⟨k, 2, none⟩ = some (.bool mo') ∧ W.cell? ⟨k, 3, none⟩ = some (.int .i64 vk') ∧ W.cell? ⟨k, 4, none⟩ = some (.string vb') ∧ W.cell? ⟨k, 5, none⟩ = some (.slice ea rl' ec)) ∧ Below w7.heap.size w7 W)
        (first | (refine HKP.out _ (by repeat' (first | assumption | exact Below.refl _ _ | exact Below.size (by assumption) | exact Nat.le_refl _ | refine Below.drew ?_ | refine Below.alloc ?_ ?_ _))))
        (first
          | (go_at_call 13; refine (HTF.out _ (by repeat' (first | assumption | exact Below.refl _ _ | exact Below.size (by assumption) | exact Nat.le_refl _ | refine Below.drew ?_ | refine Below.alloc ?_ ?_ _))).mono ?_; rintro e w9 ⟨ua, uc, va, vc, rfl, HD9, HB9⟩; simp only [HL1.out, HL2.out] at HD9 ⊢; have hB9 : Below w7.heap.size w7 w9 := Below.trans (by repeat' (first | assumption | exact Below.refl _ _ | exact Below.size (by assumption) | exact Nat.le_refl _ | refine Below.drew ?_ | refine Below.alloc ?_ ?_ _)) (HB9.out.mono (Below.size (w := w7) (B := w7.heap.size) (by repeat' (first | assumption | exact Below.refl _ _ | exact Below.size (by assumption) | exact Nat.le_refl _ | refine Below.drew ?_ | refine Below.alloc ?_ ?_ _)))))
          | (go_at_call 12; refine (sameT (by have h0 := DtO.view HD9.out; simp only [HL1.out, HL2.out] at h0; exact h0.old (by repeat' (first | assumption | exact Below.refl _ _ | exact Below.size (by assumption) | exact Nat.le_refl _ | refine Below.drew ?_ | refine Below.alloc ?_ ?_ _))) (HDV.out _ (by repeat' (first | assumption | exact Below.refl _ _ | exact Below.size (by assumption) | exact Nat.le_refl _ | refine Below.drew ?_ | refine Below.alloc ?_ ?_ _)))).mono ?_; rintro e w10 ⟨rfl, HB10⟩; have hB10 : Below w7.heap.size w7 w10 := Below.trans (by repeat' (first | assumption | exact Below.refl _ _ | exact Below.size (by assumption) | exact Nat.le_refl _ | refine Below.drew ?_ | refine Below.alloc ?_ ?_ _)) (HB10.mono (Below.size (w := w7) (B := w7.heap.size) (by repeat' (first | assumption | exact Below.refl _ _ | exact Below.size (by assumption) | exact Nat.le_refl _ | refine Below.drew ?_ | refine Below.alloc ?_ ?_ _))))))
      all_goals
        go_wp2_with fail
        go_ret
        exact ⟨rfl, HBw7.out.trans (((by repeat' (first | assumption | exact Below.refl _ _ | exact Below.size (by assumption) | exact Nat.le_refl _ | refine Below.drew ?_ | refine Below.alloc ?_ ?_ _)) : Below w7.heap.size w7 _).mono HBw7.out.size)⟩
end Go.Proofs.YtnapeecmlkkolaaDoor
