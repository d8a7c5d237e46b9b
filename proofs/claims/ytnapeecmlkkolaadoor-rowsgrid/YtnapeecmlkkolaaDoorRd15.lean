/-
  The reader: rows.
-/
import Derived.Test.YtnapeecmlkkolaaDoorRd14
import Derived.WalkMore
namespace Go.Proofs.YtnapeecmlkkolaaDoor
open Go.RowKit
set_option maxRecDepth 100000
set_option linter.unusedVariables false
set_option linter.unusedSimpArgs false

theorem set_yes {S : BE} (h : (stepR valueR S).2 = 0) (hk : (valueR S.1).val.1 ≠ 1) : stepR setR S = stepR valueR S ∧ ((stepR setR S).2 = 0 → (setR S.1).val = (valueR S.1).val) := by
  have e : stepR setR S = stepR valueR S := by rw [setR, step_bind, if_neg hk, step_pure2]
  refine ⟨e, fun hh => ?_⟩
  rw [setR] at hh ⊢
  rw [bind_val _ _ _ hh, if_neg hk]
  rfl
theorem set_no {S : BE} (h : (stepR valueR S).2 = 0) (hk : (valueR S.1).val.1 = 1) : stepR setR S = stepR (failR (0 : Int) 11) (stepR valueR S) ∧ (stepR setR S).2 ≠ 0 := by
  have e : stepR setR S = stepR (failR (0 : Int) 11) (stepR valueR S) := by rw [setR, step_bind, if_pos hk]; rfl
  exact ⟨e, by rw [e, step_fail _ _ h (by decide)]; decide⟩
theorem set_err {S : BE} (h : (stepR valueR S).2 ≠ 0) : stepR setR S = stepR valueR S := by rw [setR, step_bind, step_err _ h (step_nrm _ _)]

theorem isUnset_any {w : World} {k : Int} {a : Option Addr} {l c : Nat} {d : Bool} (hd : d = (k == 1)) :
    Calls Tryd.prog 49 #[.agg #[.int .i64 k, .slice a l c]] w fun e w' => e = .returned (.bool d) ∧ Below w.heap.size w w' := by
  have HD : Hid _ := hd
  go_enter Tryd.func49, Tryd.ntmps49
  go_wp2_with fail
  go_ret
  exact ⟨by rw [HD.out]; rfl, below_one _ _⟩

set_option maxHeartbeats 4000000 in
theorem rrows {w : World} {p : Nat} {S : BE} (h : Rd w p S) (hT : Tab w) (hp0 : 0 < p) {n : Nat} (hn : n ≤ 4096) :
    Calls Tryd.prog 23 #[.pointer (some ⟨p, 0, none⟩), .int .i64 n] w fun e w' => ∃ v L, e = .returned v ∧ Hid (Rd w' p (stepR (rowsR n) S)) ∧ Hid (OwnI 65 1 VRow w' (fun k => w.heap.size ≤ k) v L) ∧ Hid ((stepR (rowsR n) S).2 = 0 → L = (rowsR n S.1).val) ∧ Hid (Kept (fun k => k = p) w w') := by
  obtain ⟨q, hq⟩ : ∃ q, q = w.heap.size := ⟨_, rfl⟩
  have HQE : Hid (q = w.heap.size) := hq
  have hlt := h.lt
  have hpq : p < q := by omega
  have HR0 : Hid (Rd w p S) := h
  obtain ⟨M, hM⟩ : ∃ M : Nat, M = (manyX S).toNat := ⟨_, rfl⟩
  have hmb := manyX_bounds S
  have HM : Hid (((M : Nat) : Int) = manyX S) := by show _ = _; omega
  have hM2 : M ≤ 4096 := by omega
  obtain ⟨S1, hS1⟩ : ∃ S1, S1 = stepR manyR S := ⟨_, rfl⟩
  obtain ⟨R, hR⟩ : ∃ R, R = stepR (loopR (loopR setR n) M) S1 := ⟨_, rfl⟩
  obtain ⟨L, hL⟩ : ∃ L, L = (loopR (loopR setR n) M S1.1).val := ⟨_, rfl⟩
  have HRE : Hid (stepR (rowsR n) S = R ∧ (R.2 = 0 → (rowsR n S.1).val = L)) := by
    have e1 : stepR (rowsR n) S = stepR (loopR (loopR setR n) ((manyR S.1).val.toNat)) S1 := by rw [rowsR, step_bind, ← hS1]
    by_cases h1 : S1.2 = 0
    · have h2 : (manyR S.1).val.toNat = M := by rw [hM, many_val (by rw [← hS1]; exact h1)]
      rw [h2] at e1
      refine ⟨by rw [e1, hR], fun hh => ?_⟩
      have h3 : (stepR (rowsR n) S).2 = 0 := by rw [e1, ← hR]; exact hh
      rw [rowsR] at h3 ⊢
      rw [bind_val _ _ _ h3, ← hS1, h2, hL]
    · have hn1 : Nrm S1 := by rw [hS1]; exact step_nrm _ _
      have e2 : stepR (rowsR n) S = S1 := by rw [e1, step_err _ h1 hn1]
      have e3 : R = S1 := by rw [hR, step_err _ h1 hn1]
      exact ⟨by rw [e2, e3], fun hh => absurd (by rw [← e3]; exact hh) h1⟩
  have HI0 : Hid (stepR (loopR (loopR setR n) (M - 0)) S1 = R ∧ (R.2 = 0 → [] ++ (loopR (loopR setR n) (M - 0) S1.1).val = L)) := ⟨hR.symm, fun _ => hL.symm⟩
  have HS1 : Hid (stepR manyR S = S1) := hS1.symm
  have HE0 : Hid (0 < M → S1.2 = 0) := by
    intro h1
    by_cases h2 : S1.2 = 0
    · exact h2
    · have : manyX S = 0 := by unfold manyX; rw [← hS1, if_neg h2]
      omega
  clear hR hL hS1 h hq hM hmb hT
  go_enter Tryd.func23, Tryd.ntmps23
  go_wp2
  go_step3
  go_wp2_with fail
  go_step3
  go_wp2_with fail
  refine (rmany HR0.out HM.out).mono ?_
  rintro r w1 ⟨rfl, HR1, HK1⟩
  rw [HS1.out] at HR1
  go_wp2_with fail
  go_loopw [5, 10] (fun all i wr => ∃ (k : Nat) (Sk : BE) (acc : List (List Vl)), k ≤ M ∧ i = .int .i64 k ∧ Hid (Rd wr p Sk) ∧ Hid (OwnI 65 1 VRow wr (fun z => q ≤ z) all acc) ∧ Hid (acc.length = k) ∧ Hid (stepR (loopR (loopR setR n) (M - k)) Sk = R ∧ (R.2 = 0 → acc ++ (loopR (loopR setR n) (M - k) Sk.1).val = L)) ∧ Hid (Kept (fun z => z = p) w wr) ∧ Hid (k < M → Sk.2 = 0)) (fun _ i _ => M - (intOf i).toNat)
  case atStart => exact ⟨0, S1, [], by omega, rfl, HR1, ownI_nil _ _ _ _ _, rfl, HI0, HK1, HE0.out⟩
  case round =>
    obtain ⟨k, Sk, acc, hk, rfl, HRk, HO, HLk, HIk, HKk, HEk⟩ := hrel
    by_cases hlt2 : k < M
    · obtain ⟨wo, hwo⟩ : ∃ wo, wo = wr := ⟨_, rfl⟩
      subst hwo
      obtain ⟨q2, hq2⟩ : ∃ q2, q2 = wo.heap.size := ⟨_, rfl⟩
      have HQ2 : Hid (q2 = wo.heap.size) := hq2
      have hlq2 : q ≤ q2 := by have := HKk.out.size; have := HQE.out; omega
      have HA : Hid (OwnI 65 1 VRow wo (fun z => q ≤ z ∧ z < q2) u5 acc) := HO.out.sub stays_row (fun z h1 h2 => ⟨h2, by omega⟩)
      obtain ⟨R2, hR2⟩ : ∃ R2, R2 = stepR (loopR setR n) Sk := ⟨_, rfl⟩
      obtain ⟨L2, hL2⟩ : ∃ L2, L2 = (loopR setR n Sk.1).val := ⟨_, rfl⟩
      have HJ0 : Hid (stepR (loopR setR (n - 0)) Sk = R2 ∧ (R2.2 = 0 → [] ++ (loopR setR (n - 0) Sk.1).val = L2)) := ⟨hR2.symm, fun _ => hL2.symm⟩
      have HR2E : Hid (stepR (loopR setR n) Sk = R2 ∧ (loopR setR n Sk.1).val = L2) := ⟨hR2.symm, hL2.symm⟩
      clear hR2 hL2 hq2 HO
      go_wp2_with fail
      go_loopw [6, 13] (fun row j wr => ∃ (l : Nat) (Sl : BE) (ac2 : List Vl), l ≤ n ∧ j = .int .i64 l ∧ Hid (Rd wr p Sl) ∧ Hid (OwnI 26 2 VVal wr (fun z => q2 ≤ z) row ac2) ∧ Hid (OwnI 65 1 VRow wr (fun z => q ≤ z ∧ z < q2) u5 acc) ∧ Hid (ac2.length = l) ∧ Hid (stepR (loopR setR (n - l)) Sl = R2 ∧ (R2.2 = 0 → ac2 ++ (loopR setR (n - l) Sl.1).val = L2)) ∧ Hid (Kept (fun z => z = p) wo wr) ∧ Hid (Sl.2 = 0)) (fun _ j _ => n - (intOf j).toNat)
      case atStart => exact ⟨0, Sk, [], by omega, rfl, HRk, ownI_nil _ _ _ _ _, HA, rfl, HJ0, Kept.refl _ _, HEk.out hlt2⟩
      case round =>
        obtain ⟨l, Sl, ac2, hl, rfl, HRl, HOl, HAl, HLl, HJl, HKl, HEl⟩ := hrel
        have hq2w : q2 ≤ wr.heap.size := by have := HKl.out.size; have := HQ2.out; omega
        by_cases hlt3 : l < n
        · go_wp2_with fail
          refine (read_value HRl.out).mono ?_
          rintro r w3 ⟨V, x, lx, cx, rfl, HR3, HX3, hF3, HV3, HK3⟩
          have hs3 := HK3.out.size
          obtain ⟨w4, hw4⟩ : ∃ w4, w4 = w3.alloc (.cells #[.int .i64 V.1, .slice x lx cx] 26) := ⟨_, rfl⟩
          have HW4 : Hid (w3.alloc (.cells #[.int .i64 V.1, .slice x lx cx] 26) = w4) := hw4.symm
          have hB4 : Below w3.heap.size w3 w4 := by rw [hw4]; exact below_one _ _
          have hb4 : w4.heap[w3.heap.size]? = some (.cells #[.int .i64 V.1, .slice x lx cx] 26 (0, 0)) := by rw [hw4]; exact heap_alloc_new w3 _
          obtain ⟨g, hg⟩ : ∃ g, g = w3.heap.size := ⟨_, rfl⟩
          rw [← hg] at hb4
          have HG : Hid (w3.heap.size = g) := hg.symm
          have hK34 : Kept (fun z => z = p) wr w4 := HK3.out.new hB4
          have hs4 := hB4.size
          have HK4 : Hid (Kept (fun z => z = p) wo w4) := HKl.out.trans hK34 (fun i hi e => e)
          have HR4 : Hid (Rd w4 p (stepR valueR Sl)) := HR3.out.new hB4
          have HO4 : Hid (OwnI 26 2 VVal w4 (fun z => q2 ≤ z) u6 ac2) := HOl.out.apart stays_val hK34 (fun z _ hz e => by omega)
          have HA4 : Hid (OwnI 65 1 VRow w4 (fun z => q ≤ z ∧ z < q2) u5 acc) := HAl.out.apart stays_row hK34 (fun z _ hz e => by omega)
          have hl4 : ∀ z, u6.ownBlock = some z → z < wr.heap.size := fun z hz => (HOl.out.lt z hz).2
          have HX4 : Hid (IsBF (fun z => z < w4.heap.size ∧ u6.ownBlock ≠ some z ∧ q2 ≤ z) w4 x lx cx (sNums V.2)) := ⟨HX3.out.old hB4, fun z hz _ => by
            have h1 := hF3 z hz
            exact ⟨⟨by omega, fun e => by have := hl4 _ e; omega, by omega⟩, by omega⟩⟩
          have HB4 : Hid (w4.heap[g]? = some (.cells #[.int .i64 V.1, .slice x lx cx] 26 (0, 0))) := hb4
          obtain ⟨k0, k1, f0, f1⟩ := two_cells hb4
          have hlg := block_lt hb4
          clear hw4 hB4 hb4 hg hK34 hF3 HR3 HX3 HRl HOl HAl HKl hl4
          by_cases hU : V.1 = 1
          · have hd : true = (V.1 == 1) := by rw [hU]; rfl
            have HD : Hid _ := hd
            have HFX : Hid (stepR (failR (0 : Int) 11) (stepR valueR Sl) = stepR setR Sl ∧ (stepR setR Sl).2 ≠ 0) := by
              by_cases hE : (stepR valueR Sl).2 = 0
              · obtain ⟨e1, e2⟩ := set_no hE (by rw [← HV3.out hE]; exact hU)
                exact ⟨e1.symm, e2⟩
              · rw [step_err _ hE (step_nrm _ _), set_err hE]
                exact ⟨rfl, hE⟩
            clear hU hd
            go_upto_region 8 with fail
            rw [HW4.out]
            (try rw [HG.out])
            clear HW4
            go_wp2_with fail
            refine (isUnset_any HD.out).mono ?_
            rintro r w5 ⟨rfl, hB5⟩
            have HR5 : Hid (Rd w5 p (stepR valueR Sl)) := HR4.out.new hB5
            have HA5 : Hid (OwnI 65 1 VRow w5 (fun z => q ≤ z ∧ z < q2) u5 acc) := HA4.out.old stays_row hB5
            have HK5 : Hid (Kept (fun z => z = p) wo w5) := HK4.out.new hB5
            clear hB5
            go_wp2_with fail
            refine (rfail HR5.out 11 (by decide)).mono ?_
            rintro r w6 ⟨rfl, HR6, HK6⟩
            rw [HFX.out.1] at HR6
            have HA6 : Hid (OwnI 65 1 VRow w6 (fun z => q ≤ z ∧ z < q2) u5 acc) := HA5.out.apart stays_row HK6.out (fun z _ hz e => by omega)
            have HK7 : Hid (Kept (fun z => z = p) wo w6) := HK5.out.trans HK6.out (fun i hi e => e)
            have HRR : Hid (R = stepR setR Sl) := by
              have h1 := loop_halt HJl.out hlt3 HFX.out.2
              have h2 := loop_halt HIk.out hlt2 (by rw [HR2E.out.1, h1]; exact HFX.out.2)
              rw [HR2E.out.1, h1] at h2
              exact h2
            obtain ⟨r6, lr6, cr6, hb6, _⟩ := HR6.out.blk
            obtain ⟨d0, d1, g0, g1⟩ := two_cells hb6
            have hlp6 := block_lt hb6
            have t1 : ((stepR setR Sl).2 != 0) = true := by simpa using HFX.out.2
            clear hb6
            go_wp2_with fail
            try rw [Exit.noGoto_ret]
            go_ret
            refine ⟨_, acc, rfl, ?_, HA6.out.sub stays_row (fun z _ hz => by have := HQE.out; omega), fun hh => ?_, HKk.out.trans HK7.out (fun i hi e => e)⟩
            · rw [HRE.out.1, HRR.out]; exact HR6
            · rw [HRE.out.1, HRR.out] at hh; exact absurd hh HFX.out.2
          · have hd : false = (V.1 == 1) := by simp [hU]
            have HD : Hid _ := hd
            have HU : Hid (V.1 ≠ 1) := hU
            clear hU hd
            go_upto_region 8 with fail
            rw [HW4.out]
            (try rw [HG.out])
            clear HW4
            go_wp2_with fail
            refine (isUnset_any HD.out).mono ?_
            rintro r w5 ⟨rfl, hB5⟩
            have hs5 := hB5.size
            have HR5 : Hid (Rd w5 p (stepR valueR Sl)) := HR4.out.new hB5
            have HA5 : Hid (OwnI 65 1 VRow w5 (fun z => q ≤ z ∧ z < q2) u5 acc) := HA4.out.old stays_row hB5
            have HO5 : Hid (OwnI 26 2 VVal w5 (fun z => q2 ≤ z) u6 ac2) := HO4.out.old stays_val hB5
            have HK5 : Hid (Kept (fun z => z = p) wo w5) := HK4.out.new hB5
            have HX5 : Hid (IsBF (fun z => z < w5.heap.size ∧ u6.ownBlock ≠ some z ∧ q2 ≤ z) w5 x lx cx (sNums V.2)) := HX4.out.stay (fun z hz _ => hB5.block z hz) hs5 (fun z hz hF => ⟨by omega, hF.2.1, hF.2.2⟩)
            have hb5 := (hB5.block g hlg).trans HB4.out
            have HB5 : Hid _ := hb5
            obtain ⟨k0, k1, f0, f1⟩ := two_cells hb5
            have hlg5 := block_lt hb5
            obtain ⟨r6, lr6, cr6, hb6, _⟩ := HR5.out.blk
            obtain ⟨d0, d1, g0, g1⟩ := two_cells hb6
            have hlp6 := block_lt hb6
            clear hB5 hb5 hb6 hlg
            by_cases hE : (stepR valueR Sl).2 = 0
            · rw [hE] at d1
              have HSY : Hid (stepR setR Sl = stepR valueR Sl ∧ ((stepR setR Sl).2 = 0 → (setR Sl.1).val = (valueR Sl.1).val)) := set_yes hE (by rw [← HV3.out hE]; exact HU.out)
              have HNX : Hid _ := loop_next HJl.out hlt3 (by rw [HSY.out.1]; exact hE)
              have HEN : Hid ((stepR setR Sl).2 = 0) := by rw [HSY.out.1]; exact hE
              have HVAL : Hid ((setR Sl.1).val = V) := by show _ = _; rw [HSY.out.2 (by rw [HSY.out.1]; exact hE), ← HV3.out hE]
              have HBN : Hid ((w5.alloc (.cells #[.int .i64 V.1, .slice x lx cx] 26)).heap[w5.heap.size]? = some (.cells [Value.int .i64 V.1, Value.slice x lx cx].toArray 26 (0, 0))) := heap_alloc_new w5 _
              have HON : Hid (OwnI 26 2 VVal (w5.alloc (.cells #[.int .i64 V.1, .slice x lx cx] 26)) (fun z => q2 ≤ z) u6 ac2) := HO5.out.old stays_val (below_one _ _)
              have HXN : Hid (VVal (fun z => z < (w5.alloc (.cells #[.int .i64 V.1, .slice x lx cx] 26)).heap.size ∧ u6.ownBlock ≠ some z ∧ q2 ≤ z) (w5.alloc (.cells #[.int .i64 V.1, .slice x lx cx] 26)) V (fun j => ([Value.int .i64 V.1, Value.slice x lx cx] : List Value).getD j default)) :=
                ⟨rfl, x, lx, cx, rfl, HX5.out.stay (fun z hz _ => (below_one w5 _).block z hz) (by simp) (fun z hz hF => ⟨by simp; omega, hF.2.1, hF.2.2⟩)⟩
              have HFN : Hid ((fun z => q2 ≤ z) (w5.alloc (.cells #[.int .i64 V.1, .slice x lx cx] 26)).heap.size) := by show q2 ≤ _; simp; omega
              clear hE
              go_wp2_with (at_builtin; refine wpList_appendI rfl (.tmp 26) (.tmp 28) 65 rfl stays_val elem_val rfl HON.out rfl HBN.out rfl ?c1 V HXN.out HFN.out ?c2 ?c3 ?_)
              case c1 => first | exact ⟨rfl, rfl⟩ | (intro u hu; simp at hu; rcases hu with rfl | rfl <;> rfl)
              case c2 => rw [HLl.out]; unfold maxLen; omega
              case c3 => rw [HLl.out]; omega
              intro v4 w7 ho7 hK7 hv7
              have hK57 : Kept (fun z => u6.ownBlock = some z) w5 w7 := (kept_of (below_one w5 _)).trans hK7 (fun i hi e => e)
              have hfar : ∀ z, u6.ownBlock = some z → q2 ≤ z := fun z hz => (HO5.out.lt z hz).1
              have HR7 : Hid (Rd w7 p (stepR setR Sl)) := by rw [HSY.out.1]; exact HR5.out.kept hK57 (fun z hz e => by have := hfar z e; omega)
              have HA7 : Hid (OwnI 65 1 VRow w7 (fun z => q ≤ z ∧ z < q2) u5 acc) := HA5.out.apart stays_row hK57 (fun z _ hz e => by have := hfar z e; omega)
              have HO7 : Hid (OwnI 26 2 VVal w7 (fun z => q2 ≤ z) v4 (ac2 ++ [(setR Sl.1).val])) := by rw [HVAL.out]; exact ho7
              have HK7 : Hid (Kept (fun z => z = p) wo w7) := HK5.out.trans hK57 (fun i hi e => by have := hfar i e; have := HQ2.out; omega)
              have HL7 : Hid ((ac2 ++ [(setR Sl.1).val]).length = l + 1) := by show _ = _; rw [List.length_append, HLl.out]; rfl
              clear hK57 hfar ho7 hK7 hv7
              go_wp2_with fail
              go_roundw
              case rel => exact ⟨l + 1, stepR setR Sl, _, by omega, by go_num, HR7, HO7, HA7, HL7, HNX, HK7, HEN⟩
              case measure => simp [intOf]; omega
            · have HSE : Hid (stepR valueR Sl = stepR setR Sl) := (set_err hE).symm
              have HEE : Hid ((stepR setR Sl).2 ≠ 0) := by rw [← HSE.out]; exact hE
              have HRR : Hid (R = stepR setR Sl) := by
                have h1 := loop_halt HJl.out hlt3 HEE.out
                have h2 := loop_halt HIk.out hlt2 (by rw [HR2E.out.1, h1]; exact HEE.out)
                rw [HR2E.out.1, h1] at h2
                exact h2
              have t1 : ((stepR valueR Sl).2 != 0) = true := by simpa using hE
              clear hE
              go_wp2_with fail
              try rw [Exit.noGoto_ret]
              go_ret
              refine ⟨_, acc, rfl, ?_, HA5.out.sub stays_row (fun z _ hz => by have := HQE.out; omega), fun hh => ?_, HKk.out.trans HK5.out (fun i hi e => e)⟩
              · rw [HRE.out.1, HRR.out, ← HSE.out]; exact HR5
              · rw [HRE.out.1, HRR.out] at hh; exact absurd hh HEE.out
        · have HDN : Hid (R2 = Sl ∧ (R2.2 = 0 → ac2 = L2)) := loop_done HRl.out.nrm HJl.out (by omega)
          have HR2 : Hid (R2.2 = 0) := by rw [HDN.out.1]; exact HEl.out
          have HVAL : Hid ((loopR setR n Sk.1).val = ac2) := by show _ = _; rw [HR2E.out.2]; exact (HDN.out.2 HR2.out).symm
          have HNX : Hid _ := loop_next HIk.out hlt2 (by rw [HR2E.out.1]; exact HR2.out)
          obtain ⟨ra, rc, hrow⟩ := HOl.out.shape
          rw [HLl.out] at hrow
          subst hrow
          have HBN : Hid ((wr.alloc (.cells #[.slice ra l rc] 65)).heap[wr.heap.size]? = some (.cells [Value.slice ra l rc].toArray 65 (0, 0))) := heap_alloc_new wr _
          have HON : Hid (OwnI 65 1 VRow (wr.alloc (.cells #[.slice ra l rc] 65)) (fun z => q ≤ z ∧ z < q2) u5 acc) := HAl.out.old stays_row (below_one _ _)
          have HON2 : Hid (OwnI 65 1 VRow (wr.alloc (.cells #[.slice ra l rc] 65)) (fun z => q ≤ z) u5 acc) := HON.out.sub stays_row (fun z _ hz => hz.1)
          have HXN : Hid (VRow (fun z => z < (wr.alloc (.cells #[.slice ra l rc] 65)).heap.size ∧ u5.ownBlock ≠ some z ∧ q ≤ z) (wr.alloc (.cells #[.slice ra l rc] 65)) ac2 (fun j => ([Value.slice ra l rc] : List Value).getD j default)) :=
            (HOl.out.old stays_val (below_one wr (.cells #[.slice ra l rc] 65))).sub stays_val (fun z h1 hz => ⟨h1, fun e => by have := (HAl.out.lt z e).1; omega, by omega⟩)
          have HFN : Hid ((fun z => q ≤ z) (wr.alloc (.cells #[.slice ra l rc] 65)).heap.size) := by show q ≤ _; simp; omega
          have HSE : Hid (Sl = stepR (loopR setR n) Sk) := by show _ = _; rw [HR2E.out.1, HDN.out.1]
          go_wp2_with (at_builtin; refine wpList_appendI rfl (.tmp 31) (.tmp 33) 27 rfl stays_row elem_row rfl HON2.out rfl HBN.out rfl ?c1 ac2 HXN.out HFN.out ?c2 ?c3 ?_)
          case c1 => first | rfl | (intro u hu; simp at hu; rw [hu]; rfl)
          case c2 => rw [HLk.out]; unfold maxLen; omega
          case c3 => rw [HLk.out]; omega
          intro v4 w7 ho7 hK7 hv7
          have hK57 : Kept (fun z => u5.ownBlock = some z) wr w7 := (kept_of (below_one wr _)).trans hK7 (fun i hi e => e)
          have hfar : ∀ z, u5.ownBlock = some z → q ≤ z := fun z hz => (HAl.out.lt z hz).1.1
          have HR7 : Hid (Rd w7 p (stepR (loopR setR n) Sk)) := by rw [← HSE.out]; exact HRl.out.kept hK57 (fun z hz e => by have := hfar z e; omega)
          have HO7 : Hid (OwnI 65 1 VRow w7 (fun z => q ≤ z) v4 (acc ++ [(loopR setR n Sk.1).val])) := by rw [HVAL.out]; exact ho7
          have HK7 : Hid (Kept (fun z => z = p) w w7) := (HKk.out.trans HKl.out (fun i hi e => e)).trans hK57 (fun i hi e => by have := hfar i e; have := HQE.out; omega)
          have HL7 : Hid ((acc ++ [(loopR setR n Sk.1).val]).length = k + 1) := by show _ = _; rw [List.length_append, HLk.out]; rfl
          have HE7 : Hid (k + 1 < M → (stepR (loopR setR n) Sk).2 = 0) := fun _ => by rw [HR2E.out.1]; exact HR2.out
          clear hK57 hfar ho7 hK7 hv7
          go_wp2_with fail
          go_roundw
          case rel => exact ⟨k + 1, stepR (loopR setR n) Sk, _, by omega, by go_num, HR7, HO7, HL7, HNX, HK7, HE7⟩
          case measure => simp [intOf]; omega
    · have HDN : Hid (R = Sk ∧ (R.2 = 0 → acc = L)) := loop_done HRk.out.nrm HIk.out (by omega)
      go_wp2_with fail
      try rw [Exit.noGoto_ret]
      go_ret
      refine ⟨_, acc, rfl, ?_, ?_, fun hh => ?_, HKk⟩
      · rw [HRE.out.1, HDN.out.1]; exact HRk
      · exact HO.out.sub stays_row (fun z _ hz => by have := HQE.out; omega)
      · rw [HRE.out.1] at hh; rw [HRE.out.2 hh]; exact HDN.out.2 hh

end Go.Proofs.YtnapeecmlkkolaaDoor
