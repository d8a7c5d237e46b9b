/-
  The reader's method statements; flags.
-/
import Derived.Test.YtcecdklgiocbaaaRd6
namespace Go.Proofs.Ytcecdklgiocbaaa
open Go.RowKit
set_option maxRecDepth 100000
set_option linter.unusedVariables false
set_option linter.unusedSimpArgs false

set_option maxHeartbeats 4000000 in
theorem rstatements {w : World} {p : Nat} {S : BE} (h : Rd w p S) :
    Calls Try.prog 47 #[.pointer (some ⟨p, 0, none⟩)] w fun e w' => ∃ v L, e = .returned v ∧ Hid (Rd w' p (stepR (listR stR) S)) ∧ Hid (OwnG 60 4 GT w' (fun k => w.heap.size ≤ k) v L) ∧ Hid ((stepR (listR stR) S).2 = 0 → L = (listR stR S.1).val) ∧ Hid (Kept (fun k => k = p) w w') := by
  have H : Hid (Rd w p S) := h
  have hpw := h.lt
  clear h
  go_enter Try.func47, Try.ntmps47
  go_wp2_with fail
  refine (rnumber H.out 2 (by omega) (by omega) _ rfl).mono ?_
  rintro e w1 ⟨x, rfl, HR1, _, HT, HK1⟩
  obtain ⟨n, rfl, hn⟩ := num2 H.out.rng HT.out
  obtain ⟨Y, hY⟩ : ∃ Y, Y = loopR stR n (stepR (numR 2) S) [] := ⟨_, rfl⟩
  have hLL := loop_list stR S H.out.nrm n HT.out
  rw [Int.toNat_natCast, ← hY] at hLL
  have HY : Hid (loopR stR n (stepR (numR 2) S) [] = Y) := hY.symm
  have HLL : Hid (Y.1 = stepR (listR stR) S ∧ ((stepR (listR stR) S).2 = 0 → Y.2 = (listR stR S.1).val)) := hLL
  clear hY hLL
  go_wp2_with fail
  go_loopw [3, 7] (fun v i wr => ∃ (k : Nat) (S' : BE) (acc : List St), k ≤ n ∧ i = .int .u64 k ∧ Hid (Rd wr p S') ∧ Hid (OwnG 60 4 GT wr (fun k => w.heap.size ≤ k) v acc) ∧ acc.length = k ∧ Hid (loopR stR (n - k) S' acc = Y) ∧ Hid (Kept (fun k => k = p) w wr)) (fun _ i _ => n - (intOf i).toNat)
  case atStart => exact ⟨0, _, [], by omega, rfl, HR1, ownG_nil _ _ _ _ _, rfl, HY.out, HK1⟩
  case round =>
    obtain ⟨k, S2, acc, hk, rfl, HR2, HO2, hacc, HG, HK2⟩ := hrel
    by_cases hlt : k < n
    · go_wp2_with fail
      refine (rstatement HR2.out).mono ?_
      rintro e w3 ⟨s, ia, il, ic, va, vl, vc, rfl, HR3, HI3, HV3, HK3⟩
      have hsz : w.heap.size ≤ wr.heap.size := HK2.out.size
      have hsz3 : wr.heap.size ≤ w3.heap.size := HK3.out.size
      obtain ⟨wA, hwA⟩ : ∃ wA, wA = w3.alloc (.cells #[.bool s.prep, .string s.text, .slice ia il ic, .slice va vl vc] 60) := ⟨_, rfl⟩
      have HWA : Hid (w3.alloc (.cells #[.bool s.prep, .string s.text, .slice ia il ic, .slice va vl vc] 60) = wA) := hwA.symm
      have hBA : Below w3.heap.size w3 wA := by rw [hwA]; exact below_one _ _
      have hA : wA.heap[w3.heap.size]? = some (.cells #[.bool s.prep, .string s.text, .slice ia il ic, .slice va vl vc] 60 (0, 0)) := by rw [hwA]; exact heap_alloc_new w3 _
      obtain ⟨a0, a1, a2, a3⟩ := four_cells hA
      have hlA := block_lt hA
      have HBA : Hid (Below w3.heap.size w3 wA) := hBA
      have hszA := hBA.size
      have HRA : Hid (Rd wA p (stepR stR S2)) := HR3.out.new hBA
      have HOA : Hid (OwnG 60 4 GT wA (fun k => w.heap.size ≤ k) u3 acc) :=
        (HO2.out.kept stays_gt (fun k hk hf => HK3.out.block k hk (fun e => by omega)) hsz3 (fun _ _ hf => hf)).old stays_gt hBA
      obtain ⟨r, lr, cr, hb, _⟩ := HRA.out.blk
      obtain ⟨z0, z1, _, _⟩ := two_cells hb
      have hplt := block_lt hb
      clear hwA hBA hA hb
      by_cases he : (stepR stR S2).2 = 0
      · have HST : Hid (loopR stR (n - (k + 1)) (stepR stR S2) (acc ++ [s]) = Y) := by
          rw [HV3.out he]
          exact loop_step HG.out hlt he
        have HO4 : Hid (OwnG 60 4 GT (wA.alloc (.cells #[.bool s.prep, .string s.text, .slice ia il ic, .slice va vl vc] 60)) (fun k => w.heap.size ≤ k) u3 acc) := HOA.out.old stays_gt (below_one _ _)
        have HBN : Hid ((wA.alloc (.cells #[.bool s.prep, .string s.text, .slice ia il ic, .slice va vl vc] 60)).heap[wA.heap.size]? = some (.cells [Value.bool s.prep, Value.string s.text, Value.slice ia il ic, Value.slice va vl vc].toArray 60 (0, 0))) := heap_alloc_new wA _
        have HXN : Hid (GT (fun k => k < (wA.alloc (.cells #[.bool s.prep, .string s.text, .slice ia il ic, .slice va vl vc] 60)).heap.size ∧ u3.ownBlock ≠ some k ∧ w.heap.size ≤ k) (wA.alloc (.cells #[.bool s.prep, .string s.text, .slice ia il ic, .slice va vl vc] 60)) s (fun j => ([Value.bool s.prep, Value.string s.text, Value.slice ia il ic, Value.slice va vl vc] : List Value).getD j default)) := by
          have hb : Below w3.heap.size w3 (wA.alloc (.cells #[.bool s.prep, .string s.text, .slice ia il ic, .slice va vl vc] 60)) := HBA.out.trans ((below_one wA _).mono hszA)
          have hf : ∀ k, k < w3.heap.size → wr.heap.size ≤ k → k < (wA.alloc (.cells #[.bool s.prep, .string s.text, .slice ia il ic, .slice va vl vc] 60)).heap.size ∧ u3.ownBlock ≠ some k ∧ w.heap.size ≤ k := by
            intro k hk hk2
            refine ⟨by simp; omega, fun e => ?_, by omega⟩
            have := (HO2.out.lt _ e).2
            omega
          exact ⟨rfl, rfl, ⟨ia, il, ic, rfl, HI3.out.1.stay (fun k hk _ => hb.block k hk) hb.size hf⟩, HI3.out.2.kept stays_gv (fun k hk _ => hb.block k hk) hb.size hf⟩
        have HFN : Hid ((fun k => w.heap.size ≤ k) (wA.alloc (.cells #[.bool s.prep, .string s.text, .slice ia il ic, .slice va vl vc] 60)).heap.size) := by show _ ≤ _; simp; omega
        have HRB : Hid (Rd (wA.alloc (.cells #[.bool s.prep, .string s.text, .slice ia il ic, .slice va vl vc] 60)) p (stepR stR S2)) := HRA.out.new (below_one _ _)
        rw [he] at z1
        clear he
        go_upto_region 5 with fail
        rw [HWA.out]
        clear HWA
        go_wp2_with (at_builtin; refine wpList_appendG rfl (.tmp 16) (.tmp 18) 31 rfl stays_gt elem_t rfl HO4.out rfl HBN.out rfl ?c1 s HXN.out HFN.out ?c2 ?c3 ?_)
        case c1 => intro u hu; simp at hu; rcases hu with rfl | rfl | rfl | rfl <;> rfl
        case c2 => unfold maxLen; omega
        case c3 => omega
        intro v4 w4 ho4 hK4 hv4
        have HO5 : Hid (OwnG 60 4 GT w4 (fun k => w.heap.size ≤ k) v4 (acc ++ [s])) := ho4
        have HR5 : Hid (Rd w4 p (stepR stR S2)) := HRB.out.kept hK4 (fun j hj e => by have := (HO2.out.lt _ e).1; omega)
        have HK4 : Hid (Kept (fun k => k = p) w w4) := (((HK2.out.trans HK3.out (fun i hi e => e)).trans (kept_of (S := fun _ => False) HBA.out) (fun _ _ e => e.elim)).trans (kept_of (S := fun _ => False) (below_one wA (.cells #[.bool s.prep, .string s.text, .slice ia il ic, .slice va vl vc] 60))) (fun _ _ e => e.elim)).trans hK4 (fun i hi e => by have := (HO2.out.lt _ e).1; omega)
        clear ho4 hK4 hv4
        go_wp2_with fail
        go_roundw
        case rel => exact ⟨k + 1, _, acc ++ [s], by omega, by go_num, HR5, HO5, by simp [hacc], HST, HK4⟩
        case measure => simp [intOf]; omega
      · have t : ((stepR stR S2).2 == 0) = false := by simpa using he
        have HE : Hid (Y = (stepR stR S2, [])) := loop_stop HG.out hlt he
        have HK4 : Hid (Kept (fun k => k = p) w wA) := (HK2.out.trans HK3.out (fun i hi e => e)).trans (kept_of (S := fun _ => False) HBA.out) (fun _ _ e => e.elim)
        clear he
        go_upto_region 5 with fail
        rw [HWA.out]
        clear HWA
        go_wp2_with fail
        go_ret
        refine ⟨_, [], rfl, ?_, ownG_nil _ _ _ _ _, fun h => ?_, HK4⟩
        · rw [← HLL.out.1, HE.out]; exact HRA
        · rw [← HLL.out.2 h, HE.out]
    · have HE : Hid (Y = (S2, acc)) := loop_end HG.out (by omega)
      go_wp2_with fail
      go_ret
      refine ⟨_, acc, rfl, ?_, HO2, fun h => ?_, HK2⟩
      · rw [← HLL.out.1, HE.out]; exact HR2
      · rw [← HLL.out.2 h, HE.out]

theorem fx_not8 : ∀ (n : Fin 256) (b : Bool), (bits .andNot .u8 (n.val : Int) (if b then 48 else 127) == 0) = !(decide (128 ≤ (n.val : Int)) || (b && (decide (0 < (n.val : Int) % 16) || decide (64 ≤ (n.val : Int))))) := by decide +kernel
theorem fx_and8 : ∀ (n : Fin 256), ((bits .and .u8 (n.val : Int) 1 == 0) = !bitX n.val 1) ∧ ((bits .and .u8 (n.val : Int) 2 == 0) = !bitX n.val 2) ∧ ((bits .and .u8 (n.val : Int) 4 == 0) = !bitX n.val 4) ∧ ((bits .and .u8 (n.val : Int) 8 == 0) = !bitX n.val 8) ∧
    ((bits .and .u8 (n.val : Int) 16 == 0) = !bitX n.val 16) ∧ ((bits .and .u8 (n.val : Int) 32 == 0) = !bitX n.val 32) ∧ ((bits .and .u8 (n.val : Int) 64 == 0) = !bitX n.val 64) := by decide +kernel
theorem fx_not {x : Int} (h : 0 ≤ x ∧ x ≤ 255) (b : Bool) : (bits .andNot .u8 x (if b then 48 else 127) == 0) = !(decide (128 ≤ x) || (b && (decide (0 < x % 16) || decide (64 ≤ x)))) := by
  obtain ⟨n, rfl⟩ := Int.eq_ofNat_of_zero_le h.1
  exact fx_not8 ⟨n, by omega⟩ b
theorem fx_and {x : Int} (h : 0 ≤ x ∧ x ≤ 255) : ((bits .and .u8 x 1 == 0) = !bitX x 1) ∧ ((bits .and .u8 x 2 == 0) = !bitX x 2) ∧ ((bits .and .u8 x 4 == 0) = !bitX x 4) ∧ ((bits .and .u8 x 8 == 0) = !bitX x 8) ∧
    ((bits .and .u8 x 16 == 0) = !bitX x 16) ∧ ((bits .and .u8 x 32 == 0) = !bitX x 32) ∧ ((bits .and .u8 x 64 == 0) = !bitX x 64) := by
  obtain ⟨n, rfl⟩ := Int.eq_ofNat_of_zero_le h.1
  exact fx_and8 ⟨n, by omega⟩

set_option maxHeartbeats 4000000 in
theorem rflags {w : World} {p : Nat} {S : BE} (h : Rd w p S) (batch : Bool) (may : Int) (hmay : may = if batch then 48 else 127) :
    Calls Try.prog 80 #[.pointer (some ⟨p, 0, none⟩), .int .u8 may] w fun e w' => ∃ x, e = .returned (.int .u8 x) ∧ Hid (Rd w' p (stepR (flagsR batch) S)) ∧ Hid (0 ≤ x ∧ x ≤ 255) ∧ Hid ((stepR (flagsR batch) S).2 = 0 → x = (flagsR batch S.1).val) ∧ Hid (Kept (fun k => k = p) w w') := by
  have H : Hid (Rd w p S) := h
  have HMAY : Hid (may = if batch then 48 else 127) := hmay
  clear h hmay
  go_enter Try.func80, Try.ntmps80
  go_wp2_with fail
  refine (rnumber H.out 1 (by omega) (by omega) _ rfl).mono ?_
  rintro e w1 ⟨x, rfl, HR, HPL, HT, HK⟩
  have hx0 := (num_rng H.out.rng (by omega) HT.out)
  have h256 : (256 : Int) ^ 1 = 256 := by decide
  have hx1 : 0 ≤ x ∧ x ≤ 255 := by omega
  have hw8 := wrap_u8 x (by omega) (by omega)
  have HX1 : Hid (0 ≤ x ∧ x ≤ 255) := hx1
  clear hx0 h256
  have HTN : Hid ((bits .andNot .u8 x may == 0) = !(decide (128 ≤ x) || (batch && (decide (0 < x % 16) || decide (64 ≤ x))))) := by show _ = _; rw [HMAY.out]; exact fx_not hx1 batch
  obtain ⟨g1, g2, g4, g8, g16, g32, g64⟩ := fx_and hx1
  have HT64 : Hid ((bits .and .u8 x 64 == 0) = !bitX x 64) := g64
  have HT1 : Hid ((bits .and .u8 x 1 == 0) = !bitX x 1) := g1
  obtain ⟨bad, hbad⟩ : ∃ bad, bad = badX batch x := ⟨_, rfl⟩
  have HBAD : Hid (bad = badX batch x) := hbad
  clear g1 g2 g4 g8 g16 g32 g64 hbad
  go_upto_region 2 with fail
  go_cut [22] (fun s wx => w1 = wx ∧ s = .bool bad)
  case first =>
    by_cases hb1 : (decide (128 ≤ x) || (batch && (decide (0 < x % 16) || decide (64 ≤ x)))) = true
    · have tA : (bits .andNot .u8 x may == 0) = false := by rw [HTN.out, hb1]; rfl
      have tA' : ¬ bits .andNot .u8 x may = 0 := by simpa using tA
      have tB : Hid (bad = true) := by
        show _ = _
        rw [HBAD.out, badX]
        revert hb1
        cases decide (128 ≤ x) <;> cases bitX x 64 <;> cases bitX x 1 <;> cases batch <;> cases decide (0 < x % 16) <;> cases decide (64 ≤ x) <;> decide
      clear hb1
      go_wp2_with fail
      go_meet
      case rel => exact ⟨rfl, by rw [tB.out]⟩
    · have hb1' : (decide (128 ≤ x) || (batch && (decide (0 < x % 16) || decide (64 ≤ x)))) = false := by simpa using hb1
      have tA : bits .andNot .u8 x may = 0 := by
        have h0 : (bits .andNot .u8 x may == 0) = true := by rw [HTN.out, hb1']; rfl
        simpa using h0
      have tB : Hid (bad = (bitX x 64 && !bitX x 1)) := by
        show _ = _
        rw [HBAD.out, badX]
        revert hb1'
        cases decide (128 ≤ x) <;> cases bitX x 64 <;> cases bitX x 1 <;> cases batch <;> cases decide (0 < x % 16) <;> cases decide (64 ≤ x) <;> decide
      clear hb1 hb1'
      cases h64 : bitX x 64 with
      | false =>
        have tC : bits .and .u8 x 64 = 0 := by
          have h0 : (bits .and .u8 x 64 == 0) = true := by rw [HT64.out, h64]; rfl
          simpa using h0
        go_wp2_with fail
        go_meet
        case rel => exact ⟨rfl, by rw [tB.out, h64]; rfl⟩
      | true =>
        have tC : (bits .and .u8 x 64 == 0) = false := by rw [HT64.out, h64]; rfl
        have tC' : ¬ bits .and .u8 x 64 = 0 := by simpa using tC
        cases h1 : bitX x 1 with
        | false =>
          have tD : bits .and .u8 x 1 = 0 := by
            have h0 : (bits .and .u8 x 1 == 0) = true := by rw [HT1.out, h1]; rfl
            simpa using h0
          go_wp2_with fail
          go_meet
          case rel => exact ⟨rfl, by rw [tB.out, h64, h1]; first | rfl | (simp only [bne, tC, tD]; rfl)⟩
        | true =>
          have tD : (bits .and .u8 x 1 == 0) = false := by rw [HT1.out, h1]; rfl
          have tD' : ¬ bits .and .u8 x 1 = 0 := by simpa using tD
          go_wp2_with fail
          go_meet
          case rel => exact ⟨rfl, by rw [tB.out, h64, h1]; first | rfl | (simp only [bne, tC, tD]; rfl)⟩
  case rest =>
  obtain ⟨rfl, rfl⟩ := hcut
  have HFR : Hid (stepR (flagsR batch) S = stepR (if badX batch (numR 1 S.1).val then (failR 21 : Ps Int) else pureR (numR 1 S.1).val) (stepR (numR 1) S)) := by
    show _ = _
    rw [flagsR, checkR, step_bind]
  cases bad with
  | true =>
    have hok : (stepR (numR 1) S).2 = 0 := by
      by_cases h0 : (stepR (numR 1) S).2 = 0
      · exact h0
      · have := HT.out
        rw [numX, if_neg h0] at this
        have h2 := HBAD.out
        rw [this] at h2
        cases batch <;> exact absurd h2 (by decide)
    have HE : Hid (stepR (flagsR batch) S = stepR (failR 21 : Ps Int) (stepR (numR 1) S)) := by
      show _ = _
      rw [HFR.out, num_val hok, ← HT.out, if_pos HBAD.out.symm]
    have HNZ : Hid ((stepR (flagsR batch) S).2 ≠ 0) := by
      show _ ≠ _
      rw [HE.out]
      exact fail_ne (by decide) _
    clear hok
    go_wp2_with fail
    refine (rfail HR.out 21 (by decide)).mono ?_
    rintro e w2 ⟨rfl, HR2, HK2⟩
    go_wp2_with fail
    go_ret
    exact ⟨x, by first | rfl | (simp only [hw8]; rfl), by rw [HE.out]; exact HR2, HX1, fun h => absurd h HNZ.out, HK.out.trans HK2.out (fun i hi e => e)⟩
  | false =>
    have HE : Hid (stepR (flagsR batch) S = stepR (numR 1) S) := by
      show _ = _
      rw [HFR.out]
      by_cases h0 : (stepR (numR 1) S).2 = 0
      · rw [num_val h0, ← HT.out, if_neg (by rw [← HBAD.out]; decide)]
        exact step_pure _ (step_nrm _ _)
      · exact step_err _ h0 (step_nrm _ _)
    have HV : Hid ((stepR (flagsR batch) S).2 = 0 → x = (flagsR batch S.1).val) := by
      intro h0
      have h1 := h0
      rw [HE.out] at h1
      rw [flagsR, checkR, bind_val (numR 1) _ S (by rw [flagsR, checkR] at h0; exact h0), num_val h1, ← HT.out, if_neg (by rw [← HBAD.out]; decide)]
      rfl
    go_wp2_with fail
    go_ret
    exact ⟨x, by first | rfl | (simp only [hw8]; rfl), by rw [HE.out]; exact HR, HX1, HV, HK⟩
end Go.Proofs.Ytcecdklgiocbaaa
