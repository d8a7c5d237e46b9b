/-
  The document's bytes of a run.
-/
import Derived.Test.YtcecdklgiocbaaaRefR8
import Derived.Test.YtcecdklgiocbaaaFit8
namespace Go.Proofs.Ytcecdklgiocbaaa
open Go.RowKit
set_option maxRecDepth 100000
set_option linter.unusedVariables false
set_option linter.unusedSimpArgs false

theorem stays_vr : Stays 2 VR := fun _ _ _ _ _ _ h hc _ _ _ => ⟨(hc 0 (by omega)).trans h.1, (hc 1 (by omega)).trans h.2⟩
theorem runB_flat (b : Bool) (p : Rn) : runB b p = seqB (seqB (seqB (seqB (seqB (seqB (consB p.cons) (flagsB b p)) (optB (hasV p) (valsB p.vals p.names))) (optB p.paged (numB (IntKind.u64.wrap p.page) 4))) (optB p.resumed (valueB p.state))) (optB p.serially (consB p.serial))) (optB p.timed (numB (IntKind.u64.wrap p.time) 8)) := by
  simp only [runB, runB1, runB2, runB3, runB4, runB5, seqB_assoc]
theorem ref_flags (v s p r e t n : Bool) : (decide (0 < flN v s p r e t n % 16) = (v || s || p || r)) ∧ (decide (64 ≤ flN v s p r e t n) = n) := by revert v s p r e t n; decide
theorem put_page (x : Int) : putL (IntKind.u64.wrap (IntKind.u32.wrap x)) 4 = putL (IntKind.u64.wrap x) 4 := by
  rw [IntKind.wrap_u64, IntKind.wrap_u64, IntKind.wrap_u32]
  simp [putL, byteAt, List.range_succ]
  omega

theorem byte_row8 (w : World) (m : Int) (hm : 0 ≤ m ∧ m ≤ 255) : BRow (w.alloc (.cells #[.int .u8 m] 5)) w.heap.size 0 1 1 [m] := by
  refine ⟨rfl, Nat.le_refl _, by unfold maxLen; omega, fun _ => by simp, fun i hi => ?_, fun j => ?_⟩
  · obtain rfl : i = 0 := by omega
    simp [go_sem]
  · rcases j with _ | j
    · simpa using hm
    · simp

set_option maxHeartbeats 8000000 in
theorem rrun_any {w : World} {co : Int} {a : Option Addr} {l c : Nat} {vs : List Vl} {na : Option Addr} {nl nc : Nat} {ns : List ByteArray} {sk pg : Bool} {pn : Int} {rs : Bool} {k1 : Int} {sb : ByteArray} {se : Bool} {sr : Int} {ti : Bool} {tm : Int} (bt : Bool)
    (hV : View 2 VR w a l c vs) (hN : View 1 VS w na nl nc ns) (hco : 0 ≤ co ∧ co ≤ 65535) (hsr : 0 ≤ sr ∧ sr ≤ 65535) (hpn : -2147483648 ≤ pn ∧ pn ≤ 2147483647) (htm : -9223372036854775808 ≤ tm ∧ tm ≤ 9223372036854775807)
    (hsz : ∀ y ∈ vs, y.2.size ≤ 140737488351232) (hnz : ∀ y ∈ ns, y.size ≤ 140737488351232) (hsb : sb.size ≤ 140737488351232) (hbd : costR (co, vs, ns, sk, pg, pn, rs, (k1, sb), se, sr, ti, tm) ≤ 140737488351232) {R : BE} (hR : R = runB bt (co, vs, ns, sk, pg, pn, rs, (k1, sb), se, sr, ti, tm)) :
    Calls Try.prog 29 #[.agg #[.int .u16 co, .slice a l c, .slice na nl nc, .bool sk, .bool pg, .int .i32 pn, .bool rs, .int .i64 k1, .string sb, .bool se, .int .u16 sr, .bool ti, .int .i64 tm], .bool bt] w fun r w' => ∃ ra cp, r = .returned (.tuple #[.slice ra R.1.length cp, .int .i64 R.2]) ∧ Hid (Put w' w.heap.size ra cp R.1) ∧ Hid (Below w.heap.size w w') := by
  have hbd1 : 32 + costV vs + costN ns + sb.size ≤ 140737488351232 := hbd
  have HV : Hid (View 2 VR w a l c vs) := hV
  have HN : Hid (View 1 VS w na nl nc ns) := hN
  have HSZ : Hid (∀ y ∈ vs, y.2.size ≤ 140737488351232) := hsz
  have HNZ : Hid (∀ y ∈ ns, y.size ≤ 140737488351232) := hnz
  have HSB : Hid (sb.size ≤ 140737488351232) := hsb
  have HBD : Hid (32 + costV vs + costN ns + sb.size ≤ 140737488351232) := hbd1
  have HVL : Hid (vs.length = l) := hV.1
  have HNL : Hid (ns.length = nl) := hN.1
  have hlm : l ≤ maxLen := Nat.le_trans hV.2.1 hV.2.2.1
  have hnm : nl ≤ maxLen := Nat.le_trans hN.2.1 hN.2.2.1
  have HLM : Hid (l ≤ maxLen) := hlm
  have HNM : Hid (nl ≤ maxLen) := hnm
  unfold maxLen at hlm hnm
  have HR0 : Hid (R = seqB (seqB (seqB (seqB (seqB (seqB (consB co) (flagsB bt (co, vs, ns, sk, pg, pn, rs, (k1, sb), se, sr, ti, tm))) (optB (decide (0 < l)) (valsB vs ns))) (optB pg (numB (IntKind.u64.wrap pn) 4))) (optB rs (valueB (k1, sb)))) (optB se (consB sr))) (optB ti (numB (IntKind.u64.wrap tm) 8))) := by
    show _ = _
    rw [hR, runB_flat, ← hV.1]; rfl
  have HFB : Hid (flagsB bt (co, vs, ns, sk, pg, pn, rs, (k1, sb), se, sr, ti, tm) = if ((bt && (decide (0 < l) || sk || pg || rs || decide (0 < nl))) || (decide (0 < nl) && !decide (nl = l))) then ([], 1) else ([flN (decide (0 < l)) sk pg rs se ti (decide (0 < nl))], 0)) := by
    show _ = _
    rw [← hV.1, ← hN.1]; rfl
  obtain ⟨F, hF⟩ : ∃ F, F = flN (decide (0 < l)) sk pg rs se ti (decide (0 < nl)) := ⟨_, rfl⟩
  obtain ⟨g1, g2⟩ := ref_flags (decide (0 < l)) sk pg rs se ti (decide (0 < nl))
  have hFr := fl_rng (decide (0 < l)) sk pg rs se ti (decide (0 < nl))
  rw [← hF] at g1 g2 hFr HFB
  have HF : Hid (F = flN (decide (0 < l)) sk pg rs se ti (decide (0 < nl))) := hF
  have HG1 : Hid (decide (0 < F % 16) = (decide (0 < l) || sk || pg || rs)) := g1
  have HG2 : Hid (decide (64 ≤ F) = decide (0 < nl)) := g2
  have hF3 : F.tmod 16 = F % 16 := Int.tmod_eq_emod_of_nonneg hFr.1
  have hF4 : IntKind.u8.wrap (F % 16) = F % 16 := wrap_u8 _ (by omega) (by omega)
  obtain ⟨w1, hw1⟩ : ∃ w1, w1 = w.alloc (.cells #[.int .u16 co, .slice a l c, .slice na nl nc, .bool sk, .bool pg, .int .i32 pn, .bool rs, .int .i64 k1, .string sb, .bool se, .int .u16 sr, .bool ti, .int .i64 tm] 45) := ⟨_, rfl⟩
  have HB1 : Hid (Below w.heap.size w w1) := by rw [hw1]; exact below_one _ _
  have hq : w1.heap[w.heap.size]? = some (.cells #[.int .u16 co, .slice a l c, .slice na nl nc, .bool sk, .bool pg, .int .i32 pn, .bool rs, .int .i64 k1, .string sb, .bool se, .int .u16 sr, .bool ti, .int .i64 tm] 45 (0, 0)) := by rw [hw1]; exact heap_alloc_new w _
  have HQ1 : Hid (w1.heap[w.heap.size]? = some (.cells #[.int .u16 co, .slice a l c, .slice na nl nc, .bool sk, .bool pg, .int .i32 pn, .bool rs, .int .i64 k1, .string sb, .bool se, .int .u16 sr, .bool ti, .int .i64 tm] 45 (0, 0))) := hq
  have HW1 : Hid (w.alloc (.cells #[.int .u16 co, .slice a l c, .slice na nl nc, .bool sk, .bool pg, .int .i32 pn, .bool rs, .int .i64 k1, .string sb, .bool se, .int .u16 sr, .bool ti, .int .i64 tm] 45) = w1) := hw1.symm
  obtain ⟨d0, d1, d2, d3, d4, d5, d6, d7, d8, d9, d10, d11, d12⟩ := run_cells13 hq
  have hlq := block_lt hq
  clear hw1 hq hV hN hsz hnz hsb hbd hbd1 hR hF g1 g2
  go_enter Try.func29, Try.ntmps29
  go_upto_region 1 with fail
  rw [HW1.out]
  clear HW1
  go_wp2_with fail
  refine (rcons_any co w1 hco).mono ?_
  rintro r w2 ⟨ca, cc, rfl, HPC, HBC⟩
  have HB2 : Hid (Below w.heap.size w w2) := HB1.out.trans (HBC.mono HB1.out.size)
  have HQ2 : Hid (w2.heap[w.heap.size]? = some (.cells #[.int .u16 co, .slice a l c, .slice na nl nc, .bool sk, .bool pg, .int .i32 pn, .bool rs, .int .i64 k1, .string sb, .bool se, .int .u16 sr, .bool ti, .int .i64 tm] 45 (0, 0))) := (HBC.block _ hlq).trans HQ1.out
  have HPC2 : Hid (Put w2 w.heap.size ca cc (consB co).1) := put_low HPC.out HB1.out.size
  have HLT1 : Hid (w.heap.size < w1.heap.size) := hlq
  have HPCq : Hid (∀ k, (Value.slice ca (consB co).1.length cc).ownBlock = some k → w1.heap.size ≤ k) := fun k e => OwnB.block HPC.out.1 k e
  clear HPC HBC d0 d1 d2 d3 d4 d5 d6 d7 d8 d9 d10 d11 d12 hlq
  obtain ⟨C, hC⟩ : ∃ C, C = consB co := ⟨_, rfl⟩
  rw [← hC] at HPC2 HR0
  rw [← hC]
  have HCL : Hid (C.1.length ≤ 2) := by show _ ≤ _; rw [hC]; exact consB_len co
  obtain ⟨n0, hn0⟩ : ∃ n0, n0 = C.1.length := ⟨_, rfl⟩
  obtain ⟨e0, he0⟩ : ∃ e0, e0 = C.2 := ⟨_, rfl⟩
  rw [← hn0, ← he0]
  have HN0 : Hid (n0 = C.1.length) := hn0
  have HE0 : Hid (e0 = C.2) := he0
  clear hC hn0 he0
  by_cases hce : e0 = 0
  case neg =>
    have t : (e0 != 0) = true := by simpa using hce
    have t' : (e0 == 0) = false := by simpa using hce
    have HRE : Hid (R = ([], e0)) := by
      show _ = _
      have hc : C.2 ≠ 0 := by rw [← HE0.out]; exact hce
      rw [HR0.out]
      simp only [seqB_assoc]
      rw [seqB_err _ hc, HE0.out]
    clear hce
    go_wp2_with fail
    go_ret2
    exact ⟨none, 0, by rw [HRE.out]; rfl, by rw [HRE.out]; exact put_nil _ _, HB2⟩
  case pos =>
  have HC0 : Hid (C.2 = 0) := by show _ = _; rw [← HE0.out]; exact hce
  subst hce
  go_wp2_with (refine wpList_load_row rfl 45 (.tmp 2) rfl rfl HQ2.out Try.isz45 Try.agg45 ?_)
  refine (rflg_any HLM.out HNM.out).mono ?_
  rintro r w3 ⟨rfl, HB23⟩
  rw [← HF.out]
  have HB3 : Hid (Below w.heap.size w w3) := HB2.out.trans (HB23.out.mono HB2.out.size)
  have hq3 := (HB23.out.block _ (block_lt HQ2.out)).trans HQ2.out
  have HQ3 : Hid (w3.heap[w.heap.size]? = some (.cells #[.int .u16 co, .slice a l c, .slice na nl nc, .bool sk, .bool pg, .int .i32 pn, .bool rs, .int .i64 k1, .string sb, .bool se, .int .u16 sr, .bool ti, .int .i64 tm] 45 (0, 0))) := hq3
  have hlq := block_lt hq3
  obtain ⟨d0, d1, d2, d3, d4, d5, d6, d7, d8, d9, d10, d11, d12⟩ := run_cells13 hq3
  have HI3 : Hid (IsB w3 ca n0 cc C.1) := by
    have := (HPC2.out.2).old HB23.out
    rw [← HN0.out] at this
    exact this
  have HO3 : Hid (OwnB w3 w.heap.size (.slice ca n0 cc) n0 C.1) := by
    have := (HPC2.out.1).old HB23.out
    rw [← HN0.out] at this
    exact this
  have HO3q : Hid (∀ k, (Value.slice ca n0 cc).ownBlock = some k → w1.heap.size ≤ k) := fun k e => HPCq.out k (by
    cases ca with
    | none => simp [Value.ownBlock] at e
    | some x => simpa [Value.ownBlock] using e)
  clear hq3
  obtain ⟨bad, hbad⟩ : ∃ bad, bad = ((bt && (decide (0 < l) || sk || pg || rs || decide (0 < nl))) || (decide (0 < nl) && !decide (nl = l))) := ⟨_, rfl⟩
  rw [← hbad] at HFB
  have HBAD : Hid (bad = ((bt && (decide (0 < l) || sk || pg || rs || decide (0 < nl))) || (decide (0 < nl) && !decide (nl = l)))) := hbad
  clear hbad
  go_upto_region 5 with fail
  go_cut [50] (fun s wx => s = .bool bad ∧ w3 = wx)
  case first =>
    by_cases hn0 : 0 < nl
    · by_cases hnl : nl = l
      · have tD : ((nl : Int) != (l : Int)) = false := by simp [hnl]
        cases bt with
        | false =>
          have tB : Hid (bad = false) := by show _ = _; rw [HBAD.out]; simp [hnl]
          clear hnl
          go_wp2_with fail
          go_meet
          case rel => exact ⟨by rw [tB.out], rfl⟩
        | true =>
          have tB : Hid (bad = true) := by show _ = _; rw [HBAD.out]; simp [hn0]
          have tE : decide (64 ≤ F) = true := by rw [HG2.out]; simp [hn0]
          have tE2 : 64 ≤ F := by simpa using tE
          clear hnl
          by_cases hf : 0 < F % 16
          · have tF : decide (0 < F % 16) = true := by simpa using hf
            go_wp2_with fail
            go_meet
            case rel => exact ⟨by rw [tB.out], rfl⟩
          · have tF : decide (0 < F % 16) = false := by simpa using hf
            go_wp2_with fail
            go_meet
            case rel => exact ⟨by rw [tB.out], rfl⟩
      · have tB : Hid (bad = true) := by show _ = _; rw [HBAD.out]; simp [hn0, hnl]
        have tD : ((nl : Int) != (l : Int)) = true := by simp; omega
        clear hnl
        go_wp2_with fail
        go_meet
        case rel => exact ⟨by rw [tB.out], rfl⟩
    · cases bt with
      | false =>
        have tB : Hid (bad = false) := by show _ = _; rw [HBAD.out]; simp [hn0]
        go_wp2_with fail
        go_meet
        case rel => exact ⟨by rw [tB.out], rfl⟩
      | true =>
        by_cases hf : 0 < F % 16
        · have tB : Hid (bad = true) := by
            have h1 := HG1.out
            rw [decide_eq_true hf] at h1
            show _ = _
            rw [HBAD.out, ← h1]
            simp [hn0]
          have tF : decide (0 < F % 16) = true := by simpa using hf
          go_wp2_with fail
          go_meet
          case rel => exact ⟨by rw [tB.out], rfl⟩
        · have hfl : ¬ 64 ≤ F := by
            have h2 := HG2.out
            rw [decide_eq_false hn0] at h2
            exact of_decide_eq_false h2
          have tB : Hid (bad = false) := by
            have h1 := HG1.out
            rw [decide_eq_false hf] at h1
            show _ = _
            rw [HBAD.out, ← h1]
            simp [hn0]
          have tF : decide (0 < F % 16) = false := by simpa using hf
          have tE : decide (64 ≤ F) = false := by simpa using hfl
          go_wp2_with fail
          go_meet
          case rel => exact ⟨by rw [tB.out], rfl⟩
  case rest =>
  obtain ⟨rfl, rfl⟩ := hcut
  cases bad with
  | true =>
    have HRE : Hid (R = ([], 1)) := by
      show _ = _
      rw [HR0.out, HFB.out, if_pos rfl]
      simp only [seqB_assoc]
      rw [← seqB_assoc, seqB_no HC0.out (by decide), seqB_err _ (by decide)]
    go_wp2_with fail
    go_ret2
    exact ⟨none, 0, by rw [HRE.out]; rfl, by rw [HRE.out]; exact put_nil _ _, HB3⟩
  | false =>
  rw [if_neg (by decide)] at HFB
  have HBF : Hid (IsB (w3.alloc (.cells #[.int .u8 F] 5)) (some ⟨w3.heap.size, 0, none⟩) 1 1 [F]) := (byte_row8 w3 F ⟨hFr.1, by omega⟩).isB
  have HOF : Hid (OwnB (w3.alloc (.cells #[.int .u8 F] 5)) w.heap.size (.slice ca n0 cc) n0 C.1) := HO3.out.old (below_one _ _)
  have HBDF : Hid (n0 + 1 ≤ 140737488355328) := by have := HCL.out; have := HN0.out; show _ ≤ _; omega
  have HSF : Hid (w.heap.size ≤ (w3.alloc (.cells #[.int .u8 F] 5)).heap.size) := by have := HB3.out.size; show _ ≤ _; simp; omega
  go_wp2_with (at_builtin; refine wpList_append_own rfl (.tmp 51) (.tmp 53) rfl rfl HOF.out rfl HBF.out HBDF.out HSF.out ?_)
  intro v4 w4 ho4 hK4 hv4
  have HB4 : Hid (Below w.heap.size w w4) := (HB3.out.trans ((below_one w3 (.cells #[.int .u8 F] 5)).mono HB3.out.size)).trans (hK4.below HSF.out (fun k hk e => (OwnB.block HOF.out k e)))
  obtain ⟨ya, yc, hv, hp4⟩ := OwnB.put ho4 (range_append HPC2.out.2.range HBF.out.range)
  subst hv
  obtain ⟨S1, hS1⟩ : ∃ S1 : BE, S1 = seqB C ([F], 0) := ⟨_, rfl⟩
  have hS1e : S1 = (C.1 ++ [F], 0) := by rw [hS1]; exact seqB_ok HC0.out rfl
  have HP1 : Hid (Put w4 w.heap.size ya yc S1.1) := by rw [hS1e]; exact hp4
  have HR1 : Hid (R = seqB (seqB (seqB (seqB (seqB S1 (optB (decide (0 < l)) (valsB vs ns))) (optB pg (numB (IntKind.u64.wrap pn) 4))) (optB rs (valueB (k1, sb)))) (optB se (consB sr))) (optB ti (numB (IntKind.u64.wrap tm) 8))) := by
    show _ = _
    rw [HR0.out, HFB.out, hS1]
  have HNL2 : Hid (0 < nl → nl = l) := by
    intro h
    have h1 := HBAD.out
    by_cases h2 : nl = l
    · exact h2
    · simp [h, h2] at h1
  have HS1L : Hid (S1.1.length ≤ 3) := by
    have := HCL.out
    show _ ≤ _
    rw [hS1e]; simp; omega
  have HQ4 : Hid (w4.heap[w.heap.size]? = some (.cells #[.int .u16 co, .slice a l c, .slice na nl nc, .bool sk, .bool pg, .int .i32 pn, .bool rs, .int .i64 k1, .string sb, .bool se, .int .u16 sr, .bool ti, .int .i64 tm] 45 (0, 0))) := (hK4.block _ (by simp; omega) (fun e => by
    have h1 := HO3q.out _ e
    have h2 := HLT1.out
    omega)).trans (((below_one w3 (.cells #[.int .u8 F] 5)).block _ hlq).trans HQ3.out)
  obtain ⟨n1, hn1⟩ : ∃ n1, n1 = S1.1.length := ⟨_, rfl⟩
  have HNN1 : Hid (n1 = S1.1.length) := hn1
  have hy : (C.1 ++ [F]).length = n1 := by rw [hn1, hS1e]
  rw [hy]
  have hz1 : (0 : Int) = S1.2 := by rw [hS1e]
  have HZ1 : Hid ((0 : Int) = S1.2) := hz1
  clear ho4 hK4 hv4 hp4 hS1 hS1e hn1 hy hz1 hlq
  clear d0 d1 d2 d3 d4 d5 d6 d7 d8 d9 d10 d11 d12
  obtain ⟨d0, d1, d2, d3, d4, d5, d6, d7, d8, d9, d10, d11, d12⟩ := run_cells13 HQ4.out
  have hlq := block_lt HQ4.out
  obtain ⟨S2, hS2⟩ : ∃ S2, S2 = seqB S1 (optB (decide (0 < l)) (valsB vs ns)) := ⟨_, rfl⟩
  have HS2 : Hid (S2 = seqB S1 (optB (decide (0 < l)) (valsB vs ns))) := hS2
  rw [← hS2] at HR1
  have HLB2 : Hid ((valsB vs ns).1.length ≤ costV vs + costN ns + 2) := Nat.le_trans (valsB_len vs ns) (by omega)
  have HS2L : Hid (S2.1.length ≤ 3 + (costV vs + costN ns + 2)) := by
    have h1 := seqB_len S1 (optB (decide (0 < l)) (valsB vs ns))
    have h2 := optB_len (decide (0 < l)) (valsB vs ns)
    have h3 := HLB2.out
    have h4 := HS1L.out
    show _ ≤ _
    rw [hS2]
    omega
  have HNR1 : Hid (Nrm S1) := by intro h; exact absurd HZ1.out.symm h
  clear hS2
  go_upto_if 58 with fail
  go_cut [6, 7] (fun b e wx => ∃ (ra : Option Addr) (n cp : Nat), b = .slice ra n cp ∧ e = .int .i64 S2.2 ∧ Hid (n = S2.1.length) ∧ Hid (Put wx w.heap.size ra cp S2.1) ∧ Hid (Below w.heap.size w wx) ∧ Hid (wx.heap[w.heap.size]? = some (.cells #[.int .u16 co, .slice a l c, .slice na nl nc, .bool sk, .bool pg, .int .i32 pn, .bool rs, .int .i64 k1, .string sb, .bool se, .int .u16 sr, .bool ti, .int .i64 tm] 45 (0, 0))))
  case first =>
    by_cases hcnd : 0 < l
    case pos =>
      have HBv : Hid (Below w.heap.size w w4) := HB4
      have HJ : Hid (S2 = seqB S1 (valsB vs ns)) := by show _ = _; rw [HS2.out]; rw [decide_eq_true hcnd]; rfl
      have HE : Hid (0 = S1.2) := HZ1
      go_wp2_with fail
      refine (rvalues_any (HV.out.old stays_vr HBv.out) (HN.out.old stays_s HBv.out) HNL2.out HSZ.out HNZ.out (by have := HBD.out; omega) rfl).mono ?_
      rintro r wy ⟨va, vc, rfl, HPy, HBy⟩
      have HBy2 : Hid (Below w4.heap.size w4 wy) := HBy
      obtain ⟨m, hm⟩ : ∃ m, m = (valsB vs ns).1.length := ⟨_, rfl⟩
      obtain ⟨ev, hev⟩ : ∃ ev, ev = (valsB vs ns).2 := ⟨_, rfl⟩
      rw [← hm, ← hev]
      have HIc : Hid (IsB wy va m vc (valsB vs ns).1) := by rw [hm]; exact HPy.out.2
      have HIb : Hid (IsB wy ya n1 yc S1.1) := by
        have := (HP1.out.2).old HBy2.out
        rw [← HNN1.out] at this
        exact this
      have HBDJ : Hid (n1 + m ≤ 140737488355328) := by
        have h1 := HS1L.out
        have h2 := HBD.out
        have h3 := HNN1.out
        have h4 := HLB2.out
        show _ ≤ _
        omega
      have HJ2 : Hid (S2 = seqB (S1.1, 0) ((valsB vs ns).1, ev)) := by
        show _ = _
        rw [HJ.out, hev, HE.out]
      clear hm hev
      have HBwy : Hid (Below w.heap.size w wy) := HBv.out.trans (HBy2.out.mono HBv.out.size)
      have HQwy : Hid (wy.heap[w.heap.size]? = some (.cells #[.int .u16 co, .slice a l c, .slice na nl nc, .bool sk, .bool pg, .int .i32 pn, .bool rs, .int .i64 k1, .string sb, .bool se, .int .u16 sr, .bool ti, .int .i64 tm] 45 (0, 0))) := (HBy2.out.block _ hlq).trans HQ4.out
      have hlqy := block_lt HQwy.out
      clear HPy HBy
      go_wp2_with fail
      refine (join_any HIb.out HIc.out HBDJ.out HJ2.out).mono ?_
      rintro r wz ⟨ja, jc, rfl, HPz, HBz⟩
      have HBwz : Hid (Below w.heap.size w wz) := HBwy.out.trans (HBz.mono HBwy.out.size)
      have HQwz : Hid (wz.heap[w.heap.size]? = some (.cells #[.int .u16 co, .slice a l c, .slice na nl nc, .bool sk, .bool pg, .int .i32 pn, .bool rs, .int .i64 k1, .string sb, .bool se, .int .u16 sr, .bool ti, .int .i64 tm] 45 (0, 0))) := (HBz.block _ hlqy).trans HQwy.out
      have HPwz : Hid (Put wz w.heap.size ja jc S2.1) := put_low HPz.out HBwy.out.size
      clear HPz HBz
      go_wp2_with fail
      go_meet
      case rel => exact ⟨ja, _, jc, rfl, rfl, rfl, HPwz, HBwz, HQwz⟩
    case neg =>
      have HJ : Hid (S2 = S1) := by show _ = _; rw [HS2.out]; rw [decide_eq_false hcnd]; exact seqB_unit HNR1.out
      go_wp2_with fail
      go_meet
      case rel => exact ⟨ya, n1, yc, rfl, by rw [HJ.out, ← HZ1.out], by rw [HJ.out]; exact HNN1, by rw [HJ.out]; exact HP1, HB4, HQ4⟩
  case rest =>
  obtain ⟨ra2, n2, cp2, rfl, rfl, HNN2, HP2, HB2x, HQ2x⟩ := hcut
  obtain ⟨wx2, hwx2⟩ : ∃ wx2, wx2 = wc := ⟨_, rfl⟩
  subst hwx2
  clear d0 d1 d2 d3 d4 d5 d6 d7 d8 d9 d10 d11 d12
  clear hlq
  obtain ⟨d0, d1, d2, d3, d4, d5, d6, d7, d8, d9, d10, d11, d12⟩ := run_cells13 HQ2x.out
  have hlq := block_lt HQ2x.out
  obtain ⟨S3, hS3⟩ : ∃ S3, S3 = seqB S2 (optB (pg) (numB (IntKind.u64.wrap pn) 4)) := ⟨_, rfl⟩
  have HS3 : Hid (S3 = seqB S2 (optB (pg) (numB (IntKind.u64.wrap pn) 4))) := hS3
  rw [← hS3] at HR1
  have HLB3 : Hid ((numB (IntKind.u64.wrap pn) 4).1.length ≤ 4) := Nat.le_of_eq (numB_len _ 4)
  have HS3L : Hid (S3.1.length ≤ 3 + (costV vs + costN ns + 2) + (4)) := by
    have h1 := seqB_len S2 (optB (pg) (numB (IntKind.u64.wrap pn) 4))
    have h2 := optB_len (pg) (numB (IntKind.u64.wrap pn) 4)
    have h3 := HLB3.out
    have h4 := HS2L.out
    show _ ≤ _
    rw [hS3]
    omega
  have HNR2 : Hid (Nrm S2) := by show Nrm _; rw [HS2.out]; exact nrm_seq _ _
  clear hS3
  go_upto_if 76 with fail
  go_cut [6, 7] (fun b e wx => ∃ (ra : Option Addr) (n cp : Nat), b = .slice ra n cp ∧ e = .int .i64 S3.2 ∧ Hid (n = S3.1.length) ∧ Hid (Put wx w.heap.size ra cp S3.1) ∧ Hid (Below w.heap.size w wx) ∧ Hid (wx.heap[w.heap.size]? = some (.cells #[.int .u16 co, .slice a l c, .slice na nl nc, .bool sk, .bool pg, .int .i32 pn, .bool rs, .int .i64 k1, .string sb, .bool se, .int .u16 sr, .bool ti, .int .i64 tm] 45 (0, 0))))
  case first =>
    cases pg
    case true =>
      have HBv : Hid (Below w.heap.size w wx2) := HB2x
      have HJ : Hid (S3 = seqB S2 (numB (IntKind.u64.wrap pn) 4)) := by show _ = _; rw [HS3.out]; rfl
      have HE : Hid (S2.2 = S2.2) := rfl
      have hw1 : 0 ≤ IntKind.u32.wrap pn ∧ IntKind.u32.wrap pn < 4294967296 := by rw [IntKind.wrap_u32]; omega
      obtain ⟨X, hX⟩ : ∃ X, X = IntKind.u32.wrap pn := ⟨_, rfl⟩
      rw [← hX] at hw1
      have hX2 : IntKind.u64.wrap X = X := by rw [IntKind.wrap_u64]; omega
      have HXB : Hid ((putL X 4, (0 : Int)) = numB (IntKind.u64.wrap pn) 4) := by
        show _ = (putL (IntKind.u64.wrap pn) 4, (0 : Int))
        rw [← put_page pn, ← hX, hX2]
      have hX3 : IntKind.u32.wrap pn = X := hX.symm
      clear hX
      go_wp2_with fail
      refine (rnum_put X 4 _ (by omega) (by omega) hw1.1 (by omega) _ rfl).mono ?_
      rintro r wy ⟨va, vc, rfl, HPy, HBy⟩
      have HBy2 : Hid (Below wx2.heap.size wx2 wy) := HBy
      have HIc : Hid (IsB wy va 4 vc (putL X 4)) := by
        have := HPy.out.2
        rw [putL_length] at this
        exact this
      have HIb : Hid (IsB wy ra2 n2 cp2 S2.1) := by
        have := (HP2.out.2).old HBy2.out
        rw [← HNN2.out] at this
        exact this
      have HBDJ : Hid (n2 + 4 ≤ 140737488355328) := by
        have h1 := HS2L.out
        have h2 := HBD.out
        have h3 := HNN2.out
        show _ ≤ _
        omega
      have HJ2 : Hid (S3 = seqB (S2.1, S2.2) (putL X 4, 0)) := by
        show _ = _
        rw [HJ.out, ← HXB.out]
      have HBwy : Hid (Below w.heap.size w wy) := HBv.out.trans (HBy2.out.mono HBv.out.size)
      have HQwy : Hid (wy.heap[w.heap.size]? = some (.cells #[.int .u16 co, .slice a l c, .slice na nl nc, .bool sk, .bool true, .int .i32 pn, .bool rs, .int .i64 k1, .string sb, .bool se, .int .u16 sr, .bool ti, .int .i64 tm] 45 (0, 0))) := (HBy2.out.block _ hlq).trans HQ2x.out
      have hlqy := block_lt HQwy.out
      clear HPy HBy
      go_wp2_with fail
      refine (join_any HIb.out HIc.out HBDJ.out HJ2.out).mono ?_
      rintro r wz ⟨ja, jc, rfl, HPz, HBz⟩
      have HBwz : Hid (Below w.heap.size w wz) := HBwy.out.trans (HBz.mono HBwy.out.size)
      have HQwz : Hid (wz.heap[w.heap.size]? = some (.cells #[.int .u16 co, .slice a l c, .slice na nl nc, .bool sk, .bool true, .int .i32 pn, .bool rs, .int .i64 k1, .string sb, .bool se, .int .u16 sr, .bool ti, .int .i64 tm] 45 (0, 0))) := (HBz.block _ hlqy).trans HQwy.out
      have HPwz : Hid (Put wz w.heap.size ja jc S3.1) := put_low HPz.out HBwy.out.size
      clear HPz HBz
      go_wp2_with fail
      go_meet
      case rel => exact ⟨ja, _, jc, rfl, rfl, rfl, HPwz, HBwz, HQwz⟩
    case false =>
      have HJ : Hid (S3 = S2) := by show _ = _; rw [HS3.out]; exact seqB_unit HNR2.out
      go_wp2_with fail
      go_meet
      case rel => exact ⟨ra2, n2, cp2, rfl, by rw [HJ.out], by rw [HJ.out]; exact HNN2, by rw [HJ.out]; exact HP2, HB2x, HQ2x⟩
  case rest =>
  obtain ⟨ra3, n3, cp3, rfl, rfl, HNN3, HP3, HB3x, HQ3x⟩ := hcut
  obtain ⟨wx3, hwx3⟩ : ∃ wx3, wx3 = wc := ⟨_, rfl⟩
  subst hwx3
  clear d0 d1 d2 d3 d4 d5 d6 d7 d8 d9 d10 d11 d12
  clear hlq
  obtain ⟨d0, d1, d2, d3, d4, d5, d6, d7, d8, d9, d10, d11, d12⟩ := run_cells13 HQ3x.out
  have hlq := block_lt HQ3x.out
  obtain ⟨S4, hS4⟩ : ∃ S4, S4 = seqB S3 (optB (rs) (valueB (k1, sb))) := ⟨_, rfl⟩
  have HS4 : Hid (S4 = seqB S3 (optB (rs) (valueB (k1, sb)))) := hS4
  rw [← hS4] at HR1
  have HLB4 : Hid ((valueB (k1, sb)).1.length ≤ sb.size + 4) := valueB_len (k1, sb)
  have HS4L : Hid (S4.1.length ≤ 3 + (costV vs + costN ns + 2) + (4) + (sb.size + 4)) := by
    have h1 := seqB_len S3 (optB (rs) (valueB (k1, sb)))
    have h2 := optB_len (rs) (valueB (k1, sb))
    have h3 := HLB4.out
    have h4 := HS3L.out
    show _ ≤ _
    rw [hS4]
    omega
  have HNR3 : Hid (Nrm S3) := by show Nrm _; rw [HS3.out]; exact nrm_seq _ _
  clear hS4
  go_upto_if 89 with fail
  go_cut [6, 7] (fun b e wx => ∃ (ra : Option Addr) (n cp : Nat), b = .slice ra n cp ∧ e = .int .i64 S4.2 ∧ Hid (n = S4.1.length) ∧ Hid (Put wx w.heap.size ra cp S4.1) ∧ Hid (Below w.heap.size w wx) ∧ Hid (wx.heap[w.heap.size]? = some (.cells #[.int .u16 co, .slice a l c, .slice na nl nc, .bool sk, .bool pg, .int .i32 pn, .bool rs, .int .i64 k1, .string sb, .bool se, .int .u16 sr, .bool ti, .int .i64 tm] 45 (0, 0))))
  case first =>
    cases rs
    case true =>
      have HBv : Hid (Below w.heap.size w wx3) := HB3x
      have HJ : Hid (S4 = seqB S3 (valueB (k1, sb))) := by show _ = _; rw [HS4.out]; rfl
      have HE : Hid (S3.2 = S3.2) := rfl
      go_wp2_with fail
      refine (rvalue_any k1 sb _ HSB.out rfl).mono ?_
      rintro r wy ⟨va, vc, rfl, HPy, HBy⟩
      have HBy2 : Hid (Below wx3.heap.size wx3 wy) := HBy
      obtain ⟨m, hm⟩ : ∃ m, m = (valueB (k1, sb)).1.length := ⟨_, rfl⟩
      obtain ⟨ev, hev⟩ : ∃ ev, ev = (valueB (k1, sb)).2 := ⟨_, rfl⟩
      rw [← hm, ← hev]
      have HIc : Hid (IsB wy va m vc (valueB (k1, sb)).1) := by rw [hm]; exact HPy.out.2
      have HIb : Hid (IsB wy ra3 n3 cp3 S3.1) := by
        have := (HP3.out.2).old HBy2.out
        rw [← HNN3.out] at this
        exact this
      have HBDJ : Hid (n3 + m ≤ 140737488355328) := by
        have h1 := HS3L.out
        have h2 := HBD.out
        have h3 := HNN3.out
        have h4 := HLB4.out
        show _ ≤ _
        omega
      have HJ2 : Hid (S4 = seqB (S3.1, S3.2) ((valueB (k1, sb)).1, ev)) := by
        show _ = _
        rw [HJ.out, hev]
      clear hm hev
      have HBwy : Hid (Below w.heap.size w wy) := HBv.out.trans (HBy2.out.mono HBv.out.size)
      have HQwy : Hid (wy.heap[w.heap.size]? = some (.cells #[.int .u16 co, .slice a l c, .slice na nl nc, .bool sk, .bool pg, .int .i32 pn, .bool true, .int .i64 k1, .string sb, .bool se, .int .u16 sr, .bool ti, .int .i64 tm] 45 (0, 0))) := (HBy2.out.block _ hlq).trans HQ3x.out
      have hlqy := block_lt HQwy.out
      clear HPy HBy
      go_wp2_with fail
      refine (join_any HIb.out HIc.out HBDJ.out HJ2.out).mono ?_
      rintro r wz ⟨ja, jc, rfl, HPz, HBz⟩
      have HBwz : Hid (Below w.heap.size w wz) := HBwy.out.trans (HBz.mono HBwy.out.size)
      have HQwz : Hid (wz.heap[w.heap.size]? = some (.cells #[.int .u16 co, .slice a l c, .slice na nl nc, .bool sk, .bool pg, .int .i32 pn, .bool true, .int .i64 k1, .string sb, .bool se, .int .u16 sr, .bool ti, .int .i64 tm] 45 (0, 0))) := (HBz.block _ hlqy).trans HQwy.out
      have HPwz : Hid (Put wz w.heap.size ja jc S4.1) := put_low HPz.out HBwy.out.size
      clear HPz HBz
      go_wp2_with fail
      go_meet
      case rel => exact ⟨ja, _, jc, rfl, rfl, rfl, HPwz, HBwz, HQwz⟩
    case false =>
      have HJ : Hid (S4 = S3) := by show _ = _; rw [HS4.out]; exact seqB_unit HNR3.out
      go_wp2_with fail
      go_meet
      case rel => exact ⟨ra3, n3, cp3, rfl, by rw [HJ.out], by rw [HJ.out]; exact HNN3, by rw [HJ.out]; exact HP3, HB3x, HQ3x⟩
  case rest =>
  obtain ⟨ra4, n4, cp4, rfl, rfl, HNN4, HP4, HB4x, HQ4x⟩ := hcut
  obtain ⟨wx4, hwx4⟩ : ∃ wx4, wx4 = wc := ⟨_, rfl⟩
  subst hwx4
  clear d0 d1 d2 d3 d4 d5 d6 d7 d8 d9 d10 d11 d12
  clear hlq
  obtain ⟨d0, d1, d2, d3, d4, d5, d6, d7, d8, d9, d10, d11, d12⟩ := run_cells13 HQ4x.out
  have hlq := block_lt HQ4x.out
  obtain ⟨S5, hS5⟩ : ∃ S5, S5 = seqB S4 (optB (se) (consB sr)) := ⟨_, rfl⟩
  have HS5 : Hid (S5 = seqB S4 (optB (se) (consB sr))) := hS5
  rw [← hS5] at HR1
  have HLB5 : Hid ((consB sr).1.length ≤ 2) := consB_len sr
  have HS5L : Hid (S5.1.length ≤ 3 + (costV vs + costN ns + 2) + (4) + (sb.size + 4) + (2)) := by
    have h1 := seqB_len S4 (optB (se) (consB sr))
    have h2 := optB_len (se) (consB sr)
    have h3 := HLB5.out
    have h4 := HS4L.out
    show _ ≤ _
    rw [hS5]
    omega
  have HNR4 : Hid (Nrm S4) := by show Nrm _; rw [HS4.out]; exact nrm_seq _ _
  clear hS5
  go_upto_if 105 with fail
  go_cut [6, 7] (fun b e wx => ∃ (ra : Option Addr) (n cp : Nat), b = .slice ra n cp ∧ e = .int .i64 S5.2 ∧ Hid (n = S5.1.length) ∧ Hid (Put wx w.heap.size ra cp S5.1) ∧ Hid (Below w.heap.size w wx) ∧ Hid (wx.heap[w.heap.size]? = some (.cells #[.int .u16 co, .slice a l c, .slice na nl nc, .bool sk, .bool pg, .int .i32 pn, .bool rs, .int .i64 k1, .string sb, .bool se, .int .u16 sr, .bool ti, .int .i64 tm] 45 (0, 0))))
  case first =>
    cases se
    case true =>
      have HBv : Hid (Below w.heap.size w wx4) := HB4x
      have HJ : Hid (S5 = seqB S4 (consB sr)) := by show _ = _; rw [HS5.out]; rfl
      have HE : Hid (S4.2 = S4.2) := rfl
      go_wp2_with fail
      refine (rcons_any sr _ hsr).mono ?_
      rintro r wy ⟨va, vc, rfl, HPy, HBy⟩
      have HBy2 : Hid (Below wx4.heap.size wx4 wy) := HBy
      obtain ⟨m, hm⟩ : ∃ m, m = (consB sr).1.length := ⟨_, rfl⟩
      obtain ⟨ev, hev⟩ : ∃ ev, ev = (consB sr).2 := ⟨_, rfl⟩
      rw [← hm, ← hev]
      have HIc : Hid (IsB wy va m vc (consB sr).1) := by rw [hm]; exact HPy.out.2
      have HIb : Hid (IsB wy ra4 n4 cp4 S4.1) := by
        have := (HP4.out.2).old HBy2.out
        rw [← HNN4.out] at this
        exact this
      have HBDJ : Hid (n4 + m ≤ 140737488355328) := by
        have h1 := HS4L.out
        have h2 := HBD.out
        have h3 := HNN4.out
        have h4 := HLB5.out
        show _ ≤ _
        omega
      have HJ2 : Hid (S5 = seqB (S4.1, S4.2) ((consB sr).1, ev)) := by
        show _ = _
        rw [HJ.out, hev]
      clear hm hev
      have HBwy : Hid (Below w.heap.size w wy) := HBv.out.trans (HBy2.out.mono HBv.out.size)
      have HQwy : Hid (wy.heap[w.heap.size]? = some (.cells #[.int .u16 co, .slice a l c, .slice na nl nc, .bool sk, .bool pg, .int .i32 pn, .bool rs, .int .i64 k1, .string sb, .bool true, .int .u16 sr, .bool ti, .int .i64 tm] 45 (0, 0))) := (HBy2.out.block _ hlq).trans HQ4x.out
      have hlqy := block_lt HQwy.out
      clear HPy HBy
      go_wp2_with fail
      refine (join_any HIb.out HIc.out HBDJ.out HJ2.out).mono ?_
      rintro r wz ⟨ja, jc, rfl, HPz, HBz⟩
      have HBwz : Hid (Below w.heap.size w wz) := HBwy.out.trans (HBz.mono HBwy.out.size)
      have HQwz : Hid (wz.heap[w.heap.size]? = some (.cells #[.int .u16 co, .slice a l c, .slice na nl nc, .bool sk, .bool pg, .int .i32 pn, .bool rs, .int .i64 k1, .string sb, .bool true, .int .u16 sr, .bool ti, .int .i64 tm] 45 (0, 0))) := (HBz.block _ hlqy).trans HQwy.out
      have HPwz : Hid (Put wz w.heap.size ja jc S5.1) := put_low HPz.out HBwy.out.size
      clear HPz HBz
      go_wp2_with fail
      go_meet
      case rel => exact ⟨ja, _, jc, rfl, rfl, rfl, HPwz, HBwz, HQwz⟩
    case false =>
      have HJ : Hid (S5 = S4) := by show _ = _; rw [HS5.out]; exact seqB_unit HNR4.out
      go_wp2_with fail
      go_meet
      case rel => exact ⟨ra4, n4, cp4, rfl, by rw [HJ.out], by rw [HJ.out]; exact HNN4, by rw [HJ.out]; exact HP4, HB4x, HQ4x⟩
  case rest =>
  obtain ⟨ra5, n5, cp5, rfl, rfl, HNN5, HP5, HB5x, HQ5x⟩ := hcut
  obtain ⟨wx5, hwx5⟩ : ∃ wx5, wx5 = wc := ⟨_, rfl⟩
  subst hwx5
  clear d0 d1 d2 d3 d4 d5 d6 d7 d8 d9 d10 d11 d12
  clear hlq
  obtain ⟨d0, d1, d2, d3, d4, d5, d6, d7, d8, d9, d10, d11, d12⟩ := run_cells13 HQ5x.out
  have hlq := block_lt HQ5x.out
  obtain ⟨S6, hS6⟩ : ∃ S6, S6 = seqB S5 (optB (ti) (numB (IntKind.u64.wrap tm) 8)) := ⟨_, rfl⟩
  have HS6 : Hid (S6 = seqB S5 (optB (ti) (numB (IntKind.u64.wrap tm) 8))) := hS6
  rw [← hS6] at HR1
  have HLB6 : Hid ((numB (IntKind.u64.wrap tm) 8).1.length ≤ 8) := Nat.le_of_eq (numB_len _ 8)
  have HS6L : Hid (S6.1.length ≤ 3 + (costV vs + costN ns + 2) + (4) + (sb.size + 4) + (2) + (8)) := by
    have h1 := seqB_len S5 (optB (ti) (numB (IntKind.u64.wrap tm) 8))
    have h2 := optB_len (ti) (numB (IntKind.u64.wrap tm) 8)
    have h3 := HLB6.out
    have h4 := HS5L.out
    show _ ≤ _
    rw [hS6]
    omega
  have HNR5 : Hid (Nrm S5) := by show Nrm _; rw [HS5.out]; exact nrm_seq _ _
  clear hS6
  go_upto_if 121 with fail
  go_cut [6, 7] (fun b e wx => ∃ (ra : Option Addr) (n cp : Nat), b = .slice ra n cp ∧ e = .int .i64 S6.2 ∧ Hid (n = S6.1.length) ∧ Hid (Put wx w.heap.size ra cp S6.1) ∧ Hid (Below w.heap.size w wx) ∧ Hid (wx.heap[w.heap.size]? = some (.cells #[.int .u16 co, .slice a l c, .slice na nl nc, .bool sk, .bool pg, .int .i32 pn, .bool rs, .int .i64 k1, .string sb, .bool se, .int .u16 sr, .bool ti, .int .i64 tm] 45 (0, 0))))
  case first =>
    cases ti
    case true =>
      have HBv : Hid (Below w.heap.size w wx5) := HB5x
      have HJ : Hid (S6 = seqB S5 (numB (IntKind.u64.wrap tm) 8)) := by show _ = _; rw [HS6.out]; rfl
      have HE : Hid (S5.2 = S5.2) := rfl
      have hw1 : 0 ≤ IntKind.u64.wrap tm ∧ IntKind.u64.wrap tm < 18446744073709551616 := by rw [IntKind.wrap_u64]; omega
      obtain ⟨X, hX⟩ : ∃ X, X = IntKind.u64.wrap tm := ⟨_, rfl⟩
      rw [← hX] at hw1
      have HXB : Hid ((putL X 8, (0 : Int)) = numB (IntKind.u64.wrap tm) 8) := by
        show _ = (putL (IntKind.u64.wrap tm) 8, (0 : Int))
        rw [← hX]
      have hX3 : IntKind.u64.wrap tm = X := hX.symm
      clear hX
      go_wp2_with fail
      refine (rnum_put X 8 _ (by omega) (by omega) hw1.1 (by omega) _ rfl).mono ?_
      rintro r wy ⟨va, vc, rfl, HPy, HBy⟩
      have HBy2 : Hid (Below wx5.heap.size wx5 wy) := HBy
      have HIc : Hid (IsB wy va 8 vc (putL X 8)) := by
        have := HPy.out.2
        rw [putL_length] at this
        exact this
      have HIb : Hid (IsB wy ra5 n5 cp5 S5.1) := by
        have := (HP5.out.2).old HBy2.out
        rw [← HNN5.out] at this
        exact this
      have HBDJ : Hid (n5 + 8 ≤ 140737488355328) := by
        have h1 := HS5L.out
        have h2 := HBD.out
        have h3 := HNN5.out
        show _ ≤ _
        omega
      have HJ2 : Hid (S6 = seqB (S5.1, S5.2) (putL X 8, 0)) := by
        show _ = _
        rw [HJ.out, ← HXB.out]
      have HBwy : Hid (Below w.heap.size w wy) := HBv.out.trans (HBy2.out.mono HBv.out.size)
      have HQwy : Hid (wy.heap[w.heap.size]? = some (.cells #[.int .u16 co, .slice a l c, .slice na nl nc, .bool sk, .bool pg, .int .i32 pn, .bool rs, .int .i64 k1, .string sb, .bool se, .int .u16 sr, .bool true, .int .i64 tm] 45 (0, 0))) := (HBy2.out.block _ hlq).trans HQ5x.out
      have hlqy := block_lt HQwy.out
      clear HPy HBy
      go_wp2_with fail
      refine (join_any HIb.out HIc.out HBDJ.out HJ2.out).mono ?_
      rintro r wz ⟨ja, jc, rfl, HPz, HBz⟩
      have HBwz : Hid (Below w.heap.size w wz) := HBwy.out.trans (HBz.mono HBwy.out.size)
      have HQwz : Hid (wz.heap[w.heap.size]? = some (.cells #[.int .u16 co, .slice a l c, .slice na nl nc, .bool sk, .bool pg, .int .i32 pn, .bool rs, .int .i64 k1, .string sb, .bool se, .int .u16 sr, .bool true, .int .i64 tm] 45 (0, 0))) := (HBz.block _ hlqy).trans HQwy.out
      have HPwz : Hid (Put wz w.heap.size ja jc S6.1) := put_low HPz.out HBwy.out.size
      clear HPz HBz
      go_wp2_with fail
      go_meet
      case rel => exact ⟨ja, _, jc, rfl, rfl, rfl, HPwz, HBwz, HQwz⟩
    case false =>
      have HJ : Hid (S6 = S5) := by show _ = _; rw [HS6.out]; exact seqB_unit HNR5.out
      go_wp2_with fail
      go_meet
      case rel => exact ⟨ra5, n5, cp5, rfl, by rw [HJ.out], by rw [HJ.out]; exact HNN5, by rw [HJ.out]; exact HP5, HB5x, HQ5x⟩
  case rest =>
  obtain ⟨ra6, n6, cp6, rfl, rfl, HNN6, HP6, HB6x, HQ6x⟩ := hcut
  obtain ⟨wx6, hwx6⟩ : ∃ wx6, wx6 = wc := ⟨_, rfl⟩
  subst hwx6
  clear d0 d1 d2 d3 d4 d5 d6 d7 d8 d9 d10 d11 d12
  clear hlq
  obtain ⟨d0, d1, d2, d3, d4, d5, d6, d7, d8, d9, d10, d11, d12⟩ := run_cells13 HQ6x.out
  have hlq := block_lt HQ6x.out
  go_wp2_with fail
  go_ret2
  exact ⟨ra6, cp6, by rw [HR1.out, ← HNN6.out]; rfl, by rw [HR1.out]; exact HP6, HB6x⟩
end Go.Proofs.Ytcecdklgiocbaaa
