/-
  The document's body of a batch.
-/
import Derived.Test.YtcecdklgiocbaaaRefX8
namespace Go.Proofs.Ytcecdklgiocbaaa
open Go.RowKit
set_option maxRecDepth 100000
set_option linter.unusedVariables false
set_option linter.unusedSimpArgs false

theorem put_kind {k : Int} (h : 0 ≤ k ∧ k ≤ 255) : putL k 1 = [k] := by
  simp [putL, byteAt, List.range_succ]
  omega
theorem put_up {w : World} {base b : Nat} {a : Option Addr} {cp : Nat} {X : List Int} (h : Put w base a cp X) (hb : b ≤ base) : Put w b a cp X := ⟨h.1.mono hb, h.2⟩
theorem own_of_put {w : World} {base : Nat} {a : Option Addr} {cp n : Nat} {X : List Int} (h : Put w base a cp X) (hn : n = X.length) : OwnB w base (.slice a n cp) n X := by
  rw [hn]; exact h.1
theorem isB_of_put {w : World} {base : Nat} {a : Option Addr} {cp n : Nat} {X : List Int} (h : Put w base a cp X) (hn : n = X.length) : IsB w a n cp X := by
  rw [hn]; exact h.2

set_option maxHeartbeats 16000000 in
theorem xput_13 {w : World} {op : Int} {oa : Option Addr} {ol oc : Nat} {os : List (ByteArray × ByteArray)} {tx id : ByteArray} {co : Int} {a : Option Addr} {l c : Nat} {vs : List Vl} {na : Option Addr} {nl nc : Nat} {ns : List ByteArray} {sk pg : Bool} {pn : Int} {rs : Bool} {k1 : Int} {sb : ByteArray} {se : Bool} {sr : Int} {ti : Bool} {tm : Int} {ea : Option Addr} {el ec : Nat} {es : List ByteArray} {tk : Int} {tb : ByteArray} {kd : Int} {aa : Option Addr} {al ac : Nat} {ss : List St} (hM : RqM w oa ol oc a l c na nl nc ea el ec aa al ac (op, os, tx, id, (co, vs, ns, sk, pg, pn, rs, (k1, sb), se, sr, ti, tm), es, (tk, tb), kd, ss)) (hF : FitQ (op, os, tx, id, (co, vs, ns, sk, pg, pn, rs, (k1, sb), se, sr, ti, tm), es, (tk, tb), kd, ss)) (hol : ol ≤ 1048576) (hop : op = 13) {Y : BE} (hY : Y = seqB (kindB kd) (seqB (listB stB ss) (runB true (co, vs, ns, sk, pg, pn, rs, (k1, sb), se, sr, ti, tm)))) :
    Calls Try.prog 11 #[.agg #[.int .u8 op, .slice oa ol oc, .string tx, .string id, .int .u16 co, .slice a l c, .slice na nl nc, .bool sk, .bool pg, .int .i32 pn, .bool rs, .int .i64 k1, .string sb, .bool se, .int .u16 sr, .bool ti, .int .i64 tm, .slice ea el ec, .int .i64 tk, .string tb, .int .u8 kd, .slice aa al ac]] w fun r w' => ∃ ra cp, r = .returned (.tuple #[.slice ra Y.1.length cp, .int .i64 Y.2]) ∧ Hid (Put w' w.heap.size ra cp Y.1) ∧ Hid (Below w.heap.size w w') := by
  subst hop
  have HY : Hid (Y = seqB (kindB kd) (seqB (listB stB ss) (runB true (co, vs, ns, sk, pg, pn, rs, (k1, sb), se, sr, ti, tm)))) := hY
  have HM : Hid (RqM w oa ol oc a l c na nl nc ea el ec aa al ac (13, os, tx, id, (co, vs, ns, sk, pg, pn, rs, (k1, sb), se, sr, ti, tm), es, (tk, tb), kd, ss)) := hM
  have HF : Hid (FitQ (13, os, tx, id, (co, vs, ns, sk, pg, pn, rs, (k1, sb), se, sr, ti, tm), es, (tk, tb), kd, ss)) := hF
  have HC0 : Hid (16 + tx.size + id.size + costR (co, vs, ns, sk, pg, pn, rs, (k1, sb), se, sr, ti, tm) + costA ss ≤ 140737488351232) := hF.cost
  obtain ⟨w1, hw1⟩ : ∃ w1, w1 = w.alloc (.cells #[.int .u8 13, .slice oa ol oc, .string tx, .string id, .int .u16 co, .slice a l c, .slice na nl nc, .bool sk, .bool pg, .int .i32 pn, .bool rs, .int .i64 k1, .string sb, .bool se, .int .u16 sr, .bool ti, .int .i64 tm, .slice ea el ec, .int .i64 tk, .string tb, .int .u8 kd, .slice aa al ac] 48) := ⟨_, rfl⟩
  have HB1 : Hid (Below w.heap.size w w1) := by rw [hw1]; exact below_one _ _
  have hq : w1.heap[w.heap.size]? = some (.cells #[.int .u8 13, .slice oa ol oc, .string tx, .string id, .int .u16 co, .slice a l c, .slice na nl nc, .bool sk, .bool pg, .int .i32 pn, .bool rs, .int .i64 k1, .string sb, .bool se, .int .u16 sr, .bool ti, .int .i64 tm, .slice ea el ec, .int .i64 tk, .string tb, .int .u8 kd, .slice aa al ac] 48 (0, 0)) := by rw [hw1]; exact heap_alloc_new w _
  have HQ : Hid (w1.heap[w.heap.size]? = some (.cells #[.int .u8 13, .slice oa ol oc, .string tx, .string id, .int .u16 co, .slice a l c, .slice na nl nc, .bool sk, .bool pg, .int .i32 pn, .bool rs, .int .i64 k1, .string sb, .bool se, .int .u16 sr, .bool ti, .int .i64 tm, .slice ea el ec, .int .i64 tk, .string tb, .int .u8 kd, .slice aa al ac] 48 (0, 0))) := hq
  have HW1 : Hid (w.alloc (.cells #[.int .u8 13, .slice oa ol oc, .string tx, .string id, .int .u16 co, .slice a l c, .slice na nl nc, .bool sk, .bool pg, .int .i32 pn, .bool rs, .int .i64 k1, .string sb, .bool se, .int .u16 sr, .bool ti, .int .i64 tm, .slice ea el ec, .int .i64 tk, .string tb, .int .u8 kd, .slice aa al ac] 48) = w1) := hw1.symm
  have hlq := block_lt hq
  obtain ⟨d0, d1, d2, d3, d4, d5, d6, d7, d8, d9, d10, d11, d12, d13, d14, d15, d16, d17, d18, d19, d20, d21⟩ := req_cells hq
  clear hw1 hq hM hF hY
  go_enter Try.func11, Try.ntmps11
  go_upto_region 1 with fail
  rw [HW1.out]
  clear HW1
  have hkr : 0 ≤ kd ∧ kd ≤ 255 := HM.out.kind
  have HAL : Hid (ss.length = al) := HM.out.all.1
  have HA : Hid (View 4 VM4 w aa al ac ss) := HM.out.all
  have HFA : Hid (∀ s ∈ ss, ∀ y ∈ s.vals, y.2.size ≤ 140737488351232) := HF.out.all
  have HALM : Hid (al ≤ maxLen) := Nat.le_trans HM.out.all.2.1 HM.out.all.2.2.1
  have halm := HALM.out
  unfold maxLen at halm
  by_cases hk2 : kd ≤ 2
  case neg =>
    have hk3 : 2 < kd := by omega
    have HE : Hid (Y = ([], 1)) := by
      show _ = _
      rw [HY.out, kindB, if_neg hk2]; rfl
    clear hk2
    go_wp2_with fail
    go_ret2
    exact ⟨none, 0, by rw [HE.out]; rfl, by rw [HE.out]; exact put_nil _ _, HB1⟩
  case pos =>
  have hk3 : ¬ 2 < kd := by omega
  have HKD : Hid (kindB kd = ([kd], 0)) := by show _ = _; rw [kindB, if_pos hk2, put_kind hkr]
  have HKR : Hid (0 ≤ kd ∧ kd ≤ 255) := hkr
  clear hk2
  obtain ⟨wK, hwK⟩ : ∃ wK, wK = w1.alloc (.cells #[.int .u8 kd] 5) := ⟨_, rfl⟩
  have HWK : Hid (w1.alloc (.cells #[.int .u8 kd] 5) = wK) := hwK.symm
  have hBK : Below w1.heap.size w1 wK := by rw [hwK]; exact below_one _ _
  have HBK : Hid (Below w.heap.size w wK) := HB1.out.trans (hBK.mono HB1.out.size)
  have HIK : Hid (IsB wK (some ⟨w1.heap.size, 0, none⟩) 1 1 [kd]) := by rw [hwK]; exact (byte_row8 w1 kd hkr).isB
  have HQK : Hid (wK.heap[w.heap.size]? = some (.cells #[.int .u8 13, .slice oa ol oc, .string tx, .string id, .int .u16 co, .slice a l c, .slice na nl nc, .bool sk, .bool pg, .int .i32 pn, .bool rs, .int .i64 k1, .string sb, .bool se, .int .u16 sr, .bool ti, .int .i64 tm, .slice ea el ec, .int .i64 tk, .string tb, .int .u8 kd, .slice aa al ac] 48 (0, 0))) := (hBK.block _ hlq).trans HQ.out
  clear hwK hBK
  go_upto_region 26 with fail
  rw [HWK.out]
  clear HWK d0 d1 d2 d3 d4 d5 d6 d7 d8 d9 d10 d11 d12 d13 d14 d15 d16 d17 d18 d19 d20 d21 hlq
  obtain ⟨d0, d1, d2, d3, d4, d5, d6, d7, d8, d9, d10, d11, d12, d13, d14, d15, d16, d17, d18, d19, d20, d21⟩ := req_cells HQK.out
  have hlqK := block_lt HQK.out
  go_wp2_with fail
  refine (rcount_any al _ HALM.out).mono ?_
  rintro r wC ⟨ca, cc, rfl, HPC, HBC⟩
  have HBC : Hid (Below wK.heap.size wK wC) := HBC
  have HBwC : Hid (Below w.heap.size w wC) := HBK.out.trans (HBC.out.mono HBK.out.size)
  have HQC : Hid (wC.heap[w.heap.size]? = some (.cells #[.int .u8 13, .slice oa ol oc, .string tx, .string id, .int .u16 co, .slice a l c, .slice na nl nc, .bool sk, .bool pg, .int .i32 pn, .bool rs, .int .i64 k1, .string sb, .bool se, .int .u16 sr, .bool ti, .int .i64 tm, .slice ea el ec, .int .i64 tk, .string tb, .int .u8 kd, .slice aa al ac] 48 (0, 0))) := (HBC.out.block _ hlqK).trans HQK.out
  have hlqC := block_lt HQC.out
  obtain ⟨C, hC⟩ : ∃ C, C = countB al := ⟨_, rfl⟩
  have HCE : Hid (C = countB al) := hC
  rw [← hC] at HPC ⊢
  have HCL : Hid (C.1.length ≤ 2) := by show _ ≤ _; rw [hC]; unfold countB; split <;> simp [putL_length]
  obtain ⟨nc2, hnc2⟩ : ∃ nc2, nc2 = C.1.length := ⟨_, rfl⟩
  obtain ⟨ec2, hec2⟩ : ∃ ec2, ec2 = C.2 := ⟨_, rfl⟩
  rw [← hnc2, ← hec2]
  have HIC : Hid (IsB wC ca nc2 cc C.1) := isB_of_put HPC.out hnc2
  have HIKC : Hid (IsB wC (some ⟨w1.heap.size, 0, none⟩) 1 1 [kd]) := HIK.out.old HBC.out
  have HBD0 : Hid (1 + nc2 ≤ 140737488355328) := by have := HCL.out; show _ ≤ _; omega
  obtain ⟨S0, hS0⟩ : ∃ S0 : BE, S0 = seqB ([kd], 0) C := ⟨_, rfl⟩
  have HS0 : Hid (S0 = seqB ([kd], 0) C) := hS0
  have HJ0 : Hid (S0 = seqB ([kd], 0) (C.1, ec2)) := by show _ = _; rw [hS0, hec2]
  have HS0L : Hid (S0.1.length ≤ 3) := by
    have h1 := seqB_len ([kd], 0) C
    have h2 := HCL.out
    show _ ≤ _
    rw [hS0]
    simp only [List.length_singleton] at h1
    omega
  clear hC hnc2 hec2 HPC hS0
  go_wp2_with fail
  refine (join_any HIKC.out HIC.out HBD0.out HJ0.out).mono ?_
  rintro r w3 ⟨ja, jc, rfl, HP3, HB3x⟩
  have HB3 : Hid (Below w.heap.size w w3) := HBwC.out.trans (HB3x.mono HBwC.out.size)
  have HQ3 : Hid (w3.heap[w.heap.size]? = some (.cells #[.int .u8 13, .slice oa ol oc, .string tx, .string id, .int .u16 co, .slice a l c, .slice na nl nc, .bool sk, .bool pg, .int .i32 pn, .bool rs, .int .i64 k1, .string sb, .bool se, .int .u16 sr, .bool ti, .int .i64 tm, .slice ea el ec, .int .i64 tk, .string tb, .int .u8 kd, .slice aa al ac] 48 (0, 0))) := (HB3x.block _ hlqC).trans HQC.out
  have HP3' : Hid (Put w3 (w.heap.size + 1) ja jc S0.1) := put_up HP3.out hlqC
  obtain ⟨G, hG⟩ : ∃ G, G = seqB (kindB kd) (listB stB ss) := ⟨_, rfl⟩
  have HG0 : Hid (goS stB ss S0 = G) := by
    show _ = _
    rw [hG, HS0.out, HCE.out, ← HAL.out, HKD.out]
    exact goS_list stB ss ([kd], 0)
  have HYG : Hid (Y = seqB G (runB true (co, vs, ns, sk, pg, pn, rs, (k1, sb), se, sr, ti, tm))) := by show _ = _; rw [HY.out, hG, seqB_assoc]
  clear HB3x HP3 hG
  go_wp2_with fail
  go_loopw [10, 12, 13] (fun b e i wr => ∃ (k : Nat) (S : BE), k ≤ al ∧ i = .int .i64 k ∧ (∃ (ra : Option Addr) (n cp : Nat), b = .slice ra n cp ∧ e = .int .i64 S.2 ∧ Hid (n = S.1.length) ∧ Hid (Put wr (w.heap.size + 1) ra cp S.1) ∧ Hid (Below w.heap.size w wr) ∧ Hid (wr.heap[w.heap.size]? = some (.cells #[.int .u8 13, .slice oa ol oc, .string tx, .string id, .int .u16 co, .slice a l c, .slice na nl nc, .bool sk, .bool pg, .int .i32 pn, .bool rs, .int .i64 k1, .string sb, .bool se, .int .u16 sr, .bool ti, .int .i64 tm, .slice ea el ec, .int .i64 tk, .string tb, .int .u8 kd, .slice aa al ac] 48 (0, 0)))) ∧ Hid (goS stB (ss.drop k) S = G) ∧ Hid (Nrm S) ∧ Hid (S.1.length + costA (ss.drop k) ≤ 3 + costA ss)) (fun _ _ i _ => al - (intOf i).toNat)
  case atStart =>
    refine ⟨0, S0, by omega, rfl, ⟨ja, _, jc, rfl, rfl, rfl, HP3', HB3, HQ3⟩, HG0.out, ?_, ?_⟩
    · show Nrm S0; rw [HS0.out]; exact nrm_seq _ _
    · have h1 := HS0L.out
      have h2 := HC0.out
      show _ ≤ _
      rw [List.drop_zero]
      omega
  case round =>
    obtain ⟨k, S, hk, rfl, ⟨ra, n, cp, rfl, rfl, HNE, HPr, HBr, HQr⟩, HG, HNR, HQQ⟩ := hrel
    obtain ⟨d0, d1, d2, d3, d4, d5, d6, d7, d8, d9, d10, d11, d12, d13, d14, d15, d16, d17, d18, d19, d20, d21⟩ := req_cells HQr.out
    have hlqr := block_lt HQr.out
    by_cases hlt : k < al
    · by_cases he : S.2 = 0
      · obtain ⟨b, off, a2, l2, c2, haa, s0, s1, s2, s3, hV2⟩ := HA.out.sm_at HBr.out hlt
        have hkl : k < ss.length := by rw [HAL.out]; exact hlt
        obtain ⟨x, hx⟩ : ∃ x, x = ss.getD k default := ⟨_, rfl⟩
        rw [← hx] at s0 s1 s2 hV2
        have HV2 : Hid (View 2 VR w a2 l2 c2 x.vals) := hV2
        have hmem : x ∈ ss := by
          rw [hx, List.getD_eq_getElem?_getD, List.getElem?_eq_getElem hkl]
          exact List.getElem_mem _
        have HXV : Hid (∀ y ∈ x.vals, y.2.size ≤ 140737488351232) := fun y hy => HFA.out x hmem y hy
        have HSTEP : Hid (goS stB (ss.drop (k + 1)) (seqB S (stB x)) = G) := by rw [hx]; exact goS_step HG.out hkl
        have HQ2 : Hid (S.1.length + (x.text.size + x.id.size + 16 + costV x.vals) + costA (ss.drop (k + 1)) ≤ 3 + costA ss) := by
          have h1 := HQQ.out
          have h2 := costA_drop hkl
          rw [← hx] at h2
          unfold costS at h2
          show _ ≤ _
          omega
        have HE : Hid (S.2 = 0) := he
        have hbl := block_lt_of_cell s0
        have HBW : Hid (b < w.heap.size) := by
          obtain ⟨_, _, _, _, hh⟩ := HA.out
          obtain ⟨b', off', ha', hb', _⟩ := hh (by omega)
          rw [haa] at ha'
          cases ha'
          exact hb'
        rw [he]
        clear hx hmem hkl hV2 he
        subst haa
        obtain ⟨S2, hS2⟩ : ∃ S2, S2 = seqB S (aheadB x) := ⟨_, rfl⟩
        have HS2 : Hid (S2 = seqB S (aheadB x)) := hS2
        have HAH : Hid ((aheadB x).1.length ≤ 1 + (x.id.size + 2) + (4 + x.text.size)) := by
          show _ ≤ _
          unfold aheadB
          split
          · have h4 := seqB_len ([1], 0) (textB x.id)
            have h5 := textB_len2 x.id
            simp only [List.length_singleton] at h4
            omega
          · have h4 := seqB_len ([0], 0) (longB x.text)
            have h5 : (longB x.text).1.length = 4 + x.text.size := by unfold longB; simp only [List.length_append, putL_length, sNums_length]
            simp only [List.length_singleton] at h4
            omega
        have HS2L : Hid (S2.1.length ≤ S.1.length + (7 + x.id.size + x.text.size)) := by
          have h1 := seqB_len S (aheadB x)
          have h2 := HAH.out
          show _ ≤ _
          rw [hS2]
          omega
        clear hS2
        go_upto_if 127 with fail
        go_cut [10, 12] (fun bx ex wx => ∃ (ra : Option Addr) (n cp : Nat), bx = .slice ra n cp ∧ ex = .int .i64 S2.2 ∧ Hid (n = S2.1.length) ∧ Hid (Put wx (w.heap.size + 1) ra cp S2.1) ∧ Hid (Below w.heap.size w wx) ∧ Hid (wx.heap[w.heap.size]? = some (.cells #[.int .u8 13, .slice oa ol oc, .string tx, .string id, .int .u16 co, .slice a l c, .slice na nl nc, .bool sk, .bool pg, .int .i32 pn, .bool rs, .int .i64 k1, .string sb, .bool se, .int .u16 sr, .bool ti, .int .i64 tm, .slice ea el ec, .int .i64 tk, .string tb, .int .u8 kd, .slice (some ⟨b, off, none⟩) al ac] 48 (0, 0))))
        case first =>
          cases hp : x.prep
          case true =>
            rw [hp] at s0
            have HAE : Hid (aheadB x = seqB ([1], 0) (textB x.id)) := by show _ = _; unfold aheadB; rw [if_pos hp]
            have HOA : Hid (OwnB (wr.alloc (.cells #[.int .u8 1] 5)) (w.heap.size + 1) (.slice ra n cp) n S.1) := (own_of_put HPr.out HNE.out).old (below_one _ _)
            have HIA : Hid (IsB (wr.alloc (.cells #[.int .u8 1] 5)) (some ⟨wr.heap.size, 0, none⟩) 1 1 [1]) := (byte_row8 wr 1 ⟨by decide, by decide⟩).isB
            have HBDA : Hid (n + 1 ≤ 140737488355328) := by have h1 := HNE.out; have h2 := HQ2.out; have h3 := HC0.out; show _ ≤ _; omega
            have HSA : Hid (w.heap.size + 1 ≤ (wr.alloc (.cells #[.int .u8 1] 5)).heap.size) := by have := HBr.out.size; show _ ≤ _; simp; omega
            have HFARA : Hid (∀ j, (Value.slice ra n cp).ownBlock = some j → w.heap.size + 1 ≤ j) := fun j e => OwnB.block HOA.out j e
            have HNQ : Hid (¬ (Value.slice ra n cp).ownBlock = some w.heap.size) := fun e => by
              have := HFARA.out _ e
              omega
            have HNB : Hid (¬ (Value.slice ra n cp).ownBlock = some b) := fun e => by
              have := HFARA.out _ e
              have := HBW.out
              omega
            go_wp2_with (at_builtin; refine wpList_append_own rfl (.tmp 128) (.tmp 129) rfl rfl HOA.out rfl HIA.out HBDA.out HSA.out ?_)
            intro v4 w4 ho4 hK4 hv4
            have HB4 : Hid (Below w.heap.size w w4) := (HBr.out.trans ((below_one wr (.cells #[.int .u8 1] 5)).mono HBr.out.size)).trans (hK4.below (by have := HSA.out; omega) (fun j hj e => by have := HFARA.out j e; omega))
            have HBR4 : Hid (wr.heap.size < w4.heap.size) := by have h1 := hK4.size; simp at h1; show _ < _; omega
            have hq4 : w4.heap[w.heap.size]? = some (.cells #[.int .u8 13, .slice oa ol oc, .string tx, .string id, .int .u16 co, .slice a l c, .slice na nl nc, .bool sk, .bool pg, .int .i32 pn, .bool rs, .int .i64 k1, .string sb, .bool se, .int .u16 sr, .bool ti, .int .i64 tm, .slice ea el ec, .int .i64 tk, .string tb, .int .u8 kd, .slice (some ⟨b, off, none⟩) al ac] 48 (0, 0)) := (hK4.block _ (by simp; omega) (fun e => HNQ.out e)).trans (((below_one wr (.cells #[.int .u8 1] 5)).block _ hlqr).trans HQr.out)
            have HQ4 : Hid (w4.heap[w.heap.size]? = some (.cells #[.int .u8 13, .slice oa ol oc, .string tx, .string id, .int .u16 co, .slice a l c, .slice na nl nc, .bool sk, .bool pg, .int .i32 pn, .bool rs, .int .i64 k1, .string sb, .bool se, .int .u16 sr, .bool ti, .int .i64 tm, .slice ea el ec, .int .i64 tk, .string tb, .int .u8 kd, .slice (some ⟨b, off, none⟩) al ac] 48 (0, 0))) := hq4
            have hlq4 := block_lt hq4
            obtain ⟨ya, yc, hv, hp4⟩ := OwnB.put ho4 (range_append HPr.out.2.range HIA.out.range)
            subst hv
            have HP4 : Hid (Put w4 (w.heap.size + 1) ya yc (S.1 ++ [1])) := hp4
            have HC4 : Hid (∀ o, wr.cell? ⟨b, o, none⟩ = w4.cell? ⟨b, o, none⟩) := fun o => ((hK4.cell (p := ⟨b, o, none⟩) (by simp; omega) (fun e => HNB.out e)).trans ((below_one wr (.cells #[.int .u8 1] 5)).cell (p := ⟨b, o, none⟩) hbl)).symm
            have s0' := (HC4.out _).symm.trans s0
            have s1' := (HC4.out _).symm.trans s1
            have s2' := (HC4.out _).symm.trans s2
            have s3' := (HC4.out _).symm.trans s3
            obtain ⟨n4, hn4⟩ : ∃ n4, n4 = (S.1 ++ [1]).length := ⟨_, rfl⟩
            have HN4 : Hid (n4 = (S.1 ++ [1]).length) := hn4
            have hn5 : n4 = n + 1 := by rw [hn4, HNE.out]; simp
            have HN5 : Hid (n4 = n + 1) := hn5
            rw [← hn4]
            have HI4 : Hid (IsB w4 ya n4 yc (S.1 ++ [1])) := isB_of_put HP4.out hn4
            clear ho4 hK4 hv4 hp4 hn4 hn5 s0 s1 s2 s3 hq4 d0 d1 d2 d3 d4 d5 d6 d7 d8 d9 d10 d11 d12 d13 d14 d15 d16 d17 d18 d19 d20 d21
            obtain ⟨d0, d1, d2, d3, d4, d5, d6, d7, d8, d9, d10, d11, d12, d13, d14, d15, d16, d17, d18, d19, d20, d21⟩ := req_cells HQ4.out
            have hb4 : b < w4.heap.size := by have := HBR4.out; omega
            go_wp2_with fail
            refine (rshort_any x.id _ (by have := HQ2.out; have := HC0.out; unfold maxLen; omega) rfl).mono ?_
            rintro r w5 ⟨ta, tc, rfl, HP5, HB45⟩
            have HB45 : Hid (Below w4.heap.size w4 w5) := HB45
            have HB5 : Hid (Below w.heap.size w w5) := HB4.out.trans (HB45.out.mono HB4.out.size)
            have HQ5 : Hid (w5.heap[w.heap.size]? = some (.cells #[.int .u8 13, .slice oa ol oc, .string tx, .string id, .int .u16 co, .slice a l c, .slice na nl nc, .bool sk, .bool pg, .int .i32 pn, .bool rs, .int .i64 k1, .string sb, .bool se, .int .u16 sr, .bool ti, .int .i64 tm, .slice ea el ec, .int .i64 tk, .string tb, .int .u8 kd, .slice (some ⟨b, off, none⟩) al ac] 48 (0, 0))) := (HB45.out.block _ hlq4).trans HQ4.out
            have hlq5 := block_lt HQ5.out
            obtain ⟨nt, hnt⟩ : ∃ nt, nt = (textB x.id).1.length := ⟨_, rfl⟩
            obtain ⟨et, het⟩ : ∃ et, et = (textB x.id).2 := ⟨_, rfl⟩
            rw [← hnt, ← het]
            have HIT : Hid (IsB w5 ta nt tc (textB x.id).1) := isB_of_put HP5.out hnt
            have HI45 : Hid (IsB w5 ya n4 yc (S.1 ++ [1])) := HI4.out.old HB45.out
            have HBDT : Hid (n4 + nt ≤ 140737488355328) := by
              have h1 := HN5.out
              have h2 := textB_len2 x.id
              have h3 := HQ2.out
              have h4 := HC0.out
              have h5 := HNE.out
              show _ ≤ _
              omega
            have HJT : Hid (S2 = seqB (S.1 ++ [1], 0) ((textB x.id).1, et)) := by
              show _ = _
              rw [HS2.out, HAE.out, het, ← seqB_assoc, seqB_ok HE.out rfl]
            clear hnt het HP5
            go_wp2_with fail
            refine (join_any HI45.out HIT.out HBDT.out HJT.out).mono ?_
            rintro r w6 ⟨za, zc, rfl, HP6, HB6x⟩
            have HB6 : Hid (Below w.heap.size w w6) := HB5.out.trans (HB6x.mono HB5.out.size)
            have HQ6 : Hid (w6.heap[w.heap.size]? = some (.cells #[.int .u8 13, .slice oa ol oc, .string tx, .string id, .int .u16 co, .slice a l c, .slice na nl nc, .bool sk, .bool pg, .int .i32 pn, .bool rs, .int .i64 k1, .string sb, .bool se, .int .u16 sr, .bool ti, .int .i64 tm, .slice ea el ec, .int .i64 tk, .string tb, .int .u8 kd, .slice (some ⟨b, off, none⟩) al ac] 48 (0, 0))) := (HB6x.block _ hlq5).trans HQ5.out
            go_wp2_with fail
            go_meet
            case rel => exact ⟨za, _, zc, rfl, rfl, rfl, put_up HP6.out hlq5, HB6, HQ6⟩
          case false =>
            rw [hp] at s0
            have HAE : Hid (aheadB x = seqB ([0], 0) (longB x.text)) := by show _ = _; unfold aheadB; rw [if_neg (by rw [hp]; decide)]
            have HOA : Hid (OwnB (wr.alloc (.cells #[.int .u8 0] 5)) (w.heap.size + 1) (.slice ra n cp) n S.1) := (own_of_put HPr.out HNE.out).old (below_one _ _)
            have HIA : Hid (IsB (wr.alloc (.cells #[.int .u8 0] 5)) (some ⟨wr.heap.size, 0, none⟩) 1 1 [0]) := (byte_row8 wr 0 ⟨by decide, by decide⟩).isB
            have HBDA : Hid (n + 1 ≤ 140737488355328) := by have h1 := HNE.out; have h2 := HQ2.out; have h3 := HC0.out; show _ ≤ _; omega
            have HSA : Hid (w.heap.size + 1 ≤ (wr.alloc (.cells #[.int .u8 0] 5)).heap.size) := by have := HBr.out.size; show _ ≤ _; simp; omega
            have HFARA : Hid (∀ j, (Value.slice ra n cp).ownBlock = some j → w.heap.size + 1 ≤ j) := fun j e => OwnB.block HOA.out j e
            have HNQ : Hid (¬ (Value.slice ra n cp).ownBlock = some w.heap.size) := fun e => by
              have := HFARA.out _ e
              omega
            have HNB : Hid (¬ (Value.slice ra n cp).ownBlock = some b) := fun e => by
              have := HFARA.out _ e
              have := HBW.out
              omega
            go_wp2_with (at_builtin; refine wpList_append_own rfl (.tmp 149) (.tmp 150) rfl rfl HOA.out rfl HIA.out HBDA.out HSA.out ?_)
            intro v4 w4 ho4 hK4 hv4
            have HB4 : Hid (Below w.heap.size w w4) := (HBr.out.trans ((below_one wr (.cells #[.int .u8 0] 5)).mono HBr.out.size)).trans (hK4.below (by have := HSA.out; omega) (fun j hj e => by have := HFARA.out j e; omega))
            have HBR4 : Hid (wr.heap.size < w4.heap.size) := by have h1 := hK4.size; simp at h1; show _ < _; omega
            have hq4 : w4.heap[w.heap.size]? = some (.cells #[.int .u8 13, .slice oa ol oc, .string tx, .string id, .int .u16 co, .slice a l c, .slice na nl nc, .bool sk, .bool pg, .int .i32 pn, .bool rs, .int .i64 k1, .string sb, .bool se, .int .u16 sr, .bool ti, .int .i64 tm, .slice ea el ec, .int .i64 tk, .string tb, .int .u8 kd, .slice (some ⟨b, off, none⟩) al ac] 48 (0, 0)) := (hK4.block _ (by simp; omega) (fun e => HNQ.out e)).trans (((below_one wr (.cells #[.int .u8 0] 5)).block _ hlqr).trans HQr.out)
            have HQ4 : Hid (w4.heap[w.heap.size]? = some (.cells #[.int .u8 13, .slice oa ol oc, .string tx, .string id, .int .u16 co, .slice a l c, .slice na nl nc, .bool sk, .bool pg, .int .i32 pn, .bool rs, .int .i64 k1, .string sb, .bool se, .int .u16 sr, .bool ti, .int .i64 tm, .slice ea el ec, .int .i64 tk, .string tb, .int .u8 kd, .slice (some ⟨b, off, none⟩) al ac] 48 (0, 0))) := hq4
            have hlq4 := block_lt hq4
            obtain ⟨ya, yc, hv, hp4⟩ := OwnB.put ho4 (range_append HPr.out.2.range HIA.out.range)
            subst hv
            have HP4 : Hid (Put w4 (w.heap.size + 1) ya yc (S.1 ++ [0])) := hp4
            have HC4 : Hid (∀ o, wr.cell? ⟨b, o, none⟩ = w4.cell? ⟨b, o, none⟩) := fun o => ((hK4.cell (p := ⟨b, o, none⟩) (by simp; omega) (fun e => HNB.out e)).trans ((below_one wr (.cells #[.int .u8 0] 5)).cell (p := ⟨b, o, none⟩) hbl)).symm
            have s0' := (HC4.out _).symm.trans s0
            have s1' := (HC4.out _).symm.trans s1
            have s2' := (HC4.out _).symm.trans s2
            have s3' := (HC4.out _).symm.trans s3
            obtain ⟨n4, hn4⟩ : ∃ n4, n4 = (S.1 ++ [0]).length := ⟨_, rfl⟩
            have HN4 : Hid (n4 = (S.1 ++ [0]).length) := hn4
            have hn5 : n4 = n + 1 := by rw [hn4, HNE.out]; simp
            have HN5 : Hid (n4 = n + 1) := hn5
            rw [← hn4]
            have HI4 : Hid (IsB w4 ya n4 yc (S.1 ++ [0])) := isB_of_put HP4.out hn4
            clear ho4 hK4 hv4 hp4 hn4 hn5 s0 s1 s2 s3 hq4 d0 d1 d2 d3 d4 d5 d6 d7 d8 d9 d10 d11 d12 d13 d14 d15 d16 d17 d18 d19 d20 d21
            obtain ⟨d0, d1, d2, d3, d4, d5, d6, d7, d8, d9, d10, d11, d12, d13, d14, d15, d16, d17, d18, d19, d20, d21⟩ := req_cells HQ4.out
            have hb4 : b < w4.heap.size := by have := HBR4.out; omega
            go_wp2_with fail
            refine (rlong_put x.text _ (by have := HQ2.out; have := HC0.out; omega)).mono ?_
            rintro r w5 ⟨ta, tc, rfl, HP5, HB45⟩
            have HB45 : Hid (Below w4.heap.size w4 w5) := HB45
            have HB5 : Hid (Below w.heap.size w w5) := HB4.out.trans (HB45.out.mono HB4.out.size)
            have HQ5 : Hid (w5.heap[w.heap.size]? = some (.cells #[.int .u8 13, .slice oa ol oc, .string tx, .string id, .int .u16 co, .slice a l c, .slice na nl nc, .bool sk, .bool pg, .int .i32 pn, .bool rs, .int .i64 k1, .string sb, .bool se, .int .u16 sr, .bool ti, .int .i64 tm, .slice ea el ec, .int .i64 tk, .string tb, .int .u8 kd, .slice (some ⟨b, off, none⟩) al ac] 48 (0, 0))) := (HB45.out.block _ hlq4).trans HQ4.out
            have hlq5 := block_lt HQ5.out
            obtain ⟨nt, hnt⟩ : ∃ nt, nt = (longB x.text).1.length := ⟨_, rfl⟩
            rw [← hnt]
            have HIT : Hid (IsB w5 ta nt tc (longB x.text).1) := isB_of_put HP5.out hnt
            obtain ⟨D, hD⟩ : ∃ D, D = S.1 ++ [0] := ⟨_, rfl⟩
            have HD : Hid (D = S.1 ++ [0]) := hD
            have HDR : Hid (Rng D) := by show Rng D; rw [hD]; exact HI4.out.range
            have HO45 : Hid (OwnB w5 (w.heap.size + 1) (.slice ya n4 yc) n4 D) := by rw [hD]; exact (own_of_put HP4.out HN4.out).old HB45.out
            clear hD
            have HNT : Hid (nt = 4 + x.text.size) := by show _ = _; rw [hnt]; unfold longB; simp only [List.length_append, putL_length, sNums_length]
            have HBDT : Hid (n4 + nt ≤ 140737488355328) := by
              have h1 := HN5.out
              have h2 := HNT.out
              have h3 := HQ2.out
              have h4 := HC0.out
              have h5 := HNE.out
              show _ ≤ _
              omega
            have HS5 : Hid (w.heap.size + 1 ≤ w5.heap.size) := hlq5
            have HFAR5 : Hid (∀ j, (Value.slice ya n4 yc).ownBlock = some j → w.heap.size < j) := fun j e => OwnB.block (own_of_put HP4.out HN4.out) j e
            have HS2E : Hid (S2 = (D ++ (longB x.text).1, 0)) := by
              show _ = _
              rw [HD.out]
              rw [HS2.out, HAE.out, ← seqB_assoc, seqB_ok HE.out rfl, seqB_ok rfl rfl]
            clear hnt HP5
            go_wp2_with (at_builtin; refine wpList_append_own rfl (.tmp 152) (.tmp 159) rfl rfl HO45.out rfl HIT.out HBDT.out HS5.out ?_)
            intro v6 w6 ho6 hK6 hv6
            have HB6 : Hid (Below w.heap.size w w6) := HB5.out.trans (hK6.below (by have := HS5.out; omega) (fun j hj e => by have := HFAR5.out j e; omega))
            have HQ6 : Hid (w6.heap[w.heap.size]? = some (.cells #[.int .u8 13, .slice oa ol oc, .string tx, .string id, .int .u16 co, .slice a l c, .slice na nl nc, .bool sk, .bool pg, .int .i32 pn, .bool rs, .int .i64 k1, .string sb, .bool se, .int .u16 sr, .bool ti, .int .i64 tm, .slice ea el ec, .int .i64 tk, .string tb, .int .u8 kd, .slice (some ⟨b, off, none⟩) al ac] 48 (0, 0))) := (hK6.block _ hlq5 (fun e => by have := HFAR5.out _ e; omega)).trans HQ5.out
            obtain ⟨za, zc, hv, hp6⟩ := OwnB.put ho6 (range_append HDR.out HIT.out.range)
            subst hv
            have HP6 : Hid (Put w6 (w.heap.size + 1) za zc S2.1) := by rw [HS2E.out]; exact hp6
            obtain ⟨n6, hn6⟩ : ∃ n6, n6 = (D ++ (longB x.text).1).length := ⟨_, rfl⟩
            have HN6 : Hid (n6 = S2.1.length) := by show _ = _; rw [HS2E.out, hn6]
            have HZ6 : Hid ((0 : Int) = S2.2) := by show _ = _; rw [HS2E.out]
            rw [← hn6]
            clear ho6 hK6 hv6 hp6 hn6
            go_wp2_with fail
            go_meet
            case rel => exact ⟨za, n6, zc, rfl, by rw [← HZ6.out], HN6, HP6, HB6, HQ6⟩
        case rest =>
          obtain ⟨ra2, n2, cp2, rfl, rfl, HNE2, HP2, HB2, HQ2x⟩ := hcut
          clear d0 d1 d2 d3 d4 d5 d6 d7 d8 d9 d10 d11 d12 d13 d14 d15 d16 d17 d18 d19 d20 d21 s0 s1 s2
          obtain ⟨d0, d1, d2, d3, d4, d5, d6, d7, d8, d9, d10, d11, d12, d13, d14, d15, d16, d17, d18, d19, d20, d21⟩ := req_cells HQ2x.out
          have hlq2 := block_lt HQ2x.out
          have s3' : wc.cell? ⟨b, off + k * 4 + 3, none⟩ = some (.slice a2 l2 c2) := (HB2.out.cell (p := ⟨b, off + k * 4 + 3, none⟩) HBW.out).trans (((HBr.out.cell (p := ⟨b, off + k * 4 + 3, none⟩) HBW.out).symm).trans s3)
          clear s3
          go_wp2_with fail
          refine (rvalues_any (HV2.out.old stays_vr HB2.out) (view_nil 1 VS wc) (fun h => absurd h (by decide)) HXV.out (fun y hy => (by cases hy)) (show 2 + costV x.vals + costN [] ≤ 140737488355328 by have h1 := HQ2.out; have h2 := HC0.out; have : costN [] = 0 := rfl; omega) rfl).mono ?_
          rintro r w5 ⟨va, vc, rfl, HP5, HB25⟩
          have HB25 : Hid (Below wc.heap.size wc w5) := HB25
          have HB5 : Hid (Below w.heap.size w w5) := HB2.out.trans (HB25.out.mono HB2.out.size)
          have HQ5 : Hid (w5.heap[w.heap.size]? = some (.cells #[.int .u8 13, .slice oa ol oc, .string tx, .string id, .int .u16 co, .slice a l c, .slice na nl nc, .bool sk, .bool pg, .int .i32 pn, .bool rs, .int .i64 k1, .string sb, .bool se, .int .u16 sr, .bool ti, .int .i64 tm, .slice ea el ec, .int .i64 tk, .string tb, .int .u8 kd, .slice (some ⟨b, off, none⟩) al ac] 48 (0, 0))) := (HB25.out.block _ hlq2).trans HQ2x.out
          have hlq5 := block_lt HQ5.out
          have hvb : valsB x.vals [] = listB valueB x.vals := rfl
          rw [hvb] at HP5 ⊢
          obtain ⟨nv, hnv⟩ : ∃ nv, nv = (listB valueB x.vals).1.length := ⟨_, rfl⟩
          obtain ⟨ev, hev⟩ : ∃ ev, ev = (listB valueB x.vals).2 := ⟨_, rfl⟩
          rw [← hnv, ← hev]
          have HIV : Hid (IsB w5 va nv vc (listB valueB x.vals).1) := isB_of_put HP5.out hnv
          have HI25 : Hid (IsB w5 ra2 n2 cp2 S2.1) := (isB_of_put HP2.out HNE2.out).old HB25.out
          have HVLN : Hid ((listB valueB x.vals).1.length ≤ 2 + costV x.vals) := valsList_len x.vals
          have HBDV : Hid (n2 + nv ≤ 140737488355328) := by
            have h1 := HNE2.out
            have h2 := HS2L.out
            have h3 := HQ2.out
            have h4 := HC0.out
            have h5 := HVLN.out
            show _ ≤ _
            omega
          have HJV : Hid (seqB S (stB x) = seqB (S2.1, S2.2) ((listB valueB x.vals).1, ev)) := by
            show _ = _
            rw [stB, ← seqB_assoc, ← HS2.out, hev]
          have HSN : Hid ((seqB S (stB x)).1.length ≤ S2.1.length + (2 + costV x.vals)) := by
            have h1 := seqB_len S2 (listB valueB x.vals)
            have h2 := HVLN.out
            show _ ≤ _
            rw [stB, ← seqB_assoc, ← HS2.out]
            omega
          clear hnv hev HP5 hvb
          go_wp2_with fail
          refine (join_any HI25.out HIV.out HBDV.out HJV.out).mono ?_
          rintro r w6 ⟨za, zc, rfl, HP6, HB6x⟩
          have HB6 : Hid (Below w.heap.size w w6) := HB5.out.trans (HB6x.mono HB5.out.size)
          have HQ6 : Hid (w6.heap[w.heap.size]? = some (.cells #[.int .u8 13, .slice oa ol oc, .string tx, .string id, .int .u16 co, .slice a l c, .slice na nl nc, .bool sk, .bool pg, .int .i32 pn, .bool rs, .int .i64 k1, .string sb, .bool se, .int .u16 sr, .bool ti, .int .i64 tm, .slice ea el ec, .int .i64 tk, .string tb, .int .u8 kd, .slice (some ⟨b, off, none⟩) al ac] 48 (0, 0))) := (HB6x.block _ hlq5).trans HQ5.out
          go_wp2_with fail
          go_roundw
          case rel =>
            refine ⟨k + 1, seqB S (stB x), by omega, by go_num, ⟨za, _, zc, rfl, rfl, rfl, put_up HP6.out hlq5, HB6, HQ6⟩, HSTEP.out, nrm_seq _ _, ?_⟩
            have h1 := HSN.out
            have h2 := HS2L.out
            have h3 := HQ2.out
            show _ ≤ _
            omega
          case measure => simp [intOf]; omega
      · have t : (S.2 == 0) = false := by simpa using he
        have t' : (S.2 != 0) = true := by simpa using he
        have HE : Hid (G = S) := by
          have := HG.out
          rw [goS_err stB _ HNR.out he] at this
          exact this.symm
        have HYE : Hid (Y = ([], S.2)) := by show _ = _; rw [HYG.out, HE.out]; exact seqB_err _ he
        clear he
        go_wp2_with fail
        go_ret2
        exact ⟨none, 0, by rw [HYE.out]; rfl, by rw [HYE.out]; exact put_nil _ _, HBr⟩
    · have HE : Hid (G = S) := by
        show _ = _
        have := goS_end HG.out (by rw [HAL.out]; omega) HNR.out
        exact this
      by_cases he : S.2 = 0
      · have HE0 : Hid (S.2 = 0) := he
        obtain ⟨Q, hQ⟩ : ∃ Q, Q = runB true (co, vs, ns, sk, pg, pn, rs, (k1, sb), se, sr, ti, tm) := ⟨_, rfl⟩
        have HQL : Hid (Q.1.length ≤ costR (co, vs, ns, sk, pg, pn, rs, (k1, sb), se, sr, ti, tm)) := by show _ ≤ _; rw [hQ]; exact runB_len _ _
        have HQE : Hid (Q = runB true (co, vs, ns, sk, pg, pn, rs, (k1, sb), se, sr, ti, tm)) := hQ
        rw [he]
        clear hQ he
        go_wp2_with fail
        refine (rrun_any true (HM.out.vals.old stays_vr HBr.out) (HM.out.names.old stays_s HBr.out) HM.out.cons HM.out.serial HM.out.page HM.out.time HF.out.run.1 HF.out.run.2.1 HF.out.run.2.2 (show costR (co, vs, ns, sk, pg, pn, rs, (k1, sb), se, sr, ti, tm) ≤ 140737488351232 by have := HC0.out; omega) HQE.out).mono ?_
        rintro r w5 ⟨qa, qc, rfl, HPQ, HB35⟩
        have HB5 : Hid (Below w.heap.size w w5) := HBr.out.trans (HB35.out.mono HBr.out.size)
        obtain ⟨nq, hnq⟩ : ∃ nq, nq = Q.1.length := ⟨_, rfl⟩
        obtain ⟨eq, heq⟩ : ∃ eq, eq = Q.2 := ⟨_, rfl⟩
        rw [← hnq, ← heq]
        have HIQ : Hid (IsB w5 qa nq qc Q.1) := isB_of_put HPQ.out hnq
        have HI5 : Hid (IsB w5 ra n cp S.1) := (isB_of_put HPr.out HNE.out).old HB35.out
        have HBDJ : Hid (n + nq ≤ 140737488355328) := by
          have h1 := HQQ.out
          have h2 := HQL.out
          have h3 := HC0.out
          have h4 := HNE.out
          show _ ≤ _
          omega
        have HJ : Hid (Y = seqB (S.1, 0) (Q.1, eq)) := by
          show _ = _
          rw [HYG.out, HE.out, heq, ← HQE.out, ← HE0.out]
        clear hnq heq HPQ
        go_wp2_with fail
        refine (join_any HI5.out HIQ.out HBDJ.out HJ.out).mono ?_
        rintro r w6 ⟨za, zc, rfl, HP6, HB6⟩
        have HB6 : Hid (Below w.heap.size w w6) := HB5.out.trans (HB6.mono HB5.out.size)
        go_wp2_with fail
        go_ret2
        exact ⟨za, zc, rfl, put_low HP6.out HB5.out.size, HB6⟩
      · have t : (S.2 == 0) = false := by simpa using he
        have t' : (S.2 != 0) = true := by simpa using he
        have HYE : Hid (Y = ([], S.2)) := by show _ = _; rw [HYG.out, HE.out]; exact seqB_err _ he
        clear he
        go_wp2_with fail
        go_ret2
        exact ⟨none, 0, by rw [HYE.out]; rfl, by rw [HYE.out]; exact put_nil _ _, HBr⟩
end Go.Proofs.Ytcecdklgiocbaaa
