/-
  The document's values: with names, or without.
-/
import Derived.Test.YtcecdklgiocbaaaRefJ8
import Derived.Test.YtcecdklgiocbaaaWr7
import Derived.Test.YtcecdklgiocbaaaMir5
namespace Go.Proofs.Ytcecdklgiocbaaa
open Go.RowKit
set_option maxRecDepth 100000
set_option linter.unusedVariables false
set_option linter.unusedSimpArgs false

/-- A value as the document has it. -/
def VR (_ : World) (x : Vl) (c : Nat → Value) : Prop := c 0 = .int .i64 x.1 ∧ c 1 = .string x.2

theorem View.vr_at {w0 w : World} {a : Option Addr} {len cap : Nat} {ss : List Vl} (h : View 2 VR w0 a len cap ss) (hB : Below w0.heap.size w0 w) {k : Nat} (hk : k < len) :
    ∃ b off, a = some ⟨b, off, none⟩ ∧ w.cell? ⟨b, off + k * 2, none⟩ = some (.int .i64 (ss.getD k default).1) ∧ w.cell? ⟨b, off + k * 2 + 1, none⟩ = some (.string (ss.getD k default).2) := by
  obtain ⟨h1, h2, h3, h4, h5⟩ := h
  obtain ⟨b, off, ha, hb, hc⟩ := h5 (by omega)
  obtain ⟨c, hcell, hv0, hv1⟩ := hc k hk
  have g0 := hcell 0 (by omega)
  have g1 := hcell 1 (by omega)
  rw [hv0] at g0
  rw [hv1] at g1
  refine ⟨b, off, ha, ?_, ?_⟩
  · exact (hB.cell (p := ⟨b, off + k * 2, none⟩) hb).trans (by simpa using g0)
  · exact (hB.cell (p := ⟨b, off + k * 2 + 1, none⟩) hb).trans (by rw [Nat.add_assoc]; exact g1)

theorem View.vs_at {w0 w : World} {a : Option Addr} {len cap : Nat} {bs : List ByteArray} (h : View 1 VS w0 a len cap bs) (hB : Below w0.heap.size w0 w) {k : Nat} (hk : k < len) :
    ∃ b off, a = some ⟨b, off, none⟩ ∧ w.cell? ⟨b, off + k, none⟩ = some (.string (bs.getD k default)) := by
  obtain ⟨h1, h2, h3, h4, h5⟩ := h
  obtain ⟨b, off, ha, hb, hc⟩ := h5 (by omega)
  obtain ⟨c, hcell, hv⟩ := hc k hk
  have g0 := hcell 0 (by omega)
  rw [hv] at g0
  exact ⟨b, off, ha, (hB.cell (p := ⟨b, off + k, none⟩) hb).trans (by simpa using g0)⟩

theorem put_low {w w' : World} {base : Nat} {a : Option Addr} {cp : Nat} {X : List Int} (h : Put w' base a cp X) (hb : w.heap.size ≤ base) : Put w' w.heap.size a cp X := ⟨h.1.mono hb, h.2⟩
theorem countB_nrm (n : Nat) : Nrm (countB n) := by
  unfold countB
  split
  · intro h; exact absurd rfl h
  · intro _; rfl

set_option maxHeartbeats 4000000 in
theorem rvalues_any {w : World} {a : Option Addr} {l c : Nat} {vs : List Vl} (hV : View 2 VR w a l c vs) {na : Option Addr} {nl nc : Nat} {ns : List ByteArray} (hN : View 1 VS w na nl nc ns) (hnl : 0 < nl → nl = l)
    (hsz : ∀ y ∈ vs, y.2.size ≤ 140737488351232) (hnz : ∀ y ∈ ns, y.size ≤ 140737488351232) (hbd : 2 + costV vs + costN ns ≤ 140737488355328) {R : BE} (hR : R = valsB vs ns) :
    Calls Try.prog 33 #[.slice a l c, .slice na nl nc] w fun r w' => ∃ ra cp, r = .returned (.tuple #[.slice ra R.1.length cp, .int .i64 R.2]) ∧ Hid (Put w' w.heap.size ra cp R.1) ∧ Below w.heap.size w w' := by
  have HV : Hid (View 2 VR w a l c vs) := hV
  have HN : Hid (View 1 VS w na nl nc ns) := hN
  have HL : Hid (vs.length = l ∧ ns.length = nl) := ⟨hV.1, hN.1⟩
  have HSZ : Hid (∀ y ∈ vs, y.2.size ≤ 140737488351232) := hsz
  have HNZ : Hid (∀ y ∈ ns, y.size ≤ 140737488351232) := hnz
  have HNL : Hid (0 < nl → nl = l) := hnl
  have hlm : l ≤ maxLen := Nat.le_trans hV.2.1 hV.2.2.1
  have HLM : Hid (l ≤ maxLen) := hlm
  have hnm : nl ≤ maxLen := Nat.le_trans hN.2.1 hN.2.2.1
  unfold maxLen at hlm hnm
  by_cases hz : nl = 0
  · have hns : ns = [] := List.eq_nil_of_length_eq_zero (by rw [hN.1]; exact hz)
    have HY : Hid (goS valueB vs (countB l) = R) := by
      show _ = _
      have h1 := goS_list valueB vs ([], 0)
      rw [unit_seqB (countB_nrm _), unit_seqB (listB_nrm _ _), hV.1] at h1
      rw [h1, hR, valsB, if_pos (by rw [hns]; rfl)]
    have HBD : Hid (2 + costV vs ≤ 140737488355328) := by show _ ≤ _; omega
    clear hV hN hsz hnz hnl hbd hR hns
    subst hz
    go_enter Try.func33, Try.ntmps33
    go_wp2_with fail
    refine (rcount_any l _ HLM.out).mono ?_
    rintro r w1 ⟨ba, bc, rfl, HP1, HB1⟩
    have HB1 : Hid (Below w.heap.size w w1) := HB1
    have HC : Hid ((countB l).1.length ≤ 2) := by show _ ≤ _; unfold countB; split <;> simp [putL_length]
    go_wp2_with fail
    go_loopw [6, 7, 8] (fun b e i wr => ∃ (k : Nat) (S : BE) (ra : Option Addr) (n cp : Nat), k ≤ l ∧ i = .int .i64 k ∧ b = .slice ra n cp ∧ e = .int .i64 S.2 ∧ Hid (n = S.1.length) ∧ Hid (Put wr w.heap.size ra cp S.1) ∧ Hid (Below w.heap.size w wr) ∧ Hid (goS valueB (vs.drop k) S = R) ∧ Hid (Nrm S) ∧ Hid (S.1.length + costV (vs.drop k) ≤ 140737488355328)) (fun _ _ i _ => l - (intOf i).toNat)
    case atStart =>
      refine ⟨0, countB l, ba, _, bc, by omega, rfl, rfl, rfl, rfl, HP1, HB1, HY.out, countB_nrm _, ?_⟩
      have := HC.out
      have := HBD.out
      show _ ≤ _
      rw [List.drop_zero]
      omega
    case round =>
      obtain ⟨k, S, ra, n, cp, hk, rfl, rfl, rfl, HNE, HP2, HB2, HG, HNR, HQ⟩ := hrel
      by_cases hlt : k < l
      · by_cases he : S.2 = 0
        · obtain ⟨b, off, haa, hc0, hc1⟩ := HV.out.vr_at HB2.out hlt
          have hkv : k < vs.length := by rw [HL.out.1]; exact hlt
          obtain ⟨x, hx⟩ : ∃ x, x = vs.getD k default := ⟨_, rfl⟩
          rw [← hx] at hc0 hc1
          have hxs : x.2.size ≤ 140737488351232 := by
            rw [hx, List.getD_eq_getElem?_getD, List.getElem?_eq_getElem hkv]
            exact HSZ.out _ (List.getElem_mem _)
          have HXS : Hid (x.2.size ≤ 140737488351232) := hxs
          have HSTEP : Hid (goS valueB (vs.drop (k + 1)) (seqB S (valueB x)) = R) := by rw [hx]; exact goS_step HG.out hkv
          have HQ2 : Hid (S.1.length + (x.2.size + 4) + costV (vs.drop (k + 1)) ≤ 140737488355328) := by
            have h1 := HQ.out
            have h2 := costV_drop hkv
            rw [← hx] at h2
            show _ ≤ _
            omega
          have hbl := block_lt_of_cell hc0
          obtain ⟨x1, x2⟩ := x
          rw [he]
          have HE : Hid (S.2 = 0) := he
          clear hx hxs he hkv
          subst haa
          simp only at hc0 hc1
          go_wp2_with fail
          refine (rvalue_any x1 x2 _ HXS.out rfl).mono ?_
          rintro r w3 ⟨va, vc, rfl, HP3, HB3⟩
          have HB3 : Hid (Below wr.heap.size wr w3) := HB3
          have HB23 : Hid (Below w.heap.size w w3) := HB2.out.trans (HB3.out.mono HB2.out.size)
          have HI2 : Hid (IsB w3 ra n cp S.1) := by
            have := (HP2.out.2).old HB3.out
            rw [← HNE.out] at this
            exact this
          have HBDJ : Hid (n + (valueB (x1, x2)).1.length ≤ 140737488355328) := by
            have h1 := valueB_len (x1, x2)
            have h2 := HQ2.out
            have h3 := HNE.out
            show _ ≤ _
            simp only at h1 h2
            omega
          obtain ⟨m, hm⟩ : ∃ m, m = (valueB (x1, x2)).1.length := ⟨_, rfl⟩
          rw [← hm]
          have HI3 : Hid (IsB w3 va m vc (valueB (x1, x2)).1) := by rw [hm]; exact HP3.out.2
          rw [← hm] at HBDJ
          have HM : Hid (m = (valueB (x1, x2)).1.length) := hm
          obtain ⟨ev, hev⟩ : ∃ ev, ev = (valueB (x1, x2)).2 := ⟨_, rfl⟩
          rw [← hev]
          have HEV : Hid (ev = (valueB (x1, x2)).2) := hev
          have HJ : Hid (seqB S (valueB (x1, x2)) = seqB (S.1, 0) ((valueB (x1, x2)).1, ev)) := by
            show _ = _
            rw [hev, ← HE.out]
          clear hm hev HP3
          go_wp2_with fail
          refine (join_any HI2.out HI3.out HBDJ.out HJ.out).mono ?_
          rintro r w4 ⟨ja, jc, rfl, HP4, HB4⟩
          have HB4 : Hid (Below w.heap.size w w4) := HB23.out.trans (HB4.mono HB23.out.size)
          go_wp2_with fail
          go_roundw
          case rel =>
            refine ⟨k + 1, seqB S (valueB (x1, x2)), ja, _, jc, by omega, by go_num, rfl, rfl, rfl, put_low HP4.out HB23.out.size, HB4, HSTEP.out, nrm_seq _ _, ?_⟩
            have h1 := seqB_len S (valueB (x1, x2))
            have h2 := valueB_len (x1, x2)
            have h3 := HQ2.out
            show _ ≤ _
            simp only at h2 h3
            omega
          case measure => simp [intOf]; omega
        · have t : (S.2 == 0) = false := by simpa using he
          have HE : Hid (R = S) := by
            have := HG.out
            rw [goS_err valueB _ HNR.out he] at this
            exact this.symm
          clear he
          go_wp2_with fail
          go_ret2
          exact ⟨ra, cp, by rw [HE.out, ← HNE.out]; rfl, by rw [HE.out]; exact HP2, HB2.out⟩
      · have HE : Hid (R = S) := goS_end HG.out (by rw [HL.out.1]; omega) HNR.out
        go_wp2_with fail
        go_ret2
        exact ⟨ra, cp, by rw [HE.out, ← HNE.out]; rfl, by rw [HE.out]; exact HP2, HB2.out⟩
  · have hp : 0 < nl := by omega
    have hnl2 := HNL.out hp
    have hnsl : ¬ ns.length = 0 := by rw [hN.1]; omega
    have hzl : (ns.zip vs).length = l := by rw [List.length_zip, hN.1, hV.1]; omega
    have HZL : Hid ((ns.zip vs).length = l) := hzl
    have HY : Hid (goS (keyB valueB) (ns.zip vs) (countB l) = R) := by
      show _ = _
      have h1 := goS_list (keyB valueB) (ns.zip vs) ([], 0)
      rw [unit_seqB (countB_nrm _), unit_seqB (listB_nrm _ _), hzl] at h1
      rw [h1, hR, valsB, if_neg hnsl]
    have HBD : Hid (2 + costV vs + costN ns ≤ 140737488355328) := hbd
    clear hV hN hsz hnz hnl hbd hR hnsl hzl
    have HPN : Hid (0 < nl) := hp
    subst hnl2
    go_enter Try.func33, Try.ntmps33
    go_wp2_with fail
    refine (rcount_any nl _ HLM.out).mono ?_
    rintro r w1 ⟨ba, bc, rfl, HP1, HB1⟩
    have HB1 : Hid (Below w.heap.size w w1) := HB1
    have HC : Hid ((countB nl).1.length ≤ 2) := by show _ ≤ _; unfold countB; split <;> simp [putL_length]
    go_wp2_with fail
    go_loopw [6, 7, 8] (fun b e i wr => ∃ (k : Nat) (S : BE) (ra : Option Addr) (n cp : Nat), k ≤ nl ∧ i = .int .i64 k ∧ b = .slice ra n cp ∧ e = .int .i64 S.2 ∧ Hid (n = S.1.length) ∧ Hid (Put wr w.heap.size ra cp S.1) ∧ Hid (Below w.heap.size w wr) ∧ Hid (goS (keyB valueB) ((ns.zip vs).drop k) S = R) ∧ Hid (Nrm S) ∧ Hid (S.1.length + costV (vs.drop k) + costN (ns.drop k) ≤ 140737488355328)) (fun _ _ i _ => nl - (intOf i).toNat)
    case atStart =>
      refine ⟨0, countB nl, ba, _, bc, by omega, rfl, rfl, rfl, rfl, HP1, HB1, HY.out, countB_nrm _, ?_⟩
      have := HC.out
      have := HBD.out
      show _ ≤ _
      rw [List.drop_zero, List.drop_zero]
      omega
    case round =>
      obtain ⟨k, S, ra, n, cp, hk, rfl, rfl, rfl, HNE, HP2, HB2, HG, HNR, HQ⟩ := hrel
      by_cases hlt : k < nl
      · by_cases he : S.2 = 0
        · obtain ⟨b, off, haa, hc0, hc1⟩ := HV.out.vr_at HB2.out hlt
          obtain ⟨nb, noff, hna, hn0⟩ := HN.out.vs_at HB2.out hlt
          have hkv : k < vs.length := by rw [HL.out.1]; exact hlt
          have hkn : k < ns.length := by rw [HL.out.2]; exact hlt
          obtain ⟨x, hx⟩ : ∃ x, x = vs.getD k default := ⟨_, rfl⟩
          obtain ⟨y, hy⟩ : ∃ y, y = ns.getD k default := ⟨_, rfl⟩
          rw [← hx] at hc0 hc1
          rw [← hy] at hn0
          have hxs : x.2.size ≤ 140737488351232 := by
            rw [hx, List.getD_eq_getElem?_getD, List.getElem?_eq_getElem hkv]
            exact HSZ.out _ (List.getElem_mem _)
          have hys : y.size ≤ 140737488351232 := by
            rw [hy, List.getD_eq_getElem?_getD, List.getElem?_eq_getElem hkn]
            exact HNZ.out _ (List.getElem_mem _)
          have HXS : Hid (x.2.size ≤ 140737488351232) := hxs
          have HYS : Hid (y.size ≤ maxLen) := by show _ ≤ _; unfold maxLen; omega
          have HSTEP : Hid (goS (keyB valueB) ((ns.zip vs).drop (k + 1)) (seqB (seqB S (textB y)) (valueB x)) = R) := by
            have h1 := goS_step HG.out (by rw [HZL.out]; exact hlt)
            rw [zip_getD hkn hkv, ← hx, ← hy, keyB_seq, ← seqB_assoc] at h1
            exact h1
          have HQ2 : Hid (S.1.length + (x.2.size + 4) + (y.size + 2) + costV (vs.drop (k + 1)) + costN (ns.drop (k + 1)) ≤ 140737488355328) := by
            have h1 := HQ.out
            have h2 := costV_drop hkv
            have h3 := costN_drop hkn
            rw [← hx] at h2
            rw [← hy] at h3
            show _ ≤ _
            omega
          have hbl := block_lt_of_cell hc0
          have hnbl := block_lt_of_cell hn0
          obtain ⟨x1, x2⟩ := x
          rw [he]
          have HE : Hid (S.2 = 0) := he
          clear hx hy hxs hys he hkv hkn
          subst haa hna
          simp only at hc0 hc1
          have hpn := HPN.out
          go_wp2_with fail
          refine (rtext_any y _ HYS.out rfl).mono ?_
          rintro r wT ⟨tva, tvc, rfl, HPT, HBT⟩
          have HBT : Hid (Below wr.heap.size wr wT) := HBT
          have HB2T : Hid (Below w.heap.size w wT) := HB2.out.trans (HBT.out.mono HB2.out.size)
          have HIT0 : Hid (IsB wT ra n cp S.1) := by
            have := (HP2.out.2).old HBT.out
            rw [← HNE.out] at this
            exact this
          have HBDT : Hid (n + (textB y).1.length ≤ 140737488355328) := by
            have h1 := textB_len2 y
            have h2 := HQ2.out
            have h3 := HNE.out
            show _ ≤ _
            omega
          obtain ⟨mt, hmt⟩ : ∃ mt, mt = (textB y).1.length := ⟨_, rfl⟩
          rw [← hmt]
          have HIT : Hid (IsB wT tva mt tvc (textB y).1) := by rw [hmt]; exact HPT.out.2
          rw [← hmt] at HBDT
          obtain ⟨et, het⟩ : ∃ et, et = (textB y).2 := ⟨_, rfl⟩
          rw [← het]
          have HJT : Hid (seqB S (textB y) = seqB (S.1, 0) ((textB y).1, et)) := by
            show _ = _
            rw [het, ← HE.out]
          clear hmt het HPT
          go_wp2_with fail
          refine (join_any HIT0.out HIT.out HBDT.out HJT.out).mono ?_
          rintro r w2 ⟨sa, scp, rfl, HPS, HBS⟩
          have HBR2 : Hid (Below wr.heap.size wr w2) := HBT.out.trans (HBS.mono HBT.out.size)
          have HBS : Hid (Below w.heap.size w w2) := HB2.out.trans (HBR2.out.mono HB2.out.size)
          obtain ⟨S1, hS1⟩ : ∃ S1, S1 = seqB S (textB y) := ⟨_, rfl⟩
          rw [← hS1] at HPS ⊢
          have HS1 : Hid (S1 = seqB S (textB y)) := hS1
          have HS1L : Hid (S1.1.length ≤ S.1.length + (y.size + 2)) := by
            have h1 := seqB_len S (textB y)
            have h2 := textB_len2 y
            show _ ≤ _
            rw [hS1]
            omega
          obtain ⟨n1, hn1⟩ : ∃ n1, n1 = S1.1.length := ⟨_, rfl⟩
          obtain ⟨e1, he1⟩ : ∃ e1, e1 = S1.2 := ⟨_, rfl⟩
          have HIS : Hid (IsB w2 sa n1 scp S1.1) := by rw [hn1]; exact HPS.out.2
          rw [← hn1, ← he1]
          have HN1 : Hid (n1 = S1.1.length) := hn1
          have HE1 : Hid (e1 = S1.2) := he1
          have hc0' : w2.cell? ⟨b, off + k * 2, none⟩ = some (.int .i64 x1) := (HBR2.out.cell (p := ⟨b, off + k * 2, none⟩) hbl).trans hc0
          have hc1' : w2.cell? ⟨b, off + k * 2 + 1, none⟩ = some (.string x2) := (HBR2.out.cell (p := ⟨b, off + k * 2 + 1, none⟩) hbl).trans hc1
          clear hS1 hn1 he1 HPS hc0 hc1 hn0
          go_wp2_with fail
          refine (rvalue_any x1 x2 _ HXS.out rfl).mono ?_
          rintro r w3 ⟨va, vc, rfl, HP3, HB3⟩
          have HB3 : Hid (Below w2.heap.size w2 w3) := HB3
          have HB23 : Hid (Below w.heap.size w w3) := HBS.out.trans (HB3.out.mono HBS.out.size)
          have HI2 : Hid (IsB w3 sa n1 scp S1.1) := HIS.out.old HB3.out
          have HBDJ : Hid (n1 + (valueB (x1, x2)).1.length ≤ 140737488355328) := by
            have h1 := valueB_len (x1, x2)
            have h2 := HQ2.out
            have h3 := HN1.out
            have h4 := HS1L.out
            show _ ≤ _
            simp only at h1 h2
            omega
          obtain ⟨m, hm⟩ : ∃ m, m = (valueB (x1, x2)).1.length := ⟨_, rfl⟩
          rw [← hm]
          have HI3 : Hid (IsB w3 va m vc (valueB (x1, x2)).1) := by rw [hm]; exact HP3.out.2
          rw [← hm] at HBDJ
          obtain ⟨ev, hev⟩ : ∃ ev, ev = (valueB (x1, x2)).2 := ⟨_, rfl⟩
          rw [← hev]
          have HJ : Hid (seqB S1 (valueB (x1, x2)) = seqB (S1.1, e1) ((valueB (x1, x2)).1, ev)) := by
            show _ = _
            rw [hev, HE1.out]
          clear hm hev HP3
          go_wp2_with fail
          refine (join_any HI2.out HI3.out HBDJ.out HJ.out).mono ?_
          rintro r w4 ⟨ja, jc, rfl, HP4, HB4⟩
          have HB4 : Hid (Below w.heap.size w w4) := HB23.out.trans (HB4.mono HB23.out.size)
          go_wp2_with fail
          go_roundw
          case rel =>
            refine ⟨k + 1, seqB S1 (valueB (x1, x2)), ja, _, jc, by omega, by go_num, rfl, rfl, rfl, put_low HP4.out HB23.out.size, HB4, by rw [HS1.out]; exact HSTEP.out, nrm_seq _ _, ?_⟩
            have h1 := seqB_len S1 (valueB (x1, x2))
            have h2 := valueB_len (x1, x2)
            have h3 := HQ2.out
            have h4 := HS1L.out
            show _ ≤ _
            simp only at h2 h3
            omega
          case measure => simp [intOf]; omega
        · have t : (S.2 == 0) = false := by simpa using he
          have HE : Hid (R = S) := by
            have := HG.out
            rw [goS_err (keyB valueB) _ HNR.out he] at this
            exact this.symm
          clear he
          go_wp2_with fail
          go_ret2
          exact ⟨ra, cp, by rw [HE.out, ← HNE.out]; rfl, by rw [HE.out]; exact HP2, HB2.out⟩
      · have HE : Hid (R = S) := goS_end HG.out (by rw [HZL.out]; omega) HNR.out
        go_wp2_with fail
        go_ret2
        exact ⟨ra, cp, by rw [HE.out, ← HNE.out]; rfl, by rw [HE.out]; exact HP2, HB2.out⟩
end Go.Proofs.Ytcecdklgiocbaaa
