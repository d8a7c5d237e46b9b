/-
  The writer: rows.
-/
import Derived.Test.YtnapeecmlkkolaaDoorW11
import Derived.WalkMore
namespace Go.Proofs.YtnapeecmlkkolaaDoor
open Go.RowKit
set_option maxRecDepth 100000
set_option linter.unusedVariables false
set_option linter.unusedSimpArgs false

theorem seqB_dead {S : BE} (hS : Nrm S) (h : S.2 ≠ 0) (B : BE) : seqB S B = S := seqB_keep hS h

set_option maxHeartbeats 4000000 in
theorem wrows {w : World} {p : Nat} {v : Value} {S : BE} (h : Wr w p v S) {a : Option Addr} {len cap : Nat} {xs : List (List Vl)} (hX : Sees 1 (fun z => z < p) (VRowS (fun z => z < p) w) w a len cap xs)
    (hsm : ∀ r ∈ xs, ∀ V ∈ r, V.2.size ≤ 140737488351232) (hbd : S.1.length + 4 + (xs.map rowW).sum ≤ 140737488355328) {R : BE} (hR : R = seqB S (rowsB xs)) :
    Calls Tryd.prog 34 #[.pointer (some ⟨p, 0, none⟩), .slice a len cap] w fun r w' => r = .returned (.tuple #[]) ∧ ∃ v', Hid (Wr w' p v' R) ∧ Hid (Chg p v v' w w') := by
  have HW : Hid (Wr w p v S) := h
  have HX : Hid (Sees 1 (fun z => z < p) (VRowS (fun z => z < p) w) w a len cap xs) := hX
  have HSM : Hid (∀ r ∈ xs, ∀ V ∈ r, V.2.size ≤ 140737488351232) := hsm
  have HRE : Hid (R = seqB S (rowsB xs)) := hR
  have HBD : Hid (S.1.length + 4 + (xs.map rowW).sum ≤ 140737488355328) := hbd
  have hml := hX.max
  unfold maxLen at hml
  have HLN : Hid (xs.length = len) := hX.1
  clear h hX hR hbd hsm
  go_enter Tryd.func34, Tryd.ntmps34
  go_step3
  go_wp2_with fail
  refine (wnumber HW.out (len : Int) (by omega) (by omega) (by have := HBD.out; omega)).mono ?_
  rintro r w1 ⟨rfl, v1, HW1, HC1⟩
  have HX1 : Hid (Sees 1 (fun z => z < p) (VRowS (fun z => z < p) w1) w1 a len cap xs) := HX.out.kept2 stays_rowS HC1.out.1 (fun z _ hz e => by rcases e with e | e; omega; have := (HW.out.far z e).1; omega)
  have HB1 : Hid ((seqB S (intB len)).1.length + ((xs.drop 0).map rowW).sum ≤ 140737488355328) := by
    have h1 := seqB_len S (intB len)
    have h2 : (intB len).1.length = 4 := putL_length _ _
    have h3 := HBD.out
    show _ ≤ _
    rw [List.drop_zero]
    omega
  have HR1 : Hid (seqB (seqB S (intB len)) (goQ rowB (xs.drop 0)) = R) := by
    show _ = _
    rw [HRE.out, List.drop_zero, rowsB, HLN.out, seqB_assoc]
  clear HX HRE HBD
  go_wp2_with fail
  go_step3
  go_wp2_with fail
  go_loopw [14] (fun i wr => ∃ (k : Nat) (Sk : BE) (u : Value), k ≤ len ∧ i = .int .i64 k ∧ Hid (Wr wr p u Sk) ∧ Hid (Sees 1 (fun z => z < p) (VRowS (fun z => z < p) wr) wr a len cap xs) ∧ Hid (seqB Sk (goQ rowB (xs.drop k)) = R) ∧ Hid (Sk.1.length + ((xs.drop k).map rowW).sum ≤ 140737488355328) ∧ Hid (Chg p v u w wr)) (fun i _ => len - (intOf i).toNat)
  case atStart => exact ⟨0, _, v1, by omega, rfl, HW1, HX1, HR1, HB1, HC1⟩
  case round =>
    obtain ⟨k, Sk, u, hk, rfl, HWk, HXk, HRk, HBk, HCk⟩ := hrel
    by_cases hlt2 : k < len
    · obtain ⟨wo, hwo⟩ : ∃ wo, wo = wr := ⟨_, rfl⟩
      subst hwo
      obtain ⟨r, br, ofr, y, ly, cy, hx, rfl, hbr, _, crow, hrow⟩ := HXk.out.row hlt2
      have HXD : Hid (xs.drop k = r :: xs.drop (k + 1)) := drop_cons hx
      have HSR : Hid (∀ V ∈ r, V.2.size ≤ 140737488351232) := HSM.out r (List.mem_of_getElem? hx)
      obtain ⟨W, hW⟩ : ∃ W, W = ((xs.drop (k + 1)).map rowW).sum := ⟨_, rfl⟩
      have HWW : Hid (W = ((xs.drop (k + 1)).map rowW).sum) := hW
      have HJB : Hid (Sk.1.length + (((r.drop 0).map valW).sum + W) ≤ 140737488355328) := by
        have := HBk.out
        rw [sum_drop2 hx, ← hW] at this
        exact this
      obtain ⟨R2, hR2⟩ : ∃ R2, R2 = seqB Sk (rowB r) := ⟨_, rfl⟩
      have HJ0 : Hid (seqB Sk (goQ valueB (r.drop 0)) = R2) := hR2.symm
      have HRN : Hid (seqB R2 (goQ rowB (xs.drop (k + 1))) = R) := by
        show _ = _
        rw [hR2, seqB_assoc, ← HRk.out, HXD.out]
        rfl
      have HROW : Hid (Sees 2 (fun z => z < p) (VVal (fun z => z < p) wo) wo y ly cy r) := hrow
      have hmy := hrow.max
      unfold maxLen at hmy
      have HLY : Hid (r.length = ly) := hrow.1
      clear hx hW hR2 hrow HBk
      go_wp2_with fail
      go_loopw [20] (fun j wr => ∃ (l : Nat) (Sl : BE) (u2 : Value), l ≤ ly ∧ j = .int .i64 l ∧ Hid (Wr wr p u2 Sl) ∧ Hid (Sees 2 (fun z => z < p) (VVal (fun z => z < p) wr) wr y ly cy r) ∧ Hid (Sees 1 (fun z => z < p) (VRowS (fun z => z < p) wr) wr (some ⟨br, ofr, none⟩) len cap xs) ∧ Hid (seqB Sl (goQ valueB (r.drop l)) = R2) ∧ Hid (Sl.1.length + (((r.drop l).map valW).sum + W) ≤ 140737488355328) ∧ Hid (Chg p v u2 w wr)) (fun j _ => ly - (intOf j).toNat)
      case atStart => exact ⟨0, Sk, u, by omega, rfl, HWk, HROW, HXk, HJ0, HJB, HCk⟩
      case round =>
        obtain ⟨l, Sl, u2, hl, rfl, HWl, HYl, HXl, HJl, HBl, HCl⟩ := hrel
        by_cases hlt3 : l < ly
        · obtain ⟨V, bv, ofv, vx, vl, vc, hv, rfl, hbv, _, d0, d1, hIV⟩ := HYl.out.val hlt3
          have HVD : Hid (r.drop l = V :: r.drop (l + 1)) := drop_cons hv
          have HVS : Hid (V.2.size ≤ 140737488351232) := HSR.out V (List.mem_of_getElem? hv)
          obtain ⟨g, hg⟩ : ∃ g, g = wr.heap.size := ⟨_, rfl⟩
          have HGE : Hid (wr.heap.size = g) := hg.symm
          obtain ⟨w3, hw3⟩ : ∃ w3, w3 = wr.alloc (.cells #[.int .i64 V.1, .slice vx vl vc] 26) := ⟨_, rfl⟩
          have HW3E : Hid (wr.alloc (.cells #[.int .i64 V.1, .slice vx vl vc] 26) = w3) := hw3.symm
          have hB3 : Below wr.heap.size wr w3 := by rw [hw3]; exact below_one _ _
          have hg3 : w3.heap[g]? = some (.cells #[.int .i64 V.1, .slice vx vl vc] 26 (0, 0)) := by rw [hw3, hg]; exact heap_alloc_new wr _
          obtain ⟨e0, e1, _, _⟩ := two_cells hg3
          have hlg := block_lt hg3
          have HI3 : Hid (IsB w3 vx vl vc (sNums V.2)) := hIV.1.old hB3
          have HW3 : Hid (Wr w3 p u2 Sl) := HWl.out.new hB3
          have HX3 : Hid (Sees 1 (fun z => z < p) (VRowS (fun z => z < p) w3) w3 (some ⟨br, ofr, none⟩) len cap xs) := HXl.out.kept stays_rowS (fun z hz _ => hB3.block z hz) hB3.size (fun _ _ hf => hf)
          have HY3 : Hid (Sees 2 (fun z => z < p) (VVal (fun z => z < p) w3) w3 (some ⟨bv, ofv, none⟩) ly cy r) := HYl.out.kept stays_val (fun z hz _ => hB3.block z hz) hB3.size (fun _ _ hf => hf)
          have HC3 : Hid (Chg p v u2 w w3) := HCl.out.trans (chg_new hB3)
          obtain ⟨B, hB⟩ : ∃ B, B = valueB V := ⟨_, rfl⟩
          have HBV : Hid (B = valueB V) := hB
          have HBL : Hid (Sl.1.length + (B.1.length + (((r.drop (l + 1)).map valW).sum + W)) ≤ 140737488355328) := by
            have h1 := HBl.out
            rw [sum_drop2 hv] at h1
            have h2 := valueB_len V
            unfold valW at h1
            show _ ≤ _
            rw [hB]
            unfold valW
            omega
          have HJN : Hid (seqB (seqB Sl B) (goQ valueB (r.drop (l + 1))) = R2) := by
            show _ = _
            rw [seqB_assoc, ← HJl.out, HVD.out, hB]
            rfl
          clear hv hg hw3 hB3 hg3 hIV hB HWl HYl HXl HCl HBl
          go_upto_region 7 with fail
          rw [HW3E.out]
          (try rw [HGE.out])
          clear HW3E
          go_wp2_with fail
          refine (value_any V _ HI3.out HVS.out HBV.out).mono ?_
          rintro e wa ⟨a3, cp3, rfl, HP3, hBa⟩
          have HBa : Hid (Below w3.heap.size w3 wa) := hBa
          clear hBa
          go_wp2_with fail
          refine (wpart_new HW3.out HBa.out HP3.out (by have := HBL.out; omega) _).mono ?_
          rintro rr w4 ⟨rfl, u4, HW4, HC4⟩
          rw [BE_eta] at HW4
          have HC4w : Hid (Chg p v u4 w w4) := HC3.out.trans HC4.out
          have HX4 : Hid (Sees 1 (fun z => z < p) (VRowS (fun z => z < p) w4) w4 (some ⟨br, ofr, none⟩) len cap xs) := HX3.out.kept2 stays_rowS HC4.out.1 (fun z _ hz e => by rcases e with e | e; omega; have := (HW3.out.far z e).1; omega)
          have HY4 : Hid (Sees 2 (fun z => z < p) (VVal (fun z => z < p) w4) w4 (some ⟨bv, ofv, none⟩) ly cy r) := HY3.out.kept2 stays_val HC4.out.1 (fun z _ hz e => by rcases e with e | e; omega; have := (HW3.out.far z e).1; omega)
          have HB4 : Hid ((seqB Sl B).1.length + (((r.drop (l + 1)).map valW).sum + W) ≤ 140737488355328) := by
            have h1 := seqB_len Sl B
            have h2 := HBL.out
            show _ ≤ _
            omega
          obtain ⟨S4, hS4⟩ : ∃ S4, S4 = seqB Sl B := ⟨_, rfl⟩
          rw [← hS4] at HW4 HB4 HJN
          have hN4 : Nrm S4 := by rw [hS4]; exact nrm_seq _ _
          have HN4 : Hid (Nrm S4) := hN4
          obtain ⟨k0, k1, kf0, kf1⟩ := two_cells HW4.out.blk
          have hlp4 := HW4.out.lt
          clear hS4 hN4
          by_cases hE : S4.2 = 0
          · rw [hE] at k1
            clear hE
            go_wp2_with fail
            go_roundw
            case rel => exact ⟨l + 1, S4, u4, by omega, by go_num, HW4, HY4, HX4, HJN, HB4, HC4w⟩
            case measure => simp [intOf]; omega
          · have t : (S4.2 != 0) = true := by simpa using hE
            have HE : Hid (R = S4) := by
              show _ = _
              have h1 : R2 = S4 := by rw [← HJN.out, seqB_dead HN4.out hE]
              rw [← HRN.out, h1, seqB_dead HN4.out hE]
            clear hE
            go_wp2_with fail
            try rw [Exit.noGoto_normal]
            go_end0
            exact ⟨rfl, u4, by rw [HE.out]; exact HW4, HC4w⟩
        · have HE : Hid (Sl = R2) := by
            show _ = _
            rw [← HJl.out, List.drop_eq_nil_of_le (by rw [HLY.out]; omega)]
            exact (seqB_unit HWl.out.nrm).symm
          have HBN : Hid (Sl.1.length + ((xs.drop (k + 1)).map rowW).sum ≤ 140737488355328) := by
            have := HBl.out
            rw [HWW.out] at this
            show _ ≤ _
            omega
          have HRN2 : Hid (seqB Sl (goQ rowB (xs.drop (k + 1))) = R) := by rw [HE.out]; exact HRN
          go_wp2_with fail
          go_roundw
          case rel => exact ⟨k + 1, Sl, u2, by omega, by go_num, HWl, HXl, HRN2, HBN, HCl⟩
          case measure => simp [intOf]; omega
    · have HE : Hid (R = Sk) := by
        show _ = _
        rw [← HRk.out, List.drop_eq_nil_of_le (by rw [HLN.out]; omega)]
        exact seqB_unit HWk.out.nrm
      go_wp2_with fail
      try rw [Exit.noGoto_normal]
      go_end0
      exact ⟨rfl, u, by rw [HE.out]; exact HWk, HCk⟩

end Go.Proofs.YtnapeecmlkkolaaDoor
