/-
  The contract of the document's own Put, kind 1.
-/
import Derived.Test.YtcecdklgiocbaaaRefP
namespace Go.Proofs.Ytcecdklgiocbaaa
open Go.RowKit
set_option linter.unusedVariables false
set_option linter.unusedSimpArgs false

set_option maxRecDepth 100000 in
set_option maxHeartbeats 2000000 in
theorem rput1_yes {w : World} {a : Option Addr} {len cap : Nat} {xs : List It} (h : View 5 VI w a len cap xs) (hl : len ≤ 65535) (hx : ∀ x ∈ xs, x.key.size ≤ maxLen ∧ x.text.size ≤ maxLen) (M : Nat) (hM : ∀ x ∈ xs, (itemB1 x).1.length ≤ M) (hbd : 65539 + len * M ≤ 140737488355328) {Y : List Int × Int} (hY : Y = listB itemB1 xs) :
    Calls Try.prog 26 #[.int .i64 1, .slice a len cap] w fun e w' => ∃ a cp, e = .returned (.tuple #[.slice a Y.1.length cp, .int .i64 Y.2]) ∧ Hid (Put w' w.heap.size a cp Y.1) ∧ Below w.heap.size w w' := by
  have hlx : xs.length = len := h.1
  have HY : Hid (Y = goB itemB1 xs (putL len 2)) := by
    show _ = _
    rw [hY, listB, if_pos (by omega), hlx]
  have H : Hid (View 5 VI w a len cap xs) := h
  have HX : Hid _ := hx
  have HMM : Hid _ := hM
  have HBL : Hid (∀ b off, a = some ⟨b, off, none⟩ → 0 < len → b < w.heap.size) := fun b off e hp => h.lt e hp
  have HLX : Hid (xs.length = len) := hlx
  have hd : decide ((65535 : Int) < len) = false := by simp; omega
  clear h hx hlx hY hM
  go_enter Try.func26, Try.ntmps26
  go_wp2_with fail
  refine (rput_own len 2 _ (by omega) (by omega) (by omega) (by omega) _ rfl).mono ?_
  rintro e w1 ⟨v, rfl, ho, hB1⟩
  have HO1 : Hid (OwnB w1 w.heap.size v (putL len 2).length (putL len 2)) := by
    show OwnB _ _ _ _ _
    rw [putL_length]; exact ho
  have HR1 : Hid _ := putL_range (len : Int) 2
  clear ho
  go_wp2_with fail
  go_loopw [6, 7] (fun v i wr => ∃ (k : Nat) (acc : List Int), k ≤ len ∧ i = .int .i64 k ∧ Hid (OwnB wr w.heap.size v acc.length acc) ∧ Hid (goB itemB1 (xs.drop k) acc = Y) ∧ acc.length ≤ 2 + k * M ∧
      Hid (∀ j : Nat, 0 ≤ acc[j]?.getD 0 ∧ acc[j]?.getD 0 ≤ 255) ∧ Below w.heap.size w wr) (fun _ i _ => len - (intOf i).toNat)
  case atStart => exact ⟨0, _, by omega, rfl, HO1, HY.out.symm, by rw [putL_length]; omega, HR1, hB1⟩
  case round =>
    obtain ⟨k, acc, hk, rfl, HO, HG, hacc, HR, hB⟩ := hrel
    by_cases hlt : k < len
    · obtain ⟨b, off, a9, l9, c9, rfl, d0w, d1w, d2w, d3w, d4w, hvt⟩ := H.out.item hlt
      have hbw : b < w.heap.size := HBL.out b off rfl (by omega)
      obtain ⟨x, hs⟩ : ∃ x, x = xs.getD k default := ⟨_, rfl⟩
      rw [← hs] at d0w d1w d3w d4w hvt
      have d0 := (hB.cell (p := ⟨b, off + k * 5, none⟩) hbw).trans d0w
      obtain ⟨B, hBt⟩ : ∃ B, B = textB x.key := ⟨_, rfl⟩
      obtain ⟨B2, hB2t⟩ : ∃ B2, B2 = textB x.text := ⟨_, rfl⟩
      obtain ⟨W, hW⟩ : ∃ W, W = itemB1 x := ⟨_, rfl⟩
      have HS : Hid (x = xs.getD k default) := hs
      have HBt : Hid _ := hBt
      have HB2t : Hid (B2 = textB x.text) := hB2t
      have HW : Hid (W = keyB textB (x.key, x.text)) := hW
      have HWI : Hid (W = itemB1 x) := hW
      have HVT : Hid (View 1 VS w a9 l9 c9 x.texts) := hvt
      have HSM : Hid (x.key.size ≤ maxLen ∧ x.text.size ≤ maxLen) := by
        rw [hs, List.getD_eq_getElem?_getD, List.getElem?_eq_getElem (by rw [HLX.out]; exact hlt)]
        exact HX.out _ (List.getElem_mem _)
      have HSL : Hid (W.1.length ≤ M) := by
        rw [hW, hs, List.getD_eq_getElem?_getD, List.getElem?_eq_getElem (by rw [HLX.out]; exact hlt)]
        exact HMM.out _ (List.getElem_mem _)
      have HCL : Hid (w.cell? ⟨b, off + k * 5 + 1, none⟩ = some (.string x.text) ∧ w.cell? ⟨b, off + k * 5 + 2, none⟩ = some (.slice a9 l9 c9) ∧ w.cell? ⟨b, off + k * 5 + 3, none⟩ = some (.int .i64 x.kind) ∧ w.cell? ⟨b, off + k * 5 + 4, none⟩ = some (.string x.bytes)) := ⟨d1w, d2w, d3w, d4w⟩
      have hkM : (k + 1) * M ≤ len * M := Nat.mul_le_mul_right _ (by omega)
      rw [Nat.succ_mul] at hkM
      clear hs hBt hB2t hW hvt d0w d1w d2w d3w d4w
      go_wp2_with fail
      refine (rtext_any x.key _ HSM.out.1 HBt.out).mono ?_
      rintro e w2 ⟨a2, cp2, rfl, HP2, hB2⟩
      have hbl : B.1.length ≤ 65537 := by rw [HBt.out]; exact textB_len x.key
      by_cases he : B.2 = 0
      · have HO2 : Hid (OwnB w2 w.heap.size u6 acc.length acc) := HO.out.old hB2
        have hbs := hB.size
        have hbs2 := hB2.size
        have HBD : Hid (acc.length + B.1.length ≤ 140737488355328) := by
          show _ ≤ _
          omega
        rw [he]
        go_wp2_with (at_builtin; refine wpList_append_bytes rfl (.tmp 38) (.tmp 39) rfl rfl HO2.out rfl HP2.out.2 HBD.out (by omega) ?_)
        intro v3 w3 ho3 hB3
        have HO3 : Hid (OwnB w3 w.heap.size v3 (acc ++ B.1).length (acc ++ B.1)) := append_nil_own ho3
        have HR3 : Hid (∀ j : Nat, 0 ≤ (acc ++ B.1)[j]?.getD 0 ∧ (acc ++ B.1)[j]?.getD 0 ≤ 255) := range_append HR.out HP2.out.2.range
        have hB03 : Below w.heap.size w w3 := (hB.trans (hB2.mono hbs)).trans hB3
        have hbs3 := hB3.size
        have d1 := (hB03.cell (p := ⟨b, off + k * 5 + 1, none⟩) hbw).trans HCL.out.1
        have d2 := (hB03.cell (p := ⟨b, off + k * 5 + 2, none⟩) hbw).trans HCL.out.2.1
        have d3 := (hB03.cell (p := ⟨b, off + k * 5 + 3, none⟩) hbw).trans HCL.out.2.2.1
        have d4 := (hB03.cell (p := ⟨b, off + k * 5 + 4, none⟩) hbw).trans HCL.out.2.2.2
        obtain ⟨A, hA⟩ : ∃ A, A = acc ++ B.1 := ⟨_, rfl⟩
        rw [← hA] at HO3 HR3
        have HA : Hid _ := hA
        clear ho3 hA
        go_wp2_with fail
        refine (rtext_any x.text _ HSM.out.2 HB2t.out).mono ?_
        rintro e w4 ⟨a4, cp4, rfl, HP4, hB4⟩
        by_cases he2 : B2.2 = 0
        · have HWW := keyB_both HW.out HBt.out he HB2t.out he2
          have HG2 : Hid (goB itemB1 (xs.drop (k + 1)) (A ++ B2.1) = Y) := by
            have := goB_step HG.out (by rw [HLX.out]; exact hlt) (by rw [← HS.out, ← HWI.out, HWW])
            rw [← HS.out, ← HWI.out, HWW, ← List.append_assoc, ← HA.out] at this
            exact this
          have hAl : A.length + B2.1.length ≤ 2 + (k + 1) * M := by
            have h1 := HSL.out
            rw [HWW] at h1
            rw [HA.out, List.length_append, Nat.succ_mul]
            simp only [List.length_append] at h1
            omega
          have HO4 : Hid (OwnB w4 w.heap.size v3 A.length A) := HO3.out.old hB4
          have HBD4 : Hid (A.length + B2.1.length ≤ 140737488355328) := by
            show _ ≤ _
            rw [Nat.succ_mul] at hAl
            omega
          have HR4 : Hid (∀ j : Nat, 0 ≤ (A ++ B2.1)[j]?.getD 0 ∧ (A ++ B2.1)[j]?.getD 0 ≤ 255) := range_append HR3.out HP4.out.2.range
          have hbs4 := hB4.size
          have HAL : Hid _ := hAl
          clear HWW hAl
          rw [he2]
          go_wp2_with (at_builtin; refine wpList_append_bytes rfl (.tmp 96) (.tmp 97) rfl rfl HO4.out rfl HP4.out.2 HBD4.out (by omega) ?_)
          intro v5 w5 ho5 hB5
          have HO5 : Hid (OwnB w5 w.heap.size v5 (A ++ B2.1).length (A ++ B2.1)) := append_nil_own ho5
          have hB05 : Below w.heap.size w w5 := (hB03.trans (hB4.mono hB03.size)).trans hB5
          clear ho5
          go_wp2_with fail
          go_roundw
          case rel => exact ⟨k + 1, A ++ B2.1, by omega, by go_num, HO5, HG2, by rw [List.length_append]; exact HAL.out, HR4, hB05⟩
          case measure => simp [intOf]; omega
        · have t : (B2.2 == 0) = false := by simpa using he2
          have HWW := keyB_part HW.out HBt.out he HB2t.out he2
          have HE := goB_stop HG.out (by rw [HLX.out]; exact hlt) (by rw [← HS.out, ← HWI.out, HWW]; exact he2)
          rw [← HS.out, ← HWI.out, HWW] at HE
          have HHE : Hid _ := HE
          clear he2 HE HWW
          go_wp2_with fail
          go_ret2
          exact ⟨none, 0, by rw [HHE.out]; rfl, by rw [HHE.out]; exact put_nil _ _, hB03.trans (hB4.mono hB03.size)⟩
      · have t : (B.2 == 0) = false := by simpa using he
        have HWW := keyB_key HW.out HBt.out he
        have HE := goB_stop HG.out (by rw [HLX.out]; exact hlt) (by rw [← HS.out, ← HWI.out, HWW]; exact he)
        rw [← HS.out, ← HWI.out, HWW] at HE
        have HHE : Hid _ := HE
        clear he HE HWW
        go_wp2_with fail
        go_ret2
        exact ⟨none, 0, by rw [HHE.out]; rfl, by rw [HHE.out]; exact put_nil _ _, hB.trans (hB2.mono hB.size)⟩
    · have HE := goB_end HG.out (by rw [HLX.out]; omega)
      obtain ⟨a2, cp2, hv, hp⟩ := OwnB.put HO.out HR.out
      subst hv
      go_wp2_with fail
      go_ret2
      exact ⟨a2, cp2, by rw [HE]; rfl, by rw [HE]; exact hp, hB⟩

theorem rput1_any {w : World} {a : Option Addr} {len cap : Nat} {xs : List It} (h : View 5 VI w a len cap xs) (hx : ∀ x ∈ xs, x.key.size ≤ maxLen ∧ x.text.size ≤ maxLen) (M : Nat) (hM : ∀ x ∈ xs, (itemB1 x).1.length ≤ M) (hbd : 65539 + len * M ≤ 140737488355328) {Y : List Int × Int} (hY : Y = listB itemB1 xs) :
    Calls Try.prog 26 #[.int .i64 1, .slice a len cap] w fun e w' => ∃ a cp, e = .returned (.tuple #[.slice a Y.1.length cp, .int .i64 Y.2]) ∧ Hid (Put w' w.heap.size a cp Y.1) ∧ Below w.heap.size w w' := by
  by_cases hl : len ≤ 65535
  · exact rput1_yes h hl hx M hM hbd hY
  · refine (rput_long 1 a len cap w (by omega) (Nat.le_trans h.2.1 h.2.2.1)).mono ?_
    rintro e w' ⟨rfl, rfl⟩
    rw [listB, if_neg (by rw [h.1]; exact hl)] at hY
    subst hY
    exact ⟨none, 0, rfl, put_nil _ _, Below.refl _ _⟩
end Go.Proofs.Ytcecdklgiocbaaa
