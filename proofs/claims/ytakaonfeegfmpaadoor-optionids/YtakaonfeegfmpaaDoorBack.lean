/-
  The walk of OptionBack.
-/
import Derived.Test.YtakaonfeegfmpaaDoorBackLen
namespace Go.Proofs.YtakaonfeegfmpaaDoor
open Go.RowKit
set_option linter.unusedVariables false
set_option linter.unusedSimpArgs false

theorem strOf_len {zs : List Int} : (strOfNums zs).size = zs.length := strOfNums_size zs

theorem rest_isB {w : World} {a r : Option Addr} {lr cr : Nat} {zs : List Int} {d : Nat} (h : Behind w a r lr cr zs d 0) : IsB w r lr cr (zs.drop d) := by
  rcases h with ⟨h, _⟩ | ⟨_, h1, h2, b, o, of, h3, h4, h5, h6⟩
  · exact absurd rfl h
  · subst h4; exact h6.isB

set_option maxHeartbeats 4000000 in
theorem back_any {N : Nat} {F : Nat → Prop} {w : World} {t : Ty} {na : Option Addr} {nl nc : Nat} {ka : Option Addr} {kl kc : Nat} (h : TyAt N F w t na nl nc ka kl kc) (hT : Tab w) {am : Option Addr} {lm cm : Nat} {zs : List Int} (hm : IsB w am lm cm zs) :
    Calls Tryd.prog 5 #[.agg #[.int .u16 t.id, .string t.space, .string t.name, .slice na nl nc, .slice ka kl kc], .slice am lm cm] w fun e w' => e = .returned (.bool true) ∧ Below w.heap.size w w' := by
  have H : Hid (TyAt N F w t na nl nc ka kl kc) := h
  have HT : Hid (Tab w) := hT
  have HM : Hid (IsB w am lm cm zs) := hm
  have hlm : lm ≤ 9223372036854775807 := Nat.le_trans hm.2.1 hm.2.2.1
  obtain ⟨d, hd⟩ : ∃ d, d = fewF 26 t := ⟨_, rfl⟩
  obtain ⟨B, hB⟩ : ∃ B, B = putR 25 t := ⟨_, rfl⟩
  obtain ⟨Y, hY⟩ : ∃ Y, Y = tyR 20 zs := ⟨_, rfl⟩
  have HD : Hid _ := hd
  have HB : Hid _ := hB
  have HY : Hid _ := hY
  have hkl2 := h.kl_le
  unfold maxLen at hkl2
  clear h hT hd hB hY hm
  go_enter Tryd.func5, Tryd.ntmps5
  go_wp2_with fail
  refine (awake_any _ (HT.out.old (below_one _ _))).mono ?_
  rintro e w1 ⟨rfl, hB1⟩
  have hw1 : Below w.heap.size w w1 := (below_one _ _).trans (hB1.mono (by simp))
  have hbx : w1.heap[w.heap.size]? = some (.cells #[.int .u16 t.id, .string t.space, .string t.name, .slice na nl nc, .slice ka kl kc] 26 (0, 0)) := by rw [hB1.block _ (by simp)]; exact heap_alloc_new w _
  obtain ⟨c0, c1, c2, c3, c4⟩ := cells5 hbx
  have HBX : Hid _ := hbx
  have hsz1 : w.heap.size < w1.heap.size := by have := hB1.size; simp at this; omega
  clear hbx hB1
  go_wp2_with fail
  refine (few_any (H.out.old hw1) HD.out).mono ?_
  rintro e w2 ⟨rfl, hB2⟩
  have hw2 : Below w.heap.size w w2 := hw1.trans (hB2.mono hw1.size)
  cases d with
  | false =>
    go_wp2_with fail
    go_ret
    exact ⟨rfl, hw2⟩
  | true =>
    have hsz2 : w.heap.size < w2.heap.size := by have := hB2.size; omega
    have hbx2 : w2.heap[w.heap.size]? = some (.cells #[.int .u16 t.id, .string t.space, .string t.name, .slice na nl nc, .slice ka kl kc] 26 (0, 0)) := by rw [hB2.block _ hsz1]; exact HBX.out
    clear c0 c1 c2 c3 c4
    by_cases h2k : lm ≤ 2000
    · have d2k : decide ((2000 : Int) < lm) = false := by simp; omega
      obtain ⟨c0, c1, c2, c3, c4⟩ := cells5 hbx2
      have HBX2 : Hid _ := hbx2
      have HFIT : Hid (TyAt 25 F w2 t na nl nc ka kl kc) := few_fit 26 HD.out.symm (H.out.old hw2)
      have HW : Hid (wgt (25 + 1) t ≤ 288363600) := few_wgt26 HD.out.symm
      clear hbx2
      go_wp2_with fail
      refine (Put_any HFIT.out (HT.out.old hw2) (by have := HW.out; omega) HB.out).mono ?_
      rintro e w3 ⟨v3, rfl, HA3, hB3⟩
      have hw3 : Below w.heap.size w w3 := hw2.trans (hB3.mono hw2.size)
      obtain ⟨a3, cp3, L, hL, hv3, hi3⟩ := HA3.out.bytes (by rw [HB.out]; exact putR_range _ _)
      subst hv3
      have HI3 : Hid (IsB w3 a3 L cp3 B.1) := hi3
      have HL : Hid _ := hL
      have hLm : L ≤ 288363600 := by rw [hL, HB.out]; have := HW.out; have := putR_len (n := 25) (t := t); omega
      have hbs3 := hB3.size
      have HBX3 : Hid (w3.heap[w.heap.size]? = some (.cells #[.int .u16 t.id, .string t.space, .string t.name, .slice na nl nc, .slice ka kl kc] 26 (0, 0))) := by show _ = _; rw [hB3.block _ hsz2]; exact HBX2.out
      clear hi3 hL c0 c1 c2 c3 c4
      by_cases he : B.2 = 0
      · obtain ⟨hdp, hpr⟩ := putR_ok (show (putR 25 t).2 = 0 by rw [← HB.out]; exact he)
        obtain ⟨X, hX⟩ : ∃ X, X = tyR 20 (B.1 ++ zs) := ⟨_, rfl⟩
        have HXE : Hid (X = ⟨norm 26 t, B.1.length, 0⟩) := by
          show _ = _
          rw [hX, HB.out, hpr]
          exact fits_ty 26 20 t hdp (by rw [← hpr, ← HB.out]; exact he) zs
        have HX : Hid _ := hX
        have HRG : Hid (∀ j : Nat, 0 ≤ (B.1 ++ zs)[j]?.getD 0 ∧ (B.1 ++ zs)[j]?.getD 0 ≤ 255) := range_append (by rw [HB.out]; exact putR_range _ _) HM.out.range
        have HLB : Hid (B.1.length + lm ≤ 140737488355328) := by show _ ≤ _; have := HL.out; omega
        clear hX hdp hpr
        rw [he]
        go_wp2_with (at_builtin; refine wpList_append_keep (base := w2.heap.size) (X := B.1) (zs := zs) rfl (.tmp 39) (.tmp 40) rfl HL.out rfl HA3.out HI3.out rfl (HM.out.old hw3) HLB.out hbs3 ?_)
        intro v4 w4 HA4 HB4 HI4
        obtain ⟨a4, cp4, L4, hL4, hv4, hi4⟩ := HA4.out.bytes HRG.out
        subst hv4
        have HI44 : Hid (IsB w4 a4 L4 cp4 (B.1 ++ zs)) := hi4
        have hL4m : L4 ≤ 300000000 := by rw [hL4, List.length_append]; have := HL.out; have := HM.out.1; omega
        have hw4 : Below w.heap.size w w4 := hw3.trans (HB4.out.mono hw2.size)
        have HBX4 : Hid (w4.heap[w.heap.size]? = some (.cells #[.int .u16 t.id, .string t.space, .string t.name, .slice na nl nc, .slice ka kl kc] 26 (0, 0))) := by show _ = _; rw [HB4.out.block _ hsz2]; exact HBX3.out
        have hsz4 : w.heap.size < w4.heap.size := by have := HB4.out.size; omega
        clear hi4 hL4
        go_wp2_with fail
        refine (Get_any HI44.out (HT.out.old hw4) (by omega) HX.out).mono ?_
        rintro e w5 ⟨r5, lr5, cr5, na5, nl5, nc5, ka5, kl5, kc5, rfl, HTY5, HBH5, hB5⟩
        have hw5 : Below w.heap.size w w5 := hw4.trans (hB5.mono hw4.size)
        have hx1 : X.err = 0 := by rw [HXE.out]
        have HIX : Hid (X.val.id = t.id) := by show _ = _; rw [HXE.out]; rfl
        have hkl5 : kl5 = kl := by
          rw [← HTY5.out.kl_eq, HXE.out]
          show ((norm 26 t).kids).length = _
          rw [norm, List.length_map, HFIT.out.kl_eq]
        subst hkl5
        have HR5 : Hid (IsB w5 r5 lr5 cr5 zs) := by
          have := HBH5.out
          rw [hx1] at this
          have h2 := rest_isB this
          rw [HXE.out, List.drop_left] at h2
          exact h2
        obtain ⟨_, hpx⟩ := back_got (w := w) (a := am) (len := lm) (cap := cm) HX.out HRG.out hx1
        have hgx := got_wgt HRG.out HX.out hx1 (by rw [List.length_append]; have := HL.out; have := HM.out.1; omega)
        obtain ⟨C, hC⟩ : ∃ C, C = putR 19 X.val := ⟨_, rfl⟩
        have HC : Hid _ := hC
        have HCE : Hid (C = (B.1, 0)) := by
          show _ = _
          rw [hC, hpx, HXE.out]
          simp only
          rw [List.take_left]
        have HGX : Hid _ := hgx
        have hs5 := hB5.size
        clear hC hpx hgx
        rw [hx1]
        go_wp2_with fail
        refine (Put_any (HTY5.out.old (below_one _ _)) ((HT.out.old hw5).old (below_one _ _)) HGX.out HC.out).mono ?_
        rintro e w6 ⟨v6, rfl, HA6, hB6⟩
        have hB56 : Below w5.heap.size w5 w6 := (below_one w5 _).trans (hB6.mono (by simp))
        have hC0 : C.2 = 0 := by rw [HCE.out]
        have hA6 := HA6.out
        rw [HCE.out] at hA6
        obtain ⟨a6, cp6, L6, hL6, hv6, hi6⟩ := hA6.bytes (by rw [HB.out]; exact putR_range _ _)
        subst hv6
        have hw6 : Below w.heap.size w w6 := hw5.trans (hB56.mono hw5.size)
        have p4 : w6.cell? ⟨w5.heap.size, 4, none⟩ = some (.slice ka5 kl5 kc5) := (hB6.cell (by simp)).trans (cell_box _ _ _ _ _ rfl)
        have p0 : w6.cell? ⟨w5.heap.size, 0, none⟩ = some (.int .u16 t.id) := by rw [← HIX.out]; exact (hB6.cell (by simp)).trans (cell_box _ _ _ _ _ rfl)
        have hbx6 : w6.heap[w.heap.size]? = some (.cells #[.int .u16 t.id, .string t.space, .string t.name, .slice na nl nc, .slice ka kl5 kc] 26 (0, 0)) := by rw [hB56.block _ (by omega), hB5.block _ hsz4]; exact HBX4.out
        obtain ⟨o0, _, _, _, o4⟩ := cells5 hbx6
        have cv1 := (HR5.out.old hB56).conv
        have cv2 := (HM.out.old hw6).conv
        have cv3 := hi6.conv
        have cv4 := (HI4.out.old (hB5.trans (hB56.mono hB5.size))).conv
        have HZ1 : Hid (∃ Z, Z = strOfNums zs) := ⟨_, rfl⟩
        generalize strOfNums zs = Z3 at *
        generalize strOfNums B.1 = Z4 at *
        have HWK : Hid (Below w.heap.size w w6) := hw6
        rw [hC0]
        clear hC0 hA6 hL6 hi6 hB6 hbx6 hB56 hB5 hx1
        go_wp2_with fail
        refine (Get_any (HM.out.old HWK.out) (HT.out.old HWK.out) (by omega) HY.out).mono ?_
        rintro e w7 ⟨r7, lr7, cr7, na7, nl7, nc7, ka7, kl7, kc7, rfl, HTY7, HBH7, hB7⟩
        have hB07 : Below w.heap.size w w7 := HWK.out.trans (hB7.mono HWK.out.size)
        by_cases he7 : Y.err = 0
        · obtain ⟨hdn, hpq⟩ := back_got (w := w) (a := am) (len := lm) (cap := cm) HY.out HM.out.range he7
          have HRB : Hid (IsB w7 r7 lr7 cr7 (zs.drop Y.done)) := by
            have := HBH7.out
            rw [he7] at this
            exact rest_isB this
          have HPQ : Hid _ := hpq
          have hgw := got_wgt HM.out.range HY.out he7 (by have := HM.out.1; omega)
          have HGW : Hid _ := hgw
          obtain ⟨C3, hC3⟩ : ∃ C3, C3 = putR 19 Y.val := ⟨_, rfl⟩
          have HC3 : Hid _ := hC3
          clear hC3 hpq hgw hdn
          rw [he7]
          go_wp2_with fail
          refine (Put_any (HTY7.out.old (below_one _ _)) ((HT.out.old hB07).old (below_one _ _)) HGW.out HC3.out).mono ?_
          rintro e w8 ⟨v8, rfl, HA8, hB8⟩
          have hB78 : Below w7.heap.size w7 w8 := (below_one w7 _).trans (hB8.mono (by simp))
          have hC0 : C3.2 = 0 := by rw [HC3.out, HPQ.out]
          have hC1 : C3.1 = zs.take Y.done := by rw [HC3.out, HPQ.out]
          have hA8 := HA8.out
          rw [hC1] at hA8
          obtain ⟨a8, cp8, L8, hL8, hv8, hi8⟩ := hA8.bytes (range_take HM.out.range _)
          subst hv8
          have cv1 := hi8.conv
          have cv2 := (HRB.out.old hB78).conv
          have cv3 := (HM.out.old (hB07.trans (hB78.mono hB07.size))).conv
          have hzz : strOfNums (zs.take Y.done) ++ strOfNums (zs.drop Y.done) = strOfNums zs := by rw [str_join, List.take_append_drop]
          have hz1 : (strOfNums (zs.take Y.done)).size ≤ 2000 := by rw [strOf_len, List.length_take]; have := HM.out.1; omega
          have hz2 : (strOfNums (zs.drop Y.done)).size ≤ 2000 := by rw [strOf_len, List.length_drop]; have := HM.out.1; omega
          generalize strOfNums (zs.take Y.done) = Z1 at *
          generalize strOfNums (zs.drop Y.done) = Z2 at *
          generalize strOfNums zs = Z3 at *
          have hfin : Below w.heap.size w w8 := hB07.trans (hB78.mono hB07.size)
          rw [hC0]
          clear hC0 hC1 hA8 hL8 hi8 hB8 hB78 hB7 he7 hB07
          go_wp2_with fail
          go_ret
          exact ⟨rfl, hfin⟩
        · have te : (Y.err == 0) = false := by simpa using he7
          clear he7
          go_wp2_with fail
          go_ret
          exact ⟨rfl, hB07.trans ((below_one w7 _).mono hB07.size)⟩
      · have t2 : (B.2 == 0) = false := by simpa using he
        have HWK : Hid (Below w.heap.size w w3) := hw3
        clear he
        go_wp2_with fail
        refine (Get_any (HM.out.old HWK.out) (HT.out.old HWK.out) (by omega) HY.out).mono ?_
        rintro e w7 ⟨r7, lr7, cr7, na7, nl7, nc7, ka7, kl7, kc7, rfl, HTY7, HBH7, hB7⟩
        have hB07 : Below w.heap.size w w7 := HWK.out.trans (hB7.mono HWK.out.size)
        by_cases he7 : Y.err = 0
        · obtain ⟨hdn, hpq⟩ := back_got (w := w) (a := am) (len := lm) (cap := cm) HY.out HM.out.range he7
          have HRB : Hid (IsB w7 r7 lr7 cr7 (zs.drop Y.done)) := by
            have := HBH7.out
            rw [he7] at this
            exact rest_isB this
          have HPQ : Hid _ := hpq
          have hgw := got_wgt HM.out.range HY.out he7 (by have := HM.out.1; omega)
          have HGW : Hid _ := hgw
          obtain ⟨C3, hC3⟩ : ∃ C3, C3 = putR 19 Y.val := ⟨_, rfl⟩
          have HC3 : Hid _ := hC3
          clear hC3 hpq hgw hdn
          rw [he7]
          go_wp2_with fail
          refine (Put_any (HTY7.out.old (below_one _ _)) ((HT.out.old hB07).old (below_one _ _)) HGW.out HC3.out).mono ?_
          rintro e w8 ⟨v8, rfl, HA8, hB8⟩
          have hB78 : Below w7.heap.size w7 w8 := (below_one w7 _).trans (hB8.mono (by simp))
          have hC0 : C3.2 = 0 := by rw [HC3.out, HPQ.out]
          have hC1 : C3.1 = zs.take Y.done := by rw [HC3.out, HPQ.out]
          have hA8 := HA8.out
          rw [hC1] at hA8
          obtain ⟨a8, cp8, L8, hL8, hv8, hi8⟩ := hA8.bytes (range_take HM.out.range _)
          subst hv8
          have cv1 := hi8.conv
          have cv2 := (HRB.out.old hB78).conv
          have cv3 := (HM.out.old (hB07.trans (hB78.mono hB07.size))).conv
          have hzz : strOfNums (zs.take Y.done) ++ strOfNums (zs.drop Y.done) = strOfNums zs := by rw [str_join, List.take_append_drop]
          have hz1 : (strOfNums (zs.take Y.done)).size ≤ 2000 := by rw [strOf_len, List.length_take]; have := HM.out.1; omega
          have hz2 : (strOfNums (zs.drop Y.done)).size ≤ 2000 := by rw [strOf_len, List.length_drop]; have := HM.out.1; omega
          generalize strOfNums (zs.take Y.done) = Z1 at *
          generalize strOfNums (zs.drop Y.done) = Z2 at *
          generalize strOfNums zs = Z3 at *
          have hfin : Below w.heap.size w w8 := hB07.trans (hB78.mono hB07.size)
          rw [hC0]
          clear hC0 hC1 hA8 hL8 hi8 hB8 hB78 hB7 he7 hB07
          go_wp2_with fail
          go_ret
          exact ⟨rfl, hfin⟩
        · have te : (Y.err == 0) = false := by simpa using he7
          clear he7
          go_wp2_with fail
          go_ret
          exact ⟨rfl, hB07.trans ((below_one w7 _).mono hB07.size)⟩
    · have d2k : (2000 : Int) < lm := by omega
      go_wp2_with fail
      go_ret
      exact ⟨rfl, hw2⟩
end Go.Proofs.YtakaonfeegfmpaaDoor
