/-
  The walk of OptionTexts.
-/
import Derived.Test.YtakaonfeegfmpaaDoorTexts
namespace Go.Proofs.YtakaonfeegfmpaaDoor
open Go.RowKit
set_option linter.unusedVariables false
set_option linter.unusedSimpArgs false

theorem texts_any {N M : Nat} {F : Nat → Prop} {w : World} {x y : Ty} {na : Option Addr} {nl nc : Nat} {ka : Option Addr} {kl kc : Nat} {ma : Option Addr} {ml mc : Nat} {ja : Option Addr} {jl jc : Nat} (h : TyAt N F w x na nl nc ka kl kc) (k : TyAt M F w y ma ml mc ja jl jc) (hT : Tab w)
    (hx : tlen 26 x ≤ 1099511627776) (hy : tlen 26 y ≤ 1099511627776) :
    Calls Tryd.prog 8 #[.agg #[.int .u16 x.id, .string x.space, .string x.name, .slice na nl nc, .slice ka kl kc], .agg #[.int .u16 y.id, .string y.space, .string y.name, .slice ma ml mc, .slice ja jl jc]] w fun e w' => e = .returned (.bool true) ∧ Below w.heap.size w w' := by
  have H : Hid (TyAt N F w x na nl nc ka kl kc) := h
  have K : Hid (TyAt M F w y ma ml mc ja jl jc) := k
  have HT : Hid (Tab w) := hT
  have HX : Hid _ := hx
  have HY : Hid _ := hy
  obtain ⟨dx, hdx⟩ : ∃ d, d = fewF 26 x := ⟨_, rfl⟩
  obtain ⟨dy, hdy⟩ : ∃ d, d = fewF 26 y := ⟨_, rfl⟩
  obtain ⟨R1, hR1⟩ : ∃ R, R = textT 25 x := ⟨_, rfl⟩
  obtain ⟨R2, hR2⟩ : ∃ R, R = textT 25 y := ⟨_, rfl⟩
  obtain ⟨R3, hR3⟩ : ∃ R, R = textT 26 (ofOne 32 x) := ⟨_, rfl⟩
  obtain ⟨R4, hR4⟩ : ∃ R, R = textT 26 (ofOne 34 y) := ⟨_, rfl⟩
  obtain ⟨R5, hR5⟩ : ∃ R, R = textT 26 (ofTwo 33 x y) := ⟨_, rfl⟩
  obtain ⟨R6, hR6⟩ : ∃ R, R = textT 26 (ofTwo 49 x y) := ⟨_, rfl⟩
  have HDX : Hid _ := hdx
  have HDY : Hid _ := hdy
  have HR1 : Hid _ := hR1
  have HR2 : Hid _ := hR2
  have HR3 : Hid _ := hR3
  have HR4 : Hid _ := hR4
  have HR5 : Hid _ := hR5
  have HR6 : Hid _ := hR6
  clear h k hT hx hy hdx hdy hR1 hR2 hR3 hR4 hR5 hR6
  have HB0 : Hid (Below w.heap.size w ((w.alloc (.cells #[.int .u16 x.id, .string x.space, .string x.name, .slice na nl nc, .slice ka kl kc] 26)).alloc (.cells #[.int .u16 y.id, .string y.space, .string y.name, .slice ma ml mc, .slice ja jl jc] 26))) := (below_one w _).trans ((below_one _ _).mono (by simp))
  go_enter Tryd.func8, Tryd.ntmps8
  go_wp2_with fail
  refine (awake_any _ (HT.out.old HB0.out)).mono ?_
  rintro e w1 ⟨rfl, hB1⟩
  have HW1 : Hid (Below (w.heap.size + 2) ((w.alloc (.cells #[.int .u16 x.id, .string x.space, .string x.name, .slice na nl nc, .slice ka kl kc] 26)).alloc (.cells #[.int .u16 y.id, .string y.space, .string y.name, .slice ma ml mc, .slice ja jl jc] 26)) w1) := hB1.mono (by simp)
  have hw1 : Below w.heap.size w w1 := HB0.out.trans (HW1.out.mono (by omega))
  obtain ⟨⟨a0, a1, a2, a3, a4⟩, ⟨b0, b1, b2, b3, b4⟩, hs⟩ := boxes HW1.out
  clear hB1
  go_wp2_with fail
  refine (few_any (H.out.old hw1) HDX.out).mono ?_
  rintro e w2 ⟨rfl, hB2⟩
  have HW2 : Hid (Below (w.heap.size + 2) ((w.alloc (.cells #[.int .u16 x.id, .string x.space, .string x.name, .slice na nl nc, .slice ka kl kc] 26)).alloc (.cells #[.int .u16 y.id, .string y.space, .string y.name, .slice ma ml mc, .slice ja jl jc] 26)) w2) := HW1.out.trans (hB2.mono (by omega))
  have hw2 : Below w.heap.size w w2 := HB0.out.trans (HW2.out.mono (by omega))
  clear a0 a1 a2 a3 a4 b0 b1 b2 b3 b4 hs hB2
  obtain ⟨⟨a0, a1, a2, a3, a4⟩, ⟨b0, b1, b2, b3, b4⟩, hs⟩ := boxes HW2.out
  go_wp2_with fail
  refine (few_any (K.out.old hw2) HDY.out).mono ?_
  rintro e w3 ⟨rfl, hB3⟩
  have HW3 : Hid (Below (w.heap.size + 2) ((w.alloc (.cells #[.int .u16 x.id, .string x.space, .string x.name, .slice na nl nc, .slice ka kl kc] 26)).alloc (.cells #[.int .u16 y.id, .string y.space, .string y.name, .slice ma ml mc, .slice ja jl jc] 26)) w3) := HW2.out.trans (hB3.mono (by omega))
  have hw3 : Below w.heap.size w w3 := HB0.out.trans (HW3.out.mono (by omega))
  clear a0 a1 a2 a3 a4 b0 b1 b2 b3 b4 hs hB3
  obtain ⟨⟨a0, a1, a2, a3, a4⟩, ⟨b0, b1, b2, b3, b4⟩, hs⟩ := boxes HW3.out
  cases dx with
  | false =>
    go_wp2_with fail
    go_ret
    exact ⟨rfl, hw3⟩
  | true =>
  cases dy with
  | false =>
    go_wp2_with fail
    go_ret
    exact ⟨rfl, hw3⟩
  | true =>
  have HFX : Hid (TyAt 25 F w x na nl nc ka kl kc) := few_fit 26 HDX.out.symm H.out
  have HFY : Hid (TyAt 25 F w y ma ml mc ja jl jc) := few_fit 26 HDY.out.symm K.out
  go_wp2_with fail
  refine (Text_any (HFX.out.old hw3) (HT.out.old hw3) (Nat.le_trans HX.out (by omega)) HR1.out).mono ?_
  rintro e w4 ⟨rfl, hB4⟩
  have HW4 : Hid (Below (w.heap.size + 2) ((w.alloc (.cells #[.int .u16 x.id, .string x.space, .string x.name, .slice na nl nc, .slice ka kl kc] 26)).alloc (.cells #[.int .u16 y.id, .string y.space, .string y.name, .slice ma ml mc, .slice ja jl jc] 26)) w4) := HW3.out.trans (hB4.mono (by omega))
  have hw4 : Below w.heap.size w w4 := HB0.out.trans (HW4.out.mono (by omega))
  clear a0 a1 a2 a3 a4 b0 b1 b2 b3 b4 hs hB4
  obtain ⟨⟨a0, a1, a2, a3, a4⟩, ⟨b0, b1, b2, b3, b4⟩, hs⟩ := boxes HW4.out
  go_wp2_with fail
  refine (Text_any (HFY.out.old hw4) (HT.out.old hw4) (Nat.le_trans HY.out (by omega)) HR2.out).mono ?_
  rintro e w5 ⟨rfl, hB5⟩
  have HW5 : Hid (Below (w.heap.size + 2) ((w.alloc (.cells #[.int .u16 x.id, .string x.space, .string x.name, .slice na nl nc, .slice ka kl kc] 26)).alloc (.cells #[.int .u16 y.id, .string y.space, .string y.name, .slice ma ml mc, .slice ja jl jc] 26)) w5) := HW4.out.trans (hB5.mono (by omega))
  have hw5 : Below w.heap.size w w5 := HB0.out.trans (HW5.out.mono (by omega))
  clear a0 a1 a2 a3 a4 b0 b1 b2 b3 b4 hs hB5
  obtain ⟨⟨a0, a1, a2, a3, a4⟩, ⟨b0, b1, b2, b3, b4⟩, hs⟩ := boxes HW5.out
  go_wp2_with fail
  refine (Text_one (HFX.out.old hw5) (HT.out.old hw5) 32 (by omega) (by omega) rfl rfl (Nat.le_trans HX.out (by omega)) HR3.out).mono ?_
  rintro e w6 ⟨rfl, hB6⟩
  have HW6 : Hid (Below (w.heap.size + 2) ((w.alloc (.cells #[.int .u16 x.id, .string x.space, .string x.name, .slice na nl nc, .slice ka kl kc] 26)).alloc (.cells #[.int .u16 y.id, .string y.space, .string y.name, .slice ma ml mc, .slice ja jl jc] 26)) w6) := HW5.out.trans (hB6.mono (by omega))
  have hw6 : Below w.heap.size w w6 := HB0.out.trans (HW6.out.mono (by omega))
  clear a0 a1 a2 a3 a4 b0 b1 b2 b3 b4 hs hB6
  obtain ⟨⟨a0, a1, a2, a3, a4⟩, ⟨b0, b1, b2, b3, b4⟩, hs⟩ := boxes HW6.out
  go_wp2_with fail
  refine (Text_one (HFY.out.old hw6) (HT.out.old hw6) 34 (by omega) (by omega) rfl rfl (Nat.le_trans HY.out (by omega)) HR4.out).mono ?_
  rintro e w7 ⟨rfl, hB7⟩
  have HW7 : Hid (Below (w.heap.size + 2) ((w.alloc (.cells #[.int .u16 x.id, .string x.space, .string x.name, .slice na nl nc, .slice ka kl kc] 26)).alloc (.cells #[.int .u16 y.id, .string y.space, .string y.name, .slice ma ml mc, .slice ja jl jc] 26)) w7) := HW6.out.trans (hB7.mono (by omega))
  have hw7 : Below w.heap.size w w7 := HB0.out.trans (HW7.out.mono (by omega))
  clear a0 a1 a2 a3 a4 b0 b1 b2 b3 b4 hs hB7
  obtain ⟨⟨a0, a1, a2, a3, a4⟩, ⟨b0, b1, b2, b3, b4⟩, hs⟩ := boxes HW7.out
  go_wp2_with fail
  refine (Text_two (HFX.out.old hw7) (HFY.out.old hw7) (HT.out.old hw7) 33 (by omega) (by omega) rfl rfl (Nat.le_trans HX.out (by omega)) (Nat.le_trans HY.out (by omega)) HR5.out).mono ?_
  rintro e w8 ⟨rfl, hB8⟩
  have HW8 : Hid (Below (w.heap.size + 2) ((w.alloc (.cells #[.int .u16 x.id, .string x.space, .string x.name, .slice na nl nc, .slice ka kl kc] 26)).alloc (.cells #[.int .u16 y.id, .string y.space, .string y.name, .slice ma ml mc, .slice ja jl jc] 26)) w8) := HW7.out.trans (hB8.mono (by omega))
  have hw8 : Below w.heap.size w w8 := HB0.out.trans (HW8.out.mono (by omega))
  clear a0 a1 a2 a3 a4 b0 b1 b2 b3 b4 hs hB8
  obtain ⟨⟨a0, a1, a2, a3, a4⟩, ⟨b0, b1, b2, b3, b4⟩, hs⟩ := boxes HW8.out
  go_wp2_with fail
  refine (Text_two (HFX.out.old hw8) (HFY.out.old hw8) (HT.out.old hw8) 49 (by omega) (by omega) rfl rfl (Nat.le_trans HX.out (by omega)) (Nat.le_trans HY.out (by omega)) HR6.out).mono ?_
  rintro e w9 ⟨rfl, hB9⟩
  have hw9 : Below w.heap.size w w9 := hw8.trans (hB9.mono hw8.size)
  clear a0 a1 a2 a3 a4 b0 b1 b2 b3 b4 hs hB9 hw1 hw2 hw3 hw4 hw5 hw6 hw7 hw8 HW1 HW2 HW3 HW4 HW5 HW6 HW7 HW8
  by_cases h1 : R1.2 = 0
  · by_cases h2 : R2.2 = 0
    · have x0 : (textT 25 x).2 = 0 := by rw [← HR1.out]; exact h1
      have y0 : (textT 25 y).2 = 0 := by rw [← HR2.out]; exact h2
      have hR3 := HR3.out
      have hR4 := HR4.out
      have hR5 := HR5.out
      have hR6 := HR6.out
      rw [one_ok (.inl rfl) x0] at hR3
      rw [one_ok (.inr rfl) y0] at hR4
      rw [two_ok (.inl rfl) x0 y0] at hR5
      rw [two_ok (.inr rfl) x0 y0] at hR6
      by_cases ex : deepB 19 x = true
      · rw [if_pos ex] at hR3
        rw [if_pos (.inl ex)] at hR5 hR6
        subst hR3 hR5 hR6
        rw [h1, h2]
        clear hR4 x0 y0 h1 h2
        go_wp2_with fail
        go_ret
        exact ⟨rfl, hw9⟩
      · rw [if_neg ex] at hR3
        by_cases ey : deepB 19 y = true
        · rw [if_pos ey] at hR4
          rw [if_pos (.inr ey)] at hR5 hR6
          have h3 : R3.2 = 0 := by rw [hR3]
          subst hR4 hR5 hR6
          rw [h1, h2, h3]
          clear hR3 x0 y0 h1 h2 h3
          go_wp2_with fail
          go_ret
          exact ⟨rfl, hw9⟩
        · rw [if_neg ey] at hR4
          rw [if_neg (by rintro (e | e); exact ex e; exact ey e)] at hR5 hR6
          have hX : R1.1 = txt 26 x := by rw [HR1.out, (textT_zero x0).2.2]
          have hY : R2.1 = txt 26 y := by rw [HR2.out, (textT_zero y0).2.2]
          have hz1 : (txt 26 x).size ≤ 1099511627776 := Nat.le_trans (txt_size _ _) HX.out
          have hz2 : (txt 26 y).size ≤ 1099511627776 := Nat.le_trans (txt_size _ _) HY.out
          rw [txt_list] at hR3
          rw [txt_set] at hR4
          rw [txt_map] at hR5
          rw [txt_tuple] at hR6
          clear x0 y0 HR1 HR2 HR3 HR4 HR5 HR6
          subst hR3 hR4 hR5 hR6
          rw [h1, h2, hX, hY]
          clear h1 h2 hX hY
          generalize txt 26 x = X at *
          generalize txt 26 y = Y at *
          go_wp2_with fail
          go_ret
          exact ⟨rfl, hw9⟩
    · have h5 : R5.2 ≠ 0 := by rw [HR5.out]; exact two_err (.inl rfl) (.inr (by rw [← HR2.out]; exact h2))
      have h6 : R6.2 ≠ 0 := by rw [HR6.out]; exact two_err (.inr rfl) (.inr (by rw [← HR2.out]; exact h2))
      have t2 : (R2.2 == 0) = false := by simpa using h2
      have t5 : (R5.2 == 0) = false := by simpa using h5
      have t6 : (R6.2 == 0) = false := by simpa using h6
      rw [h1]
      clear h1 h2 h6
      go_wp2_with fail
      go_ret
      refine ⟨?_, hw9⟩
      show Ending.returned (.bool (R5.snd != 0 && R6.snd != 0)) = _
      rw [bne, t5, bne, t6]; rfl
  · have h5 : R5.2 ≠ 0 := by rw [HR5.out]; exact two_err (.inl rfl) (.inl (by rw [← HR1.out]; exact h1))
    have h6 : R6.2 ≠ 0 := by rw [HR6.out]; exact two_err (.inr rfl) (.inl (by rw [← HR1.out]; exact h1))
    have t1 : (R1.2 == 0) = false := by simpa using h1
    have t5 : (R5.2 == 0) = false := by simpa using h5
    have t6 : (R6.2 == 0) = false := by simpa using h6
    clear h1 h6
    go_wp2_with fail
    go_ret
    refine ⟨?_, hw9⟩
    show Ending.returned (.bool (R5.snd != 0 && R6.snd != 0)) = _
    rw [bne, t5, bne, t6]; rfl
end Go.Proofs.YtakaonfeegfmpaaDoor
