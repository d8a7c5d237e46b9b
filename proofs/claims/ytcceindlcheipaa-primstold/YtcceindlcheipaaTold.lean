/-
  PrimsTold walked: it answers true, and turns nothing that was there.
-/
import Derived.Test.YtcceindlcheipaaToldMath
import Derived.Test.YtcceindlcheipaaValues
namespace Go.Proofs.Ytcceindlcheipaa
open Go.RowKit
set_option linter.unusedVariables false
set_option linter.unusedSimpArgs false

set_option maxRecDepth 100000 in
set_option maxHeartbeats 400000 in
theorem told_big (N : Int) (a : Option Addr) (len cap : Nat) (w : World) (hc : len ≤ 9223372036854775807) (h : 2000 < len) :
    Calls Try.prog 5 #[.int .u32 N, .slice a len cap] w fun e w' => e = .returned (.bool true) ∧ Below w.heap.size w w' := by
  go_enter Try.func5, Try.ntmps5
  go_wp2_with fail
  refine (awake_any _).mono ?_
  rintro e w1 ⟨rfl, hB1⟩
  go_wp2_with fail
  go_ret
  exact ⟨rfl, hB1⟩

theorem sig_wrap (N : Int) (h0 : 0 ≤ N) (h1 : N < 4294967296) : wrap64 (wrap32 N) = sig N := by
  unfold wrap64 wrap32 sig
  split <;> omega

theorem sig_bounds (N : Int) (h0 : 0 ≤ N) (h1 : N < 4294967296) : -2147483648 ≤ sig N ∧ sig N ≤ 2147483647 := by
  unfold sig
  split <;> omega

theorem own_told (w : World) (N : Int) (h0 : 0 ≤ N) (h1 : N < 4294967296) :
    OwnB (w.alloc (.cells #[.int .u8 (N / 16777216), .int .u8 (N / 65536 % 256), .int .u8 (N / 256 % 256), .int .u8 (N % 256)] 5)) w.heap.size (.slice (some ⟨w.heap.size, 0, none⟩) 4 4) 4 (putL N 4) := by
  have h := own_four w (N / 16777216) (N / 65536 % 256) (N / 256 % 256) (N % 256) w.heap.size w.heap.size rfl (Nat.le_refl _)
  rw [putL_four, show N / 16777216 % 256 = N / 16777216 from by omega]
  exact h

theorem Behind.ok {w : World} {r : Option Addr} {lr cr : Nat} {zs : List Int} {d : Nat} (h : Behind w r lr cr zs d 0) : ∃ b off, r = some ⟨b, off, none⟩ ∧ BRow w b off lr cr (zs.drop d) := by
  rcases h with ⟨h, _⟩ | ⟨_, _, _, b, off, h4, _, h6⟩
  · exact absurd rfl h
  · exact ⟨b, off, h4, h6⟩

set_option maxRecDepth 100000 in
set_option maxHeartbeats 8000000 in
theorem told_small (N : Int) (h0 : 0 ≤ N) (h1 : N < 4294967296) (a : Option Addr) (len cap : Nat) (Z : List Int) (w : World) (h : IsB w a len cap Z) (h2 : len ≤ 2000) :
    Calls Try.prog 5 #[.int .u32 N, .slice a len cap] w fun e w' => e = .returned (.bool true) ∧ Below w.heap.size w w' := by
  have H : Hid (IsB w a len cap Z) := h
  have HL : Hid (Z.length = len) := h.1
  have t2 : decide ((2000 : Int) < len) = false := by simp; omega
  have HN : Hid (0 ≤ N ∧ N < 4294967296) := ⟨h0, h1⟩
  have hk := sig_wrap N h0 h1
  obtain ⟨K, hK⟩ : ∃ K, K = sig N := ⟨_, rfl⟩
  rw [← hK] at hk
  have hKb := sig_bounds N h0 h1
  rw [← hK] at hKb
  obtain ⟨hKb1, hKb2⟩ := hKb
  have HK : Hid (sig N = K) := hK.symm
  have hs := and_low N h0 h1
  obtain ⟨S, hS⟩ := Int.eq_ofNat_of_zero_le (show 0 ≤ N % 65536 by omega)
  have hSb : S < 65536 := by omega
  rw [hS] at hs
  have HS : Hid (N % 65536 = S) := hS
  clear h hK hS
  go_enter Try.func5, Try.ntmps5
  go_wp2_with fail
  refine (awake_any _).mono ?_
  rintro e w1 ⟨rfl, hB1⟩
  have HO1 : Hid _ := own_told w1 N h0 h1
  have hA1 : Below w.heap.size w (w1.alloc (.cells #[.int .u8 (N / 16777216), .int .u8 (N / 65536 % 256), .int .u8 (N / 256 % 256), .int .u8 (N % 256)] 5)) := hB1.alloc hB1.size _
  have HI1 : Hid (IsB _ a len cap Z) := H.out.old hA1
  go_wp2_with (at_builtin; refine wpList_append_bytes rfl (.tmp 38) (.tmp 39) rfl rfl HO1.out rfl HI1.out ?c1 ?c2 ?_)
  case c1 => omega
  case c2 => simp
  intro v2 w2 ho2 hBa
  have hr2 : ∀ j : Nat, 0 ≤ (putL N 4 ++ Z)[j]?.getD 0 ∧ (putL N 4 ++ Z)[j]?.getD 0 ≤ 255 := range_append (putL_range _ _) H.out.range
  obtain ⟨g, cp, rfl, hg, hgs, hR2⟩ := ho2.row (by omega) hr2
  have hcp : 4 + len ≤ cp := hR2.le
  have hcm : cp ≤ maxLen := hR2.cap_le
  unfold maxLen at hcm
  have hA2 : Below w.heap.size w w2 := hA1.trans (hBa.mono (by have := hB1.size; omega))
  have HR2 : Hid (BRow w2 g 0 (4 + len) cp (putL N 4 ++ Z)) := hR2
  clear ho2 hBa hr2 hR2 hA1 HI1 HO1 hB1
  obtain ⟨⟨lk, lb, ld, le⟩, hAL⟩ : ∃ A, longA (putL N 4 ++ Z) = A := ⟨_, rfl⟩
  obtain ⟨⟨vk, vb, vd, ve⟩, hAV⟩ : ∃ A, valueA (putL N 4 ++ Z) = A := ⟨_, rfl⟩
  obtain ⟨⟨tk, tb, td, te⟩, hAT⟩ : ∃ A, textA (putL N 2 ++ Z) = A := ⟨_, rfl⟩
  have HAL : Hid _ := hAL
  have HAV : Hid _ := hAV
  have HAT : Hid _ := hAT
  clear hAL hAV hAT
  go_wp2_with fail
  have hL := getLong_any HR2.out.isB (by omega)
  rw [HAL.out] at hL
  refine hL.mono ?_
  clear hL
  rintro e w3 ⟨r3, lr3, cr3, rfl, HBe3, hB3⟩
  have HR3 : Hid (BRow w3 g 0 (4 + len) cp (putL N 4 ++ Z)) := HR2.out.old hB3
  have hA3 : Below w.heap.size w w3 := hA2.trans (hB3.mono hA2.size)
  clear HR2 hA2 hB3
  go_wp2_with fail
  have hV := getValue_any HR3.out.isB (by omega)
  rw [HAV.out] at hV
  refine hV.mono ?_
  clear hV
  rintro e w4 ⟨r4, lr4, cr4, x4, lx4, cx4, rfl, HX4, HBe4, hB4⟩
  have HB34 : Hid (Behind w4 r3 lr3 cr3 (putL N 4 ++ Z) ld le) := HBe3.out.old hB4
  have hA4 : Below w.heap.size w w4 := hA3.trans (hB4.mono hA3.size)
  have HR4 : Hid (BRow w4 g 0 (4 + len) cp (putL N 4 ++ Z)) := HR3.out.old hB4
  clear HBe3 hA3 hB4 HR3
  go_wp2_with fail
  have hR5 := (HR4.out.old (below_one w4 (.cells #[.int .i64 vk, .slice x4 lx4 cx4] 35))).drop (off' := 2) 2 (by omega) (by omega)
  rw [told_drop] at hR5
  have hT := getText_any hR5.isB (by omega)
  rw [HAT.out] at hT
  refine hT.mono ?_
  clear hT hR5
  rintro e w5 ⟨r5, lr5, cr5, rfl, HBe5, hB5⟩
  obtain ⟨hx0, hx1, hsz5⟩ := box_on hB5
  have hC5 : Below w4.heap.size w4 w5 := (below_one _ _).trans (hB5.mono (by simp))
  have hA5 : Below w.heap.size w w5 := hA4.trans (hC5.mono hA4.size)
  have HX5 : Hid (IsB w5 x4 lx4 cx4 vb) := HX4.out.old hC5
  have HB35 : Hid (Behind w5 r3 lr3 cr3 (putL N 4 ++ Z) ld le) := HB34.out.old hC5
  have HB45 : Hid (Behind w5 r4 lr4 cr4 (putL N 4 ++ Z) vd ve) := HBe4.out.old hC5
  have HB55 : Hid (Behind w5 r5 lr5 cr5 (putL N 2 ++ Z) td te) := HBe5.out
  clear HX4 HB34 HBe4 HBe5 HR4 hA4 hC5 hB5
  have HM : Hid ((convert 22 9 (.slice a len cap)).run Try.prog w5 = .ok (.string (strOfNums Z)) w5) := (H.out.old hA5).conv
  -- what the text tells, in both cases
  have htext : (te = 10 ∧ len < S) ∨ (te = 0 ∧ (S : Int) ≤ len ∧ (strOfNums tb).size = S ∧ (S : Int) + (lr5 : Int) = len) := by
    have e := HAT.out
    by_cases hSl : S ≤ len
    · rw [text_told_yes N Z S HN.out.1 HS.out (by rw [HL.out]; exact hSl)] at e
      cases e
      obtain ⟨b, off, rfl, hR⟩ := Behind.ok HB55.out
      have h5 := hR.len_eq
      rw [told_behind, List.length_drop, HL.out] at h5
      refine .inr ⟨rfl, by omega, ?_, by omega⟩
      rw [strOfNums_size, List.length_take, HL.out]
      omega
    · rw [text_told_no N Z HN.out.1 (by rw [HS.out, HL.out]; omega)] at e
      cases e
      exact .inl ⟨rfl, by omega⟩
  have hlong : (K < -2 ∧ le = 11 ∧ ve = 11) ∨ (K = -2 ∧ le = 11 ∧ ve = 0 ∧ vk = 1) ∨ (K = -1 ∧ le = 11 ∧ ve = 0 ∧ vk = 0) ∨ ((len : Int) < K ∧ le = 10 ∧ ve = 10) ∨
      (∃ k D, K = (k : Nat) ∧ k ≤ len ∧ le = 0 ∧ ve = 0 ∧ vk = 2 ∧ (strOfNums lb).size = k ∧ lx4 = k ∧ D.size ≤ len ∧ strOfNums lb ++ D = strOfNums Z ∧
        (convert 22 9 (.slice r3 lr3 cr3)).run Try.prog w5 = .ok (.string D) w5 ∧ (convert 22 9 (.slice r4 lr4 cr4)).run Try.prog w5 = .ok (.string D) w5) := by
    have e := HAL.out
    have e' := HAV.out
    have hKs := HK.out
    obtain ⟨n0, n1⟩ := HN.out
    by_cases c1 : K < -2
    · rw [long_told_neg N Z n0 n1 (by omega)] at e
      rw [value_told_form N Z n0 n1 (by omega)] at e'
      cases e; cases e'
      exact .inl ⟨c1, rfl, rfl⟩
    by_cases c2 : K = -2
    · rw [long_told_neg N Z n0 n1 (by omega)] at e
      rw [value_told_unset N Z n0 n1 (by omega)] at e'
      cases e; cases e'
      exact .inr (.inl ⟨c2, rfl, rfl, rfl⟩)
    by_cases c3 : K = -1
    · rw [long_told_neg N Z n0 n1 (by omega)] at e
      rw [value_told_null N Z n0 n1 (by omega)] at e'
      cases e; cases e'
      exact .inr (.inr (.inl ⟨c3, rfl, rfl, rfl⟩))
    by_cases c4 : (len : Int) < K
    · rw [long_told_no N Z n0 n1 (by rw [HL.out]; omega)] at e
      rw [value_told_no N Z n0 n1 (by rw [HL.out]; omega)] at e'
      cases e; cases e'
      exact .inr (.inr (.inr (.inl ⟨c4, rfl, rfl⟩)))
    · obtain ⟨k, hk'⟩ := Int.eq_ofNat_of_zero_le (show 0 ≤ K by omega)
      have hkl : k ≤ Z.length := by rw [HL.out]; omega
      rw [long_told_yes N Z k n0 n1 (by omega) hkl] at e
      rw [value_told_yes N Z k n0 n1 (by omega) hkl] at e'
      cases e; cases e'
      obtain ⟨b3, off3, rfl, hR3⟩ := Behind.ok HB35.out
      obtain ⟨b4, off4, rfl, hR4⟩ := Behind.ok HB45.out
      rw [told_behind] at hR3 hR4
      have hx := HX5.out.1
      rw [List.length_take] at hx
      refine .inr (.inr (.inr (.inr ⟨k, strOfNums (Z.drop k), hk', by omega, rfl, rfl, rfl, ?_, by omega, ?_, str_parts Z k, hR3.conv, hR4.conv⟩)))
      · rw [strOfNums_size, List.length_take]; omega
      · rw [strOfNums_size, List.length_drop, HL.out]; omega
  have hcm5 := HM.out
  generalize strOfNums tb = ST at *
  generalize strOfNums lb = SL at *
  generalize strOfNums Z = SZ at *
  clear HX5 HB35 HB45 HB55 HAL HAV HAT HM
  rcases htext with ⟨rfl, hS1⟩ | ⟨rfl, hS1, hS2, hS3⟩
  all_goals
    rcases hlong with ⟨hK1, rfl, rfl⟩ | ⟨rfl, rfl, rfl, rfl⟩ | ⟨rfl, rfl, rfl, rfl⟩ | ⟨hK1, rfl, rfl⟩ | ⟨k, D, rfl, hK1, rfl, rfl, rfl, hK2, rfl, hK3, hK4, hK5, hK6⟩
    · have c1 : K < 0 := by omega
      have c2 : (K == -1) = false := by simp; omega
      have c3 : (K == -2) = false := by simp; omega
      go_wp2_with fail
      go_ret
      exact ⟨by simp, hA5⟩
    · go_wp2_with fail
      go_ret
      exact ⟨by simp, hA5⟩
    · go_wp2_with fail
      go_ret
      exact ⟨by simp, hA5⟩
    · have c1 : decide (K < 0) = false := by simp; omega
      go_wp2_with fail
      go_ret
      exact ⟨by simp, hA5⟩
    · have c1 : decide ((len : Int) < lx4) = false := by simp; omega
      have c2 : decide ((lx4 : Int) < 0) = false := by simp
      have c3 : D.size ≤ 2000 := by omega
      go_wp2_with fail
      go_ret
      exact ⟨by simp, hA5⟩

theorem told_walk (N : Int) (a : Option Addr) (len cap : Nat) (zs : List Int) (w : World) (hN : (Lit.int .u32 N).wf = true) (h : IsRow .u8 w a len cap zs) :
    Calls Try.prog 5 #[.int .u32 N, .slice a len cap] w fun e w' => e = .returned (.bool true) ∧ Below w.heap.size w w' := by
  have hle := h.le
  have hb := bounds_u32 hN
  by_cases hbig : 2000 < len
  · unfold maxLen at hle
    exact told_big N a len cap w (by omega) hbig
  · exact told_small N (by omega) (by omega) a len cap _ w h.isB (by omega)
end Go.Proofs.Ytcceindlcheipaa
