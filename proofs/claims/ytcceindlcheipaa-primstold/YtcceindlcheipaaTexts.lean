/-
  PrimsTexts walked: it answers true, and turns nothing that was there.
-/
import Derived.Test.YtcceindlcheipaaPair
import Derived.Deep.RegionHeld
namespace Go.Proofs.Ytcceindlcheipaa
open Go.RowKit
set_option linter.unusedVariables false
set_option linter.unusedSimpArgs false

theorem OwnB.found {w : World} {base : Nat} {v : Value} {n : Nat} {X : List Int} (h : OwnB w base v n X) (hp : 0 < n) (hr : ∀ j : Nat, 0 ≤ X[j]?.getD 0 ∧ X[j]?.getD 0 ≤ 255) :
    ∃ g cap, v = .slice (some ⟨g, 0, none⟩) n cap ∧ Hid (BRow w g 0 n cap X) := by
  obtain ⟨g, cap, hv, _, _, hR⟩ := h.row hp hr
  exact ⟨g, cap, hv, hR⟩

theorem long_in (s : ByteArray) (hs : s.size ≤ 3000) (W0 W : World) (hW : Below W0.heap.size W0 W) (T : ByteArray) (hT : T = strOfNums (putL s.size 4 ++ sNums s)) :
    Calls Try.prog 9 #[.string s] W fun e w' => ∃ g cp, e = .returned (.slice (some ⟨g, 0, none⟩) (4 + s.size) cp) ∧ Hid (BRow w' g 0 (4 + s.size) cp (putL s.size 4 ++ sNums s)) ∧
      (convert 22 9 (.slice (some ⟨g, 0, none⟩) (4 + s.size) cp)).run Try.prog w' = .ok (.string T) w' ∧ Below W0.heap.size W0 w' := by
  refine (long_yes s W (by omega)).mono ?_
  rintro e w' ⟨v, rfl, ho, hB⟩
  obtain ⟨g, cp, rfl, HR⟩ := ho.found (by omega) (range_append (putL_range _ _) (sNums_range s))
  exact ⟨g, cp, rfl, HR, by rw [hT]; exact HR.out.conv, hW.trans (hB.mono hW.size)⟩

theorem rlong_in (s : ByteArray) (hs : s.size ≤ 3000) (W0 W : World) (hW : Below W0.heap.size W0 W) (T : ByteArray) (hT : T = strOfNums (putL s.size 4 ++ sNums s))
    (g0 cp0 : Nat) (h0 : BRow W g0 0 (4 + s.size) cp0 (putL s.size 4 ++ sNums s)) :
    Calls Try.prog 10 #[.string s] W fun e w' => ∃ g cp, e = .returned (.slice (some ⟨g, 0, none⟩) (4 + s.size) cp) ∧
      (convert 22 9 (.slice (some ⟨g, 0, none⟩) (4 + s.size) cp)).run Try.prog w' = .ok (.string T) w' ∧
      (convert 22 9 (.slice (some ⟨g0, 0, none⟩) (4 + s.size) cp0)).run Try.prog w' = .ok (.string T) w' ∧ Below W0.heap.size W0 w' := by
  refine (rlong_yes s W (by omega)).mono ?_
  rintro e w' ⟨v, rfl, ho, hB⟩
  obtain ⟨g, cp, rfl, HR⟩ := ho.found (by omega) (range_append (putL_range _ _) (sNums_range s))
  exact ⟨g, cp, rfl, by rw [hT]; exact HR.out.conv, by rw [hT]; exact (h0.old hB).conv, hW.trans (hB.mono hW.size)⟩

set_option maxHeartbeats 400000 in
theorem texts_big (s : ByteArray) (a : Option Addr) (len cap : Nat) (w : World) (hs : s.size ≤ 9223372036854775807) (hc : len ≤ 9223372036854775807) (h : 3000 < s.size ∨ 3000 < len) :
    Calls Try.prog 3 #[.string s, .slice a len cap] w fun e w' => e = .returned (.bool true) ∧ Below w.heap.size w w' := by
  by_cases h1 : 3000 < s.size
  · go_enter Try.func3, Try.ntmps3
    go_wp2_with fail
    refine (awake_any _).mono ?_
    rintro e w1 ⟨rfl, hB1⟩
    go_wp2_with fail
    go_ret
    exact ⟨rfl, hB1⟩
  · have h2 : 3000 < len := by omega
    have h1' : decide ((3000 : Int) < s.size) = false := by simp; omega
    go_enter Try.func3, Try.ntmps3
    go_wp2_with fail
    refine (awake_any _).mono ?_
    rintro e w1 ⟨rfl, hB1⟩
    go_wp2_with fail
    go_ret
    exact ⟨rfl, hB1⟩

set_option maxRecDepth 100000 in
set_option maxHeartbeats 4000000 in
theorem texts_small (s : ByteArray) (a : Option Addr) (len cap : Nat) (zs : List Int) (w : World) (h : IsB w a len cap zs) (h1 : s.size ≤ 3000) (h2 : len ≤ 3000) :
    Calls Try.prog 3 #[.string s, .slice a len cap] w fun e w' => e = .returned (.bool true) ∧ Below w.heap.size w w' := by
  have H : Hid (IsB w a len cap zs) := h
  have t1 : decide ((3000 : Int) < s.size) = false := by simp; omega
  have t2 : decide ((3000 : Int) < len) = false := by simp; omega
  clear h
  go_enter Try.func3, Try.ntmps3
  go_wp2_with fail
  refine (awake_any _).mono ?_
  rintro e w1 ⟨rfl, hB1⟩
  go_wp2_with fail
  refine (text_yes s _ (by omega)).mono ?_
  rintro e w2 ⟨v2, rfl, ho2, hB2⟩
  obtain ⟨g2, cap2, rfl, HR2⟩ := ho2.found (by omega) (range_append (putL_range _ _) (sNums_range s))
  have hB02 : Below w.heap.size w w2 := hB1.trans (hB2.mono hB1.size)
  clear ho2
  go_wp2_with fail
  refine (rtext_yes s _ (by omega)).mono ?_
  rintro e w3 ⟨v3, rfl, ho3, hB3⟩
  obtain ⟨g3, cap3, rfl, HR3⟩ := ho3.found (by omega) (range_append (putL_range _ _) (sNums_range s))
  have hB03 : Below w.heap.size w w3 := hB02.trans (hB3.mono hB02.size)
  obtain ⟨T2, hT2⟩ : ∃ T, T = strOfNums (putL s.size 2 ++ sNums s) := ⟨_, rfl⟩
  have HCV : Hid (∀ W, Below w3.heap.size w3 W → (convert 22 9 (.slice (some ⟨g2, 0, none⟩) (2 + s.size) cap2)).run Try.prog W = .ok (.string T2) W ∧ (convert 22 9 (.slice (some ⟨g3, 0, none⟩) (2 + s.size) cap3)).run Try.prog W = .ok (.string T2) W) := by
    intro W hW
    rw [hT2]
    exact ⟨((HR2.out.old hB3).old hW).conv, (HR3.out.old hW).conv⟩
  obtain ⟨hcv2, hcv3⟩ := HCV.out w3.drew (Below.refl w3.heap.size w3).drew
  obtain ⟨T4, hT4⟩ : ∃ T, T = strOfNums (putL s.size 4 ++ sNums s) := ⟨_, rfl⟩
  have HT4 : Hid _ := hT4
  clear ho3 HR2 HR3 hT2 hT4 hB1 hB2 hB02 hB3
  go_upto_region 8 with fail
  go_cut [63] (fun x wc => x = .bool false ∧ Below w3.heap.size w3 wc)
  case first =>
    go_region_held (fun w' => (convert 22 9 (.slice (some ⟨g2, 0, none⟩) (2 + s.size) cap2)).run Try.prog w' = .ok (.string T2) w' ∧ (convert 22 9 (.slice (some ⟨g3, 0, none⟩) (2 + s.size) cap3)).run Try.prog w' = .ok (.string T2) w')
      (exact ⟨by assumption, by assumption⟩) (first
      | (go_at_call 9; refine (long_in s h1 w3 _ ?_ T4 HT4.out).mono ?_; (exact (Below.refl _ _).drew); rintro e w4 ⟨g4, cp4, rfl, HR4, hcv4, hB4⟩; obtain ⟨hc24, hc34⟩ := HCV.out w4 hB4)
      | (go_at_call 10; refine (rlong_in s h1 w3 _ hB4 T4 HT4.out g4 cp4 HR4.out).mono ?_; rintro e w5 ⟨g5, cp5, rfl, hcv5, hcv45, hB5⟩; obtain ⟨hc25, hc35⟩ := HCV.out w5 hB5))
    all_goals (go_wp2_with fail; go_meet; exact ⟨rfl, hB5⟩)
  case rest =>
    obtain ⟨rfl, hBc⟩ := hcut
    have hB0c : Below w.heap.size w wc := hB03.trans (hBc.mono hB03.size)
    clear hBc hcv2 hcv3 hB03
    go_wp2_with fail
    refine (getText_any (H.out.old hB0c) (by omega)).mono ?_
    rintro e w6 ⟨r6, lr6, cr6, rfl, HBe, hB6⟩
    have hB06 : Below w.heap.size w w6 := hB0c.trans (hB6.mono hB0c.size)
    go_wp2_with fail
    refine (rgetText_any (H.out.old hB06)).mono ?_
    rintro e w7 ⟨rfl, hB7⟩
    have hB07 : Below w.heap.size w w7 := hB06.trans (hB7.mono hB06.size)
    go_wp2_with fail
    refine (behind_any (H.out.old hB07) (HBe.out.old hB7)).mono ?_
    rintro e w8 ⟨rfl, hB8⟩
    have hB08 : Below w.heap.size w w8 := hB07.trans (hB8.mono hB07.size)
    clear hB0c hB06 hB07 hB6 hB7 hB8 HBe
    go_wp2_with fail
    refine (getLong_any (H.out.old hB08) (by omega)).mono ?_
    rintro e w9 ⟨r9, lr9, cr9, rfl, HBe, hB9⟩
    have hB09 : Below w.heap.size w w9 := hB08.trans (hB9.mono hB08.size)
    go_wp2_with fail
    refine (rgetLong_any (H.out.old hB09)).mono ?_
    rintro e w10 ⟨rfl, hB10⟩
    have hB010 : Below w.heap.size w w10 := hB09.trans (hB10.mono hB09.size)
    go_wp2_with fail
    refine (behind_any (H.out.old hB010) (HBe.out.old hB10)).mono ?_
    rintro e w11 ⟨rfl, hB11⟩
    have hB011 : Below w.heap.size w w11 := hB010.trans (hB11.mono hB010.size)
    clear hB08 hB09 hB010 hB9 hB10 hB11 HBe
    go_wp2_with fail
    go_ret
    exact ⟨by simp, hB011⟩

theorem texts_walk (s : ByteArray) (a : Option Addr) (len cap : Nat) (zs : List Int) (w : World) (hs : s.size ≤ maxLen) (h : IsRow .u8 w a len cap zs) :
    Calls Try.prog 3 #[.string s, .slice a len cap] w fun e w' => e = .returned (.bool true) ∧ Below w.heap.size w w' := by
  have hle := h.le
  have hb := h.isB
  by_cases hbig : 3000 < s.size ∨ 3000 < len
  · unfold maxLen at hs hle
    exact texts_big s a len cap w (by omega) (by omega) hbig
  · exact texts_small s a len cap _ w hb (by omega) (by omega)
end Go.Proofs.Ytcceindlcheipaa
