/-
  RoutingKeys walked: it answers true, and turns nothing that was there.
-/
import Derived.Test.YtfkhcgkobffpiaaAw
namespace Go.Proofs.Ytfkhcgkobffpiaa
open Go.RowKit
set_option maxRecDepth 100000
set_option linter.unusedVariables false
set_option linter.unusedSimpArgs false

theorem View.bs {w : World} {a : Option Addr} {len cap : Nat} {xs : List (List Int)} (h : View 1 VB w a len cap xs) : ∀ p ∈ xs, Bs p := by
  intro p hp
  obtain ⟨i, hi, rfl⟩ := List.mem_iff_getElem.1 hp
  obtain ⟨b, off, a', l, cp, _, _, _, hI, _⟩ := h.at (show i < len by have := h.1; omega)
  have := hI.range
  rwa [List.getD_eq_getElem?_getD, List.getElem?_eq_getElem hi] at this

theorem mem_len {xs : List (List Int)} {m : Nat} (h : ∀ j, j < xs.length → (xs.getD j default).length ≤ m) : ∀ p ∈ xs, p.length ≤ m := by
  intro p hp
  obtain ⟨i, hi, rfl⟩ := List.mem_iff_getElem.1 hp
  have := h i hi
  rwa [List.getD_eq_getElem?_getD, List.getElem?_eq_getElem hi] at this

theorem keyB_len {xs : List (List Int)} {m : Nat} (h : ∀ p ∈ xs, p.length ≤ m) (hn : 1 ≤ xs.length) : (keyB xs).length ≤ xs.length * (m + 3) := by
  unfold keyB
  split
  · rename_i h1
    have := h (xs.getD 0 default) (by rw [List.getD_eq_getElem?_getD, List.getElem?_eq_getElem (by omega)]; exact List.getElem_mem _)
    rw [h1]; omega
  · rw [keyL_length]; exact sumL_le m xs h

theorem bmv {w : World} {a : Option Addr} {cap : Nat} {xs : List (List Int)} (h : View 1 VB w a 0 cap xs) : xs = [] := List.eq_nil_of_length_eq_zero h.1

set_option maxHeartbeats 2000000 in
theorem keys_walk (a : Option Addr) (len cap : Nat) (xs : List (List Int)) (w : World) (h : View 1 VB w a len cap xs) :
    Calls Try.prog 3 #[.slice a len cap] w fun e w' => e = .returned (.bool true) ∧ Below w.heap.size w w' := by
  have H : Hid (View 1 VB w a len cap xs) := h
  have HLX : Hid (xs.length = len) := h.1
  have hlc : len ≤ cap := h.2.1
  have hcm : cap ≤ 9223372036854775807 := h.2.2.1
  clear h
  by_cases hl : 20 < len
  · have hl' : (20 : Int) < len := by omega
    go_enter Try.func3, Try.ntmps3
    go_wp2_with (go_at_call 9; refine (awake_any _).mono ?_; rintro e w1 ⟨rfl, hB1⟩)
    go_ret
    exact ⟨rfl, hB1⟩
  · have hl' : decide ((20 : Int) < len) = false := by simp; omega
    go_enter Try.func3, Try.ntmps3
    go_wp2_with (go_at_call 9; refine (awake_any _).mono ?_; rintro e w1 ⟨rfl, hB1⟩)
    have H1 : Hid (View 1 VB w1 a len cap xs) := H.out.old stays_b hB1
    go_loopw [4] (fun i wr => ∃ k : Nat, k ≤ len ∧ i = .int .i64 k ∧ wr = w1 ∧ Hid (∀ j, j < k → (xs.getD j default).length ≤ 1000)) (fun i _ => len - (intOf i).toNat)
    case atStart => exact ⟨0, by omega, rfl, rfl, fun j hj => by omega⟩
    case round =>
      obtain ⟨k, hk, rfl, rfl, HJ⟩ := hrel
      by_cases hlt : k < len
      · obtain ⟨b, off, a', l, cp, ha, hb, hc, hI, hl1, hl2, hl3⟩ := H1.out.at hlt
        subst ha
        unfold maxLen at hl3
        have HL : Hid (l = (xs.getD k default).length) := hl1
        clear hI hl1
        by_cases hbig : 1000 < l
        · have hbd : (1000 : Int) < l := by omega
          go_wp2_with fail
          go_ret
          exact ⟨rfl, hB1⟩
        · have hbd : decide ((1000 : Int) < l) = false := by simp; omega
          have HJ2 : Hid (∀ j, j < k + 1 → (xs.getD j default).length ≤ 1000) := fun j hj => by
            by_cases e : j = k
            · subst e; rw [← HL.out]; omega
            · exact HJ.out j (by omega)
          go_wp2_with fail
          go_roundw
          case rel => exact ⟨k + 1, by omega, by go_num, trivial, HJ2⟩
          case measure => simp [intOf]; omega
      · obtain rfl : k = len := by omega
        have HX : Hid (∀ p ∈ xs, p.length ≤ 1000) := mem_len (fun j hj => HJ.out j (by rw [← HLX.out]; exact hj))
        have HB : Hid (∀ p ∈ xs, Bs p) := H.out.bs
        clear HJ
        by_cases h0 : k = 0
        · subst h0
          have HN : Hid (xs = []) := bmv H.out
          go_wp2_with fail
          refine (key_none _ _ _).mono ?_
          rintro e w2 ⟨rfl, rfl⟩
          go_wp2_with fail
          refine (texts_any H1.out (by omega) (ss := []) (by rw [HN.out]; rfl)).mono ?_
          rintro e w3 ⟨x3, c3, rfl, HV3, hB3⟩
          go_wp2_with fail
          refine (rkey_none _ _ _).mono ?_
          rintro e w4 ⟨rfl, rfl⟩
          go_wp2_with fail
          refine (token_none _ _ _).mono ?_
          rintro e w5 ⟨rfl, hB5⟩
          have H5 : Hid (View 1 VB w5 a 0 cap xs) := (H1.out.old stays_b hB3).old stays_b hB5
          have hB05 : Below w.heap.size w w5 := (hB1.trans (hB3.mono hB1.size)).trans (hB5.mono (Nat.le_trans hB1.size hB3.size))
          clear hB3 hB5
          go_wp2_with fail
          refine (texts_any H5.out (by omega) (ss := []) (by rw [HN.out]; rfl)).mono ?_
          rintro e w6 ⟨x6, c6, rfl, HV6, hB6⟩
          go_wp2_with fail
          refine (rtoken_none _ _ _).mono ?_
          rintro e w7 ⟨rfl, hB7⟩
          have hB07 : Below w.heap.size w w7 := (hB05.trans (hB6.mono hB05.size)).trans (hB7.mono (Nat.le_trans hB05.size hB6.size))
          clear hB6 hB7
          have cv0 := conv_nil 0 w7
          go_wp2_with fail
          go_ret
          exact ⟨rfl, hB07⟩
        · obtain ⟨K, hK⟩ : ∃ K, K = keyB xs := ⟨_, rfl⟩
          obtain ⟨T, hT⟩ : ∃ T, T = tokK (keyB xs) := ⟨_, rfl⟩
          obtain ⟨ss, hss⟩ : ∃ ss, ss = xs.map strOfNums := ⟨_, rfl⟩
          have HKL : Hid ((keyB xs).length ≤ 100000) := by
            have := keyB_len HX.out (by rw [HLX.out]; omega)
            rw [HLX.out] at this
            show _ ≤ _
            omega
          have HK : Hid (K = keyB xs) := hK
          have HT : Hid (T = tokK (keyB xs)) := hT
          have HSS : Hid (ss = xs.map strOfNums) := hss
          have HX2 : Hid (∀ p ∈ xs, p.length ≤ 65535) := fun p hp => Nat.le_trans (HX.out p hp) (by omega)
          have HBK : Hid (Bs K) := by rw [hK]; exact keyB_bs HB.out
          clear hK hT hss
          go_wp2_with fail
          refine (key_any H1.out (by omega) (by omega) HX2.out HK.out).mono ?_
          rintro e w2 ⟨v2, rfl, HO2, hB2⟩
          have H2 : Hid (View 1 VB w2 a k cap xs) := H1.out.old stays_b hB2
          have hB02 : Below w.heap.size w w2 := hB1.trans (hB2.mono hB1.size)
          obtain ⟨x2, c2, rfl, hI2, _⟩ := HO2.out.isB0 HBK.out
          have HI2 : Hid (IsB w2 x2 K.length c2 K) := hI2
          clear hI2 HO2 hB2
          go_wp2_with fail
          refine (texts_any H2.out (by omega) HSS.out).mono ?_
          rintro e w3 ⟨x3, c3, rfl, HV3, hB3⟩
          have hB03 : Below w.heap.size w w3 := hB02.trans (hB3.mono hB02.size)
          have H3 : Hid (View 1 VB w3 a k cap xs) := H2.out.old stays_b hB3
          have HI3 : Hid (IsB w3 x2 K.length c2 K) := HI2.out.old hB3
          clear hB3 hB02 HI2
          go_wp2_with fail
          refine (rkey_any HV3.out (by omega) (by omega) HSS.out HB.out HX2.out HK.out).mono ?_
          rintro e w4 ⟨v4, rfl, HV4, hB4⟩
          obtain ⟨x4, c4, rfl, hI4, _⟩ := HV4.out
          have HI4 : Hid (IsB w4 x4 K.length c4 K) := hI4
          have HI24 : Hid (IsB w4 x2 K.length c2 K) := HI3.out.old hB4
          have H4 : Hid (View 1 VB w4 a k cap xs) := H3.out.old stays_b hB4
          have hB04 : Below w.heap.size w w4 := hB03.trans (hB4.mono hB03.size)
          clear hB4 hB03 HI3 HV4 hI4
          go_wp2_with fail
          refine (token_any H4.out (by omega) (by omega) HX2.out HB.out HT.out).mono ?_
          rintro e w5 ⟨rfl, hB5⟩
          have H5 : Hid (View 1 VB w5 a k cap xs) := H4.out.old stays_b hB5
          have HI5 : Hid (IsB w5 x4 K.length c4 K ∧ IsB w5 x2 K.length c2 K) := ⟨HI4.out.old hB5, HI24.out.old hB5⟩
          have hB05 : Below w.heap.size w w5 := hB04.trans (hB5.mono hB04.size)
          clear hB5 hB04 HI4 HI24
          go_wp2_with fail
          refine (texts_any H5.out (by omega) HSS.out).mono ?_
          rintro e w6 ⟨x6, c6, rfl, HV6, hB6⟩
          have HI6 : Hid (IsB w6 x4 K.length c4 K ∧ IsB w6 x2 K.length c2 K) := ⟨HI5.out.1.old hB6, HI5.out.2.old hB6⟩
          have hB06 : Below w.heap.size w w6 := hB05.trans (hB6.mono hB05.size)
          clear hB6 hB05 HI5
          go_wp2_with fail
          refine (rtoken_any HV6.out (by omega) (by omega) HSS.out HB.out HX2.out HKL.out HT.out).mono ?_
          rintro e w7 ⟨rfl, hB7⟩
          have hB07 : Below w.heap.size w w7 := hB06.trans (hB7.mono hB06.size)
          obtain ⟨S, hS⟩ : ∃ S, S = strOfNums K := ⟨_, rfl⟩
          have cv1 : (convert 24 9 (.slice x2 K.length c2)).run Try.prog w7 = .ok (.string S) w7 := by rw [hS]; exact (HI6.out.2.old hB7).conv
          have cv2 : (convert 24 9 (.slice x4 K.length c4)).run Try.prog w7 = .ok (.string S) w7 := by rw [hS]; exact (HI6.out.1.old hB7).conv
          clear hB7 hB06 HI6 hS
          go_wp2_with fail
          go_ret
          exact ⟨by simp, hB07⟩
end Go.Proofs.Ytfkhcgkobffpiaa
