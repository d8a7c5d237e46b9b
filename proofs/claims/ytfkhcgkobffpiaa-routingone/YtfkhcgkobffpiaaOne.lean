/-
  RoutingOne walked: it answers true, and turns nothing that was there.
-/
import Derived.Test.YtfkhcgkobffpiaaKeys
namespace Go.Proofs.Ytfkhcgkobffpiaa
open Go.RowKit
set_option maxRecDepth 100000
set_option linter.unusedVariables false
set_option linter.unusedSimpArgs false

theorem View.takeN {α : Type} [Inhabited α] {size : Nat} {V : World → α → (Nat → Value) → Prop} {w : World} {a : Option Addr} {len cap : Nat} {xs : List α} (h : View size V w a len cap xs) {n : Nat} (hn : n ≤ len) : View size V w a n cap (xs.take n) := by
  obtain ⟨h1, h2, h3, h4, h5⟩ := h
  refine ⟨by rw [List.length_take]; omega, by omega, h3, fun e => ⟨by have := h4 e; omega, (h4 e).2⟩, fun hp => ?_⟩
  obtain ⟨b, off, ha, hb, hc⟩ := h5 (by omega)
  refine ⟨b, off, ha, hb, fun i hi => ?_⟩
  obtain ⟨c, hcell, hv⟩ := hc i (by omega)
  refine ⟨c, hcell, ?_⟩
  rw [List.getD_eq_getElem?_getD, List.getElem?_take_of_lt hi, ← List.getD_eq_getElem?_getD]
  exact hv

theorem keyB_one {xs : List (List Int)} (h : 1 ≤ xs.length) : keyB (xs.take 1) = xs.getD 0 default := by
  have hl : (xs.take 1).length = 1 := by rw [List.length_take]; omega
  rw [keyB, if_pos hl, List.getD_eq_getElem?_getD, List.getElem?_take_of_lt (by omega), ← List.getD_eq_getElem?_getD]

theorem sumL_take (xs : List (List Int)) (k : Nat) (h : k < xs.length) : sumL (xs.take (k + 1)) = sumL (xs.take k) + ((xs.getD k default).length + 3) := by
  rw [List.take_succ_eq_append_getElem h, sumL_snoc, List.getD_eq_getElem?_getD, List.getElem?_eq_getElem h]
  rfl

theorem view_row {w : World} {a : Option Addr} {l c : Nat} {X : List Int} (h : IsB w a l c X) : View 1 VB (w.alloc (.cells #[.slice a l c] 24)) (some ⟨w.heap.size, 0, none⟩) 1 1 [X] := by
  refine view_block (heap_alloc_new w _) rfl rfl (by unfold maxLen; omega) (fun i hi => ?_)
  obtain rfl : i = 0 := by omega
  exact ⟨_, _, _, rfl, h.old (below_one _ _)⟩

set_option maxHeartbeats 2000000 in
theorem one_walk (a : Option Addr) (len cap : Nat) (xs : List (List Int)) (w : World) (h : View 1 VB w a len cap xs) :
    Calls Try.prog 7 #[.slice a len cap] w fun e w' => e = .returned (.bool true) ∧ Below w.heap.size w w' := by
  have H : Hid (View 1 VB w a len cap xs) := h
  have HLX : Hid (xs.length = len) := h.1
  have hlc : len ≤ cap := h.2.1
  have hcm : cap ≤ 9223372036854775807 := h.2.2.1
  clear h
  by_cases h0 : len = 0
  · subst h0
    go_enter Try.func7, Try.ntmps7
    go_wp2_with (go_at_call 9; refine (awake_any _).mono ?_; rintro e w1 ⟨rfl, hB1⟩)
    go_ret
    exact ⟨rfl, hB1⟩
  have t0 : ((len : Int) == 0) = false := by simp; omega
  by_cases hl : 20 < len
  · have hl' : (20 : Int) < len := by omega
    go_enter Try.func7, Try.ntmps7
    go_wp2_with (go_at_call 9; refine (awake_any _).mono ?_; rintro e w1 ⟨rfl, hB1⟩)
    go_ret
    exact ⟨rfl, hB1⟩
  have hl' : decide ((20 : Int) < len) = false := by simp; omega
  go_enter Try.func7, Try.ntmps7
  go_wp2_with (go_at_call 9; refine (awake_any _).mono ?_; rintro e w1 ⟨rfl, hB1⟩)
  have H1 : Hid (View 1 VB w1 a len cap xs) := H.out.old stays_b hB1
  go_loopw [4, 5] (fun s i wr => ∃ k n : Nat, k ≤ len ∧ i = .int .i64 k ∧ s = .int .i64 n ∧ n ≤ k * 1003 ∧ wr = w1 ∧ Hid (n = sumL (xs.take k) ∧ ∀ j, j < k → (xs.getD j default).length ≤ 1000)) (fun _ i _ => len - (intOf i).toNat)
  case atStart => exact ⟨0, 0, by omega, rfl, rfl, by omega, rfl, rfl, fun j hj => by omega⟩
  case round =>
    obtain ⟨k, n, hk, rfl, rfl, hn, rfl, HJ⟩ := hrel
    by_cases hlt : k < len
    · obtain ⟨b, off, a', l, cp, ha, hb, hc, hI, hl1, hl2, hl3⟩ := H1.out.at hlt
      subst ha
      unfold maxLen at hl3
      have HL : Hid (l = (xs.getD k default).length) := hl1
      clear hI hl1
      by_cases hbig : 1000 < l
      · have hbd : (1000 : Int) < l := by omega
        go_wp2_with fail
        go_ret
        exact ⟨rfl, hB1⟩
      · have hbd : decide ((1000 : Int) < l) = false := by simp; omega
        have HJ2 : Hid (n + (l + 3) = sumL (xs.take (k + 1)) ∧ ∀ j, j < k + 1 → (xs.getD j default).length ≤ 1000) := ⟨by rw [sumL_take xs k (by rw [HLX.out]; exact hlt), ← HJ.out.1, HL.out], fun j hj => by
          by_cases e : j = k
          · subst e; rw [← HL.out]; omega
          · exact HJ.out.2 j (by omega)⟩
        go_wp2_with fail
        go_roundw
        case rel => exact ⟨k + 1, n + (l + 3), by omega, by go_num, by go_num, by omega, trivial, HJ2⟩
        case measure => simp [intOf]; omega
    · obtain rfl : k = len := by omega
      have HX : Hid (∀ p ∈ xs, p.length ≤ 1000) := mem_len (fun j hj => HJ.out.2 j (by rw [← HLX.out]; exact hj))
      have HB : Hid (∀ p ∈ xs, Bs p) := H.out.bs
      have HN : Hid (n = sumL xs) := by
        have := HJ.out.1
        rw [List.take_of_length_le (by rw [HLX.out]; exact Nat.le_refl _)] at this
        exact this
      clear HJ
      obtain ⟨K, hK⟩ : ∃ K, K = keyB xs := ⟨_, rfl⟩
      obtain ⟨T, hT⟩ : ∃ T, T = tokK (keyB xs) := ⟨_, rfl⟩
      have HK : Hid (K = keyB xs) := hK
      have HT : Hid (T = tokK (keyB xs)) := hT
      have hkl : K.length ≤ 20060 := by
        have := keyB_len HX.out (by rw [HLX.out]; omega)
        rw [HLX.out, ← hK] at this
        omega
      have HX2 : Hid (∀ p ∈ xs, p.length ≤ 65535) := fun p hp => Nat.le_trans (HX.out p hp) (by omega)
      have HBK : Hid (Bs K) := by rw [hK]; exact keyB_bs HB.out
      obtain ⟨b, off, a', l, cp, ha, hb, hc0, hI0, hl1, hl2, hl3⟩ := H1.out.at (show 0 < k by omega)
      have hc : wr.cell? ⟨b, off, none⟩ = some (.slice a' l cp) := hc0
      obtain ⟨X, hX⟩ : ∃ X, X = xs.getD 0 default := ⟨_, rfl⟩
      rw [← hX] at hI0
      have HI0 : Hid (IsB wr a' l cp X) := hI0
      have HX0 : Hid (X = keyB (xs.take 1)) := by show _ = _; rw [hX, keyB_one (by rw [HLX.out]; omega)]
      have HBX : Hid (Bs X) := hI0.range
      have hlen : Hid (1 < k → (K.length : Int) = n) := fun h1 => by
        rw [HN.out, hK, keyB, if_neg (by rw [HLX.out]; omega), keyL_length]
      subst ha
      clear hK hT hI0 hl1 hX hc0
      go_wp2_with fail
      refine (key_any (H1.out.takeN (n := 1) (by omega)) (by omega) (by omega) (fun p hp => HX2.out p (List.mem_of_mem_take hp)) HX0.out).mono ?_
      rintro e w2 ⟨v2, rfl, HO2, hB2⟩
      have H2 : Hid (View 1 VB w2 (some ⟨b, off, none⟩) k cap xs) := H1.out.old stays_b hB2
      have hB02 : Below w.heap.size w w2 := hB1.trans (hB2.mono hB1.size)
      obtain ⟨x2, c2, rfl, hI2, _⟩ := HO2.out.isB0 HBX.out
      have HI2 : Hid (IsB w2 x2 X.length c2 X ∧ IsB w2 a' l cp X) := ⟨hI2, HI0.out.old hB2⟩
      have hc2' : w2.cell? ⟨b, off, none⟩ = some (.slice a' l cp) := (hB2.cell (p := ⟨b, off, none⟩) hb).trans hc
      have hb2 : b < w2.heap.size := Nat.lt_of_lt_of_le hb hB2.size
      clear hI2 HO2 hB2 HI0 hc hb
      go_wp2_with fail
      refine (key_any H2.out (by omega) (by omega) HX2.out HK.out).mono ?_
      rintro e w3 ⟨v3, rfl, HO3, hB3⟩
      have hB03 : Below w.heap.size w w3 := hB02.trans (hB3.mono hB02.size)
      have H3 : Hid (View 1 VB w3 (some ⟨b, off, none⟩) k cap xs) := H2.out.old stays_b hB3
      obtain ⟨x3, c3, rfl, hI3, _⟩ := HO3.out.isB0 HBK.out
      have HI3 : Hid (IsB w3 x3 K.length c3 K ∧ IsB w3 x2 X.length c2 X ∧ IsB w3 a' l cp X) := ⟨hI3, HI2.out.1.old hB3, HI2.out.2.old hB3⟩
      have hc3' : w3.cell? ⟨b, off, none⟩ = some (.slice a' l cp) := (hB3.cell (p := ⟨b, off, none⟩) hb2).trans hc2'
      have hb3 : b < w3.heap.size := Nat.lt_of_lt_of_le hb2 hB3.size
      clear hI3 HO3 hB3 HI2 hc2' hb2 hB02
      go_wp2_with fail
      refine (token_any H3.out (by omega) (by omega) HX2.out HB.out HT.out).mono ?_
      rintro e w4 ⟨rfl, hB4⟩
      have hB04 : Below w.heap.size w w4 := hB03.trans (hB4.mono hB03.size)
      have HI4 : Hid (IsB w4 x3 K.length c3 K ∧ IsB w4 x2 X.length c2 X ∧ IsB w4 a' l cp X) := ⟨HI3.out.1.old hB4, HI3.out.2.1.old hB4, HI3.out.2.2.old hB4⟩
      have hc4' : w4.cell? ⟨b, off, none⟩ = some (.slice a' l cp) := (hB4.cell (p := ⟨b, off, none⟩) hb3).trans hc3'
      obtain ⟨S, hS⟩ : ∃ S, S = strOfNums X := ⟨_, rfl⟩
      have cv1 : ∀ q, (convert 24 9 (.slice x2 X.length c2)).run Try.prog (w4.drewN q) = .ok (.string S) (w4.drewN q) := fun q => by rw [hS]; exact (HI4.out.2.1.old (below_drewN (Below.refl _ _) q)).conv
      have cv2 : ∀ q, (convert 24 9 (.slice a' l cp)).run Try.prog (w4.drewN q) = .ok (.string S) (w4.drewN q) := fun q => by rw [hS]; exact (HI4.out.2.2.old (below_drewN (Below.refl _ _) q)).conv
      clear hB4 hB03 HI3 hc3' hb3 hS
      go_wp2_with fail
      go_quiet (fail)
      have HI5 : Hid (IsB (w4.drewN nq) x3 K.length c3 K) := HI4.out.1.old (below_drewN (Below.refl _ _) nq)
      have hB05 : Below w.heap.size w (w4.drewN nq) := below_drewN hB04 nq
      obtain ⟨w5, hw5⟩ : ∃ w5, w5 = w4.drewN nq := ⟨_, rfl⟩
      rw [← hw5] at HI5 hB05 ⊢
      clear hw5 HI4 hc4' cv1 cv2 hB04
      have HV5 : Hid _ := view_row HI5.out
      have HTK : Hid (T = tokK (keyB [K])) := by show _ = _; rw [HT.out, ← HK.out]; rfl
      by_cases h1 : 1 < k
      · have hne : ((K.length : Int) != (n : Int)) = false := by rw [hlen.out h1]; simp
        have h1' : (1 : Int) < k := by omega
        go_wp2_with fail
        refine (token_any HV5.out (by omega) (by omega) (fun p hp => by simp at hp; subst hp; omega) (fun p hp => by simp at hp; subst hp; exact HBK.out) HTK.out).mono ?_
        rintro e w6 ⟨rfl, hB6⟩
        have hB06 : Below w.heap.size w w6 := (hB05.alloc hB05.size _).trans (hB6.mono (by simp; have := hB05.size; omega))
        clear hB6
        go_wp2_with fail
        go_ret
        exact ⟨by simp, hB06⟩
      · have h1' : decide ((1 : Int) < k) = false := by simp; omega
        go_wp2_with fail
        refine (token_any HV5.out (by omega) (by omega) (fun p hp => by simp at hp; subst hp; omega) (fun p hp => by simp at hp; subst hp; exact HBK.out) HTK.out).mono ?_
        rintro e w6 ⟨rfl, hB6⟩
        have hB06 : Below w.heap.size w w6 := (hB05.alloc hB05.size _).trans (hB6.mono (by simp; have := hB05.size; omega))
        clear hB6
        go_wp2_with fail
        go_ret
        exact ⟨by simp, hB06⟩
end Go.Proofs.Ytfkhcgkobffpiaa
