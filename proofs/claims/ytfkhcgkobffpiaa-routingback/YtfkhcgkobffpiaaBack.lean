/-
  RoutingBack walked: it answers true, and turns nothing that was there.
-/
import Derived.Test.YtfkhcgkobffpiaaKeys
import Derived.Deep.RegionHeld3
namespace Go.Proofs.Ytfkhcgkobffpiaa
open Go.RowKit
set_option maxRecDepth 100000
set_option linter.unusedVariables false
set_option linter.unusedSimpArgs false

theorem back_out {c : Prop} [Decidable c] (h : ¬ c) : decide c = false := by simpa using h

set_option maxHeartbeats 400000 in
theorem back_pass (a : Option Addr) (la ca : Nat) (b : Option Addr) (lb cb : Nat) (w : World) (h1 : la ≤ 9223372036854775807) (h2 : lb ≤ 9223372036854775807) (h : la < 2 ∨ (2 ≤ la ∧ lb < 2) ∨ (2 ≤ la ∧ 2 ≤ lb ∧ 20 < la) ∨ (2 ≤ la ∧ 2 ≤ lb ∧ la ≤ 20 ∧ 20 < lb)) :
    Calls Try.prog 5 #[.slice a la ca, .slice b lb cb] w fun e w' => e = .returned (.bool true) ∧ Below w.heap.size w w' := by
  rcases h with h | ⟨h3, h⟩ | ⟨h3, h4, h⟩ | ⟨h3, h4, h5, h⟩
  · go_enter Try.func5, Try.ntmps5
    go_wp2_with (go_at_call 9; refine (awake_any _).mono ?_; rintro e w1 ⟨rfl, hB1⟩)
    go_ret
    exact ⟨rfl, hB1⟩
  · have d1 : decide ((la : Int) < 2) = false := back_out (by omega)
    go_enter Try.func5, Try.ntmps5
    go_wp2_with (go_at_call 9; refine (awake_any _).mono ?_; rintro e w1 ⟨rfl, hB1⟩)
    go_ret
    exact ⟨rfl, hB1⟩
  · have d1 : decide ((la : Int) < 2) = false := back_out (by omega)
    have d2 : decide ((lb : Int) < 2) = false := back_out (by omega)
    go_enter Try.func5, Try.ntmps5
    go_wp2_with (go_at_call 9; refine (awake_any _).mono ?_; rintro e w1 ⟨rfl, hB1⟩)
    go_ret
    exact ⟨rfl, hB1⟩
  · have d1 : decide ((la : Int) < 2) = false := back_out (by omega)
    have d2 : decide ((lb : Int) < 2) = false := back_out (by omega)
    have d3 : decide ((20 : Int) < la) = false := back_out (by omega)
    go_enter Try.func5, Try.ntmps5
    go_wp2_with (go_at_call 9; refine (awake_any _).mono ?_; rintro e w1 ⟨rfl, hB1⟩)
    go_ret
    exact ⟨rfl, hB1⟩

theorem texts_from {w W : World} (hW : Below w.heap.size w W) {a : Option Addr} {len cap : Nat} {xs : List (List Int)} (h : View 1 VB w a len cap xs) (hl : len ≤ 1000000) {ss : List ByteArray} (hss : ss = xs.map strOfNums) :
    Calls Try.prog 12 #[.slice a len cap] W fun e w' => ∃ a' c', e = .returned (.slice a' len c') ∧ Hid (View 1 VS w' a' len c' ss) ∧ Hid (Below w.heap.size w w') := by
  refine (texts_any (h.old stays_b hW) hl hss).mono ?_
  rintro e w' ⟨a', c', rfl, hV, hB⟩
  exact ⟨a', c', rfl, hV, hW.trans (hB.mono hW.size)⟩

theorem texts_from2 {w W : World} (hW : Below w.heap.size w W) {a : Option Addr} {len cap : Nat} {xs : List (List Int)} (h : View 1 VB w a len cap xs) (hl : len ≤ 1000000) {ss : List ByteArray} (hss : ss = xs.map strOfNums) {a1 : Option Addr} {l1 c1 : Nat} {ys : List ByteArray} (h1 : View 1 VS W a1 l1 c1 ys) :
    Calls Try.prog 12 #[.slice a len cap] W fun e w' => ∃ a' c', e = .returned (.slice a' len c') ∧ Hid (View 1 VS w' a' len c' ss) ∧ Hid (View 1 VS w' a1 l1 c1 ys) ∧ Hid (Below w.heap.size w w') := by
  refine (texts_any (h.old stays_b hW) hl hss).mono ?_
  rintro e w' ⟨a', c', rfl, hV, hB⟩
  exact ⟨a', c', rfl, hV, h1.old stays_s hB, hW.trans (hB.mono hW.size)⟩

theorem same_from {w W : World} (hW : Below w.heap.size w W) {a a' : Option Addr} {len cap len' cap' : Nat} {A B : List ByteArray} (h : View 1 VS W a len cap A) (h' : View 1 VS W a' len' cap' B) {r : Bool} (hr : r = decide (A = B)) :
    Calls Try.prog 17 #[.slice a len cap, .slice a' len' cap'] W fun e w' => e = .returned (.bool r) ∧ Hid (Below w.heap.size w w') := by
  refine (same_any h h' hr).mono ?_
  rintro e w' ⟨rfl, q, rfl⟩
  exact ⟨rfl, below_drewN hW q⟩

theorem same_eq {w W : World} (hW : Below w.heap.size w W) {a a' : Option Addr} {len cap len' cap' : Nat} {A : List ByteArray} (h : View 1 VS W a len cap A) (h' : View 1 VS W a' len' cap' A) :
    Calls Try.prog 17 #[.slice a len cap, .slice a' len' cap'] W fun e w' => e = .returned (.bool true) ∧ Hid (Below w.heap.size w w') := same_from hW h h' (by simp)

theorem keys_same {xa xb : List (List Int)} (ha : ∀ p ∈ xa, Bs p) (hb : ∀ p ∈ xb, Bs p) (la : ∀ p ∈ xa, p.length ≤ 65535) (lb : ∀ p ∈ xb, p.length ≤ 65535) :
    ((strOfNums (keyL xa)).toList == (strOfNums (keyL xb)).toList) = decide (xa.map strOfNums = xb.map strOfNums) := by
  rw [Bool.eq_iff_iff, beq_iff_eq, decide_eq_true_eq]
  constructor
  · intro e
    rw [keyL_inj la lb (strOfNums_inj (keyL_bs _ ha) (keyL_bs _ hb) (str_of_list e))]
  · intro e
    rw [strs_inj ha hb e]

theorem conv_old {w W : World} {a : Option Addr} {len cap : Nat} {zs : List Int} (h : IsB w a len cap zs) {s : ByteArray} (hs : s = strOfNums zs) (hW : Below w.heap.size w W) : (convert 24 9 (.slice a len cap)).run Try.prog W = .ok (.string s) W := by
  subst hs; exact (h.old hW).conv

set_option maxHeartbeats 8000000 in
theorem back_walk (a : Option Addr) (la ca : Nat) (xa : List (List Int)) (b : Option Addr) (lb cb : Nat) (xb : List (List Int)) (w : World) (ha : View 1 VB w a la ca xa) (hb : View 1 VB w b lb cb xb) (h1 : 2 ≤ la) (h2 : 2 ≤ lb) (h3 : la ≤ 20) (h4 : lb ≤ 20) :
    Calls Try.prog 5 #[.slice a la ca, .slice b lb cb] w fun e w' => e = .returned (.bool true) ∧ Below w.heap.size w w' := by
  have HA : Hid (View 1 VB w a la ca xa) := ha
  have HB : Hid (View 1 VB w b lb cb xb) := hb
  have HLA : Hid (xa.length = la) := ha.1
  have HLB : Hid (xb.length = lb) := hb.1
  have hca : la ≤ ca := ha.2.1
  have hcam : ca ≤ 9223372036854775807 := ha.2.2.1
  have hcb : lb ≤ cb := hb.2.1
  have hcbm : cb ≤ 9223372036854775807 := hb.2.2.1
  have d1 : decide ((la : Int) < 2) = false := back_out (by omega)
  have d2 : decide ((lb : Int) < 2) = false := back_out (by omega)
  have d3 : decide ((20 : Int) < la) = false := back_out (by omega)
  have d4 : decide ((20 : Int) < lb) = false := back_out (by omega)
  clear ha hb
  go_enter Try.func5, Try.ntmps5
  go_wp2_with (go_at_call 9; refine (awake_any _).mono ?_; rintro e w1 ⟨rfl, hB1⟩)
  have HA1 : Hid (View 1 VB w1 a la ca xa) := HA.out.old stays_b hB1
  have HB1 : Hid (View 1 VB w1 b lb cb xb) := HB.out.old stays_b hB1
  go_loopw [6] (fun i wr => ∃ k : Nat, k ≤ la ∧ i = .int .i64 k ∧ wr = w1 ∧ Hid (∀ j, j < k → (xa.getD j default).length ≤ 1000)) (fun i _ => la - (intOf i).toNat)
  case atStart => exact ⟨0, by omega, rfl, rfl, fun j hj => by omega⟩
  case round =>
    obtain ⟨k, hk, rfl, rfl, HJ⟩ := hrel
    by_cases hlt : k < la
    · obtain ⟨g, off, a', l, cp, hg, hgs, hc, hI, hl1, hl2, hl3⟩ := HA1.out.at hlt
      subst hg
      unfold maxLen at hl3
      have HL : Hid (l = (xa.getD k default).length) := hl1
      clear hI hl1
      by_cases hbig : 1000 < l
      · have hbd : (1000 : Int) < l := by omega
        go_wp2_with fail
        go_ret
        exact ⟨rfl, hB1⟩
      · have hbd : decide ((1000 : Int) < l) = false := by simp; omega
        have HJ2 : Hid (∀ j, j < k + 1 → (xa.getD j default).length ≤ 1000) := fun j hj => by
          by_cases e : j = k
          · subst e; rw [← HL.out]; omega
          · exact HJ.out j (by omega)
        go_wp2_with fail
        go_roundw
        case rel => exact ⟨k + 1, by omega, by go_num, trivial, HJ2⟩
        case measure => simp [intOf]; omega
    · obtain rfl : k = la := by omega
      have HXA : Hid (∀ p ∈ xa, p.length ≤ 1000) := mem_len (fun j hj => HJ.out j (by rw [← HLA.out]; exact hj))
      clear HJ
      obtain ⟨w2, hw2⟩ : ∃ w2, w2 = wr := ⟨_, rfl⟩
      subst hw2
      go_wp2_with fail
      go_loopw [7] (fun i wr => ∃ m : Nat, m ≤ lb ∧ i = .int .i64 m ∧ wr = w2 ∧ Hid (∀ j, j < m → (xb.getD j default).length ≤ 1000)) (fun i _ => lb - (intOf i).toNat)
      case atStart => exact ⟨0, by omega, rfl, rfl, fun j hj => by omega⟩
      case round =>
        obtain ⟨m, hm, rfl, rfl, HJ⟩ := hrel
        by_cases hlt2 : m < lb
        · obtain ⟨g, off, a', l, cp, hg, hgs, hc, hI, hl1, hl2, hl3⟩ := HB1.out.at hlt2
          subst hg
          unfold maxLen at hl3
          have HL : Hid (l = (xb.getD m default).length) := hl1
          clear hI hl1
          by_cases hbig : 1000 < l
          · have hbd : (1000 : Int) < l := by omega
            go_wp2_with fail
            go_ret
            exact ⟨rfl, hB1⟩
          · have hbd : decide ((1000 : Int) < l) = false := by simp; omega
            have HJ2 : Hid (∀ j, j < m + 1 → (xb.getD j default).length ≤ 1000) := fun j hj => by
              by_cases e : j = m
              · subst e; rw [← HL.out]; omega
              · exact HJ.out j (by omega)
            go_wp2_with fail
            go_roundw
            case rel => exact ⟨m + 1, by omega, by go_num, trivial, HJ2⟩
            case measure => simp [intOf]; omega
        · obtain rfl : m = lb := by omega
          have HXB : Hid (∀ p ∈ xb, p.length ≤ 1000) := mem_len (fun j hj => HJ.out j (by rw [← HLB.out]; exact hj))
          clear HJ
          have HA2 : Hid (∀ p ∈ xa, p.length ≤ 65535) := fun p hp => Nat.le_trans (HXA.out p hp) (by omega)
          have HB2 : Hid (∀ p ∈ xb, p.length ≤ 65535) := fun p hp => Nat.le_trans (HXB.out p hp) (by omega)
          have HBA : Hid (∀ p ∈ xa, Bs p) := HA.out.bs
          have HBB : Hid (∀ p ∈ xb, Bs p) := HB.out.bs
          obtain ⟨K, hK⟩ : ∃ K, K = keyB xa := ⟨_, rfl⟩
          obtain ⟨L, hL⟩ : ∃ L, L = keyB xb := ⟨_, rfl⟩
          have HK : Hid (K = keyB xa) := hK
          have HL : Hid (L = keyB xb) := hL
          have HKL : Hid (K = keyL xa) := by show _ = _; rw [hK, keyB, if_neg (by rw [HLA.out]; omega)]
          have HLL : Hid (L = keyL xb) := by show _ = _; rw [hL, keyB, if_neg (by rw [HLB.out]; omega)]
          have hkl : K.length ≤ 20060 := by
            have := keyB_len HXA.out (by rw [HLA.out]; omega)
            rw [HLA.out, ← hK] at this
            omega
          have HKB : Hid (Bs K) := by rw [hK]; exact keyB_bs HBA.out
          have HLBs : Hid (Bs L) := by rw [hL]; exact keyB_bs HBB.out
          have HPA : Hid (((0, xa) : Int × List (List Int)) = partsA K) := by show _ = _; rw [HKL.out, partsA_key HA2.out]
          clear hK hL
          go_wp2_with fail
          refine (key_any HA1.out (by omega) (by omega) HA2.out HK.out).mono ?_
          rintro e w3 ⟨v3, rfl, HO3, hB3⟩
          obtain ⟨x3, c3, rfl, hI3, _⟩ := HO3.out.isB0 HKB.out
          have HI3 : Hid (IsB w3 x3 K.length c3 K) := hI3
          have HB3 : Hid (View 1 VB w3 b m cb xb) := HB1.out.old stays_b hB3
          have HA3 : Hid (View 1 VB w3 a k ca xa) := HA1.out.old stays_b hB3
          have hB03 : Below w.heap.size w w3 := hB1.trans (hB3.mono hB1.size)
          clear hI3 HO3 hB3
          go_wp2_with fail
          refine (key_any HB3.out (by omega) (by omega) HB2.out HL.out).mono ?_
          rintro e w4 ⟨v4, rfl, HO4, hB4⟩
          obtain ⟨x4, c4, rfl, hI4, _⟩ := HO4.out.isB0 HLBs.out
          have HI4 : Hid (IsB w4 x4 L.length c4 L ∧ IsB w4 x3 K.length c3 K) := ⟨hI4, HI3.out.old hB4⟩
          have HB4 : Hid (View 1 VB w4 b m cb xb) := HB3.out.old stays_b hB4
          have HA4 : Hid (View 1 VB w4 a k ca xa) := HA3.out.old stays_b hB4
          have hB04 : Below w.heap.size w w4 := hB03.trans (hB4.mono hB03.size)
          clear hI4 HO4 hB4 HI3 HB3 HA3 hB03
          go_wp2_with fail
          refine (parts_any HI4.out.2 (by omega) HPA.out).mono ?_
          rintro e w5 ⟨v5, rfl, HO5, hB5⟩
          obtain ⟨x5, c5, rfl, hV5, _⟩ := HO5.out.view
          have HV5 : Hid (View 1 VB w5 x5 k c5 xa) := by have := hV5; rw [show ((0, xa) : Int × List (List Int)).2.length = k from HLA.out] at this; exact this
          rw [show ((0, xa) : Int × List (List Int)).2.length = k from HLA.out]
          have HB5 : Hid (View 1 VB w5 b m cb xb) := HB4.out.old stays_b hB5
          have HA5 : Hid (View 1 VB w5 a k ca xa) := HA4.out.old stays_b hB5
          have HB05 : Hid (Below w.heap.size w w5) := hB04.trans (hB5.mono hB04.size)
          obtain ⟨SK, hSK⟩ : ∃ S, S = strOfNums K := ⟨_, rfl⟩
          obtain ⟨SL, hSL⟩ : ∃ S, S = strOfNums L := ⟨_, rfl⟩
          obtain ⟨A, hA⟩ : ∃ A, A = xa.map strOfNums := ⟨_, rfl⟩
          obtain ⟨D, hD⟩ : ∃ D, D = xb.map strOfNums := ⟨_, rfl⟩
          obtain ⟨r, hr⟩ : ∃ r, r = decide (A = D) := ⟨_, rfl⟩
          have hrr : (SK.toList == SL.toList) = r := by rw [hSK, hSL, HKL.out, HLL.out, hr, hA, hD]; exact keys_same HBA.out HBB.out HA2.out HB2.out
          have hrr2 : (r == r) = true := by simp
          have HAA : Hid (A = xa.map strOfNums) := hA
          have HDD : Hid (D = xb.map strOfNums) := hD
          have HR : Hid (r = decide (A = D)) := hr
          have HF : Hid (∀ W, Below w5.heap.size w5 W → ((convert 24 9 (.slice x3 K.length c3)).run Try.prog W = .ok (.string SK) W ∧ (convert 24 9 (.slice x4 L.length c4)).run Try.prog W = .ok (.string SL) W) ∧ Below w5.heap.size w5 W) := by
            intro W hW
            exact ⟨⟨conv_old (HI4.out.2.old hB5) hSK hW, conv_old (HI4.out.1.old hB5) hSL hW⟩, hW⟩
          have hDr : Hid (Below w5.heap.size w5 w5.drew) := (Below.refl w5.heap.size w5).drew
          obtain ⟨⟨f1, f2⟩, f3⟩ := HF.out w5 (Below.refl _ _)
          obtain ⟨⟨f4, f5⟩, f6⟩ := HF.out _ hDr.out
          clear hV5 HO5 hB5 HI4 HB4 HA4 hB04 hSK hSL hA hD hr hB1 HA1 HB1 HA HB
          go_wp2_with fail
          go_region_held3 (fun W => ((convert 24 9 (.slice x3 K.length c3)).run Try.prog W = .ok (.string SK) W ∧ (convert 24 9 (.slice x4 L.length c4)).run Try.prog W = .ok (.string SL) W) ∧ Below w5.heap.size w5 W) (first | assumption | (refine ⟨⟨?_, ?_⟩, ?_⟩ <;> assumption)) (first
            | (go_at_call 17; refine (same_from HBg.out HVf.out HVg.out HR.out).mono ?_; rintro e wh ⟨rfl, HBh⟩; have hh := HF.out _ HBh.out)
            | (go_at_call 12; refine (texts_from2 HBf.out HB5.out (by omega) HDD.out HVf0.out).mono ?_; rintro e wg ⟨a6, c6, rfl, HVg, HVf, HBg⟩; have hg := HF.out _ HBg.out)
            | (go_at_call 12; refine (texts_from HBe.out HA5.out (by omega) HAA.out).mono ?_; rintro e wf ⟨a7, c7, rfl, HVf0, HBf⟩; have hf := HF.out _ HBf.out)
            | (go_at_call 17; refine (same_eq HBd.out HVc.out HVd.out).mono ?_; rintro e we ⟨rfl, HBe⟩; have he := HF.out _ HBe.out)
            | (go_at_call 12; refine (texts_from2 HBc.out HA5.out (by omega) HAA.out HVc0.out).mono ?_; rintro e wd ⟨a8, c8, rfl, HVd, HVc, HBd⟩; have hd := HF.out _ HBd.out)
            | (go_at_call 12; refine (texts_from hDr.out HV5.out (by omega) HAA.out).mono ?_; rintro e wc ⟨a9, c9, rfl, HVc0, HBc⟩; have hc := HF.out _ HBc.out))
          go_wp2_with fail
          go_ret
          exact ⟨by simp, HB05.out.trans (HBh.out.mono HB05.out.size)⟩

theorem back_any (a : Option Addr) (la ca : Nat) (xa : List (List Int)) (b : Option Addr) (lb cb : Nat) (xb : List (List Int)) (w : World) (ha : View 1 VB w a la ca xa) (hb : View 1 VB w b lb cb xb) :
    Calls Try.prog 5 #[.slice a la ca, .slice b lb cb] w fun e w' => e = .returned (.bool true) ∧ Below w.heap.size w w' := by
  have h1 : la ≤ 9223372036854775807 := Nat.le_trans ha.2.1 ha.2.2.1
  have h2 : lb ≤ 9223372036854775807 := Nat.le_trans hb.2.1 hb.2.2.1
  by_cases h : 2 ≤ la ∧ 2 ≤ lb ∧ la ≤ 20 ∧ lb ≤ 20
  · exact back_walk a la ca xa b lb cb xb w ha hb h.1 h.2.1 h.2.2.1 h.2.2.2
  · exact back_pass a la ca b lb cb w h1 h2 (by omega)
end Go.Proofs.Ytfkhcgkobffpiaa
