/-
  The document's own Put, and the walk of OptionPuts.
-/
import Derived.Test.YtakaonfeegfmpaaDoorRefPutU
import Derived.Test.YtakaonfeegfmpaaDoorRefPutT
import Derived.Test.YtakaonfeegfmpaaDoorRefText
import Derived.Test.YtakaonfeegfmpaaDoorBack
namespace Go.Proofs.YtakaonfeegfmpaaDoor
open Go.RowKit
set_option linter.unusedVariables false
set_option linter.unusedSimpArgs false

set_option maxHeartbeats 1000000 in
theorem putq_no (n : Nat) {F : Nat → Prop} {w : World} {t : Ty} {na : Option Addr} {nl nc : Nat} {ka : Option Addr} {kl kc : Nat} (h : TyAt n F w t na nl nc ka kl kc) (hh : hasB t.id kl nl = false) {B : List Int × Int} (hB : B = ([], 1)) :
    Calls Tryd.prog 23 #[.agg #[.int .u16 t.id, .string t.space, .string t.name, .slice na nl nc, .slice ka kl kc]] w fun e w' => ∃ a cp, e = .returned (.tuple #[.slice a B.1.length cp, .int .i64 B.2]) ∧ Hid (IsB w' a B.1.length cp B.1) ∧ Below w.heap.size w w' := by
  have hkl := h.kl_le
  have hnl := h.nl_le
  have HKM : Hid (kl ≤ maxLen ∧ nl ≤ maxLen) := ⟨by omega, by omega⟩
  have HI : Hid (0 ≤ t.id ∧ t.id < 65536) := h.idr
  have HH : Hid _ := hh
  subst hB
  clear h hh hkl hnl
  go_enter Tryd.func23, Tryd.ntmps23
  go_wp2_with fail
  refine (own_any _ t.id t.space t.name na nl nc ka kl kc HI.out.1 HI.out.2 HKM.out.1 HKM.out.2 HH.out.symm).mono ?_
  rintro e w1 ⟨rfl, hB1⟩
  go_wp2_with fail
  go_ret2
  exact ⟨none, 0, rfl, isB_nil _, (below_one _ _).trans (hB1.mono (by simp))⟩

theorem putq_step (n : Nat) (ih : ∀ m, n = m + 1 → PutQ m) : PutQ n := by
  intro F w t na nl nc ka kl kc h hbd B hB
  have hrg : ∀ j : Nat, 0 ≤ B.1[j]?.getD 0 ∧ B.1[j]?.getD 0 ≤ 255 := by rw [hB]; exact tyB_range (n + 1) t
  have hke := h.kl_eq
  have hne := h.nl_eq
  have hid := h.idr
  rw [tyB, hke, hne] at hB
  cases hh : hasB t.id kl nl with
  | false =>
    rw [hh, if_pos rfl] at hB
    exact putq_no n h hh hB
  | true =>
    rw [hh, if_neg (by decide)] at hB
    by_cases e0 : t.id = 0
    · rw [if_pos e0] at hB
      have hk0 : t.kids = [] := by
        rw [e0] at hh
        have h1 : (decide (kl = 0) && decide (nl = 0)) = true := hh
        rw [Bool.and_eq_true, decide_eq_true_eq] at h1
        exact List.eq_nil_of_length_eq_zero (by omega)
      exact putq_custom n ih h hbd hh (by simp [e0]) (by simp [e0]) (by omega) hB hk0 hrg
    · rw [if_neg e0] at hB
      by_cases e48 : t.id = 48
      · rw [if_pos e48] at hB
        have hkn : kl = nl := by
          rw [e48] at hh
          have h1 : decide (kl = nl) = true := hh
          exact of_decide_eq_true h1
        exact putq_udt n ih h hbd hh (by simp [e48]) (by simpa using e0) (by omega) hkn (by rw [hke]; exact hB) hrg
      · rw [if_neg e48] at hB
        by_cases e49 : t.id = 49
        · rw [if_pos e49] at hB
          exact putq_tuple n ih h hbd hh (by simpa using e48) (by simpa using e0) (by omega) (by rw [hke]; exact hB) hrg
        · rw [if_neg e49] at hB
          refine putq_else n ih h hbd hh (by simpa using e48) (by simpa using e0) ?_ hB hrg
          by_cases e32 : t.id = 32
          · omega
          · by_cases e33 : t.id = 33
            · omega
            · by_cases e34 : t.id = 34
              · omega
              · rw [hasB_else e0 e32 e33 e34 e48 e49, Bool.and_eq_true, Bool.and_eq_true] at hh
                have hp := hh.1.1
                simp only [plainB, Bool.and_eq_true, decide_eq_true_eq] at hp
                omega

theorem putq_any : ∀ n, PutQ n
  | 0 => putq_step 0 (fun m e => by omega)
  | n + 1 => putq_step (n + 1) (fun m e => by obtain rfl : n = m := by omega
                                              exact putq_any n)

set_option maxHeartbeats 1000000 in
theorem refPut_any {F : Nat → Prop} {w : World} {t : Ty} {na : Option Addr} {nl nc : Nat} {ka : Option Addr} {kl kc : Nat} (h : TyAt 25 F w t na nl nc ka kl kc) (hbd : wgt 26 t ≤ 140737488355328) {B : List Int × Int} (hB : B = putR 25 t) :
    Calls Tryd.prog 13 #[.agg #[.int .u16 t.id, .string t.space, .string t.name, .slice na nl nc, .slice ka kl kc]] w fun e w' => ∃ a cp, e = .returned (.tuple #[.slice a B.1.length cp, .int .i64 B.2]) ∧ Hid (IsB w' a B.1.length cp B.1) ∧ Below w.heap.size w w' := by
  have H : Hid (TyAt 25 F w t na nl nc ka kl kc) := h
  have HBD : Hid _ := hbd
  have HB : Hid _ := hB
  obtain ⟨D, hD⟩ : ∃ D : Int, D = dep 25 t := ⟨_, rfl⟩
  have HD : Hid _ := hD
  have HDB : Hid (decide ((20 : Int) < D) = deepB 20 t) := by show _ = _; rw [hD]; exact dep_bool t
  have hD0 : 0 ≤ D := by omega
  have hD1 : D ≤ 2000 := by have := dep_le 25 t; omega
  clear h hB hbd hD
  go_enter Tryd.func13, Tryd.ntmps13
  go_wp2_with fail
  refine (dep_any 25 (by omega) F _ t na nl nc ka kl kc (H.out.old (below_one _ _)) D HD.out).mono ?_
  rintro e w1 ⟨rfl, hB1⟩
  have hBw : Below w.heap.size w w1 := (below_one _ _).trans (hB1.mono (by simp))
  have hbx : w1.heap[w.heap.size]? = some (.cells #[.int .u16 t.id, .string t.space, .string t.name, .slice na nl nc, .slice ka kl kc] 26 (0, 0)) := by rw [hB1.block _ (by simp)]; exact heap_alloc_new w _
  obtain ⟨c0, c1, c2, c3, c4⟩ := cells5 hbx
  have hs1 : w.heap.size < w1.heap.size := by have := hB1.size; simp at this; omega
  clear hbx hB1
  by_cases hdp : 20 < D
  · have HE : Hid (B = ([], 13)) := by show _ = _; rw [HB.out, putR, if_pos (by rw [← HDB.out]; simpa using hdp)]
    go_wp2_with fail
    go_ret2
    exact ⟨none, 0, by rw [HE.out]; rfl, by rw [HE.out]; exact isB_nil _, hBw⟩
  · have td : decide ((20 : Int) < D) = false := by simpa using hdp
    have HE : Hid (B = tyB 26 t) := by show _ = _; rw [HB.out, putR, if_neg (by rw [← HDB.out, td]; decide)]
    clear hdp
    go_wp2_with fail
    refine (putq_any 25 F w1 t na nl nc ka kl kc (H.out.old hBw) HBD.out B HE.out).mono ?_
    rintro e w2 ⟨a2, cp2, rfl, HI2, hB2⟩
    go_wp2_with fail
    go_ret2
    exact ⟨a2, cp2, rfl, HI2, hBw.trans (hB2.mono hBw.size)⟩

set_option maxHeartbeats 2000000 in
set_option maxRecDepth 20000 in
theorem puts_any {N : Nat} {F : Nat → Prop} {w : World} {t : Ty} {na : Option Addr} {nl nc : Nat} {ka : Option Addr} {kl kc : Nat} (h : TyAt N F w t na nl nc ka kl kc) (hT : Tab w) (htl : tlen 26 t ≤ 1099511627776) :
    Calls Tryd.prog 3 #[.agg #[.int .u16 t.id, .string t.space, .string t.name, .slice na nl nc, .slice ka kl kc]] w fun e w' => e = .returned (.bool true) ∧ Below w.heap.size w w' := by
  have H : Hid (TyAt N F w t na nl nc ka kl kc) := h
  have HT : Hid (Tab w) := hT
  have HTL : Hid _ := htl
  obtain ⟨d, hd⟩ : ∃ d, d = fewF 26 t := ⟨_, rfl⟩
  obtain ⟨B, hB⟩ : ∃ B, B = putR 25 t := ⟨_, rfl⟩
  obtain ⟨R, hR⟩ : ∃ R, R = textT 25 t := ⟨_, rfl⟩
  have HD : Hid _ := hd
  have HB : Hid _ := hB
  have HR : Hid _ := hR
  have HBX : Hid (∀ W, Below (w.heap.size + 1) (w.alloc (.cells #[.int .u16 t.id, .string t.space, .string t.name, .slice na nl nc, .slice ka kl kc] 26)) W → W.heap[w.heap.size]? = some (.cells #[.int .u16 t.id, .string t.space, .string t.name, .slice na nl nc, .slice ka kl kc] 26 (0, 0))) := fun W hW => by rw [hW.block _ (by omega)]; exact heap_alloc_new w _
  clear h hT hd hB hR htl
  go_enter Tryd.func3, Tryd.ntmps3
  go_wp2_with fail
  refine (awake_any _ (HT.out.old (below_one _ _))).mono ?_
  rintro e w1 ⟨rfl, hB1⟩
  have HW1 : Hid (Below (w.heap.size + 1) (w.alloc (.cells #[.int .u16 t.id, .string t.space, .string t.name, .slice na nl nc, .slice ka kl kc] 26)) w1) := hB1.mono (by simp)
  have hw1 : Below w.heap.size w w1 := (below_one w _).trans (HW1.out.mono (by omega))
  have hs1 := HW1.out.size
  simp at hs1
  obtain ⟨c0, c1, c2, c3, c4⟩ := cells5 (HBX.out w1 HW1.out)
  clear hB1
  go_wp2_with fail
  refine (few_any (H.out.old hw1) HD.out).mono ?_
  rintro e w2 ⟨rfl, hB2⟩
  have HW2 : Hid (Below (w.heap.size + 1) (w.alloc (.cells #[.int .u16 t.id, .string t.space, .string t.name, .slice na nl nc, .slice ka kl kc] 26)) w2) := HW1.out.trans (hB2.mono (by omega))
  have hw2 : Below w.heap.size w w2 := (below_one w _).trans (HW2.out.mono (by omega))
  have hs2 := hB2.size
  clear c0 c1 c2 c3 c4 hB2
  obtain ⟨c0, c1, c2, c3, c4⟩ := cells5 (HBX.out w2 HW2.out)
  cases d with
  | false =>
    go_wp2_with fail
    go_ret
    exact ⟨rfl, hw2⟩
  | true =>
    have HFIT : Hid (TyAt 25 F w t na nl nc ka kl kc) := few_fit 26 HD.out.symm H.out
    have HW : Hid (wgt (25 + 1) t ≤ 140737488355328) := Nat.le_trans (few_wgt26 HD.out.symm) (by omega)
    go_wp2_with fail
    refine (Put_any (HFIT.out.old hw2) (HT.out.old hw2) HW.out HB.out).mono ?_
    rintro e w3 ⟨v3, rfl, HA3, hB3⟩
    have HW3 : Hid (Below (w.heap.size + 1) (w.alloc (.cells #[.int .u16 t.id, .string t.space, .string t.name, .slice na nl nc, .slice ka kl kc] 26)) w3) := HW2.out.trans (hB3.mono (by omega))
    have hw3 : Below w.heap.size w w3 := (below_one w _).trans (HW3.out.mono (by omega))
    obtain ⟨a3, cp3, L, hL, hv3, hi3⟩ := HA3.out.bytes (by rw [HB.out]; exact putR_range _ _)
    subst hv3
    have HI3 : Hid (IsB w3 a3 L cp3 B.1) := hi3
    have HL : Hid _ := hL
    have hs3 := hB3.size
    clear c0 c1 c2 c3 c4 hB3 hi3 hL
    obtain ⟨c0, c1, c2, c3, c4⟩ := cells5 (HBX.out w3 HW3.out)
    go_wp2_with fail
    refine (refPut_any (HFIT.out.old hw3) HW.out HB.out).mono ?_
    rintro e w4 ⟨a4, cp4, rfl, HI4, hB4⟩
    have HW4 : Hid (Below (w.heap.size + 1) (w.alloc (.cells #[.int .u16 t.id, .string t.space, .string t.name, .slice na nl nc, .slice ka kl kc] 26)) w4) := HW3.out.trans (hB4.mono (by omega))
    have hw4 : Below w.heap.size w w4 := (below_one w _).trans (HW4.out.mono (by omega))
    have HI34 : Hid (IsB w4 a3 L cp3 B.1) := HI3.out.old hB4
    obtain ⟨L4, hL4⟩ : ∃ L4, L4 = B.1.length := ⟨_, rfl⟩
    rw [← hL4] at HI4 ⊢
    have hs4 := hB4.size
    clear c0 c1 c2 c3 c4 hB4 hL4
    obtain ⟨c0, c1, c2, c3, c4⟩ := cells5 (HBX.out w4 HW4.out)
    go_wp2_with fail
    refine (Text_any (HFIT.out.old hw4) (HT.out.old hw4) (Nat.le_trans HTL.out (by omega)) HR.out).mono ?_
    rintro e w5 ⟨rfl, hB5⟩
    have HW5 : Hid (Below (w.heap.size + 1) (w.alloc (.cells #[.int .u16 t.id, .string t.space, .string t.name, .slice na nl nc, .slice ka kl kc] 26)) w5) := HW4.out.trans (hB5.mono (by omega))
    have hw5 : Below w.heap.size w w5 := (below_one w _).trans (HW5.out.mono (by omega))
    have HI35 : Hid (IsB w5 a3 L cp3 B.1) := HI34.out.old hB5
    have HI45 : Hid (IsB w5 a4 L4 cp4 B.1) := HI4.out.old hB5
    have hs5 := hB5.size
    clear c0 c1 c2 c3 c4 hB5
    obtain ⟨c0, c1, c2, c3, c4⟩ := cells5 (HBX.out w5 HW5.out)
    go_wp2_with fail
    refine (refText_any (HFIT.out.old hw5) (Nat.le_trans HTL.out (by omega)) HR.out).mono ?_
    rintro e w6 ⟨rfl, hB6⟩
    have hw6 : Below w.heap.size w w6 := hw5.trans (hB6.mono hw5.size)
    have cv1 := (HI35.out.old hB6).conv
    have cv2 := (HI45.out.old hB6).conv
    generalize strOfNums B.1 = S at *
    clear c0 c1 c2 c3 c4 hB6 hw1 hw2 hw3 hw4 hw5
    go_wp2_with fail
    go_ret
    exact ⟨by simp, hw6⟩
end Go.Proofs.YtakaonfeegfmpaaDoor
