/-
  The document's own Put, and the walk of OptionPuts.
-/
import Derived.Test.YtnapeecmlkkolaaDoorRefPutU
import Derived.Test.YtnapeecmlkkolaaDoorRefPutT
import Derived.Test.YtnapeecmlkkolaaDoorCut
import Derived.Test.YtnapeecmlkkolaaDoorBackLen
namespace Go.Proofs.YtnapeecmlkkolaaDoor
open Go.RowKit
set_option linter.unusedVariables false
set_option linter.unusedSimpArgs false

set_option maxHeartbeats 1000000 in
theorem putq_no (n : Nat) {F : Nat → Prop} {w : World} {t : Ty} {na : Option Addr} {nl nc : Nat} {ka : Option Addr} {kl kc : Nat} (h : TyAt n F w t na nl nc ka kl kc) (hh : hasB t.id kl nl = false) {B : List Int × Int} (hB : B = ([], 1)) :
    Calls Tryd.prog 66 #[.agg #[.int .u16 t.id, .string t.space, .string t.name, .slice na nl nc, .slice ka kl kc]] w fun e w' => ∃ a cp, e = .returned (.tuple #[.slice a B.1.length cp, .int .i64 B.2]) ∧ Hid (IsB w' a B.1.length cp B.1) ∧ Below w.heap.size w w' := by
  have hkl := h.kl_le
  have hnl := h.nl_le
  have HKM : Hid (kl ≤ maxLen ∧ nl ≤ maxLen) := ⟨by omega, by omega⟩
  have HI : Hid (0 ≤ t.id ∧ t.id < 65536) := h.idr
  have HH : Hid _ := hh
  subst hB
  clear h hh hkl hnl
  go_enter Tryd.func66, Tryd.ntmps66
  go_wp2_with fail
  refine (own_any _ t.id t.space t.name na nl nc ka kl kc HI.out.1 HI.out.2 HKM.out.1 HKM.out.2 HH.out.symm).mono ?_
  rintro e w1 ⟨rfl, hB1⟩
  go_wp2_with fail
  go_ret2
  exact ⟨none, 0, rfl, isB_nil _, (below_one _ _).trans (hB1.mono (by simp))⟩

theorem putq_step (n : Nat) (ih : ∀ m, n = m + 1 → PutQ m) : PutQ n := by
  intro F w t na nl nc ka kl kc h hbd B hB
  have hrg : ∀ j : Nat, 0 ≤ B.1[j]?.getD 0 ∧ B.1[j]?.getD 0 ≤ 255 := by rw [hB]; exact tyB_range (n + 1) t
  have hke := h.kl_eq
  have hne := h.nl_eq
  have hid := h.idr
  rw [tyB, hke, hne] at hB
  cases hh : hasB t.id kl nl with
  | false =>
    rw [hh, if_pos rfl] at hB
    exact putq_no n h hh hB
  | true =>
    rw [hh, if_neg (by decide)] at hB
    by_cases e0 : t.id = 0
    · rw [if_pos e0] at hB
      have hk0 : t.kids = [] := by
        rw [e0] at hh
        have h1 : (decide (kl = 0) && decide (nl = 0)) = true := hh
        rw [Bool.and_eq_true, decide_eq_true_eq] at h1
        exact List.eq_nil_of_length_eq_zero (by omega)
      exact putq_custom n ih h hbd hh (by simp [e0]) (by simp [e0]) (by omega) hB hk0 hrg
    · rw [if_neg e0] at hB
      by_cases e48 : t.id = 48
      · rw [if_pos e48] at hB
        have hkn : kl = nl := by
          rw [e48] at hh
          have h1 : decide (kl = nl) = true := hh
          exact of_decide_eq_true h1
        exact putq_udt n ih h hbd hh (by simp [e48]) (by simpa using e0) (by omega) hkn (by rw [hke]; exact hB) hrg
      · rw [if_neg e48] at hB
        by_cases e49 : t.id = 49
        · rw [if_pos e49] at hB
          exact putq_tuple n ih h hbd hh (by simpa using e48) (by simpa using e0) (by omega) (by rw [hke]; exact hB) hrg
        · rw [if_neg e49] at hB
          refine putq_else n ih h hbd hh (by simpa using e48) (by simpa using e0) ?_ hB hrg
          by_cases e32 : t.id = 32
          · omega
          · by_cases e33 : t.id = 33
            · omega
            · by_cases e34 : t.id = 34
              · omega
              · rw [hasB_else e0 e32 e33 e34 e48 e49, Bool.and_eq_true, Bool.and_eq_true] at hh
                have hp := hh.1.1
                simp only [plainB, Bool.and_eq_true, decide_eq_true_eq] at hp
                omega

theorem putq_any : ∀ n, PutQ n
  | 0 => putq_step 0 (fun m e => by omega)
  | n + 1 => putq_step (n + 1) (fun m e => by obtain rfl : n = m := by omega
                                              exact putq_any n)

set_option maxHeartbeats 1000000 in
theorem refPut_any {F : Nat → Prop} {w : World} {t : Ty} {na : Option Addr} {nl nc : Nat} {ka : Option Addr} {kl kc : Nat} (h : TyAt 25 F w t na nl nc ka kl kc) (hbd : wgt 26 t ≤ 140737488355328) {B : List Int × Int} (hB : B = putR 25 t) :
    Calls Tryd.prog 39 #[.agg #[.int .u16 t.id, .string t.space, .string t.name, .slice na nl nc, .slice ka kl kc]] w fun e w' => ∃ a cp, e = .returned (.tuple #[.slice a B.1.length cp, .int .i64 B.2]) ∧ Hid (IsB w' a B.1.length cp B.1) ∧ Below w.heap.size w w' := by
  have H : Hid (TyAt 25 F w t na nl nc ka kl kc) := h
  have HBD : Hid _ := hbd
  have HB : Hid _ := hB
  obtain ⟨D, hD⟩ : ∃ D : Int, D = dep 25 t := ⟨_, rfl⟩
  have HD : Hid _ := hD
  have HDB : Hid (decide ((20 : Int) < D) = deepB 20 t) := by show _ = _; rw [hD]; exact dep_bool t
  have hD0 : 0 ≤ D := by omega
  have hD1 : D ≤ 2000 := by have := dep_le 25 t; omega
  clear h hB hbd hD
  go_enter Tryd.func39, Tryd.ntmps39
  go_wp2_with fail
  refine (dep_any 25 (by omega) F _ t na nl nc ka kl kc (H.out.old (below_one _ _)) D HD.out).mono ?_
  rintro e w1 ⟨rfl, hB1⟩
  have hBw : Below w.heap.size w w1 := (below_one _ _).trans (hB1.mono (by simp))
  have hbx : w1.heap[w.heap.size]? = some (.cells #[.int .u16 t.id, .string t.space, .string t.name, .slice na nl nc, .slice ka kl kc] 62 (0, 0)) := by rw [hB1.block _ (by simp)]; exact heap_alloc_new w _
  obtain ⟨c0, c1, c2, c3, c4⟩ := cells5 hbx
  have hs1 : w.heap.size < w1.heap.size := by have := hB1.size; simp at this; omega
  clear hbx hB1
  by_cases hdp : 20 < D
  · have HE : Hid (B = ([], 13)) := by show _ = _; rw [HB.out, putR, if_pos (by rw [← HDB.out]; simpa using hdp)]
    go_wp2_with fail
    go_ret2
    exact ⟨none, 0, by rw [HE.out]; rfl, by rw [HE.out]; exact isB_nil _, hBw⟩
  · have td : decide ((20 : Int) < D) = false := by simpa using hdp
    have HE : Hid (B = tyB 26 t) := by show _ = _; rw [HB.out, putR, if_neg (by rw [← HDB.out, td]; decide)]
    clear hdp
    go_wp2_with fail
    refine (putq_any 25 F w1 t na nl nc ka kl kc (H.out.old hBw) HBD.out B HE.out).mono ?_
    rintro e w2 ⟨a2, cp2, rfl, HI2, hB2⟩
    go_wp2_with fail
    go_ret2
    exact ⟨a2, cp2, rfl, HI2, hBw.trans (hB2.mono hBw.size)⟩
end Go.Proofs.YtnapeecmlkkolaaDoor
