/-
  The walk of OptionGets.
-/
import Derived.Test.YtakaonfeegfmpaaDoorSame
import Derived.Test.YtakaonfeegfmpaaDoorRefGet
import Derived.Test.YtakaonfeegfmpaaDoorBack
namespace Go.Proofs.YtakaonfeegfmpaaDoor
open Go.RowKit
set_option linter.unusedVariables false
set_option linter.unusedSimpArgs false

set_option maxHeartbeats 4000000 in
set_option maxRecDepth 20000 in
theorem gets_any {w : World} (hT : Tab w) {a : Option Addr} {len cap : Nat} {zs : List Int} (h : IsB w a len cap zs) :
    Calls Tryd.prog 4 #[.slice a len cap] w fun e w' => e = .returned (.bool true) ∧ Below w.heap.size w w' := by
  have HT : Hid (Tab w) := hT
  have H : Hid (IsB w a len cap zs) := h
  have hlm : len ≤ 9223372036854775807 := Nat.le_trans h.2.1 h.2.2.1
  obtain ⟨X, hX⟩ : ∃ X, X = tyR 20 zs := ⟨_, rfl⟩
  have HX : Hid _ := hX
  clear h hT hX
  go_enter Tryd.func4, Tryd.ntmps4
  go_wp2_with fail
  refine (awake_any _ HT.out).mono ?_
  rintro e w1 ⟨rfl, hB1⟩
  by_cases h2k : len ≤ 2000
  · have d2k : decide ((2000 : Int) < len) = false := by simp; omega
    have hl2 : len ≤ 2000 := h2k
    clear h2k
    go_wp2_with fail
    refine (Get_any (H.out.old hB1) (HT.out.old hB1) (by omega) HX.out).mono ?_
    rintro e w2 ⟨r, lr, cr, na, nl, nc, ka, kl, kc, rfl, HTY, HBH, hB2⟩
    have hw2 : Below w.heap.size w w2 := hB1.trans (hB2.mono hB1.size)
    have HW2 : Hid (Below w.heap.size w (w2.alloc (.cells #[.int .u16 X.val.id, .string X.val.space, .string X.val.name, .slice na nl nc, .slice ka kl kc] 26))) := hw2.trans ((below_one w2 _).mono hw2.size)
    clear hB1 hB2
    go_wp2_with fail
    refine (getsRef 20 (by omega) _ _ len cap zs (H.out.old HW2.out) (by omega) 0 (by omega) X (by rw [HX.out]; rfl) _ _ rfl rfl).mono ?_
    rintro e w3 ⟨na', nl', nc', ka', kl', kc', rfl, HTY3, HDD, hB3⟩
    have hbx : w3.heap[w2.heap.size]? = some (.cells #[.int .u16 X.val.id, .string X.val.space, .string X.val.name, .slice na nl nc, .slice ka kl kc] 26 (0, 0)) := by rw [hB3.block _ (by simp)]; exact heap_alloc_new w2 _
    obtain ⟨c0, c1, c2, c3, c4⟩ := cells5 hbx
    have hs3 := hB3.size
    simp at hs3
    have hs23 : w2.heap.size < w3.heap.size := by omega
    have HB23 : Hid (Below w2.heap.size w2 w3) := (below_one w2 _).trans (hB3.mono (by simp))
    have hw3 : Below w.heap.size w w3 := hw2.trans (HB23.out.mono hw2.size)
    obtain ⟨P, hP⟩ : ∃ P, P = place 0 X := ⟨_, rfl⟩
    rw [← hP]
    have HP : Hid _ := hP
    clear hbx hB3 hs3 hP
    go_wp2_with fail
    refine (same_any 19 _ _ _ X.val _ _ _ _ _ _ _ _ _ _ _ _ ((HTY.out.old HB23.out).old (below_one _ _)) (HTY3.out.old (below_one _ _))).mono ?_
    rintro e w4 ⟨rfl, hB4⟩
    have HB34 : Hid (Below w3.heap.size w3 w4) := (below_one w3 _).trans (hB4.mono (by simp))
    have HW4 : Hid (Below w.heap.size w w4) := hw3.trans (HB34.out.mono hw3.size)
    clear hB4 hw3 hw2
    by_cases he : X.err = 0
    · have hlr : IsB w2 r lr cr (zs.drop X.done) := by
        have := HBH.out
        rw [he] at this
        exact rest_isB this
      obtain ⟨D, hD⟩ : ∃ D, D = X.done := ⟨_, rfl⟩
      rw [← hD] at hlr
      have hDl : D ≤ len := by have := HDD.out he; omega
      have hPD : P = (D : Int) := by rw [HP.out, place, if_pos he, hD, Nat.zero_add]
      have hzl := H.out.1
      have hlp : 0 < len := by
        rcases Nat.eq_zero_or_pos len with h0 | h0
        · have hz0 : zs = [] := List.eq_nil_of_length_eq_zero (by omega)
          rw [HX.out, hz0] at he
          exact absurd (show (10 : Int) = 0 from he) (by decide)
        · exact h0
      obtain ⟨b, off, rfl, hR⟩ := (H.out.old HW4.out).2.2.2.2 hlp
      have hcv1 : ∀ q, (convert 29 9 (.slice r lr cr)).run Tryd.prog (w4.drewN q) = .ok (.string (strOfNums (zs.drop D))) (w4.drewN q) := fun q => (((hlr.old HB23.out).old HB34.out).old (below_drewN (Below.refl _ _) q)).conv
      have hcv2 : ∀ q off' c, (0 < len - D → off' = off + D) → (convert 29 9 (.slice (some ⟨b, off', none⟩) (len - D) c)).run Tryd.prog (w4.drewN q) = .ok (.string (strOfNums (zs.drop D))) (w4.drewN q) := fun q off' c ho => by
        have := (hR.old (below_drewN (Below.refl _ _) q)).piece D (len - D) off' c (by omega) ho
        rwa [List.take_of_length_le (by rw [List.length_drop]; omega)] at this
      have hcl := hR.le
      have hcm := hR.cap_le
      unfold maxLen at hcm
      have hlrr := hlr.2
      generalize strOfNums (zs.drop D) = T at *
      rw [he, hPD]
      clear hD hPD hR hlr hzl he HP HDD HX H HBH hlrr
      by_cases hca : cap = D
      · obtain rfl : len = D := by omega
        have hcv3 : ∀ q, (convert 29 9 (.slice (some ⟨b, off, none⟩) 0 0)).run Tryd.prog (w4.drewN q) = .ok (.string T) (w4.drewN q) := fun q => by
          have := hcv2 q off 0 (by omega)
          rwa [Nat.sub_self] at this
        subst hca
        clear hcv2
        go_wp2_with fail
        go_quiet (fail)
        go_wp2_with fail
        go_ret
        exact ⟨by simp, below_drewN HW4.out _⟩
      · have hcv3 := fun q => hcv2 q (off + D) (cap - D) (fun _ => rfl)
        clear hcv2
        go_wp2_with fail
        go_quiet (fail)
        go_wp2_with fail
        go_ret
        exact ⟨by simp, below_drewN HW4.out _⟩
    · have t : (X.err == 0) = false := by simpa using he
      have hlr : lr = 0 := by
        rcases HBH.out with ⟨_, h⟩ | ⟨h, _⟩
        · exact h
        · exact absurd h he
      have t2 : (X.err != 0) = true := by simpa using he
      subst hlr
      clear he
      go_wp2_with fail
      go_quiet (fail)
      go_wp2_with fail
      go_ret
      exact ⟨by simp, below_drewN HW4.out _⟩
  · have d2k : (2000 : Int) < len := by omega
    clear h2k
    go_wp2_with fail
    go_ret
    exact ⟨rfl, hB1⟩
end Go.Proofs.YtakaonfeegfmpaaDoor
