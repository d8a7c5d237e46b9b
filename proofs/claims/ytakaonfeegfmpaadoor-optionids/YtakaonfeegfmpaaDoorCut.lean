/-
  The walk of OptionCut.
-/
import Derived.Test.YtakaonfeegfmpaaDoorFew
import Derived.Test.YtakaonfeegfmpaaDoorCutMath
import Derived.Test.YtakaonfeegfmpaaDoorDeep
namespace Go.Proofs.YtakaonfeegfmpaaDoor
open Go.RowKit
set_option linter.unusedVariables false
set_option linter.unusedSimpArgs false

theorem tyB_pos {n : Nat} {t : Ty} (h : (tyB (n + 1) t).2 = 0) : 2 ≤ (tyB (n + 1) t).1.length := by
  obtain ⟨_, _, he⟩ := tyB_zero h
  rw [he]
  simp only
  rw [told_len]; omega

theorem putR_ok {n : Nat} {t : Ty} (h : (putR n t).2 = 0) : deepB 20 t = false ∧ putR n t = tyB (n + 1) t := by
  unfold putR at h ⊢
  by_cases hd : deepB 20 t = true
  · rw [if_pos hd] at h; exact absurd (show (13 : Int) = 0 from h) (by decide)
  · rw [if_neg hd]
    exact ⟨by simpa using hd, rfl⟩

theorem putR_no {n : Nat} {t : Ty} (h : (putR n t).2 ≠ 0) : (putR n t).1 = [] := by
  unfold putR at h ⊢
  split
  · rfl
  · rename_i hd
    rw [if_neg hd] at h
    rw [tyB] at h ⊢
    split
    · rfl
    · rename_i hh
      rw [if_neg hh] at h
      exact cat_pure h

theorem putR_len {n : Nat} {t : Ty} : (putR n t).1.length ≤ wgt (n + 1) t := by
  unfold putR
  split
  · simp
  · exact tyB_len _ _

theorem cat_range {a b : List Int × Int} (ha : ∀ j : Nat, 0 ≤ a.1[j]?.getD 0 ∧ a.1[j]?.getD 0 ≤ 255) (hb : ∀ j : Nat, 0 ≤ b.1[j]?.getD 0 ∧ b.1[j]?.getD 0 ≤ 255) : ∀ j : Nat, 0 ≤ (cat a b).1[j]?.getD 0 ∧ (cat a b).1[j]?.getD 0 ≤ 255 := by
  unfold cat
  split
  · split
    · exact range_append ha hb
    · intro j; simp
  · intro j; simp
theorem goB_range {α : Type} {f : α → List Int × Int} (h : ∀ (x : α) (j : Nat), 0 ≤ (f x).1[j]?.getD 0 ∧ (f x).1[j]?.getD 0 ≤ 255) : ∀ (xs : List α) (j : Nat), 0 ≤ (goB f xs).1[j]?.getD 0 ∧ (goB f xs).1[j]?.getD 0 ≤ 255
  | [], j => by simp [goB]
  | x :: r, j => by rw [goB]; exact cat_range (h x) (goB_range h r) j
theorem countB_range (n : Nat) : ∀ j : Nat, 0 ≤ (countB n).1[j]?.getD 0 ∧ (countB n).1[j]?.getD 0 ≤ 255 := by
  unfold countB
  split
  · exact putL_range _ _
  · intro j; simp
theorem tyB_range : ∀ (n : Nat) (t : Ty) (j : Nat), 0 ≤ (tyB n t).1[j]?.getD 0 ∧ (tyB n t).1[j]?.getD 0 ≤ 255
  | 0, t, j => by simp [tyB]
  | n + 1, t, j => by
    have ih := tyB_range n
    rw [tyB]
    split
    · simp
    · refine cat_range (putL_range _ _) ?_ j
      split
      · exact textB_range _
      · split
        · exact cat_range (textB_range _) (cat_range (textB_range _) (cat_range (countB_range _) (goB_range (fun x => cat_range (textB_range _) (ih _)) _)))
        · split
          · exact cat_range (countB_range _) (goB_range ih _)
          · exact goB_range ih _
theorem putR_range (n : Nat) (t : Ty) : ∀ j : Nat, 0 ≤ (putR n t).1[j]?.getD 0 ∧ (putR n t).1[j]?.getD 0 ≤ 255 := by
  unfold putR
  split
  · intro j; simp
  · exact tyB_range _ _

theorem IsB.take {w : World} {a : Option Addr} {len cap : Nat} {zs : List Int} (h : IsB w a len cap zs) (k : Nat) (hk : k ≤ len) : IsB w a k cap (zs.take k) := by
  obtain ⟨h1, h2, h3, h4, h5⟩ := h
  refine ⟨by rw [List.length_take]; omega, by omega, h3, fun e => ⟨by have := (h4 e).1; omega, (h4 e).2⟩, fun hp => ?_⟩
  obtain ⟨b, off, ha, hR⟩ := h5 (by omega)
  refine ⟨b, off, ha, by rw [List.length_take, hR.len_eq]; omega, by have := hR.le; omega, hR.cap_le, fun _ => hR.lt (by omega), fun i hi => ?_, range_take hR.rng k⟩
  rw [hR.cell i (by omega), List.getD_eq_getElem?_getD, List.getD_eq_getElem?_getD, List.getElem?_take_of_lt hi]

theorem i64_and (n : Int) : bits .and .i64 n 65535 = n % 65536 := by
  have h7 : (BitVec.ofInt 64 65535).toNat = 2 ^ 16 - 1 := by decide
  have key : (BitVec.ofInt 64 n &&& BitVec.ofInt 64 65535).toNat = (n % ((2 ^ 64 : Nat) : Int)).toNat % 2 ^ 16 := by
    rw [BitVec.toNat_and, BitVec.toNat_ofInt, h7, Nat.and_two_pow_sub_one_eq_mod]
  show IntKind.i64.wrap ((BitVec.ofInt 64 n &&& BitVec.ofInt 64 65535).toNat : Nat) = n % 65536
  rw [key, IntKind.wrap_i64]
  omega

set_option maxHeartbeats 2000000 in
theorem cut_any {N : Nat} {F : Nat → Prop} {w : World} {t : Ty} {na : Option Addr} {nl nc : Nat} {ka : Option Addr} {kl kc : Nat} (h : TyAt N F w t na nl nc ka kl kc) (hT : Tab w) (at_ : Int) (h63 : -9223372036854775808 ≤ at_) (h64 : at_ ≤ 9223372036854775807) :
    Calls Tryd.prog 9 #[.agg #[.int .u16 t.id, .string t.space, .string t.name, .slice na nl nc, .slice ka kl kc], .int .i64 at_] w fun e w' => e = .returned (.bool true) ∧ Below w.heap.size w w' := by
  have H : Hid (TyAt N F w t na nl nc ka kl kc) := h
  have HT : Hid (Tab w) := hT
  obtain ⟨d, hd⟩ : ∃ d, d = fewF 26 t := ⟨_, rfl⟩
  obtain ⟨B, hB⟩ : ∃ B, B = putR 25 t := ⟨_, rfl⟩
  have HD : Hid _ := hd
  have HB : Hid _ := hB
  have hand := i64_and at_
  clear h hT hd hB
  go_enter Tryd.func9, Tryd.ntmps9
  go_wp2_with fail
  refine (awake_any _ (HT.out.old (below_one _ _))).mono ?_
  rintro e w1 ⟨rfl, hB1⟩
  have hw1 : Below w.heap.size w w1 := (below_one _ _).trans (hB1.mono (by simp))
  have hbx : w1.heap[w.heap.size]? = some (.cells #[.int .u16 t.id, .string t.space, .string t.name, .slice na nl nc, .slice ka kl kc] 26 (0, 0)) := by rw [hB1.block _ (by simp)]; exact heap_alloc_new w _
  obtain ⟨c0, c1, c2, c3, c4⟩ := cells5 hbx
  have HBX : Hid _ := hbx
  have hsz1 : w.heap.size < w1.heap.size := by have := hB1.size; simp at this; omega
  clear hbx hB1
  go_wp2_with fail
  refine (few_any (H.out.old hw1) HD.out).mono ?_
  rintro e w2 ⟨rfl, hB2⟩
  have hw2 : Below w.heap.size w w2 := hw1.trans (hB2.mono hw1.size)
  cases d with
  | false =>
    go_wp2_with fail
    go_ret
    exact ⟨rfl, hw2⟩
  | true =>
    have hbx2 : w2.heap[w.heap.size]? = some (.cells #[.int .u16 t.id, .string t.space, .string t.name, .slice na nl nc, .slice ka kl kc] 26 (0, 0)) := by rw [hB2.block _ hsz1]; exact HBX.out
    clear c0 c1 c2 c3 c4
    obtain ⟨c0, c1, c2, c3, c4⟩ := cells5 hbx2
    have HFIT : Hid (TyAt 25 F w2 t na nl nc ka kl kc) := few_fit 26 HD.out.symm (H.out.old hw2)
    have HW : Hid (wgt (25 + 1) t ≤ 288363600) := few_wgt26 HD.out.symm
    clear hbx2
    go_wp2_with fail
    refine (Put_any HFIT.out (HT.out.old hw2) (by have := HW.out; omega) HB.out).mono ?_
    rintro e w3 ⟨v3, rfl, HA3, hB3⟩
    have hw3 : Below w.heap.size w w3 := hw2.trans (hB3.mono hw2.size)
    obtain ⟨a3, cp3, hv3, hi3⟩ := isB_own HA3.out (by rw [HB.out]; exact putR_range _ _)
    obtain ⟨L, hL⟩ : ∃ L, L = B.1.length := ⟨_, rfl⟩
    rw [← hL] at hv3 hi3
    subst hv3
    have HI3 : Hid (IsB w3 a3 L cp3 B.1) := hi3
    have HL : Hid _ := hL
    have hLm : L ≤ 288363600 := by rw [hL, HB.out]; have := HW.out; have := putR_len (n := 25) (t := t); omega
    have hcp : L ≤ cp3 ∧ cp3 ≤ 9223372036854775807 := ⟨hi3.2.1, hi3.2.2.1⟩
    clear hi3 hL c0 c1 c2 c3 c4
    by_cases he : B.2 = 0
    · obtain ⟨hdp, hpr⟩ := putR_ok (show (putR 25 t).2 = 0 by rw [← HB.out]; exact he)
      have hL2 : 2 ≤ L := by
        rw [HL.out, HB.out, hpr]
        exact tyB_pos (by rw [← hpr, ← HB.out]; exact he)
      obtain ⟨K, hK⟩ : ∃ K : Nat, (at_ % 65536) % L = K := Int.eq_ofNat_of_zero_le (Int.emod_nonneg _ (by omega))
      have hKL : K < L := by have := Int.emod_lt_of_pos (at_ % 65536) (show (0 : Int) < L by omega); omega
      have h3 : 0 ≤ at_ % 65536 ∧ at_ % 65536 < 65536 := by omega
      obtain ⟨m, hm⟩ := Int.eq_ofNat_of_zero_le h3.1
      rw [hm] at hand hK h3
      obtain ⟨X, hX⟩ : ∃ X, X = tyR 20 (B.1.take K) := ⟨_, rfl⟩
      have HX : Hid _ := hX
      have HX10 : Hid (X.err = 10) := by
        show _ = _
        rw [hX, HB.out, hpr]
        exact cuts_ty 26 20 t hdp (by rw [← hpr, ← HB.out]; exact he) K (by rw [← hpr, ← HB.out, ← HL.out]; exact hKL)
      have HK : Hid _ := hK
      clear hX hdp hpr
      rw [he]
      go_wp2_with fail
      refine (Get_any (HI3.out.take K (by omega)) (HT.out.old hw3) (by omega) HX.out).mono ?_
      rintro e w4 ⟨r4, lr4, cr4, na4, nl4, nc4, ka4, kl4, kc4, rfl, HTY4, HBH4, hB4⟩
      have hlr : lr4 = 0 := by
        rcases HBH4.out with ⟨_, h2⟩ | ⟨h1, _⟩
        · exact h2
        · rw [HX10.out] at h1; exact absurd h1 (by decide)
      subst hlr
      rw [HX10.out]
      go_wp2_with fail
      go_ret
      exact ⟨rfl, (hw3.trans (hB4.mono hw3.size)).trans ((below_one w4 _).mono (Nat.le_trans hw3.size hB4.size))⟩
    · have t2 : (B.2 == 0) = false := by simpa using he
      have hL0 : L = 0 := by
        rw [HL.out, HB.out, putR_no (by rw [← HB.out]; exact he)]; rfl
      subst hL0
      clear he
      go_wp2_with fail
      go_ret
      exact ⟨rfl, hw3⟩
end Go.Proofs.YtakaonfeegfmpaaDoor
