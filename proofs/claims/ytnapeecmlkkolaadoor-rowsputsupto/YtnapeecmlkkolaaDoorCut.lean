/-
  The walk of OptionCut.
-/
import Derived.Test.YtnapeecmlkkolaaDoorFew
import Derived.Test.YtnapeecmlkkolaaDoorCutMath
import Derived.Test.YtnapeecmlkkolaaDoorAc
namespace Go.Proofs.YtnapeecmlkkolaaDoor
open Go.RowKit
set_option linter.unusedVariables false
set_option linter.unusedSimpArgs false

theorem tyB_pos {n : Nat} {t : Ty} (h : (tyB (n + 1) t).2 = 0) : 2 ≤ (tyB (n + 1) t).1.length := by
  obtain ⟨_, _, he⟩ := tyB_zero h
  rw [he]
  simp only
  rw [told_len]; omega

theorem putR_ok {n : Nat} {t : Ty} (h : (putR n t).2 = 0) : deepB 20 t = false ∧ putR n t = tyB (n + 1) t := by
  unfold putR at h ⊢
  by_cases hd : deepB 20 t = true
  · rw [if_pos hd] at h; exact absurd (show (13 : Int) = 0 from h) (by decide)
  · rw [if_neg hd]
    exact ⟨by simpa using hd, rfl⟩

theorem putR_no {n : Nat} {t : Ty} (h : (putR n t).2 ≠ 0) : (putR n t).1 = [] := by
  unfold putR at h ⊢
  split
  · rfl
  · rename_i hd
    rw [if_neg hd] at h
    rw [tyB] at h ⊢
    split
    · rfl
    · rename_i hh
      rw [if_neg hh] at h
      exact cat_pure h

theorem putR_len {n : Nat} {t : Ty} : (putR n t).1.length ≤ wgt (n + 1) t := by
  unfold putR
  split
  · simp
  · exact tyB_len _ _

theorem cat_range {a b : List Int × Int} (ha : ∀ j : Nat, 0 ≤ a.1[j]?.getD 0 ∧ a.1[j]?.getD 0 ≤ 255) (hb : ∀ j : Nat, 0 ≤ b.1[j]?.getD 0 ∧ b.1[j]?.getD 0 ≤ 255) : ∀ j : Nat, 0 ≤ (cat a b).1[j]?.getD 0 ∧ (cat a b).1[j]?.getD 0 ≤ 255 := by
  unfold cat
  split
  · split
    · exact range_append ha hb
    · intro j; simp
  · intro j; simp
theorem goB_range {α : Type} {f : α → List Int × Int} (h : ∀ (x : α) (j : Nat), 0 ≤ (f x).1[j]?.getD 0 ∧ (f x).1[j]?.getD 0 ≤ 255) : ∀ (xs : List α) (j : Nat), 0 ≤ (goB f xs).1[j]?.getD 0 ∧ (goB f xs).1[j]?.getD 0 ≤ 255
  | [], j => by simp [goB]
  | x :: r, j => by rw [goB]; exact cat_range (h x) (goB_range h r) j
theorem countB_range (n : Nat) : ∀ j : Nat, 0 ≤ (countB n).1[j]?.getD 0 ∧ (countB n).1[j]?.getD 0 ≤ 255 := by
  unfold countB
  split
  · exact putL_range _ _
  · intro j; simp
theorem tyB_range : ∀ (n : Nat) (t : Ty) (j : Nat), 0 ≤ (tyB n t).1[j]?.getD 0 ∧ (tyB n t).1[j]?.getD 0 ≤ 255
  | 0, t, j => by simp [tyB]
  | n + 1, t, j => by
    have ih := tyB_range n
    rw [tyB]
    split
    · simp
    · refine cat_range (putL_range _ _) ?_ j
      split
      · exact textB_range _
      · split
        · exact cat_range (textB_range _) (cat_range (textB_range _) (cat_range (countB_range _) (goB_range (fun x => cat_range (textB_range _) (ih _)) _)))
        · split
          · exact cat_range (countB_range _) (goB_range ih _)
          · exact goB_range ih _
theorem putR_range (n : Nat) (t : Ty) : ∀ j : Nat, 0 ≤ (putR n t).1[j]?.getD 0 ∧ (putR n t).1[j]?.getD 0 ≤ 255 := by
  unfold putR
  split
  · intro j; simp
  · exact tyB_range _ _

theorem IsB.take {w : World} {a : Option Addr} {len cap : Nat} {zs : List Int} (h : IsB w a len cap zs) (k : Nat) (hk : k ≤ len) : IsB w a k cap (zs.take k) := by
  obtain ⟨h1, h2, h3, h4, h5⟩ := h
  refine ⟨by rw [List.length_take]; omega, by omega, h3, fun e => ⟨by have := (h4 e).1; omega, (h4 e).2⟩, fun hp => ?_⟩
  obtain ⟨b, off, ha, hR⟩ := h5 (by omega)
  refine ⟨b, off, ha, by rw [List.length_take, hR.len_eq]; omega, by have := hR.le; omega, hR.cap_le, fun _ => hR.lt (by omega), fun i hi => ?_, range_take hR.rng k⟩
  rw [hR.cell i (by omega), List.getD_eq_getElem?_getD, List.getD_eq_getElem?_getD, List.getElem?_take_of_lt hi]

theorem i64_and (n : Int) : bits .and .i64 n 65535 = n % 65536 := by
  have h7 : (BitVec.ofInt 64 65535).toNat = 2 ^ 16 - 1 := by decide
  have key : (BitVec.ofInt 64 n &&& BitVec.ofInt 64 65535).toNat = (n % ((2 ^ 64 : Nat) : Int)).toNat % 2 ^ 16 := by
    rw [BitVec.toNat_and, BitVec.toNat_ofInt, h7, Nat.and_two_pow_sub_one_eq_mod]
  show IntKind.i64.wrap ((BitVec.ofInt 64 n &&& BitVec.ofInt 64 65535).toNat : Nat) = n % 65536
  rw [key, IntKind.wrap_i64]
  omega
end Go.Proofs.YtnapeecmlkkolaaDoor
