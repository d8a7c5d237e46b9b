/-
  What is got is put as it was: on bytes.
-/
import Derived.Test.YtohgaeamfobcaaaFits
namespace Go.Proofs.Ytohgaeamfobcaaa
open Go.RowKit
set_option linter.unusedVariables false
set_option linter.unusedSimpArgs false

/-- What is got of bytes is put as it was. -/
def Puts {α : Type} (p : List Int → Res α) (f : α → List Int × Int) : Prop := ∀ zs : List Int, (∀ j : Nat, 0 ≤ zs[j]?.getD 0 ∧ zs[j]?.getD 0 ≤ 255) → (p zs).err = 0 → (p zs).done ≤ zs.length ∧ f (p zs).val = (zs.take (p zs).done, 0)

theorem putL_first (zs : List Int) (hr : ∀ j : Nat, 0 ≤ zs[j]?.getD 0 ∧ zs[j]?.getD 0 ≤ 255) (hl : 2 ≤ zs.length) : putL (numTo zs 2) 2 = zs.take 2 := by
  match zs, hl with
  | a :: b :: r, _ =>
    have h0 := hr 0
    have h1 := hr 1
    simp at h0 h1
    have e : numTo (a :: b :: r) 2 = a * 256 + b := by simp [numTo]
    rw [e]
    simp [putL, byteAt, List.range_succ]
    omega

theorem puts_text : Puts textR textB := by
  intro zs hr he
  unfold textR at he ⊢
  simp only at he ⊢
  unfold textA at he ⊢
  by_cases hl : zs.length < 2
  · rw [if_pos hl] at he; exact absurd he (by decide)
  · rw [if_neg hl] at he ⊢
    by_cases hn : ((zs.length - 2 : Nat) : Int) < numTo zs 2
    · rw [if_pos hn] at he; exact absurd he (by decide)
    · rw [if_neg hn]
      have hb := numTo_bound zs hr 2 (by omega)
      have h4 : (256 : Int) ^ 2 = 65536 := by decide
      obtain ⟨n, hn2⟩ := Int.eq_ofNat_of_zero_le hb.1
      have hp := putL_first zs hr (by omega)
      rw [hn2] at hn hb hp ⊢
      simp only [Int.toNat_natCast]
      have hsz : (strOfNums ((zs.drop 2).take n)).size = n := by rw [strOfNums_size, List.length_take, List.length_drop]; omega
      refine ⟨by omega, ?_⟩
      rw [textB, hsz, if_pos (by omega), sNums_strOfNums (range_take (range_drop hr 2) n), hp]
      congr 1
      rw [← List.take_add]

theorem goR_puts {α : Type} {p : List Int → Res α} {f : α → List Int × Int} (hf : Puts p f) (zs : List Int) (hr : ∀ j : Nat, 0 ≤ zs[j]?.getD 0 ∧ zs[j]?.getD 0 ≤ 255) :
    ∀ (n d : Nat) (acc : List α), d ≤ zs.length → (goR p zs n d acc).err = 0 → ∃ xs : List α, (goR p zs n d acc).val = acc ++ xs ∧ xs.length = n ∧ (∀ x ∈ xs, (f x).2 = 0) ∧ (goR p zs n d acc).done = d + (bodyB f xs).length ∧ (goR p zs n d acc).done ≤ zs.length ∧
      bodyB f xs = (zs.drop d).take (bodyB f xs).length := by
  intro n
  induction n with
  | zero => intro d acc hd _; exact ⟨[], by simp [goR], rfl, by simp, by simp [goR, bodyB], by simpa [goR] using hd, by simp [bodyB]⟩
  | succ n ih =>
    intro d acc hd he
    rw [goR] at he ⊢
    by_cases hx : (p (zs.drop d)).err = 0
    · rw [if_pos hx] at he ⊢
      obtain ⟨h1, h2⟩ := hf (zs.drop d) (range_drop hr d) hx
      rw [List.length_drop] at h1
      obtain ⟨xs, g1, g2, g3, g4, g5, g6⟩ := ih _ _ (by omega) he
      have hlen : (f (p (zs.drop d)).val).1.length = (p (zs.drop d)).done := by rw [h2]; simp; omega
      have hb : bodyB f ((p (zs.drop d)).val :: xs) = (zs.drop d).take (p (zs.drop d)).done ++ bodyB f xs := by rw [bodyB, bodyB, List.flatMap_cons, h2]
      refine ⟨(p (zs.drop d)).val :: xs, by rw [g1, List.append_assoc]; rfl, by rw [List.length_cons, g2], fun x hx2 => ?_, ?_, g5, ?_⟩
      · rcases List.mem_cons.1 hx2 with rfl | hx2
        · rw [h2]
        · exact g3 x hx2
      · rw [g4, hb, List.length_append, List.length_take, List.length_drop]; omega
      · rw [hb, List.length_append, List.length_take, List.length_drop, Nat.min_eq_left (by omega), List.take_add, List.drop_drop, ← g6]
    · rw [if_neg hx] at he
      exact absurd he hx

theorem puts_list {α : Type} {p : List Int → Res α} {f : α → List Int × Int} (hf : Puts p f) : Puts (listR p) (listB f) := by
  intro zs hr he
  unfold listR at he ⊢
  by_cases hl : zs.length < 2
  · rw [if_pos hl] at he; exact absurd he (by decide : ¬ (10 : Int) = 0)
  · rw [if_neg hl] at he ⊢
    have hb := numTo_bound zs hr 2 (by omega)
    have h4 : (256 : Int) ^ 2 = 65536 := by decide
    obtain ⟨n, hn2⟩ := Int.eq_ofNat_of_zero_le hb.1
    have hp := putL_first zs hr (by omega)
    rw [hn2] at hb hp he ⊢
    simp only [Int.toNat_natCast] at he ⊢
    obtain ⟨xs, g1, g2, g3, g4, g5, g6⟩ := goR_puts hf zs hr n 2 [] (by omega) he
    refine ⟨g5, ?_⟩
    rw [g1, g4, List.nil_append, listB, if_pos (by omega), g2, hp]
    have hgo : ∀ (ys : List α) (acc : List Int), (∀ x ∈ ys, (f x).2 = 0) → goB f ys acc = (acc ++ bodyB f ys, 0) := by
      intro ys
      induction ys with
      | nil => intro acc _; simp [goB, bodyB]
      | cons y r ih =>
        intro acc h
        rw [goB, if_pos (h y List.mem_cons_self), ih _ (fun x hx => h x (List.mem_cons_of_mem _ hx)), bodyB, bodyB, List.flatMap_cons, List.append_assoc]
    rw [hgo xs _ g3, List.take_add, ← g6]

theorem goR_err {α : Type} (p : List Int → Res α) (zs : List Int) : ∀ (n d : Nat) (acc : List α), (goR p zs n d acc).err ≠ 0 → (goR p zs n d acc).val = [] := by
  intro n
  induction n with
  | zero => intro d acc h; exact absurd rfl h
  | succ n ih =>
    intro d acc h
    rw [goR] at h ⊢
    split
    · rename_i hx
      rw [if_pos hx] at h
      exact ih _ _ h
    · rfl

theorem listR_err {α : Type} (p : List Int → Res α) (zs : List Int) (h : (listR p zs).err ≠ 0) : (listR p zs).val = [] := by
  unfold listR at h ⊢
  split
  · rfl
  · rename_i hl
    rw [if_neg hl] at h
    exact goR_err p zs _ _ _ h
end Go.Proofs.Ytohgaeamfobcaaa
