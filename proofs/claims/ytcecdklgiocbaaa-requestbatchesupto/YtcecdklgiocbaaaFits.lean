/-
  What is put is got: on bytes.
-/
import Derived.Test.YtcecdklgiocbaaaToldMath
namespace Go.Proofs.Ytcecdklgiocbaaa
open Go.RowKit
set_option maxRecDepth 100000
set_option linter.unusedVariables false
set_option linter.unusedSimpArgs false

/-- What is put of x is got, whatever is behind. -/
def Fits {α : Type} (p : List Int → Res α) (f : α → List Int × Int) (x : α) : Prop := (f x).2 = 0 → ∀ Z, p ((f x).1 ++ Z) = ⟨x, (f x).1.length, 0⟩

theorem fits_text (s : ByteArray) : Fits textR textB s := by
  intro h Z
  by_cases hs : s.size ≤ 65535
  · simp only [textB, if_pos hs]
    rw [List.append_assoc]
    have := text_told_yes (s.size : Int) (sNums s ++ Z) s.size (by omega) (by omega) (by rw [List.length_append, sNums_length]; omega)
    rw [textR, this]
    simp only [List.length_append, putL_length, sNums_length]
    rw [List.take_append_of_le_length (by rw [sNums_length]; omega), List.take_of_length_le (by rw [sNums_length]; omega), strOfNums_sNums]
  · simp [textB, hs] at h

/-- The items' bytes, one behind the other. -/
def bodyB {α : Type} (f : α → List Int × Int) (xs : List α) : List Int := xs.flatMap fun x => (f x).1

theorem goB_ok {α : Type} (f : α → List Int × Int) (xs : List α) : ∀ acc, (goB f xs acc).2 = 0 → (goB f xs acc).1 = acc ++ bodyB f xs ∧ ∀ x ∈ xs, (f x).2 = 0 := by
  induction xs with
  | nil => intro acc _; simp [goB, bodyB]
  | cons x r ih =>
    intro acc h
    rw [goB] at h ⊢
    by_cases he : (f x).2 = 0
    · rw [if_pos he] at h ⊢
      obtain ⟨h1, h2⟩ := ih _ h
      refine ⟨by rw [h1, bodyB, bodyB, List.flatMap_cons, List.append_assoc], fun y hy => ?_⟩
      rcases List.mem_cons.1 hy with rfl | hy
      · exact he
      · exact h2 y hy
    · rw [if_neg he] at h
      exact absurd h he

theorem goR_body {α : Type} {p : List Int → Res α} {f : α → List Int × Int} (xs : List α) (hf : ∀ x ∈ xs, Fits p f x) (he : ∀ x ∈ xs, (f x).2 = 0) (Z : List Int) :
    ∀ (P : List Int) (acc : List α) (d : Nat), d = P.length → goR p (P ++ (bodyB f xs ++ Z)) xs.length d acc = ⟨acc ++ xs, d + (bodyB f xs).length, 0⟩ := by
  induction xs with
  | nil => intro P acc d hd; simp [goR, bodyB]
  | cons x r ih =>
    intro P acc d hd
    have hx := hf x List.mem_cons_self (he x List.mem_cons_self) (bodyB f r ++ Z)
    have hb : bodyB f (x :: r) = (f x).1 ++ bodyB f r := by rw [bodyB, bodyB, List.flatMap_cons]
    have hdrop : (P ++ (bodyB f (x :: r) ++ Z)).drop d = (f x).1 ++ (bodyB f r ++ Z) := by rw [hd, List.drop_left, hb, List.append_assoc]
    have hih := ih (fun y hy => hf y (List.mem_cons_of_mem _ hy)) (fun y hy => he y (List.mem_cons_of_mem _ hy)) (P ++ (f x).1) (acc ++ [x]) (d + (f x).1.length) (by rw [List.length_append, hd])
    rw [List.length_cons, goR, hdrop, hx, if_pos rfl]
    simp only
    rw [hb, List.append_assoc, ← List.append_assoc P, hih, List.length_append]
    simp only [List.append_assoc, List.singleton_append, Nat.add_assoc]

theorem listB_ok {α : Type} {f : α → List Int × Int} {xs : List α} (h : (listB f xs).2 = 0) : xs.length ≤ 65535 ∧ (listB f xs).1 = putL xs.length 2 ++ bodyB f xs ∧ ∀ x ∈ xs, (f x).2 = 0 := by
  by_cases hl : xs.length ≤ 65535
  · rw [listB, if_pos hl] at h ⊢
    obtain ⟨h1, h2⟩ := goB_ok f xs _ h
    exact ⟨hl, h1, h2⟩
  · rw [listB, if_neg hl] at h
    exact absurd h (by decide)

theorem fits_list {α : Type} {p : List Int → Res α} {f : α → List Int × Int} (hf : ∀ x, Fits p f x) (xs : List α) : Fits (listR p) (listB f) xs := by
  intro h Z
  obtain ⟨hl, h1, h2⟩ := listB_ok h
  rw [h1, List.append_assoc, listR, if_neg (by rw [List.length_append, putL_length]; omega), told_text _ _ (by omega),
    show ((xs.length : Int) % 65536).toNat = xs.length by omega, goR_body xs (fun x _ => hf x) h2 Z _ _ _ (putL_length _ _).symm, List.nil_append, List.length_append, putL_length]

theorem fits_key {α : Type} [Inhabited α] {q : List Int → Res α} {g : α → List Int × Int} (hf : ∀ y, Fits q g y) (x : ByteArray × α) : Fits (keyR q) (keyB g) x := by
  intro h Z
  by_cases h1 : (textB x.1).2 = 0
  · by_cases h2 : (g x.2).2 = 0
    · have e : keyB g x = ((textB x.1).1 ++ (g x.2).1, 0) := by rw [keyB, if_pos h1, if_pos h2]
      have ht := fits_text x.1 h1 ((g x.2).1 ++ Z)
      have hq := hf x.2 h2 Z
      rw [e]
      simp only
      rw [List.append_assoc, keyR, ht]
      simp only
      rw [List.drop_left, hq, List.length_append]
      simp
    · rw [keyB, if_pos h1, if_neg h2] at h
      exact absurd h h2
  · rw [keyB, if_neg h1] at h
    exact absurd h h1
end Go.Proofs.Ytcecdklgiocbaaa
