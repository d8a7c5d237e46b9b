/-
  What is put, and cut anywhere, ends too early: on bytes.
-/
import Derived.Test.YtcecdklgiocbaaaFits
namespace Go.Proofs.Ytcecdklgiocbaaa
open Go.RowKit
set_option maxRecDepth 100000
set_option linter.unusedVariables false
set_option linter.unusedSimpArgs false

/-- What is put of x is read to its end, whatever is behind. -/
def Reads {α : Type} (p : List Int → Res α) (f : α → List Int × Int) (x : α) : Prop := (f x).2 = 0 → ∀ Z, (p ((f x).1 ++ Z)).err = 0 ∧ (p ((f x).1 ++ Z)).done = (f x).1.length
/-- Cut anywhere, it ends too early. -/
def Cuts {α : Type} (p : List Int → Res α) (f : α → List Int × Int) (x : α) : Prop := (f x).2 = 0 → ∀ k, k < (f x).1.length → (p ((f x).1.take k)).err = 10

theorem reads_text (s : ByteArray) : Reads textR textB s := by
  intro h Z
  rw [fits_text s h Z]
  exact ⟨rfl, rfl⟩

theorem cuts_text (s : ByteArray) : Cuts textR textB s := by
  intro h k hk
  by_cases hs : s.size ≤ 65535
  · simp only [textB, if_pos hs] at hk ⊢
    rw [List.length_append, putL_length, sNums_length] at hk
    by_cases h2 : k < 2
    · unfold textR textA
      rw [if_pos (by rw [List.length_take, List.length_append, putL_length, sNums_length]; omega)]
    · have e : (putL (s.size : Int) 2 ++ sNums s).take k = putL (s.size : Int) 2 ++ (sNums s).take (k - 2) := by
        rw [List.take_append, putL_length, List.take_of_length_le (by rw [putL_length]; omega)]
      rw [e]
      have := text_told_no (s.size : Int) ((sNums s).take (k - 2)) (by omega) (by rw [List.length_take, sNums_length]; omega)
      unfold textR
      rw [this]
  · simp only [textB, if_neg hs] at hk
    simp at hk

theorem goR_cut {α : Type} {p : List Int → Res α} {f : α → List Int × Int} (xs : List α) (hr : ∀ x ∈ xs, Reads p f x) (hc : ∀ x ∈ xs, Cuts p f x) (he : ∀ x ∈ xs, (f x).2 = 0) :
    ∀ (P : List Int) (acc : List α) (d j : Nat), d = P.length → j < (bodyB f xs).length → (goR p (P ++ (bodyB f xs).take j) xs.length d acc).err = 10 := by
  induction xs with
  | nil => intro P acc d j hd hj; simp [bodyB] at hj
  | cons x r ih =>
    intro P acc d j hd hj
    have hb : bodyB f (x :: r) = (f x).1 ++ bodyB f r := by rw [bodyB, bodyB, List.flatMap_cons]
    have hx0 := he x List.mem_cons_self
    rw [hb, List.length_append] at hj
    rw [List.length_cons, goR]
    by_cases hlt : j < (f x).1.length
    · have e : (P ++ (bodyB f (x :: r)).take j).drop d = (f x).1.take j := by
        rw [hd, List.drop_left, hb, List.take_append_of_le_length (by omega)]
      have h10 := hc x List.mem_cons_self hx0 j hlt
      rw [e, if_neg (by rw [h10]; decide)]
      exact h10
    · have e : (bodyB f (x :: r)).take j = (f x).1 ++ (bodyB f r).take (j - (f x).1.length) := by
        rw [hb, List.take_append, List.take_of_length_le (by omega)]
      have e2 : (P ++ (bodyB f (x :: r)).take j).drop d = (f x).1 ++ (bodyB f r).take (j - (f x).1.length) := by
        rw [hd, List.drop_left, e]
      obtain ⟨h1, h2⟩ := hr x List.mem_cons_self hx0 ((bodyB f r).take (j - (f x).1.length))
      rw [e2, if_pos h1, h2, e, ← List.append_assoc]
      exact ih (fun y hy => hr y (List.mem_cons_of_mem _ hy)) (fun y hy => hc y (List.mem_cons_of_mem _ hy)) (fun y hy => he y (List.mem_cons_of_mem _ hy)) (P ++ (f x).1) _ _ _ (by rw [List.length_append, hd]) (by omega)

theorem cuts_list {α : Type} {p : List Int → Res α} {f : α → List Int × Int} (xs : List α) (hr : ∀ x ∈ xs, Reads p f x) (hc : ∀ x ∈ xs, Cuts p f x) : Cuts (listR p) (listB f) xs := by
  intro h k hk
  obtain ⟨hl, h1, h2⟩ := listB_ok h
  rw [h1] at hk ⊢
  rw [List.length_append, putL_length] at hk
  by_cases hk2 : k < 2
  · unfold listR
    rw [if_pos (by rw [List.length_take, List.length_append, putL_length]; omega)]
  · have e : (putL (xs.length : Int) 2 ++ bodyB f xs).take k = putL (xs.length : Int) 2 ++ (bodyB f xs).take (k - 2) := by
      rw [List.take_append, putL_length, List.take_of_length_le (by rw [putL_length]; omega)]
    rw [e, listR, if_neg (by rw [List.length_append, putL_length]; omega), told_text _ _ (by omega), show ((xs.length : Int) % 65536).toNat = xs.length by omega]
    exact goR_cut xs hr hc h2 _ _ _ _ (putL_length _ _).symm (by omega)

theorem reads_key {α : Type} [Inhabited α] {q : List Int → Res α} {g : α → List Int × Int} (x : ByteArray × α) (hq : Reads q g x.2) : Reads (keyR q) (keyB g) x := by
  intro h Z
  by_cases h1 : (textB x.1).2 = 0
  · by_cases h2 : (g x.2).2 = 0
    · have e : keyB g x = ((textB x.1).1 ++ (g x.2).1, 0) := by rw [keyB, if_pos h1, if_pos h2]
      have ht := fits_text x.1 h1 ((g x.2).1 ++ Z)
      obtain ⟨g1, g2⟩ := hq h2 Z
      rw [e]
      simp only
      rw [List.append_assoc, keyR, ht]
      simp only
      rw [List.drop_left, if_pos trivial, if_pos g1, List.length_append, g2]
      exact ⟨rfl, rfl⟩
    · rw [keyB, if_pos h1, if_neg h2] at h
      exact absurd h h2
  · rw [keyB, if_neg h1] at h
    exact absurd h h1

theorem cuts_key {α : Type} [Inhabited α] {q : List Int → Res α} {g : α → List Int × Int} (x : ByteArray × α) (hq : Cuts q g x.2) : Cuts (keyR q) (keyB g) x := by
  intro h k hk
  by_cases h1 : (textB x.1).2 = 0
  · by_cases h2 : (g x.2).2 = 0
    · have e : keyB g x = ((textB x.1).1 ++ (g x.2).1, 0) := by rw [keyB, if_pos h1, if_pos h2]
      rw [e] at hk ⊢
      simp only [List.length_append] at hk ⊢
      by_cases hlt : k < (textB x.1).1.length
      · have h10 := cuts_text x.1 h1 k hlt
        rw [List.take_append_of_le_length (by omega), keyR, if_neg (by rw [h10]; decide)]
        exact h10
      · have e2 : ((textB x.1).1 ++ (g x.2).1).take k = (textB x.1).1 ++ (g x.2).1.take (k - (textB x.1).1.length) := by
          rw [List.take_append, List.take_of_length_le (by omega)]
        have ht := fits_text x.1 h1 ((g x.2).1.take (k - (textB x.1).1.length))
        have h10 := hq h2 (k - (textB x.1).1.length) (by omega)
        rw [e2, keyR, ht]
        simp only
        rw [List.drop_left, if_pos trivial, if_neg (by rw [h10]; decide)]
        exact h10
    · rw [keyB, if_pos h1, if_neg h2] at h
      exact absurd h h2
  · rw [keyB, if_neg h1] at h
    exact absurd h h1

theorem minus_one (Z : List Int) : valueA ([255, 255, 255, 255] ++ Z) = ⟨0, [], 4, 0⟩ := by
  have e : putL 4294967295 4 = [255, 255, 255, 255] := by decide +kernel
  rw [← e]
  exact value_told_null 4294967295 Z (by omega) (by omega) (by decide +kernel)
theorem minus_two (Z : List Int) : valueA ([255, 255, 255, 254] ++ Z) = ⟨1, [], 4, 0⟩ := by
  have e : putL 4294967294 4 = [255, 255, 255, 254] := by decide +kernel
  rw [← e]
  exact value_told_unset 4294967294 Z (by omega) (by omega) (by decide +kernel)

theorem sig_small (n : Nat) (h : n < 2147483648) : sig (n : Int) = n := by
  unfold sig
  split <;> omega

theorem four_short (a b c d : Int) (k : Nat) (hk : k < 4) : (valueA ([a, b, c, d].take k)).err = 10 := by
  unfold valueA
  rw [if_pos (by rw [List.length_take]; simp; omega)]

theorem reads_value (x : Int × ByteArray) (hx : x.2.size < 2147483648) : Reads valueR valueB x := by
  intro h Z
  unfold valueR
  simp only
  unfold valueB at h ⊢
  by_cases h0 : x.1 = 0
  · rw [if_pos h0]; simp only; rw [minus_one]; exact ⟨rfl, rfl⟩
  rw [if_neg h0] at h ⊢
  by_cases h1 : x.1 = 1
  · rw [if_pos h1]; simp only; rw [minus_two]; exact ⟨rfl, rfl⟩
  rw [if_neg h1] at h ⊢
  by_cases h2 : x.1 = 2
  · rw [if_pos h2]
    simp only
    rw [List.append_assoc, value_told_yes (x.2.size : Int) (sNums x.2 ++ Z) x.2.size (by omega) (by omega) (sig_small _ hx) (by rw [List.length_append, sNums_length]; omega), List.length_append, putL_length, sNums_length]
    exact ⟨rfl, rfl⟩
  · rw [if_neg h2] at h; exact absurd h (by decide)

theorem cuts_value (x : Int × ByteArray) (hx : x.2.size < 2147483648) : Cuts valueR valueB x := by
  intro h k hk
  unfold valueR
  simp only
  unfold valueB at h hk ⊢
  by_cases h0 : x.1 = 0
  · rw [if_pos h0] at hk ⊢; exact four_short _ _ _ _ k hk
  rw [if_neg h0] at h hk ⊢
  by_cases h1 : x.1 = 1
  · rw [if_pos h1] at hk ⊢; exact four_short _ _ _ _ k hk
  rw [if_neg h1] at h hk ⊢
  by_cases h2 : x.1 = 2
  · rw [if_pos h2] at hk ⊢
    simp only at hk ⊢
    rw [List.length_append, putL_length, sNums_length] at hk
    by_cases hk4 : k < 4
    · unfold valueA
      rw [if_pos (by rw [List.length_take, List.length_append, putL_length]; omega)]
    · have e : (putL (x.2.size : Int) 4 ++ sNums x.2).take k = putL (x.2.size : Int) 4 ++ (sNums x.2).take (k - 4) := by
        rw [List.take_append, putL_length, List.take_of_length_le (by rw [putL_length]; omega)]
      rw [e, value_told_no (x.2.size : Int) _ (by omega) (by omega) (by rw [sig_small _ hx, List.length_take, sNums_length]; omega)]
  · rw [if_neg h2] at h; exact absurd h (by decide)
end Go.Proofs.Ytcecdklgiocbaaa
