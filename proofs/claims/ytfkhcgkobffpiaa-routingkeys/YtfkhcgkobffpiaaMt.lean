/-
  Keys of parts, and the parts of keys: plain mathematics, with no program in it.
-/
import Derived.Test.YtfkhcgkobffpiaaOc
namespace Go.Proofs.Ytfkhcgkobffpiaa
open Go.RowKit
set_option linter.unusedVariables false
set_option linter.unusedSimpArgs false

abbrev Bs (X : List Int) : Prop := ∀ j : Nat, 0 ≤ X[j]?.getD 0 ∧ X[j]?.getD 0 ≤ 255

theorem bs_nil : Bs [] := fun j => by simp
theorem bs_zero : Bs [0] := fun j => by
  match j with
  | 0 => simp
  | j + 1 => simp

/-- A part as it is laid among several; a key of several. -/
def partL (p : List Int) : List Int := putL p.length 2 ++ (p ++ [0])
def keyL (ps : List (List Int)) : List Int := (ps.map partL).flatten

theorem partL_length (p : List Int) : (partL p).length = p.length + 3 := by
  unfold partL; simp [putL_length]; omega

theorem partL_bs {p : List Int} (h : Bs p) : Bs (partL p) := range_append (putL_range _ _) (range_append h bs_zero)

theorem keyL_nil : keyL [] = [] := rfl
theorem keyL_cons (p : List Int) (ps : List (List Int)) : keyL (p :: ps) = partL p ++ keyL ps := by simp [keyL]
theorem keyL_snoc (ps : List (List Int)) (p : List Int) : keyL (ps ++ [p]) = keyL ps ++ partL p := by simp [keyL]

theorem keyL_bs : ∀ (ps : List (List Int)), (∀ p ∈ ps, Bs p) → Bs (keyL ps)
  | [], _ => bs_nil
  | p :: ps, h => by
    rw [keyL_cons]
    exact range_append (partL_bs (h p (by simp))) (keyL_bs ps (fun q hq => h q (by simp [hq])))

theorem keyL_take (ps : List (List Int)) (k : Nat) (h : k < ps.length) : keyL (ps.take (k + 1)) = keyL (ps.take k) ++ partL (ps.getD k default) := by
  rw [List.take_succ_eq_append_getElem h, keyL_snoc, List.getD_eq_getElem?_getD, List.getElem?_eq_getElem h]
  rfl

/-- How long a key of several is. -/
def sumL : List (List Int) → Nat
  | [] => 0
  | p :: ps => p.length + 3 + sumL ps

theorem keyL_length : ∀ (ps : List (List Int)), (keyL ps).length = sumL ps
  | [] => rfl
  | p :: ps => by rw [keyL_cons, List.length_append, partL_length, keyL_length ps]; rfl

theorem sumL_le (m : Nat) : ∀ (ps : List (List Int)), (∀ p ∈ ps, p.length ≤ m) → sumL ps ≤ ps.length * (m + 3)
  | [], _ => by simp [sumL]
  | p :: ps, h => by
    have h1 := h p (by simp)
    have h2 := sumL_le m ps (fun q hq => h q (by simp [hq]))
    rw [sumL, List.length_cons, Nat.succ_mul]
    omega

theorem sumL_snoc (ps : List (List Int)) (p : List Int) : sumL (ps ++ [p]) = sumL ps + (p.length + 3) := by
  rw [← keyL_length, keyL_snoc, List.length_append, keyL_length, partL_length]

/-- What a Key is of parts that may be. -/
def keyB (ps : List (List Int)) : List Int := if ps.length = 1 then ps.getD 0 default else keyL ps

/-- One part off the beginning: the error, the part, how many bytes are done with. -/
def oneP (zs : List Int) : Int × List Int × Nat :=
  if zs.length < 2 then (10, [], 0)
  else if zs.length < 2 + (numTo zs 2).toNat + 1 then (10, [], 0)
  else if zs.getD (2 + (numTo zs 2).toNat) 0 = 0 then (0, (zs.drop 2).take (numTo zs 2).toNat, 2 + (numTo zs 2).toNat + 1)
  else (11, [], 0)

/-- All parts, with those that are off already; the error. -/
def partsR : Nat → List Int → List (List Int) → Int × List (List Int)
  | 0, _, acc => (0, acc)
  | f + 1, zs, acc =>
    if zs.length = 0 then (0, acc)
    else if (oneP zs).1 = 0 then partsR f (zs.drop (oneP zs).2.2) (acc ++ [(oneP zs).2.1])
    else ((oneP zs).1, [])

def partsA (zs : List Int) : Int × List (List Int) := partsR zs.length zs []

theorem oneP_done {zs : List Int} (h : (oneP zs).1 = 0) : 3 ≤ (oneP zs).2.2 ∧ (oneP zs).2.2 ≤ zs.length := by
  unfold oneP at h ⊢
  split
  · rename_i h1; simp [h1] at h
  · rename_i h1
    rw [if_neg h1] at h
    split
    · rename_i h2; simp [h2] at h
    · rename_i h2
      rw [if_neg h2] at h
      split
      · simp; omega
      · rename_i h3; rw [if_neg h3] at h; simp at h

/-- Any fuel that is enough gives the same. -/
theorem partsR_fuel : ∀ (f g : Nat) (zs : List Int) (acc : List (List Int)), zs.length ≤ f → zs.length ≤ g → partsR f zs acc = partsR g zs acc := by
  intro f
  induction f with
  | zero =>
    intro g zs acc hf hg
    cases g with
    | zero => rfl
    | succ g => rw [partsR, partsR, if_pos (by omega)]
  | succ f ih =>
    intro g zs acc hf hg
    cases g with
    | zero => rw [partsR, partsR, if_pos (by omega)]
    | succ g =>
      rw [partsR, partsR]
      split
      · rfl
      · split
        · rename_i h0 h1
          have := oneP_done h1
          exact ih g _ _ (by simp; omega) (by simp; omega)
        · rfl

theorem partsR_step {f : Nat} {zs : List Int} {acc : List (List Int)} {Y : Int × List (List Int)} (h : partsR f zs acc = Y) (hf : zs.length ≤ f) (hz : 0 < zs.length) (he : (oneP zs).1 = 0) :
    partsR (f - 1) (zs.drop (oneP zs).2.2) (acc ++ [(oneP zs).2.1]) = Y := by
  obtain ⟨g, rfl⟩ : ∃ g, f = g + 1 := ⟨f - 1, by omega⟩
  rw [partsR, if_neg (by omega), if_pos he] at h
  exact h
theorem partsR_stop {f : Nat} {zs : List Int} {acc : List (List Int)} {Y : Int × List (List Int)} (h : partsR f zs acc = Y) (hf : zs.length ≤ f) (hz : 0 < zs.length) (he : (oneP zs).1 ≠ 0) : Y = ((oneP zs).1, []) := by
  obtain ⟨g, rfl⟩ : ∃ g, f = g + 1 := ⟨f - 1, by omega⟩
  rw [partsR, if_neg (by omega), if_neg he] at h
  exact h.symm
theorem partsR_end {f : Nat} {zs : List Int} {acc : List (List Int)} {Y : Int × List (List Int)} (h : partsR f zs acc = Y) (hz : zs.length = 0) : Y = (0, acc) := by
  cases f with
  | zero => exact h.symm
  | succ f => rw [partsR, if_pos hz] at h; exact h.symm

theorem oneP_err (zs : List Int) : (oneP zs).1 = 0 ∨ (oneP zs).1 = 10 ∨ (oneP zs).1 = 11 := by
  unfold oneP
  split
  · simp
  · split
    · simp
    · split <;> simp

theorem oneP_bs {zs : List Int} (h : Bs zs) : Bs (oneP zs).2.1 := by
  unfold oneP
  split
  · exact bs_nil
  · split
    · exact bs_nil
    · split
      · exact range_take (range_drop h 2) _
      · exact bs_nil

theorem oneP_len (zs : List Int) : (oneP zs).2.1.length ≤ zs.length := by
  unfold oneP
  split
  · simp
  · split
    · simp
    · split
      · simp; omega
      · simp

/-- What is laid comes off. -/
theorem oneP_laid (p more : List Int) (hl : p.length ≤ 65535) : oneP (partL p ++ more) = (0, p, p.length + 3) := by
  have hn : (numTo (partL p ++ more) 2).toNat = p.length := by
    unfold partL
    rw [List.append_assoc, numTo_putL _ 2 _ (by omega) (by omega)]
    simp
    omega
  have hlen : (partL p ++ more).length = p.length + 3 + more.length := by rw [List.length_append, partL_length]
  unfold oneP
  rw [if_neg (by omega), hn, if_neg (by omega)]
  have h2 : (putL (p.length : Int) 2).length = 2 := putL_length _ _
  have hat : (partL p ++ more).getD (2 + p.length) 0 = 0 := by
    unfold partL
    rw [List.append_assoc, List.getD_eq_getElem?_getD, List.getElem?_append_right (by omega), h2, Nat.add_sub_cancel_left, List.append_assoc, List.getElem?_append_right (by omega)]
    simp
  have hd : ((partL p ++ more).drop 2).take p.length = p := by
    unfold partL
    rw [List.append_assoc, List.drop_append_of_le_length (by omega), List.drop_of_length_le (by omega), List.nil_append, List.append_assoc, List.take_append_of_le_length (by omega), List.take_of_length_le (by omega)]
  rw [if_pos hat, hd, show 2 + p.length + 1 = p.length + 3 by omega]

theorem partsR_key : ∀ (ps : List (List Int)) (f : Nat) (acc : List (List Int)), (∀ p ∈ ps, p.length ≤ 65535) → (keyL ps).length ≤ f → partsR f (keyL ps) acc = (0, acc ++ ps)
  | [], f, acc, _, _ => by
    rw [keyL_nil]
    cases f with
    | zero => simp [partsR]
    | succ f => simp [partsR]
  | p :: ps, f, acc, h, hf => by
    rw [keyL_cons] at hf ⊢
    have h1 := oneP_laid p (keyL ps) (h p (by simp))
    have hl : (partL p ++ keyL ps).length = p.length + 3 + (keyL ps).length := by rw [List.length_append, partL_length]
    obtain ⟨g, rfl⟩ : ∃ g, f = g + 1 := ⟨f - 1, by omega⟩
    rw [partsR, if_neg (by omega), h1, if_pos rfl]
    simp only
    have hd : (partL p ++ keyL ps).drop (p.length + 3) = keyL ps := by
      rw [List.drop_append_of_le_length (by rw [partL_length]; omega), List.drop_of_length_le (by rw [partL_length]; omega), List.nil_append]
    rw [hd, partsR_key ps g _ (fun q hq => h q (by simp [hq])) (by omega), List.append_assoc]
    rfl

theorem partsA_key {ps : List (List Int)} (h : ∀ p ∈ ps, p.length ≤ 65535) : partsA (keyL ps) = (0, ps) := by
  unfold partsA; rw [partsR_key ps _ [] h (Nat.le_refl _)]; rfl

/-- Other parts have another key. -/
theorem keyL_inj {a b : List (List Int)} (ha : ∀ p ∈ a, p.length ≤ 65535) (hb : ∀ p ∈ b, p.length ≤ 65535) (h : keyL a = keyL b) : a = b := by
  have h1 := partsA_key ha
  have h2 := partsA_key hb
  rw [h] at h1
  rw [h1] at h2
  exact (Prod.mk.inj h2).2

/-- A part that was got is no longer than what it was got of; all its bytes are bytes. -/
theorem partsR_all {R : List Int → Prop} (hR : ∀ zs, Bs zs → R (oneP zs).2.1) : ∀ (f : Nat) (zs : List Int) (acc : List (List Int)), Bs zs → (∀ p ∈ acc, R p) → ∀ p ∈ (partsR f zs acc).2, R p
  | 0, _, _, _, h => h
  | f + 1, zs, acc, hb, h => by
    rw [partsR]
    split
    · exact h
    · split
      · exact partsR_all hR f _ _ (range_drop hb _) (fun p hp => by
          rcases List.mem_append.1 hp with hp | hp
          · exact h p hp
          · rw [List.mem_singleton.1 hp]; exact hR zs hb)
      · intro p hp; simp at hp

theorem partsA_bs {zs : List Int} (hb : Bs zs) : ∀ p ∈ (partsA zs).2, Bs p :=
  partsR_all (fun zs h => oneP_bs h) _ _ _ hb (fun p hp => by cases hp)

theorem partsR_count : ∀ (f : Nat) (zs : List Int) (acc : List (List Int)), (partsR f zs acc).2.length ≤ acc.length + f
  | 0, _, acc => by simp [partsR]
  | f + 1, zs, acc => by
    rw [partsR]
    split
    · exact Nat.le_add_right _ _
    · split
      · have := partsR_count f (zs.drop (oneP zs).2.2) (acc ++ [(oneP zs).2.1])
        simp at this ⊢
        omega
      · simp

/-- Bytes and the text that is made of them. -/
theorem str_size (zs : List Int) : (strOfNums zs).size = zs.length := by
  show (strOfNums zs).data.size = _
  simp [strOfNums]

theorem sNums_strOfNums {zs : List Int} (h : Bs zs) : sNums (strOfNums zs) = zs := by
  apply List.ext_getElem?
  intro j
  by_cases hj : j < zs.length
  · have hh := h j
    rw [List.getElem?_eq_getElem hj, Option.getD_some] at hh
    simp only [sNums, strOfNums]
    simp [hj]
    omega
  · rw [List.getElem?_eq_none (by rw [sNums_length, str_size]; omega), List.getElem?_eq_none (by omega)]

theorem strOfNums_inj {A B : List Int} (hA : Bs A) (hB : Bs B) (h : strOfNums A = strOfNums B) : A = B := by
  rw [← sNums_strOfNums hA, ← sNums_strOfNums hB, h]

theorem mem_bs {A : List Int} (hA : Bs A) : ∀ z ∈ A, 0 ≤ z ∧ z ≤ 255 := by
  intro z hz
  obtain ⟨j, hj, rfl⟩ := List.mem_iff_getElem.1 hz
  have := hA j
  rwa [List.getElem?_eq_getElem hj, Option.getD_some] at this

theorem strs_inj : ∀ {a b : List (List Int)}, (∀ p ∈ a, Bs p) → (∀ p ∈ b, Bs p) → a.map strOfNums = b.map strOfNums → a = b
  | [], [], _, _, _ => rfl
  | [], _ :: _, _, _, h => by simp at h
  | _ :: _, [], _, _, h => by simp at h
  | p :: a, q :: b, ha, hb, h => by
    simp only [List.map_cons, List.cons.injEq] at h
    rw [strOfNums_inj (ha p (by simp)) (hb q (by simp)) h.1, strs_inj (fun x hx => ha x (by simp [hx])) (fun x hx => hb x (by simp [hx])) h.2]
end Go.Proofs.Ytfkhcgkobffpiaa
