/-
  What is put is got; cut anywhere it ends too early; what is got is put as it was.
-/
import Derived.Test.YtnapeecmlkkolaaDoorOne
namespace Go.Proofs.YtnapeecmlkkolaaDoor
open Go.RowKit
set_option linter.unusedVariables false
set_option linter.unusedSimpArgs false

theorem told_text (N : Int) (Z : List Int) (h0 : 0 ≤ N) : numTo (putL N 2 ++ Z) 2 = N % 65536 := numTo_putL N 2 Z (by omega) (by omega)
theorem told_len (N : Int) (n : Nat) (Z : List Int) : (putL N n ++ Z).length = n + Z.length := by rw [List.length_append, putL_length]
theorem told_front (N : Int) (n : Nat) (Z : List Int) : (putL N n ++ Z).drop n = Z := by
  have := List.drop_left (l₁ := putL N n) (l₂ := Z)
  rwa [putL_length] at this
theorem text_told_no (N : Int) (Z : List Int) (h0 : 0 ≤ N) (h : (Z.length : Int) < N % 65536) : textA (putL N 2 ++ Z) = ⟨0, [], 0, 10⟩ := by
  unfold textA
  rw [told_len, told_text N Z h0, if_neg (by omega), if_pos (by omega)]
theorem text_told_yes (N : Int) (Z : List Int) (S : Nat) (h0 : 0 ≤ N) (hS : N % 65536 = S) (h : S ≤ Z.length) : textA (putL N 2 ++ Z) = ⟨0, Z.take S, 2 + S, 0⟩ := by
  unfold textA
  rw [told_len, told_text N Z h0, hS, if_neg (by omega), if_neg (by omega), told_front, Int.toNat_natCast]

theorem str_join (A B : List Int) : strOfNums A ++ strOfNums B = strOfNums (A ++ B) := by
  apply ByteArray.ext
  apply Array.ext'
  simp [strOfNums, ByteArray.data_append]
theorem sNums_strOfNums {zs : List Int} (h : ∀ j : Nat, 0 ≤ zs[j]?.getD 0 ∧ zs[j]?.getD 0 ≤ 255) : sNums (strOfNums zs) = zs := by
  apply List.ext_getElem?
  intro j
  have hj := h j
  by_cases hl : j < zs.length
  · rw [List.getElem?_eq_getElem hl] at hj ⊢
    simp only [Option.getD_some] at hj
    simp [sNums, strOfNums, hl]
    omega
  · simp [sNums, strOfNums]
    rw [List.getElem?_eq_none (by omega)]
    simp

/-- What is put of x is got as g x, whatever is behind. -/
def Fits {α : Type} (p : List Int → Res α) (f : α → List Int × Int) (g : α → α) (x : α) : Prop := (f x).2 = 0 → ∀ Z, p ((f x).1 ++ Z) = ⟨g x, (f x).1.length, 0⟩
/-- Cut anywhere, it ends too early. -/
def Cuts {α : Type} (p : List Int → Res α) (f : α → List Int × Int) (x : α) : Prop := (f x).2 = 0 → ∀ k, k < (f x).1.length → (p ((f x).1.take k)).err = 10

theorem fits_text (s : ByteArray) : Fits textR textB id s := by
  intro h Z
  by_cases hs : s.size ≤ 65535
  · simp only [textB, if_pos hs]
    rw [List.append_assoc]
    have := text_told_yes (s.size : Int) (sNums s ++ Z) s.size (by omega) (by omega) (by rw [List.length_append, sNums_length]; omega)
    rw [textR, this]
    simp only [List.length_append, putL_length, sNums_length]
    rw [List.take_append_of_le_length (by rw [sNums_length]; omega), List.take_of_length_le (by rw [sNums_length]; omega), strOfNums_sNums]
    rfl
  · simp [textB, hs] at h

theorem cuts_text (s : ByteArray) : Cuts textR textB s := by
  intro h k hk
  by_cases hs : s.size ≤ 65535
  · simp only [textB, if_pos hs] at hk ⊢
    rw [List.length_append, putL_length, sNums_length] at hk
    by_cases h2 : k < 2
    · unfold textR textA
      rw [if_pos (by rw [List.length_take, List.length_append, putL_length, sNums_length]; omega)]
    · have e : (putL (s.size : Int) 2 ++ sNums s).take k = putL (s.size : Int) 2 ++ (sNums s).take (k - 2) := by
        rw [List.take_append, putL_length, List.take_of_length_le (by rw [putL_length]; omega)]
      rw [e]
      have := text_told_no (s.size : Int) ((sNums s).take (k - 2)) (by omega) (by rw [List.length_take, sNums_length]; omega)
      unfold textR
      rw [this]
  · simp only [textB, if_neg hs] at hk
    simp at hk

theorem cat_zero {a b : List Int × Int} (h : (cat a b).2 = 0) : a.2 = 0 ∧ b.2 = 0 ∧ cat a b = (a.1 ++ b.1, 0) := by
  by_cases ha : a.2 = 0
  · by_cases hb : b.2 = 0
    · exact ⟨ha, hb, cat_ok ha hb⟩
    · rw [cat_no2 ha hb] at h; exact absurd h hb
  · rw [cat_no ha] at h; exact absurd h ha

/-- The items' bytes, one behind the other. -/
def bodyB {α : Type} (f : α → List Int × Int) (xs : List α) : List Int := xs.flatMap fun x => (f x).1

theorem bodyB_cons {α : Type} (f : α → List Int × Int) (x : α) (r : List α) : bodyB f (x :: r) = (f x).1 ++ bodyB f r := by rw [bodyB, bodyB, List.flatMap_cons]

theorem goB_zero {α : Type} (f : α → List Int × Int) : ∀ xs : List α, (goB f xs).2 = 0 → goB f xs = (bodyB f xs, 0) ∧ ∀ x ∈ xs, (f x).2 = 0
  | [], _ => ⟨rfl, fun x hx => by cases hx⟩
  | x :: r, h => by
    rw [goB] at h ⊢
    obtain ⟨h1, h2, h3⟩ := cat_zero h
    obtain ⟨h4, h5⟩ := goB_zero f r h2
    refine ⟨by rw [h3, h4, bodyB_cons], fun y hy => ?_⟩
    rcases List.mem_cons.1 hy with rfl | hy
    · exact h1
    · exact h5 y hy

theorem goB_of {α : Type} (f : α → List Int × Int) : ∀ xs : List α, (∀ x ∈ xs, (f x).2 = 0) → goB f xs = (bodyB f xs, 0)
  | [], _ => rfl
  | x :: r, h => by
    rw [goB, goB_of f r (fun y hy => h y (List.mem_cons_of_mem _ hy)), cat_ok (h x List.mem_cons_self) (by rfl), bodyB_cons]

theorem goR_body {α : Type} {p : List Int → Res α} {f : α → List Int × Int} {g : α → α} (xs : List α) (hf : ∀ x ∈ xs, Fits p f g x) (he : ∀ x ∈ xs, (f x).2 = 0) (Z : List Int) :
    ∀ (P : List Int) (acc : List α) (d : Nat), d = P.length → goR p (P ++ (bodyB f xs ++ Z)) xs.length d acc = ⟨acc ++ xs.map g, d + (bodyB f xs).length, 0⟩ := by
  induction xs with
  | nil => intro P acc d hd; simp [goR, bodyB]
  | cons x r ih =>
    intro P acc d hd
    have hx := hf x List.mem_cons_self (he x List.mem_cons_self) (bodyB f r ++ Z)
    have hb := bodyB_cons f x r
    have hdrop : (P ++ (bodyB f (x :: r) ++ Z)).drop d = (f x).1 ++ (bodyB f r ++ Z) := by rw [hd, List.drop_left, hb, List.append_assoc]
    have hih := ih (fun y hy => hf y (List.mem_cons_of_mem _ hy)) (fun y hy => he y (List.mem_cons_of_mem _ hy)) (P ++ (f x).1) (acc ++ [g x]) (d + (f x).1.length) (by rw [List.length_append, hd])
    rw [List.length_cons, goR, hdrop, hx, if_pos rfl]
    simp only
    rw [hb, List.append_assoc, ← List.append_assoc P, hih, List.length_append]
    simp only [List.append_assoc, List.singleton_append, Nat.add_assoc, List.map_cons]

theorem goR_cut {α : Type} {p : List Int → Res α} {f : α → List Int × Int} {g : α → α} (xs : List α) (hr : ∀ x ∈ xs, Fits p f g x) (hc : ∀ x ∈ xs, Cuts p f x) (he : ∀ x ∈ xs, (f x).2 = 0) :
    ∀ (P : List Int) (acc : List α) (d j : Nat), d = P.length → j < (bodyB f xs).length → (goR p (P ++ (bodyB f xs).take j) xs.length d acc).err = 10 := by
  induction xs with
  | nil => intro P acc d j hd hj; simp [bodyB] at hj
  | cons x r ih =>
    intro P acc d j hd hj
    have hb := bodyB_cons f x r
    have hx0 := he x List.mem_cons_self
    rw [hb, List.length_append] at hj
    rw [List.length_cons, goR]
    by_cases hlt : j < (f x).1.length
    · have e : (P ++ (bodyB f (x :: r)).take j).drop d = (f x).1.take j := by
        rw [hd, List.drop_left, hb, List.take_append_of_le_length (by omega)]
      have h10 := hc x List.mem_cons_self hx0 j hlt
      rw [e, if_neg (by rw [h10]; decide)]
      exact h10
    · have e : (bodyB f (x :: r)).take j = (f x).1 ++ (bodyB f r).take (j - (f x).1.length) := by
        rw [hb, List.take_append, List.take_of_length_le (by omega)]
      have e2 : (P ++ (bodyB f (x :: r)).take j).drop d = (f x).1 ++ (bodyB f r).take (j - (f x).1.length) := by
        rw [hd, List.drop_left, e]
      have h1 := hr x List.mem_cons_self hx0 ((bodyB f r).take (j - (f x).1.length))
      rw [e2, h1, if_pos (by rfl), e, ← List.append_assoc]
      exact ih (fun y hy => hr y (List.mem_cons_of_mem _ hy)) (fun y hy => hc y (List.mem_cons_of_mem _ hy)) (fun y hy => he y (List.mem_cons_of_mem _ hy)) (P ++ (f x).1) _ _ _ (by rw [List.length_append, hd]) (by omega)

theorem fits_field {q : List Int → Res Ty} {f : Ty → List Int × Int} {g : Ty → Ty} (x : ByteArray × Ty) (hq : Fits q f g x.2) : Fits (fieldR q) (fieldB f) (fun y => (y.1, g y.2)) x := by
  intro h Z
  obtain ⟨h1, h2, h3⟩ := cat_zero h
  have ht := fits_text x.1 h1 ((f x.2).1 ++ Z)
  have hy := hq h2 Z
  show fieldR q ((cat (textB x.1) (f x.2)).1 ++ Z) = _
  rw [h3]
  simp only
  rw [List.append_assoc, fieldR, ht]
  simp only
  rw [List.drop_left, hy, if_pos trivial, if_pos (by rfl)]
  simp only [id, fieldB, h3, List.length_append]

theorem cuts_field {q : List Int → Res Ty} {f : Ty → List Int × Int} (x : ByteArray × Ty) (hq : Cuts q f x.2) : Cuts (fieldR q) (fieldB f) x := by
  intro h k hk
  obtain ⟨h1, h2, h3⟩ := cat_zero h
  have e : fieldB f x = ((textB x.1).1 ++ (f x.2).1, 0) := h3
  rw [e] at hk ⊢
  simp only [List.length_append] at hk ⊢
  by_cases hlt : k < (textB x.1).1.length
  · have h10 := cuts_text x.1 h1 k hlt
    rw [List.take_append_of_le_length (by omega), fieldR, if_neg (by rw [h10]; decide)]
    exact h10
  · have e2 : ((textB x.1).1 ++ (f x.2).1).take k = (textB x.1).1 ++ (f x.2).1.take (k - (textB x.1).1.length) := by
      rw [List.take_append, List.take_of_length_le (by omega)]
    have ht := fits_text x.1 h1 ((f x.2).1.take (k - (textB x.1).1.length))
    have h10 := hq h2 (k - (textB x.1).1.length) (by omega)
    rw [e2, fieldR, ht]
    simp only
    rw [List.drop_left, if_pos trivial, if_neg (by rw [h10]; decide)]
    exact h10

/-- A type without what its bytes don't tell. -/
def norm : Nat → Ty → Ty
  | 0, t => t
  | n + 1, t => ⟨t.id, if t.id = 48 then t.space else ⟨#[]⟩, if t.id = 48 ∨ t.id = 0 then t.name else ⟨#[]⟩, t.names, t.kids.map (norm n)⟩

theorem hasB_id {id : Int} {k m : Nat} (h : hasB id k m = true) : 0 ≤ id ∧ id < 65536 := by
  by_cases h0 : id = 0
  · omega
  by_cases h1 : id = 32
  · omega
  by_cases h2 : id = 33
  · omega
  by_cases h3 : id = 34
  · omega
  by_cases h4 : id = 48
  · omega
  by_cases h5 : id = 49
  · omega
  rw [hasB_else h0 h1 h2 h3 h4 h5, Bool.and_eq_true, Bool.and_eq_true] at h
  have := h.1.1
  simp only [plainB, Bool.and_eq_true, decide_eq_true_eq] at this
  omega

/-- What stands behind the Id. -/
def restB (n : Nat) (t : Ty) : List Int × Int := if t.id = 0 then textB t.name else if t.id = 48 then cat (textB t.space) (cat (textB t.name) (cat (countB t.kids.length) (goB (fieldB (tyB n)) (t.names.zip t.kids))))
      else if t.id = 49 then cat (countB t.kids.length) (goB (tyB n) t.kids) else goB (tyB n) t.kids

theorem tyB_zero {n : Nat} {t : Ty} (h : (tyB (n + 1) t).2 = 0) : hasB t.id t.kids.length t.names.length = true ∧ (restB n t).2 = 0 ∧ tyB (n + 1) t = (putL t.id 2 ++ (restB n t).1, 0) := by
  rw [tyB] at h ⊢
  by_cases hh : hasB t.id t.kids.length t.names.length = false
  · rw [if_pos hh] at h; exact absurd h (by decide)
  · rw [if_neg hh] at h ⊢
    obtain ⟨_, h2, h3⟩ := cat_zero h
    exact ⟨by simpa using hh, h2, h3⟩

theorem count_zero {n : Nat} (h : (countB n).2 = 0) : n ≤ 65535 ∧ countB n = (putL n 2, 0) := by
  by_cases hn : n ≤ 65535
  · exact ⟨hn, by rw [countB, if_pos hn]⟩
  · rw [countB, if_neg hn] at h; exact absurd h (by decide)



/-- The Id's own bytes, read. -/
theorem tyR_head {f : Nat} {id : Int} (h0 : 0 ≤ id) (h1 : id < 65536) (Z : List Int) : tyR (f + 1) (putL id 2 ++ Z) =
    if id = 0 then (if (textR Z).err = 0 then ⟨⟨0, ⟨#[]⟩, (textR Z).val, [], []⟩, 2 + (textR Z).done, 0⟩ else ⟨tyNil, 0, (textR Z).err⟩)
    else if id = 48 then (if (udtR (tyR f) Z).err = 0 then ⟨(udtR (tyR f) Z).val, 2 + (udtR (tyR f) Z).done, 0⟩ else ⟨tyNil, 0, (udtR (tyR f) Z).err⟩)
    else if id = 32 ∨ id = 34 ∨ id = 33 ∨ id = 49 then
      (if (if id = 49 then tupleR (tyR f) Z else goR (tyR f) Z (if id = 33 then 2 else 1) 0 []).err = 0 then ⟨⟨id, ⟨#[]⟩, ⟨#[]⟩, [], (if id = 49 then tupleR (tyR f) Z else goR (tyR f) Z (if id = 33 then 2 else 1) 0 []).val⟩, 2 + (if id = 49 then tupleR (tyR f) Z else goR (tyR f) Z (if id = 33 then 2 else 1) 0 []).done, 0⟩ else ⟨tyNil, 0, (if id = 49 then tupleR (tyR f) Z else goR (tyR f) Z (if id = 33 then 2 else 1) 0 []).err⟩)
    else if plainB id = true then ⟨⟨id, ⟨#[]⟩, ⟨#[]⟩, [], []⟩, 2, 0⟩ else ⟨tyNil, 0, 11⟩ := by
  rw [tyR, if_neg (by rw [told_len]; omega)]
  simp only [told_text id Z h0, told_front, show id % 65536 = id by omega]

theorem udtR_at (q : List Int → Res Ty) (zs : List Int) {A C : Res ByteArray} (hA : A = textR zs) (hC : C = textR (zs.drop A.done)) (h1 : A.err = 0) (h2 : C.err = 0) : udtR q zs =
    if (zs.drop (A.done + C.done)).length < 2 then ⟨tyNil, 0, 10⟩ else
      if (goR (fieldR q) zs (numTo (zs.drop (A.done + C.done)) 2).toNat (A.done + C.done + 2) []).err = 0 then
        ⟨⟨48, A.val, C.val, (goR (fieldR q) zs (numTo (zs.drop (A.done + C.done)) 2).toNat (A.done + C.done + 2) []).val.map (·.1), (goR (fieldR q) zs (numTo (zs.drop (A.done + C.done)) 2).toNat (A.done + C.done + 2) []).val.map (·.2)⟩, (goR (fieldR q) zs (numTo (zs.drop (A.done + C.done)) 2).toNat (A.done + C.done + 2) []).done, 0⟩
      else ⟨tyNil, 0, (goR (fieldR q) zs (numTo (zs.drop (A.done + C.done)) 2).toNat (A.done + C.done + 2) []).err⟩ := by
  rw [udtR, ← hA, ← hC, if_pos h1, if_pos h2]

theorem nil_of_len {α : Type} {l : List α} (h : l.length = 0) : l = [] := List.eq_nil_of_length_eq_zero h

/-- What the number of kids and names is, by Id. -/
theorem hasB_cases {id : Int} {k m : Nat} (h : hasB id k m = true) : (id = 0 ∧ k = 0 ∧ m = 0) ∨ (id = 48 ∧ k = m) ∨ (id = 49 ∧ m = 0) ∨ ((id = 32 ∨ id = 34) ∧ k = 1 ∧ m = 0) ∨ (id = 33 ∧ k = 2 ∧ m = 0) ∨ (plainB id = true ∧ k = 0 ∧ m = 0 ∧ id ≠ 0 ∧ id ≠ 48 ∧ id ≠ 49 ∧ id ≠ 32 ∧ id ≠ 34 ∧ id ≠ 33) := by
  by_cases h0 : id = 0
  · rw [hasB, if_pos h0, Bool.and_eq_true, decide_eq_true_eq, decide_eq_true_eq] at h
    exact .inl ⟨h0, h.1, h.2⟩
  by_cases h1 : id = 32 ∨ id = 34
  · rw [hasB, if_neg h0, if_pos h1, Bool.and_eq_true, decide_eq_true_eq, decide_eq_true_eq] at h
    exact .inr (.inr (.inr (.inl ⟨h1, h.1, h.2⟩)))
  by_cases h2 : id = 33
  · rw [hasB, if_neg h0, if_neg h1, if_pos h2, Bool.and_eq_true, decide_eq_true_eq, decide_eq_true_eq] at h
    exact .inr (.inr (.inr (.inr (.inl ⟨h2, h.1, h.2⟩))))
  by_cases h4 : id = 48
  · rw [hasB, if_neg h0, if_neg h1, if_neg h2, if_pos h4, decide_eq_true_eq] at h
    exact .inr (.inl ⟨h4, h⟩)
  by_cases h5 : id = 49
  · rw [hasB, if_neg h0, if_neg h1, if_neg h2, if_neg h4, if_pos h5, decide_eq_true_eq] at h
    exact .inr (.inr (.inl ⟨h5, h⟩))
  · rw [hasB_else h0 (by omega) h2 (by omega) h4 h5, Bool.and_eq_true, Bool.and_eq_true, decide_eq_true_eq, decide_eq_true_eq] at h
    exact .inr (.inr (.inr (.inr (.inr ⟨h.1.1, h.1.2, h.2, h0, h4, h5, by omega, by omega, h2⟩))))

theorem fits_tuple {n f : Nat} {t : Ty} (ihk : ∀ k ∈ t.kids, Fits (tyR f) (tyB n) (norm n) k) (h : (cat (countB t.kids.length) (goB (tyB n) t.kids)).2 = 0) (Z : List Int) :
    tupleR (tyR f) ((cat (countB t.kids.length) (goB (tyB n) t.kids)).1 ++ Z) = ⟨t.kids.map (norm n), (cat (countB t.kids.length) (goB (tyB n) t.kids)).1.length, 0⟩ := by
  obtain ⟨h1, h2, h3⟩ := cat_zero h
  obtain ⟨h4, h5⟩ := count_zero h1
  obtain ⟨h6, h7⟩ := goB_zero _ _ h2
  rw [h3, h5, h6]
  simp only
  rw [List.append_assoc, tupleR, if_neg (by rw [told_len]; omega), told_text _ _ (by omega), show ((t.kids.length : Int) % 65536).toNat = t.kids.length by omega,
    goR_body t.kids ihk h7 Z _ [] 2 (putL_length _ _).symm, List.nil_append, List.length_append, putL_length]

theorem fits_udt {n f : Nat} {t : Ty} (ihk : ∀ k ∈ t.kids, Fits (tyR f) (tyB n) (norm n) k) (hl : t.kids.length = t.names.length) {B : List Int × Int} (hB : B = cat (textB t.space) (cat (textB t.name) (cat (countB t.kids.length) (goB (fieldB (tyB n)) (t.names.zip t.kids))))) (h : B.2 = 0) (Z : List Int) :
    udtR (tyR f) (B.1 ++ Z) = ⟨⟨48, t.space, t.name, t.names, t.kids.map (norm n)⟩, B.1.length, 0⟩ := by
  rw [hB] at h
  obtain ⟨h1, h2, h3⟩ := cat_zero h
  obtain ⟨h4, h5, h6⟩ := cat_zero h2
  obtain ⟨h7, h8, h9⟩ := cat_zero h5
  obtain ⟨g1, g2⟩ := count_zero h7
  obtain ⟨g3, g4⟩ := goB_zero _ _ h8
  rw [h3, h6, h9, g2, g3] at hB
  simp only at hB
  subst hB
  have hzl : (t.names.zip t.kids).length = t.kids.length := by rw [List.length_zip]; omega
  have hfk : ∀ y ∈ t.names.zip t.kids, Fits (fieldR (tyR f)) (fieldB (tyB n)) (fun y => (y.1, norm n y.2)) y := fun y hy => fits_field y (ihk y.2 (List.of_mem_zip (a := y.1) (b := y.2) hy).2)
  generalize hS : (textB t.space).1 = S at *
  generalize hM : (textB t.name).1 = M at *
  generalize hD : bodyB (fieldB (tyB n)) (t.names.zip t.kids) = D at *
  have ht1 := fits_text t.space h1 (M ++ (putL t.kids.length 2 ++ (D ++ Z)))
  have ht2 := fits_text t.name h4 (putL t.kids.length 2 ++ (D ++ Z))
  rw [hS] at ht1
  rw [hM] at ht2
  have e0 : (S ++ (M ++ (putL t.kids.length 2 ++ D))) ++ Z = S ++ (M ++ (putL t.kids.length 2 ++ (D ++ Z))) := by simp only [List.append_assoc]
  rw [e0, udtR_at (tyR f) _ ht1.symm (C := ⟨t.name, M.length, 0⟩) (by simp only; rw [List.drop_left, ht2]; rfl) rfl rfl]
  simp only
  have e1 : (S ++ (M ++ (putL t.kids.length 2 ++ (D ++ Z)))).drop (S.length + M.length) = putL t.kids.length 2 ++ (D ++ Z) := by
    rw [← List.drop_drop, List.drop_left, List.drop_left]
  have e2 : S ++ (M ++ (putL t.kids.length 2 ++ (D ++ Z))) = (S ++ (M ++ putL t.kids.length 2)) ++ (D ++ Z) := by simp only [List.append_assoc]
  rw [e1, if_neg (by rw [told_len]; omega), told_text _ _ (by omega), show ((t.kids.length : Int) % 65536).toNat = (t.names.zip t.kids).length by omega, e2]
  have hg := goR_body (t.names.zip t.kids) hfk g4 Z (S ++ (M ++ putL t.kids.length 2)) [] (S.length + M.length + 2) (by simp only [List.length_append, putL_length]; omega)
  rw [hD] at hg
  rw [hg, if_pos (by rfl)]
  simp only [List.nil_append, List.map_map]
  congr 1
  · congr 1
    · have : ((fun x => x.fst) ∘ fun y : ByteArray × Ty => (y.1, norm n y.2)) = Prod.fst := rfl
      rw [this, List.map_fst_zip (by omega)]
    · have : ((fun x => x.snd) ∘ fun y : ByteArray × Ty => (y.1, norm n y.2)) = (norm n) ∘ Prod.snd := rfl
      rw [this, ← List.map_map, List.map_snd_zip (by omega)]
  · simp only [List.length_append, putL_length]; omega

theorem fits_ty : ∀ (n f : Nat) (t : Ty), deepB f t = false → Fits (tyR f) (tyB n) (norm n) t
  | 0, f, t, _ => fun h => absurd (show (1 : Int) = 0 from h) (by decide)
  | n + 1, 0, t, hd => by cases hd
  | n + 1, f + 1, t, hd => by
    intro h Z
    obtain ⟨hh, hr, he⟩ := tyB_zero h
    have hid := hasB_id hh
    have ihk : ∀ k ∈ t.kids, Fits (tyR f) (tyB n) (norm n) k := fun k hk => fits_ty n f k (deepB_kids hd k hk)
    rw [he]
    simp only
    rw [List.append_assoc, tyR_head hid.1 hid.2, told_len, norm]
    rcases hasB_cases hh with ⟨c, ck, cm⟩ | ⟨c, ck⟩ | ⟨c, cm⟩ | ⟨c, ck, cm⟩ | ⟨c, ck, cm⟩ | ⟨cp, ck, cm, n0, n48, n49, n32, n34, n33⟩
    · have e : restB n t = textB t.name := by rw [restB, if_pos c]
      rw [e] at hr ⊢
      rw [if_pos c, fits_text t.name hr Z, if_pos (by rfl), nil_of_len ck, nil_of_len cm, if_neg (by omega), if_pos (.inr c), c]
      rfl
    · have e : restB n t = cat (textB t.space) (cat (textB t.name) (cat (countB t.kids.length) (goB (fieldB (tyB n)) (t.names.zip t.kids)))) := by rw [restB, if_neg (by omega), if_pos c]
      rw [if_neg (by omega), if_pos c, fits_udt ihk ck e hr Z, if_pos (by rfl), if_pos c, if_pos (.inl c), c]
    · have e : restB n t = cat (countB t.kids.length) (goB (tyB n) t.kids) := by rw [restB, if_neg (by omega), if_neg (by omega), if_pos c]
      rw [e] at hr ⊢
      simp only [if_neg (show ¬ t.id = 0 by omega), if_neg (show ¬ t.id = 48 by omega), if_pos (show t.id = 32 ∨ t.id = 34 ∨ t.id = 33 ∨ t.id = 49 by omega), if_pos c, fits_tuple ihk hr Z, if_true, if_neg (show ¬ (t.id = 48 ∨ t.id = 0) by omega), nil_of_len cm]
    · have e : restB n t = goB (tyB n) t.kids := by rw [restB, if_neg (by omega), if_neg (by omega), if_neg (by omega)]
      rw [e] at hr ⊢
      obtain ⟨h6, h7⟩ := goB_zero _ _ hr
      have hg := goR_body t.kids ihk h7 Z [] [] 0 rfl
      rw [ck, List.nil_append, List.nil_append, Nat.zero_add] at hg
      rw [h6]
      simp only [if_neg (show ¬ t.id = 0 by omega), if_neg (show ¬ t.id = 48 by omega), if_pos (show t.id = 32 ∨ t.id = 34 ∨ t.id = 33 ∨ t.id = 49 by omega), if_neg (show ¬ t.id = 49 by omega), if_neg (show ¬ t.id = 33 by omega), hg, if_true, if_neg (show ¬ (t.id = 48 ∨ t.id = 0) by omega), nil_of_len cm]
    · have e : restB n t = goB (tyB n) t.kids := by rw [restB, if_neg (by omega), if_neg (by omega), if_neg (by omega)]
      rw [e] at hr ⊢
      obtain ⟨h6, h7⟩ := goB_zero _ _ hr
      have hg := goR_body t.kids ihk h7 Z [] [] 0 rfl
      rw [ck, List.nil_append, List.nil_append, Nat.zero_add] at hg
      rw [h6]
      simp only [if_neg (show ¬ t.id = 0 by omega), if_neg (show ¬ t.id = 48 by omega), if_pos (show t.id = 32 ∨ t.id = 34 ∨ t.id = 33 ∨ t.id = 49 by omega), if_neg (show ¬ t.id = 49 by omega), if_pos c, hg, if_true, if_neg (show ¬ (t.id = 48 ∨ t.id = 0) by omega), nil_of_len cm]
    · have hk0 := nil_of_len ck
      have e : restB n t = ([], 0) := by rw [restB, if_neg n0, if_neg n48, if_neg n49, hk0]; rfl
      rw [e]
      simp only [if_neg n0, if_neg n48, if_neg (show ¬ (t.id = 32 ∨ t.id = 34 ∨ t.id = 33 ∨ t.id = 49) by omega), if_pos cp, if_neg (show ¬ (t.id = 48 ∨ t.id = 0) by omega), nil_of_len cm, hk0, List.map_nil, List.length_nil]
end Go.Proofs.YtnapeecmlkkolaaDoor
