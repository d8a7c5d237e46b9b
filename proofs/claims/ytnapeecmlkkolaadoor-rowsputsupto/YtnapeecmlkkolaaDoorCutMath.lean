/-
  Cut anywhere it ends too early; what is got is put as it was.
-/
import Derived.Test.YtnapeecmlkkolaaDoorAd
namespace Go.Proofs.YtnapeecmlkkolaaDoor
open Go.RowKit
set_option linter.unusedVariables false
set_option linter.unusedSimpArgs false

theorem take_put (N : Int) (R : List Int) (k : Nat) (hk : ¬ k < 2) : (putL N 2 ++ R).take k = putL N 2 ++ R.take (k - 2) := by
  rw [List.take_append, putL_length, List.take_of_length_le (by rw [putL_length]; omega)]

theorem cuts_tuple {n f : Nat} {t : Ty} (ihk : ∀ k ∈ t.kids, Fits (tyR f) (tyB n) (norm n) k) (ihc : ∀ k ∈ t.kids, Cuts (tyR f) (tyB n) k) (h : (cat (countB t.kids.length) (goB (tyB n) t.kids)).2 = 0) (k : Nat) (hk : k < (cat (countB t.kids.length) (goB (tyB n) t.kids)).1.length) :
    (tupleR (tyR f) ((cat (countB t.kids.length) (goB (tyB n) t.kids)).1.take k)).err = 10 := by
  obtain ⟨h1, h2, h3⟩ := cat_zero h
  obtain ⟨h4, h5⟩ := count_zero h1
  obtain ⟨h6, h7⟩ := goB_zero _ _ h2
  rw [h3, h5, h6] at hk ⊢
  simp only at hk ⊢
  rw [told_len] at hk
  by_cases h2k : k < 2
  · rw [tupleR, if_pos (by rw [List.length_take, told_len]; omega)]
  · rw [take_put _ _ _ h2k, tupleR, if_neg (by rw [told_len]; omega), told_text _ _ (by omega), show ((t.kids.length : Int) % 65536).toNat = t.kids.length by omega]
    exact goR_cut t.kids ihk ihc h7 _ [] 2 _ (putL_length _ _).symm (by omega)

theorem cuts_udt {n f : Nat} {t : Ty} (ihk : ∀ k ∈ t.kids, Fits (tyR f) (tyB n) (norm n) k) (ihc : ∀ k ∈ t.kids, Cuts (tyR f) (tyB n) k) (hl : t.kids.length = t.names.length) {B : List Int × Int} (hB : B = cat (textB t.space) (cat (textB t.name) (cat (countB t.kids.length) (goB (fieldB (tyB n)) (t.names.zip t.kids))))) (h : B.2 = 0) (k : Nat) (hk : k < B.1.length) :
    (udtR (tyR f) (B.1.take k)).err = 10 := by
  rw [hB] at h
  obtain ⟨h1, h2, h3⟩ := cat_zero h
  obtain ⟨h4, h5, h6⟩ := cat_zero h2
  obtain ⟨h7, h8, h9⟩ := cat_zero h5
  obtain ⟨g1, g2⟩ := count_zero h7
  obtain ⟨g3, g4⟩ := goB_zero _ _ h8
  rw [h3, h6, h9, g2, g3] at hB
  simp only at hB
  subst hB
  have hfk : ∀ y ∈ t.names.zip t.kids, Fits (fieldR (tyR f)) (fieldB (tyB n)) (fun y => (y.1, norm n y.2)) y := fun y hy => fits_field y (ihk y.2 (List.of_mem_zip (a := y.1) (b := y.2) hy).2)
  have hck : ∀ y ∈ t.names.zip t.kids, Cuts (fieldR (tyR f)) (fieldB (tyB n)) y := fun y hy => cuts_field y (ihc y.2 (List.of_mem_zip (a := y.1) (b := y.2) hy).2)
  have hzl : (t.names.zip t.kids).length = t.kids.length := by rw [List.length_zip]; omega
  have c1 := cuts_text t.space h1
  have c2 := cuts_text t.name h4
  have f1 := fits_text t.space h1
  have f2 := fits_text t.name h4
  have hgc := goR_cut (t.names.zip t.kids) hfk hck g4
  generalize (textB t.space).1 = S at *
  generalize (textB t.name).1 = M at *
  generalize bodyB (fieldB (tyB n)) (t.names.zip t.kids) = D at *
  simp only [List.length_append, putL_length] at hk
  by_cases k1 : k < S.length
  · have h10 := c1 k k1
    rw [List.take_append_of_le_length (by omega), udtR, if_neg (by rw [h10]; decide)]
    exact h10
  · have e1 : (S ++ (M ++ (putL t.kids.length 2 ++ D))).take k = S ++ (M ++ (putL t.kids.length 2 ++ D)).take (k - S.length) := by
      rw [List.take_append, List.take_of_length_le (by omega)]
    rw [e1]
    by_cases k2 : k - S.length < M.length
    · have h10 := c2 (k - S.length) k2
      rw [List.take_append_of_le_length (l₁ := M) (by omega)]
      have ht := f1 (M.take (k - S.length))
      rw [udtR, ht]
      simp only
      rw [List.drop_left, if_pos trivial, if_neg (by rw [h10]; decide)]
      exact h10
    · have e2 : (M ++ (putL t.kids.length 2 ++ D)).take (k - S.length) = M ++ (putL t.kids.length 2 ++ D).take (k - S.length - M.length) := by
        rw [List.take_append, List.take_of_length_le (by omega)]
      rw [e2]
      generalize hW : (putL (t.kids.length : Int) 2 ++ D).take (k - S.length - M.length) = W
      have ht1 := f1 (M ++ W)
      have ht2 := f2 W
      rw [udtR_at (tyR f) _ ht1.symm (C := ⟨t.name, M.length, 0⟩) (by simp only; rw [List.drop_left, ht2]; rfl) rfl rfl]
      simp only
      have e3 : (S ++ (M ++ W)).drop (S.length + M.length) = W := by rw [← List.drop_drop, List.drop_left, List.drop_left]
      rw [e3]
      by_cases k3 : k - S.length - M.length < 2
      · rw [if_pos (by rw [← hW, List.length_take, told_len]; omega)]
      · rw [take_put _ _ _ k3] at hW
        subst hW
        rw [if_neg (by rw [told_len]; omega), told_text _ _ (by omega), show ((t.kids.length : Int) % 65536).toNat = (t.names.zip t.kids).length by omega]
        have e4 : S ++ (M ++ (putL (t.kids.length : Int) 2 ++ D.take (k - S.length - M.length - 2))) = (S ++ (M ++ putL (t.kids.length : Int) 2)) ++ D.take (k - S.length - M.length - 2) := by simp only [List.append_assoc]
        have h10 := hgc (S ++ (M ++ putL (t.kids.length : Int) 2)) [] (S.length + M.length + 2) (k - S.length - M.length - 2) (by simp only [List.length_append, putL_length]; omega) (by omega)
        rw [e4, if_neg (by rw [h10]; decide)]
        exact h10

theorem cuts_ty : ∀ (n f : Nat) (t : Ty), deepB f t = false → Cuts (tyR f) (tyB n) t
  | 0, f, t, _ => fun h => absurd (show (1 : Int) = 0 from h) (by decide)
  | n + 1, 0, t, hd => by cases hd
  | n + 1, f + 1, t, hd => by
    intro h k hk
    obtain ⟨hh, hr, he⟩ := tyB_zero h
    have hid := hasB_id hh
    have ihk : ∀ k ∈ t.kids, Fits (tyR f) (tyB n) (norm n) k := fun k hk => fits_ty n f k (deepB_kids hd k hk)
    have ihc : ∀ k ∈ t.kids, Cuts (tyR f) (tyB n) k := fun k hk => cuts_ty n f k (deepB_kids hd k hk)
    rw [he] at hk ⊢
    simp only at hk ⊢
    rw [told_len] at hk
    by_cases h2k : k < 2
    · rw [tyR, if_pos (by rw [List.length_take, told_len]; omega)]
    · rw [take_put _ _ _ h2k, tyR_head hid.1 hid.2]
      rcases hasB_cases hh with ⟨c, ck, cm⟩ | ⟨c, ck⟩ | ⟨c, cm⟩ | ⟨c, ck, cm⟩ | ⟨c, ck, cm⟩ | ⟨cp, ck, cm, n0, n48, n49, n32, n34, n33⟩
      · have e : restB n t = textB t.name := by rw [restB, if_pos c]
        rw [e] at hr hk ⊢
        have h10 := cuts_text t.name hr (k - 2) (by omega)
        rw [if_pos c, if_neg (by rw [h10]; decide)]
        exact h10
      · have e : restB n t = cat (textB t.space) (cat (textB t.name) (cat (countB t.kids.length) (goB (fieldB (tyB n)) (t.names.zip t.kids)))) := by rw [restB, if_neg (by omega), if_pos c]
        have h10 := cuts_udt ihk ihc ck e hr (k - 2) (by omega)
        rw [if_neg (by omega), if_pos c, if_neg (by rw [h10]; decide)]
        exact h10
      · have e : restB n t = cat (countB t.kids.length) (goB (tyB n) t.kids) := by rw [restB, if_neg (by omega), if_neg (by omega), if_pos c]
        rw [e] at hr hk ⊢
        have h10 := cuts_tuple ihk ihc hr (k - 2) (by omega)
        simp only [if_neg (show ¬ t.id = 0 by omega), if_neg (show ¬ t.id = 48 by omega), if_pos (show t.id = 32 ∨ t.id = 34 ∨ t.id = 33 ∨ t.id = 49 by omega), if_pos c]
        rw [if_neg (by rw [h10]; decide)]
        exact h10
      · have e : restB n t = goB (tyB n) t.kids := by rw [restB, if_neg (by omega), if_neg (by omega), if_neg (by omega)]
        rw [e] at hr hk ⊢
        obtain ⟨h6, h7⟩ := goB_zero _ _ hr
        rw [h6] at hk ⊢
        have h10 := goR_cut t.kids ihk ihc h7 [] [] 0 (k - 2) rfl (by simp only at hk; omega)
        rw [ck, List.nil_append] at h10
        simp only [if_neg (show ¬ t.id = 0 by omega), if_neg (show ¬ t.id = 48 by omega), if_pos (show t.id = 32 ∨ t.id = 34 ∨ t.id = 33 ∨ t.id = 49 by omega), if_neg (show ¬ t.id = 49 by omega), if_neg (show ¬ t.id = 33 by omega)]
        rw [if_neg (by rw [h10]; decide)]
        exact h10
      · have e : restB n t = goB (tyB n) t.kids := by rw [restB, if_neg (by omega), if_neg (by omega), if_neg (by omega)]
        rw [e] at hr hk ⊢
        obtain ⟨h6, h7⟩ := goB_zero _ _ hr
        rw [h6] at hk ⊢
        have h10 := goR_cut t.kids ihk ihc h7 [] [] 0 (k - 2) rfl (by simp only at hk; omega)
        rw [ck, List.nil_append] at h10
        simp only [if_neg (show ¬ t.id = 0 by omega), if_neg (show ¬ t.id = 48 by omega), if_pos (show t.id = 32 ∨ t.id = 34 ∨ t.id = 33 ∨ t.id = 49 by omega), if_neg (show ¬ t.id = 49 by omega), if_pos c]
        rw [if_neg (by rw [h10]; decide)]
        exact h10
      · have hk0 := nil_of_len ck
        have e : restB n t = ([], 0) := by rw [restB, if_neg n0, if_neg n48, if_neg n49, hk0]; rfl
        rw [e] at hk
        simp only [List.length_nil] at hk
        omega

/-- What is got of bytes is put as it was. -/
def Puts {α : Type} (p : List Int → Res α) (f : α → List Int × Int) : Prop := ∀ zs : List Int, (∀ j : Nat, 0 ≤ zs[j]?.getD 0 ∧ zs[j]?.getD 0 ≤ 255) → (p zs).err = 0 → (p zs).done ≤ zs.length ∧ f (p zs).val = (zs.take (p zs).done, 0)

theorem putL_first (zs : List Int) (hr : ∀ j : Nat, 0 ≤ zs[j]?.getD 0 ∧ zs[j]?.getD 0 ≤ 255) (hl : 2 ≤ zs.length) : putL (numTo zs 2) 2 = zs.take 2 := by
  match zs, hl with
  | a :: b :: r, _ =>
    have h0 := hr 0
    have h1 := hr 1
    simp at h0 h1
    have e : numTo (a :: b :: r) 2 = a * 256 + b := by simp [numTo]
    rw [e]
    simp [putL, byteAt, List.range_succ]
    omega

theorem puts_text : Puts textR textB := by
  intro zs hr he
  unfold textR at he ⊢
  simp only at he ⊢
  unfold textA at he ⊢
  by_cases hl : zs.length < 2
  · rw [if_pos hl] at he; exact absurd he (by decide)
  · rw [if_neg hl] at he ⊢
    by_cases hn : ((zs.length - 2 : Nat) : Int) < numTo zs 2
    · rw [if_pos hn] at he; exact absurd he (by decide)
    · rw [if_neg hn]
      have hb := numTo_bound zs hr 2 (by omega)
      have h4 : (256 : Int) ^ 2 = 65536 := by decide
      obtain ⟨n, hn2⟩ := Int.eq_ofNat_of_zero_le hb.1
      have hp := putL_first zs hr (by omega)
      rw [hn2] at hn hb hp ⊢
      simp only [Int.toNat_natCast]
      have hsz : (strOfNums ((zs.drop 2).take n)).size = n := by rw [strOfNums_size, List.length_take, List.length_drop]; omega
      refine ⟨by omega, ?_⟩
      rw [textB, hsz, if_pos (by omega), sNums_strOfNums (range_take (range_drop hr 2) n), hp]
      congr 1
      rw [← List.take_add]

theorem goR_puts {α : Type} {p : List Int → Res α} {f : α → List Int × Int} (hf : Puts p f) (zs : List Int) (hr : ∀ j : Nat, 0 ≤ zs[j]?.getD 0 ∧ zs[j]?.getD 0 ≤ 255) :
    ∀ (n d : Nat) (acc : List α), d ≤ zs.length → (goR p zs n d acc).err = 0 → ∃ xs : List α, (goR p zs n d acc).val = acc ++ xs ∧ xs.length = n ∧ (∀ x ∈ xs, (f x).2 = 0) ∧ (goR p zs n d acc).done = d + (bodyB f xs).length ∧ (goR p zs n d acc).done ≤ zs.length ∧
      bodyB f xs = (zs.drop d).take (bodyB f xs).length := by
  intro n
  induction n with
  | zero => intro d acc hd _; exact ⟨[], by simp [goR], rfl, by simp, by simp [goR, bodyB], by simpa [goR] using hd, by simp [bodyB]⟩
  | succ n ih =>
    intro d acc hd he
    rw [goR] at he ⊢
    by_cases hx : (p (zs.drop d)).err = 0
    · rw [if_pos hx] at he ⊢
      obtain ⟨h1, h2⟩ := hf (zs.drop d) (range_drop hr d) hx
      rw [List.length_drop] at h1
      obtain ⟨xs, g1, g2, g3, g4, g5, g6⟩ := ih _ _ (by omega) he
      have hlen : (f (p (zs.drop d)).val).1.length = (p (zs.drop d)).done := by rw [h2]; simp; omega
      have hb : bodyB f ((p (zs.drop d)).val :: xs) = (zs.drop d).take (p (zs.drop d)).done ++ bodyB f xs := by rw [bodyB, bodyB, List.flatMap_cons, h2]
      refine ⟨(p (zs.drop d)).val :: xs, by rw [g1, List.append_assoc]; rfl, by rw [List.length_cons, g2], fun x hx2 => ?_, ?_, g5, ?_⟩
      · rcases List.mem_cons.1 hx2 with rfl | hx2
        · rw [h2]
        · exact g3 x hx2
      · rw [g4, hb, List.length_append, List.length_take, List.length_drop]; omega
      · rw [hb, List.length_append, List.length_take, List.length_drop, Nat.min_eq_left (by omega), List.take_add, List.drop_drop, ← g6]
    · rw [if_neg hx] at he
      exact absurd he hx

theorem goR_all {α : Type} {p : List Int → Res α} {Q : α → Prop} (hp : ∀ zs, (p zs).err = 0 → Q (p zs).val) (zs : List Int) : ∀ (n d : Nat) (acc : List α), (∀ x ∈ acc, Q x) → ∀ x ∈ (goR p zs n d acc).val, Q x := by
  intro n
  induction n with
  | zero => intro d acc ha; exact ha
  | succ n ih =>
    intro d acc ha
    rw [goR]
    split
    · rename_i hx
      refine ih _ _ (fun y hy => ?_)
      rcases List.mem_append.1 hy with hy | hy
      · exact ha y hy
      · obtain rfl : y = (p (zs.drop d)).val := by simpa using hy
        exact hp _ hx
    · intro x hx; cases hx

theorem puts_field {q : List Int → Res Ty} {f : Ty → List Int × Int} (hq : Puts q f) : Puts (fieldR q) (fieldB f) := by
  intro zs hr he
  unfold fieldR at he ⊢
  by_cases h1 : (textR zs).err = 0
  · rw [if_pos h1] at he ⊢
    obtain ⟨a1, a2⟩ := puts_text zs hr h1
    by_cases h2 : (q (zs.drop (textR zs).done)).err = 0
    · rw [if_pos h2] at he ⊢
      obtain ⟨b1, b2⟩ := hq _ (range_drop hr _) h2
      rw [List.length_drop] at b1
      simp only
      refine ⟨by omega, ?_⟩
      rw [fieldB, a2, b2, cat_ok (by rfl) (by rfl), List.take_add]
    · rw [if_neg h2] at he
      exact absurd he h2
  · rw [if_neg h1] at he
    exact absurd he h1

theorem deep_any_kids {f : Nat} {t : Ty} (h : ∀ k ∈ t.kids, deepB f k = false) : deepB (f + 1) t = false := by
  rw [deepB]
  apply List.any_eq_false.2
  intro k hk
  rw [h k hk]; decide

theorem puts_udt {f : Nat} (ih : Puts (tyR f) (tyB f)) (zs : List Int) (hr : ∀ j : Nat, 0 ≤ zs[j]?.getD 0 ∧ zs[j]?.getD 0 ≤ 255) (he : (udtR (tyR f) zs).err = 0) :
    (udtR (tyR f) zs).done ≤ zs.length ∧ (udtR (tyR f) zs).val.id = 48 ∧ (udtR (tyR f) zs).val.kids.length = (udtR (tyR f) zs).val.names.length ∧
      cat (textB (udtR (tyR f) zs).val.space) (cat (textB (udtR (tyR f) zs).val.name) (cat (countB (udtR (tyR f) zs).val.kids.length) (goB (fieldB (tyB f)) ((udtR (tyR f) zs).val.names.zip (udtR (tyR f) zs).val.kids)))) = (zs.take (udtR (tyR f) zs).done, 0) := by
  by_cases h1 : (textR zs).err = 0
  · obtain ⟨a1, a2⟩ := puts_text zs hr h1
    by_cases h2 : (textR (zs.drop (textR zs).done)).err = 0
    · obtain ⟨b1, b2⟩ := puts_text _ (range_drop hr _) h2
      rw [List.length_drop] at b1
      rw [udtR_at (tyR f) zs rfl rfl h1 h2] at he ⊢
      by_cases h3 : (zs.drop ((textR zs).done + (textR (zs.drop (textR zs).done)).done)).length < 2
      · rw [if_pos h3] at he; exact absurd (show (10 : Int) = 0 from he) (by decide)
      · rw [if_neg h3] at he ⊢
        generalize hA : textR zs = A at *
        generalize hC : textR (zs.drop A.done) = C at *
        have hb := numTo_bound (zs.drop (A.done + C.done)) (range_drop hr _) 2 (by omega)
        have h4 : (256 : Int) ^ 2 = 65536 := by decide
        have hp := putL_first (zs.drop (A.done + C.done)) (range_drop hr _) (by omega)
        obtain ⟨N, hN⟩ := Int.eq_ofNat_of_zero_le hb.1
        rw [hN] at hb hp he ⊢
        simp only [Int.toNat_natCast] at he ⊢
        rw [List.length_drop] at h3
        by_cases h5 : (goR (fieldR (tyR f)) zs N (A.done + C.done + 2) []).err = 0
        · rw [if_pos h5]
          obtain ⟨xs, g1, g2, g3, g4, g5, g6⟩ := goR_puts (puts_field ih) zs hr N (A.done + C.done + 2) [] (by omega) h5
          simp only
          rw [g1, List.nil_append, List.length_map, List.length_map, g2, List.zip_map', List.map_id']
          refine ⟨g5, by trivial, by trivial, ?_⟩
          rw [a2, b2, countB, if_pos (by omega), goB_of _ _ g3, cat_ok (by rfl) (by rfl), cat_ok (by rfl) (by rfl), cat_ok (by rfl) (by rfl), hp, g4]
          simp only
          rw [g6]
          simp only [List.length_take, List.length_drop]
          rw [Nat.min_eq_left (by rw [g4] at g5; omega)]
          congr 1
          rw [List.take_add (i := A.done + C.done + 2), List.take_add (i := A.done + C.done), List.take_add (i := A.done)]
          simp only [List.append_assoc]
        · rw [if_neg h5] at he; exact absurd he h5
    · rw [udtR, if_pos h1, if_neg h2] at he; exact absurd he h2
  · rw [udtR, if_neg h1] at he; exact absurd he h1

theorem tyB_of {n : Nat} {t : Ty} (hh : hasB t.id t.kids.length t.names.length = true) {R : List Int} (hr : restB n t = (R, 0)) : tyB (n + 1) t = (putL t.id 2 ++ R, 0) := by
  rw [tyB, if_neg (by rw [hh]; decide)]
  have : cat (putL t.id 2, 0) (restB n t) = (putL t.id 2 ++ R, 0) := by rw [hr, cat_ok (by rfl) (by rfl)]
  exact this

theorem deep_nil {f : Nat} {t : Ty} (h : t.kids = []) : deepB (f + 1) t = false := by rw [deepB, h]; rfl

theorem udt_kids (q : List Int → Res Ty) (ys : List Int) (Q : Ty → Prop) (h : ∀ N d, ∀ y ∈ (goR (fieldR q) ys N d []).val, Q y.2) : ∀ k ∈ (udtR q ys).val.kids, Q k := by
  have hnil : ∀ k ∈ tyNil.kids, Q k := fun k hk => by cases hk
  by_cases h1 : (textR ys).err = 0
  · by_cases h2 : (textR (ys.drop (textR ys).done)).err = 0
    · rw [udtR_at q ys rfl rfl h1 h2]
      by_cases h3 : (ys.drop ((textR ys).done + (textR (ys.drop (textR ys).done)).done)).length < 2
      · rw [if_pos h3]; exact hnil
      · rw [if_neg h3]
        generalize (numTo (ys.drop ((textR ys).done + (textR (ys.drop (textR ys).done)).done)) 2).toNat = N
        generalize (textR ys).done + (textR (ys.drop (textR ys).done)).done + 2 = d
        by_cases h4 : (goR (fieldR q) ys N d []).err = 0
        · rw [if_pos h4]
          intro k hk
          obtain ⟨y, hy, rfl⟩ := List.mem_map.1 hk
          exact h _ _ y hy
        · rw [if_neg h4]; exact hnil
    · rw [udtR, if_pos h1, if_neg h2]; exact hnil
  · rw [udtR, if_neg h1]; exact hnil

theorem tuple_kids (q : List Int → Res Ty) (ys : List Int) (Q : Ty → Prop) (h : ∀ N d, ∀ y ∈ (goR q ys N d []).val, Q y) : ∀ k ∈ (tupleR q ys).val, Q k := by
  unfold tupleR
  by_cases h1 : ys.length < 2
  · rw [if_pos h1]; intro k hk; cases hk
  · rw [if_neg h1]; exact h _ _

theorem deep_ty : ∀ (f : Nat) (zs : List Int), (tyR f zs).err = 0 → deepB f (tyR f zs).val = false
  | 0, zs, h => absurd (show (13 : Int) = 0 from h) (by decide)
  | f + 1, zs, h => by
    have ih := deep_ty f
    have hg : ∀ (ys : List Int) (N d : Nat), ∀ k ∈ (goR (tyR f) ys N d []).val, deepB f k = false := fun ys N d => goR_all ih ys N d [] (fun x hx => by cases hx)
    have hff : ∀ zs, (fieldR (tyR f) zs).err = 0 → deepB f (fieldR (tyR f) zs).val.2 = false := fun zs he => by
      unfold fieldR at he ⊢
      by_cases h1 : (textR zs).err = 0
      · rw [if_pos h1] at he ⊢
        by_cases h2 : (tyR f (zs.drop (textR zs).done)).err = 0
        · rw [if_pos h2]; exact ih _ h2
        · rw [if_neg h2] at he; exact absurd he h2
      · rw [if_neg h1] at he; exact absurd he h1
    have hgf : ∀ (ys : List Int) (N d : Nat), ∀ k ∈ (goR (fieldR (tyR f)) ys N d []).val, deepB f k.2 = false := fun ys N d => goR_all (p := fieldR (tyR f)) (Q := fun k : ByteArray × Ty => deepB f k.2 = false) hff ys N d [] (fun x hx => by cases hx)
    rw [tyR] at h ⊢
    by_cases hl : zs.length < 2
    · rw [if_pos hl] at h; exact absurd (show (10 : Int) = 0 from h) (by decide)
    · rw [if_neg hl] at h ⊢
      simp only at h ⊢
      generalize numTo zs 2 = I at *
      generalize zs.drop 2 = ys at *
      by_cases h0 : I = 0
      · rw [if_pos h0]
        by_cases h1 : (textR ys).err = 0
        · rw [if_pos h1]; exact deep_nil rfl
        · rw [if_neg h1]; exact deep_nil rfl
      · rw [if_neg h0]
        by_cases h48 : I = 48
        · rw [if_pos h48]
          by_cases h1 : (udtR (tyR f) ys).err = 0
          · rw [if_pos h1]
            exact deep_any_kids (udt_kids _ _ _ (fun N d y hy => hgf ys N d y hy))
          · rw [if_neg h1]; exact deep_nil rfl
        · rw [if_neg h48]
          by_cases h4 : I = 32 ∨ I = 34 ∨ I = 33 ∨ I = 49
          · rw [if_pos h4]
            by_cases h49 : I = 49
            · simp only [if_pos h49]
              by_cases h1 : (tupleR (tyR f) ys).err = 0
              · rw [if_pos h1]
                exact deep_any_kids (tuple_kids _ _ _ (fun N d y hy => hg ys N d y hy))
              · rw [if_neg h1]; exact deep_nil rfl
            · simp only [if_neg h49]
              generalize (if I = 33 then 2 else 1) = N
              by_cases h1 : (goR (tyR f) ys N 0 []).err = 0
              · rw [if_pos h1]
                exact deep_any_kids (fun k hk => hg ys N 0 k hk)
              · rw [if_neg h1]; exact deep_nil rfl
          · rw [if_neg h4]
            by_cases h5 : plainB I = true
            · rw [if_pos h5]; exact deep_nil rfl
            · rw [if_neg h5]; exact deep_nil rfl

theorem puts_ty : ∀ f : Nat, Puts (tyR f) (tyB f)
  | 0 => fun zs _ h => absurd (show (13 : Int) = 0 from h) (by decide)
  | f + 1 => by
    have ih := puts_ty f
    intro zs hr he
    have hl : ¬ zs.length < 2 := by
      intro hl
      rw [tyR, if_pos hl] at he
      exact absurd (show (10 : Int) = 0 from he) (by decide)
    have hp := putL_first zs hr (by omega)
    have hz : zs = putL (numTo zs 2) 2 ++ zs.drop 2 := by rw [hp, List.take_append_drop]
    have hb := numTo_bound zs hr 2 (by omega)
    rw [show (256 : Int) ^ 2 = 65536 by decide] at hb
    have hys := range_drop hr 2
    have hlen : zs.length = 2 + (zs.drop 2).length := by rw [List.length_drop]; omega
    have htk : ∀ d, zs.take (2 + d) = putL (numTo zs 2) 2 ++ (zs.drop 2).take d := fun d => by rw [List.take_add, hp]
    generalize numTo zs 2 = I at *
    generalize zs.drop 2 = ys at *
    have hT := tyR_head (f := f) hb.1 hb.2 ys
    rw [← hz] at hT
    rw [hT] at he ⊢
    by_cases h0 : I = 0
    · rw [if_pos h0] at he ⊢
      by_cases h1 : (textR ys).err = 0
      · rw [if_pos h1]
        obtain ⟨a1, a2⟩ := puts_text ys hys h1
        refine ⟨by simp only; omega, ?_⟩
        simp only
        rw [htk, tyB_of (t := ⟨0, ⟨#[]⟩, (textR ys).val, [], []⟩) (by rfl) (R := ys.take (textR ys).done) (by rw [restB, if_pos (by rfl)]; exact a2), h0]
      · rw [if_neg h1] at he; exact absurd he h1
    · rw [if_neg h0] at he ⊢
      by_cases h48 : I = 48
      · rw [if_pos h48] at he ⊢
        by_cases h1 : (udtR (tyR f) ys).err = 0
        · rw [if_pos h1]
          obtain ⟨a1, a2, a3, a4⟩ := puts_udt ih ys hys h1
          refine ⟨by simp only; omega, ?_⟩
          simp only
          rw [htk, tyB_of (t := (udtR (tyR f) ys).val) (by rw [a2, a3]; simp [hasB]) (R := ys.take (udtR (tyR f) ys).done) (by rw [restB, if_neg (by omega), if_pos a2]; exact a4), a2, h48]
        · rw [if_neg h1] at he; exact absurd he h1
      · rw [if_neg h48] at he ⊢
        by_cases h4 : I = 32 ∨ I = 34 ∨ I = 33 ∨ I = 49
        · rw [if_pos h4] at he ⊢
          by_cases h49 : I = 49
          · simp only [if_pos h49] at he ⊢
            by_cases h1 : (tupleR (tyR f) ys).err = 0
            · rw [if_pos h1]
              unfold tupleR at h1 ⊢
              by_cases hl2 : ys.length < 2
              · rw [if_pos hl2] at h1; exact absurd (show (10 : Int) = 0 from h1) (by decide)
              · rw [if_neg hl2] at h1 ⊢
                have hp2 := putL_first ys hys (by omega)
                have hb2 := numTo_bound ys hys 2 (by omega)
                rw [show (256 : Int) ^ 2 = 65536 by decide] at hb2
                obtain ⟨N, hN⟩ := Int.eq_ofNat_of_zero_le hb2.1
                rw [hN] at hp2 hb2 h1 ⊢
                simp only [Int.toNat_natCast] at h1 ⊢
                obtain ⟨xs, g1, g2, g3, g4, g5, g6⟩ := goR_puts ih ys hys N 2 [] (by omega) h1
                refine ⟨by omega, ?_⟩
                rw [g1, List.nil_append, htk, g4]
                rw [tyB_of (t := ⟨I, ⟨#[]⟩, ⟨#[]⟩, [], xs⟩) (by show hasB I _ 0 = true; rw [h49]; simp [hasB]) (R := ys.take (2 + (bodyB (tyB f) xs).length)) ?_]
                rw [restB, if_neg (by exact h0), if_neg (by exact h48), if_pos (by exact h49)]
                simp only
                rw [g2, countB, if_pos (by omega), goB_of _ _ g3, cat_ok (by rfl) (by rfl), hp2, List.take_add, ← g6]
            · rw [if_neg h1] at he; exact absurd he h1
          · simp only [if_neg h49] at he ⊢
            by_cases h1 : (goR (tyR f) ys (if I = 33 then 2 else 1) 0 []).err = 0
            · rw [if_pos h1]
              obtain ⟨xs, g1, g2, g3, g4, g5, g6⟩ := goR_puts ih ys hys _ 0 [] (by omega) h1
              refine ⟨by simp only; omega, ?_⟩
              simp only
              rw [g1, List.nil_append, htk, g4, Nat.zero_add]
              rw [tyB_of (t := ⟨I, ⟨#[]⟩, ⟨#[]⟩, [], xs⟩) ?_ (R := ys.take (bodyB (tyB f) xs).length) ?_]
              · show hasB I xs.length 0 = true
                rw [g2]
                by_cases h33 : I = 33
                · rw [if_pos h33, h33]; simp [hasB]
                · rw [if_neg h33, hasB, if_neg h0, if_pos (by omega)]; simp
              · rw [restB, if_neg (by exact h0), if_neg (by exact h48), if_neg (by exact h49)]
                simp only
                rw [goB_of _ _ g3]
                rw [List.drop_zero] at g6
                rw [← g6]
            · rw [if_neg h1] at he; exact absurd he h1
        · rw [if_neg h4] at he ⊢
          by_cases h5 : plainB I = true
          · rw [if_pos h5]
            refine ⟨by simp only; omega, ?_⟩
            simp only
            have := htk 0
            simp only [Nat.add_zero, List.take_zero] at this
            rw [this, tyB_of (t := ⟨I, ⟨#[]⟩, ⟨#[]⟩, [], []⟩) ?_ (R := []) ?_]
            · show hasB I 0 0 = true
              rw [hasB_else h0 (by omega) (by omega) (by omega) h48 (by omega), h5]; rfl
            · rw [restB, if_neg (by exact h0), if_neg (by exact h48)]
              split
              · rename_i h49; exact absurd (show I = 49 from h49) (by omega)
              · rfl
          · rw [if_neg h5] at he; exact absurd (show (11 : Int) = 0 from he) (by decide)
end Go.Proofs.YtnapeecmlkkolaaDoor
