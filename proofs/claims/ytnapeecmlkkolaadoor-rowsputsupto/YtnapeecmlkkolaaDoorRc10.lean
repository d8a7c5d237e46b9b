/-
  What is put of a table is read to its end, whatever is behind; cut anywhere, it ends too early. The walk of RowsCut.
-/
import Derived.Test.YtnapeecmlkkolaaDoorCells10
import Derived.Test.YtnapeecmlkkolaaDoorCut
namespace Go.Proofs.YtnapeecmlkkolaaDoor
open Go.RowKit
set_option maxRecDepth 100000
set_option linter.unusedVariables false
set_option linter.unusedSimpArgs false

/-- The bytes B are read as v to their end, whatever is behind; cut anywhere, they end too early. -/
def RC {α : Type} (p : Ps α) (B : List Int) (v : α) : Prop := (∀ Z, p (B ++ Z) = ⟨v, B.length, 0⟩) ∧ ∀ k, k < B.length → (p (B.take k)).err = 10
def RE {α : Type} (p : Ps α) (B : List Int) : Prop := ∃ v, RC p B v

theorem rc_bind {α β : Type} {p : Ps α} {f : α → Ps β} {A B : List Int} {v : α} {u : β} (h : RC p A v) (k : RC (f v) B u) : RC (bindR p f) (A ++ B) u := by
  refine ⟨fun Z => ?_, fun j hj => ?_⟩
  · unfold bindR
    rw [List.append_assoc, h.1 (B ++ Z)]
    simp only
    rw [List.drop_left, k.1 Z]
    simp
  · rw [List.length_append] at hj
    by_cases hlt : j < A.length
    · rw [List.take_append_of_le_length (by omega)]
      have h10 := h.2 j hlt
      unfold bindR
      rw [if_neg (by rw [h10]; decide)]
      exact h10
    · have e : (A ++ B).take j = A ++ B.take (j - A.length) := by rw [List.take_append, List.take_of_length_le (by omega)]
      have h10 := k.2 (j - A.length) (by omega)
      unfold bindR
      rw [e, h.1]
      simp [h10]

theorem rc_pure {α : Type} (a : α) : RC (pureR a) [] a := ⟨fun Z => rfl, fun k hk => absurd hk (by simp)⟩
theorem rc_then {α β : Type} {p : Ps α} {f : α → Ps β} {A : List Int} {v : α} {u : β} (h : RC p A v) (k : f v = pureR u) : RC (bindR p f) A u := by
  have := rc_bind (f := f) (B := []) (u := u) h (by rw [k]; exact rc_pure u)
  rwa [List.append_nil] at this
theorem rc_skip {α β : Type} {a : α} {f : α → Ps β} {B : List Int} {u : β} (k : RC (f a) B u) : RC (bindR (pureR a) f) B u := by
  have := rc_bind (f := f) (rc_pure a) k
  rwa [List.nil_append] at this
theorem re_bind {α β : Type} {p : Ps α} {f : α → Ps β} {A B : List Int} (h : RE p A) (k : ∀ v, RE (f v) B) : RE (bindR p f) (A ++ B) := by
  obtain ⟨v, h⟩ := h
  obtain ⟨u, k⟩ := k v
  exact ⟨u, rc_bind h k⟩
theorem re_then {α β : Type} {p : Ps α} {f : α → Ps β} {A : List Int} (h : RE p A) (k : ∀ v, ∃ u, f v = pureR u) : RE (bindR p f) A := by
  obtain ⟨v, h⟩ := h
  obtain ⟨u, k⟩ := k v
  exact ⟨u, rc_then h k⟩

theorem rc_int {N : Int} (h0 : 0 ≤ N) (h1 : N < 2147483648) : RC int4R (putL N 4) N := by
  refine ⟨fun Z => ?_, fun k hk => ?_⟩
  · have e : sgn (numTo (putL N 4 ++ Z) 4) 4 = N := by
      rw [numTo_putL N 4 Z (by omega) (by omega)]
      unfold sgn
      simp only [show 8 * 4 - 1 = 31 from rfl, show 8 * 4 = 32 from rfl]
      have e : N % 2 ^ 32 % 2 ^ 32 = N := by omega
      rw [e]
      split <;> omega
    have en : numR 4 (putL N 4 ++ Z) = ⟨numTo (putL N 4 ++ Z) 4, 4, 0⟩ := by
      unfold numR
      rw [if_neg (by rw [told_len]; omega)]
    unfold int4R bindR
    rw [en]
    simp [pureR, e, putL_length]
  · rw [putL_length] at hk
    have en : numR 4 ((putL N 4).take k) = ⟨0, 0, 10⟩ := by
      unfold numR
      rw [if_pos (by rw [List.length_take, putL_length]; omega)]
    unfold int4R bindR
    rw [en]
    simp

theorem rc_many {N : Int} (h0 : 0 ≤ N) (h1 : N ≤ 4096) : RC manyR (putL N 4) N :=
  rc_then (rc_int h0 (by omega)) (by rw [if_neg (by omega), if_neg (by omega)])
theorem rc_head {f n : Int} (hf : 0 ≤ f ∧ f ≤ 7) (hn : 0 ≤ n ∧ n ≤ 4096) : RC headR (putL f 4 ++ putL n 4) (f, n) := by
  refine rc_bind (rc_int hf.1 (by omega)) ?_
  rw [if_neg (by omega)]
  exact rc_then (rc_many hn.1 hn.2) rfl
theorem rc_text {s : ByteArray} (h : (textB s).2 = 0) : RC textR (textB s).1 s := ⟨fun Z => fits_text s h Z, cuts_text s h⟩
theorem re_ty {n : Nat} {t : Ty} (h : (putR n t).2 = 0) : RE (tyR 20) (putR n t).1 := by
  obtain ⟨hd, he⟩ := putR_ok h
  rw [he] at h ⊢
  exact ⟨_, fun Z => fits_ty (n + 1) 20 t hd h Z, cuts_ty (n + 1) 20 t hd h⟩

theorem int4_put (N : Int) (Z : List Int) (h0 : 0 ≤ N) (h1 : N < 4294967296) : int4 (putL N 4 ++ Z) = if 2147483648 ≤ N then N - 4294967296 else N := by
  unfold int4
  rw [numTo_putL N 4 Z (by omega) (by omega)]
  unfold sgn
  simp only [show 8 * 4 - 1 = 31 from rfl, show 8 * 4 = 32 from rfl]
  have e : N % 2 ^ 32 % 2 ^ 32 = N := by omega
  rw [e]
  split <;> split <;> omega

theorem minus_one (Z : List Int) : valueA ([255, 255, 255, 255] ++ Z) = ⟨0, [], 4, 0⟩ := by
  have e : putL 4294967295 4 = [255, 255, 255, 255] := by decide +kernel
  rw [← e]
  unfold valueA
  rw [told_len, int4_put _ Z (by omega) (by omega), if_neg (by omega), if_neg (by decide), if_neg (by decide), if_pos (by decide)]
theorem minus_two (Z : List Int) : valueA ([255, 255, 255, 254] ++ Z) = ⟨1, [], 4, 0⟩ := by
  have e : putL 4294967294 4 = [255, 255, 255, 254] := by decide +kernel
  rw [← e]
  unfold valueA
  rw [told_len, int4_put _ Z (by omega) (by omega), if_neg (by omega), if_neg (by decide), if_pos (by decide)]
theorem four_short (a b c d : Int) (k : Nat) (hk : k < 4) : (valueA ([a, b, c, d].take k)).err = 10 := by
  unfold valueA
  rw [if_pos (by rw [List.length_take]; simp; omega)]

/-- What is got of the bytes of x. -/
def gotV (x : Vl) : Vl := if x.1 = 2 then (2, strOfNums (sNums x.2)) else (x.1, strOfNums [])

theorem rc_value {x : Vl} (hx : x.2.size < 2147483648) (h : (valueB x).2 = 0) : RC valueR (valueB x).1 (gotV x) := by
  unfold valueB at h ⊢
  unfold gotV
  by_cases h0 : x.1 = 0
  · rw [if_pos h0, if_neg (by omega)]
    exact ⟨fun Z => by unfold valueR; simp only; rw [minus_one, h0]; rfl, fun k hk => four_short _ _ _ _ k hk⟩
  rw [if_neg h0] at h ⊢
  by_cases h1 : x.1 = 1
  · rw [if_pos h1, if_neg (by omega)]
    exact ⟨fun Z => by unfold valueR; simp only; rw [minus_two, h1]; rfl, fun k hk => four_short _ _ _ _ k hk⟩
  rw [if_neg h1] at h ⊢
  by_cases h2 : x.1 = 2
  · rw [if_pos h2, if_pos h2]
    have hl : (sNums x.2).length = x.2.size := sNums_length _
    refine ⟨fun Z => ?_, fun k hk => ?_⟩
    · have ei : ∀ Y, int4 (putL (x.2.size : Int) 4 ++ Y) = x.2.size := fun Y => by rw [int4_put _ Y (by omega) (by omega), if_neg (by omega)]
      have ev : valueA (putL (x.2.size : Int) 4 ++ sNums x.2 ++ Z) = ⟨2, sNums x.2, 4 + x.2.size, 0⟩ := by
        unfold valueA
        rw [List.append_assoc, told_len, ei, if_neg (by omega), if_neg (by omega), if_neg (by omega), if_neg (by omega), if_neg (by rw [List.length_append]; omega), told_front, Int.toNat_natCast, ← hl, List.take_left]
      unfold valueR
      simp only
      rw [ev]
      simp [putL_length, hl]
    · simp only at hk ⊢
      rw [List.length_append, putL_length] at hk
      unfold valueR
      simp only
      by_cases hk4 : k < 4
      · unfold valueA
        rw [if_pos (by rw [List.length_take, List.length_append, putL_length]; omega)]
      · have e : (putL (x.2.size : Int) 4 ++ sNums x.2).take k = putL (x.2.size : Int) 4 ++ (sNums x.2).take (k - 4) := by
          rw [List.take_append, putL_length, List.take_of_length_le (by rw [putL_length]; omega)]
        have ei : ∀ Y, int4 (putL (x.2.size : Int) 4 ++ Y) = x.2.size := fun Y => by rw [int4_put _ Y (by omega) (by omega), if_neg (by omega)]
        unfold valueA
        rw [e, told_len, ei, if_neg (by omega), if_neg (by omega), if_neg (by omega), if_neg (by omega), if_pos (by rw [List.length_take]; omega)]
  · rw [if_neg h2] at h; exact absurd h (by decide)

theorem rc_set {x : Vl} (hx : x.2.size < 2147483648) (h : (valueB x).2 = 0) (h1 : x.1 ≠ 1) : RC setR (valueB x).1 (gotV x) := by
  refine rc_then (rc_value hx h) ?_
  rw [if_neg]
  unfold gotV
  split
  · simp
  · simpa using h1

theorem re_loop {α β : Type} {p : Ps α} {f : β → BE} : ∀ xs : List β, (goQ f xs).2 = 0 → (∀ x ∈ xs, (f x).2 = 0 → RE p (f x).1) → RE (loopR p xs.length) (goQ f xs).1
  | [], _, _ => ⟨[], rc_pure _⟩
  | x :: r, h, hp => by
    rw [goQ] at h ⊢
    obtain ⟨h1, h2, h3⟩ := seqB_fine h
    rw [h3]
    simp only
    have ih := re_loop r h2 (fun y hy => hp y (List.mem_cons_of_mem _ hy))
    exact re_bind (hp x List.mem_cons_self h1) fun v => re_then ih fun l => ⟨_, rfl⟩

theorem re_rows {N : Int} {Q : List (List Vl)} (hQ : Q.all (rowOk N) = true) (hl : Q.length ≤ 4096) (hs : ∀ r ∈ Q, ∀ V ∈ r, V.2.size < 2147483648) (h : (rowsB Q).2 = 0) : RE (rowsR N.toNat) (rowsB Q).1 := by
  unfold rowsB at h ⊢
  obtain ⟨h1, h2, h3⟩ := seqB_fine h
  rw [h3]
  simp only
  have key : RE (loopR (loopR setR N.toNat) Q.length) (goQ rowB Q).1 := by
    refine re_loop Q h2 fun r hr h => ?_
    have hro := List.all_eq_true.mp hQ r hr
    unfold rowOk unB at hro
    simp only [Bool.and_eq_true, decide_eq_true_eq, Bool.not_eq_true', List.any_eq_false, beq_iff_eq] at hro
    rw [← hro.1, Int.toNat_natCast]
    exact re_loop r h fun x hx hv => ⟨_, rc_set (hs r hr x hx) hv (hro.2 x hx)⟩
  obtain ⟨v, hv⟩ := key
  exact ⟨v, rc_bind (rc_many (by omega) (by omega)) (by rw [Int.toNat_natCast]; exact hv)⟩

theorem re_name {n : Nat} {c : Col} {o : ByteArray × ByteArray} (h : (seqB (textB c.2.2.1) (putR n c.2.2.2)).2 = 0) :
    RE (bindR textR fun n => bindR (tyR 20) fun t => pureR ((o.1, o.2, n, t) : Col)) (seqB (textB c.2.2.1) (putR n c.2.2.2)).1 := by
  obtain ⟨h1, h2, h3⟩ := seqB_fine h
  rw [h3]
  exact re_bind ⟨_, rc_text h1⟩ fun v => re_then (re_ty h2) fun t => ⟨_, rfl⟩
theorem re_owner {c : Col} (h : (seqB (textB c.1) (textB c.2.1)).2 = 0) : RE ownerR (seqB (textB c.1) (textB c.2.1)).1 := by
  obtain ⟨h1, h2, h3⟩ := seqB_fine h
  rw [h3]
  exact re_bind ⟨_, rc_text h1⟩ fun v => re_then ⟨_, rc_text h2⟩ fun t => ⟨_, rfl⟩

/-- Columns of one table behind the first: their names and types alone. -/
theorem re_colsG {n : Nat} (o : ByteArray × ByteArray) : ∀ (l : List Col) (k : Nat), 0 < k → (colsFrom n true k l).2 = 0 → RE (loopR (colR true o) l.length) (colsFrom n true k l).1
  | [], k, _, _ => ⟨[], rc_pure _⟩
  | c :: r, k, hk, h => by
    rw [colsFrom] at h ⊢
    obtain ⟨h1, h2, h3⟩ := seqB_fine h
    rw [h3]
    simp only
    have ih := re_colsG o r (k + 1) (by omega) h2
    refine re_bind ?_ fun v => re_then ih fun l => ⟨_, rfl⟩
    have e : (decide (k = 0) || !true) = false := by simp; omega
    rw [e] at h1 ⊢
    unfold colB optB at h1 ⊢
    simp only [Bool.false_eq_true, if_false] at h1 ⊢
    obtain ⟨g1, g2, g3⟩ := seqB_fine h1
    rw [g3]
    obtain ⟨u, hu⟩ := re_name (o := o) g2
    exact ⟨u, rc_skip hu⟩

theorem re_colsL {n : Nat} (o : ByteArray × ByteArray) : ∀ (l : List Col) (k : Nat), (colsFrom n false k l).2 = 0 → RE (loopR (colR false o) l.length) (colsFrom n false k l).1
  | [], k, _ => ⟨[], rc_pure _⟩
  | c :: r, k, h => by
    rw [colsFrom] at h ⊢
    obtain ⟨h1, h2, h3⟩ := seqB_fine h
    rw [h3]
    simp only
    have ih := re_colsL o r (k + 1) h2
    refine re_bind ?_ fun v => re_then ih fun l => ⟨_, rfl⟩
    have e : (decide (k = 0) || !false) = true := by simp
    rw [e] at h1 ⊢
    unfold colB optB at h1 ⊢
    simp only [if_true] at h1 ⊢
    obtain ⟨g1, g2, g3⟩ := seqB_fine h1
    rw [g3]
    exact re_bind (re_owner g1) fun v => re_name g2

theorem re_cols {n : Nat} {g : Bool} {l : List Col} (hg : g = true → 0 < l.length) (h : (colsFrom n g 0 l).2 = 0) : RE (colsR l.length g) (colsFrom n g 0 l).1 := by
  cases g with
  | false =>
    obtain ⟨u, hu⟩ := re_colsL (n := n) (ByteArray.empty, ByteArray.empty) l 0 h
    exact ⟨u, rc_skip hu⟩
  | true =>
    cases l with
    | nil => exact absurd (hg rfl) (by simp)
    | cons c r =>
      rw [colsFrom] at h ⊢
      obtain ⟨h1, h2, h3⟩ := seqB_fine h
      rw [h3]
      show RE (colsR (c :: r).length true) ((colB n (decide (0 = 0) || !true) c).1 ++ (colsFrom n true (0 + 1) r).1)
      have e : (decide (0 = 0) || !true) = true := by simp
      rw [e] at h1 ⊢
      unfold colB optB at h1 ⊢
      simp only [if_true] at h1 ⊢
      obtain ⟨g1, g2, g3⟩ := seqB_fine h1
      rw [g3]
      simp only
      rw [List.append_assoc]
      refine re_bind (re_owner g1) fun o => ?_
      have ih := re_colsG (n := n) o r 1 (by omega) h2
      refine re_bind ?_ fun v => re_then ih fun l => ⟨_, rfl⟩
      obtain ⟨u, hu⟩ := re_name (o := o) g2
      exact ⟨u, rc_skip hu⟩

theorem bit_one (gl : Bool) (cl : Nat) (m : Bool) (n : Int) : bitX (flagsN gl cl m n) 1 = (gl && decide (0 < cl)) := by
  by_cases hc : 0 < cl <;> by_cases hn : n = 0 <;> cases gl <;> cases m <;> simp [flagsN, hc, hn, show ¬ (cl = 0) ↔ 0 < cl by omega] <;> first | decide +kernel | (rw [if_neg (by omega)]; decide +kernel) | (rw [if_pos (by omega)]; decide +kernel)
theorem bit_two (gl : Bool) (cl : Nat) (m : Bool) (n : Int) : bitX (flagsN gl cl m n) 2 = m := by
  by_cases hc : 0 < cl <;> by_cases hn : n = 0 <;> cases gl <;> cases m <;> simp [flagsN, hc, hn, show ¬ (cl = 0) ↔ 0 < cl by omega] <;> first | decide +kernel | (rw [if_neg (by omega)]; decide +kernel) | (rw [if_pos (by omega)]; decide +kernel)
theorem bit_four (gl : Bool) (cl : Nat) (m : Bool) (n : Int) : bitX (flagsN gl cl m n) 4 = decide (cl = 0 ∧ n ≠ 0) := by
  by_cases hc : cl = 0 <;> by_cases hn : n = 0 <;> cases gl <;> cases m <;> simp [flagsN, hc, hn] <;> first | decide +kernel | (rw [if_neg (by omega)]; decide +kernel) | (rw [if_pos (by omega)]; decide +kernel)

/-- What Put makes of a table. -/
theorem re_tab {n : Nat} {gl : Bool} {T : Tb} (hs : T.2.2.2.1.2.size < 2147483648) (hr : ∀ r ∈ T.2.2.2.2, ∀ V ∈ r, V.2.size < 2147483648) (h : (putT n gl T).2 = 0) : RE tabR (putT n gl T).1 := by
  obtain ⟨cn, L, mo, st, Q⟩ := T
  unfold putT at h ⊢
  by_cases hc : (mayT (cn, L, mo, st, Q) && (!gl || oneB L)) = true
  · rw [if_pos hc] at h ⊢
    obtain ⟨h1, h2, h3⟩ := seqB_fine h
    rw [h3]
    simp only at hs hr ⊢
    have hm : mayT (cn, L, mo, st, Q) = true := by
      rw [Bool.and_eq_true] at hc; exact hc.1
    unfold mayT at hm
    simp only [Bool.and_eq_true, Bool.or_eq_true, decide_eq_true_eq] at hm
    obtain ⟨⟨⟨m0, m1⟩, m2⟩, m3, m4⟩ := hm
    have hfr := flagsN_range gl L.length mo cn
    have b1 := bit_one gl L.length mo cn
    have b2 := bit_two gl L.length mo cn
    have b4 := bit_four gl L.length mo cn
    simp only at h1 h2 h3 ⊢
    generalize flagsN gl L.length mo cn = f at h1 h2 h3 hfr b1 b2 b4 ⊢
    unfold headB at h1 ⊢
    simp only at h1 ⊢
    obtain ⟨i1, i2, i3⟩ := seqB_fine h1
    obtain ⟨j1, j2, j3⟩ := seqB_fine i2
    obtain ⟨k1, k2, k3⟩ := seqB_fine j2
    rw [i3, j3, k3]
    simp only
    have e : intB f = (putL f 4, 0) := rfl
    have e2 : intB cn = (putL cn 4, 0) := rfl
    rw [e, e2]
    simp only
    rw [show putL f 4 ++ (putL cn 4 ++ ((optB mo (valueB st)).1 ++ (colsFrom n (bitX f 1) 0 L).1)) ++ (rowsB Q).1 = (putL f 4 ++ putL cn 4) ++ (((optB mo (valueB st)).1 ++ (colsFrom n (bitX f 1) 0 L).1) ++ (rowsB Q).1) by simp only [List.append_assoc]]
    have key : RE (tableR f cn) ((optB mo (valueB st)).1 ++ (colsFrom n (bitX f 1) 0 L).1) := by
      unfold tableR
      rw [b2]
      have ks : RE (optR mo v0 valueR) (optB mo (valueB st)).1 := by
        cases mo with
        | false => exact ⟨_, rc_pure _⟩
        | true => exact ⟨_, rc_value hs k1⟩
      refine re_bind ks fun s => ?_
      by_cases hz : L.length = 0 ∧ cn ≠ 0
      · rw [b4, decide_eq_true hz]
        have hL : L = [] := List.length_eq_zero_iff.mp hz.1
        subst hL
        exact ⟨_, rc_skip (rc_pure _)⟩
      · rw [b4, decide_eq_false hz]
        have hn : cn.toNat = L.length := by
          rcases m3 with e | e
          · have : cn = 0 := by
              by_cases hh : cn = 0
              · exact hh
              · exact absurd ⟨e, hh⟩ hz
            omega
          · omega
        rw [hn]
        refine re_then ?_ fun l => ⟨_, rfl⟩
        exact re_cols (fun hg => by rw [b1] at hg; simp at hg; exact hg.2) k2
    obtain ⟨t, ht⟩ := key
    obtain ⟨r, hr⟩ := re_rows (N := cn) m4 m2 hr h2
    exact ⟨_, rc_bind (rc_head hfr ⟨m0, m1⟩) (rc_bind ht (rc_then hr rfl))⟩
  · rw [if_neg hc] at h; exact absurd (show (1 : Int) = 0 from h) (by decide)

end Go.Proofs.YtnapeecmlkkolaaDoor
namespace Go.Proofs.YtnapeecmlkkolaaDoor
open Go.RowKit
set_option maxRecDepth 100000
set_option linter.unusedVariables false
set_option linter.unusedSimpArgs false

theorem tab_short : (tabR []).err = 10 := by
  unfold tabR headR int4R numR bindR
  simp

theorem re_pos {B : List Int} (h : RE tabR B) : 0 < B.length := by
  obtain ⟨v, h1, h2⟩ := h
  cases B with
  | nil =>
    have := h1 []
    have k := tab_short
    rw [List.append_nil] at this
    rw [this] at k
    exact absurd k (by simp)
  | cons x r => simp

theorem end_cut {B : List Int} (h : RE tabR B) {k : Nat} (hk : k < B.length) : endE tabR (B.take k) = 10 := by
  obtain ⟨v, h1, h2⟩ := h
  unfold endE
  rw [h2 k hk]
  simp

theorem end_more {B : List Int} (h : RE tabR B) (x : Int) : endE tabR (B ++ [x]) = 23 := by
  obtain ⟨v, h1, h2⟩ := h
  unfold endE
  rw [h1 [x]]
  simp

theorem sum_bd {α : Type} {f : α → Nat} {M : Nat} : ∀ l : List α, (∀ x ∈ l, f x ≤ M) → (l.map f).sum ≤ l.length * M
  | [], _ => by simp
  | x :: r, h => by
    rw [List.map_cons, List.sum_cons, List.length_cons, Nat.add_mul]
    have h1 := h x List.mem_cons_self
    have h2 := sum_bd r (fun y hy => h y (List.mem_cons_of_mem _ hy))
    omega

theorem slB_parts {T : Tb} (h : slB T = true) : T.2.1.length ≤ 20 ∧ T.2.2.2.2.length ≤ 20 ∧ (∀ c ∈ T.2.1, fewF 26 c.2.2.2 = true) ∧ ∀ r ∈ T.2.2.2.2, r.length ≤ 30 := by
  unfold slB at h
  simp only [Bool.and_eq_true, decide_eq_true_eq, List.all_eq_true] at h
  exact ⟨h.1.1, h.1.2, h.2.1, h.2.2⟩

theorem sl_view {m : Nat} {F : Nat → Prop} {w : World} {T : Tb} {ca : Option Addr} {cl cc : Nat} {x : Option Addr} {lx cx : Nat} {ra : Option Addr} {rl rc : Nat} (h : TbV (m + 1) F w T ca cl cc x lx cx ra rl rc) (hs : slB T = true) : TbV (25 + 1) F w T ca cl cc x lx cx ra rl rc := by
  refine ⟨h.1.mono (fun k _ hf => ⟨hf, rfl⟩) (Nat.le_refl _) (fun c d hc hv => ?_), h.2⟩
  obtain ⟨v1, v2, v3, na, nl, nc, ka, kl, kc, e0, e1, e2, e3, e4, hty⟩ := hv
  exact ⟨v1, v2, v3, na, nl, nc, ka, kl, kc, e0, e1, e2, e3, e4, few_fit 26 ((slB_parts hs).2.2.1 c hc) hty⟩

theorem sl_bd {T : Tb} (hs : slB T = true) (hb : T.2.2.2.1.2.size ≤ 1048576) (hr : ∀ r ∈ T.2.2.2.2, ∀ V ∈ r, V.2.size ≤ 1048576) : tabW 25 T ≤ 7000000000 := by
  obtain ⟨h1, h2, h3, h4⟩ := slB_parts hs
  have c1 := sum_bd (f := colW 25) (M := 288560211) T.2.1 (fun c hc => by have := few_wgt26 (h3 c hc); unfold colW; show 196611 + wgt 26 c.2.2.2 ≤ _; omega)
  have r1 := sum_bd (f := rowW) (M := 31457400) T.2.2.2.2 (fun r hr' => by
    have := sum_bd (f := valW) (M := 1048580) r (fun V hV => by have := hr r hr' V hV; unfold valW; omega)
    have k := Nat.mul_le_mul_right 1048580 (h4 r hr')
    unfold rowW; omega)
  have k1 := Nat.mul_le_mul_right 288560211 h1
  have k2 := Nat.mul_le_mul_right 31457400 h2
  unfold tabW valW
  omega

theorem putT_len (n : Nat) (gl : Bool) (T : Tb) : (putT n gl T).1.length ≤ tabW n T := by
  unfold putT
  split
  · have h1 := seqB_len (headB n (flagsN gl T.2.1.length T.2.2.1 T.1) T) (rowsB T.2.2.2.2)
    have h2 := headB_len n (flagsN gl T.2.1.length T.2.2.1 T.1) T
    have h3 := seqB_len (intB T.2.2.2.2.length) (goQ rowB T.2.2.2.2)
    have h4 := goQ_len rowB_len T.2.2.2.2
    have h5 := intB_len T.2.2.2.2.length
    unfold rowsB at h1 ⊢
    unfold tabW
    omega
  · simp

set_option maxHeartbeats 4000000 in
theorem cutT_any {m : Nat} {w : World} (hT : Tab w) {cnt : Int} {L : List Col} {mo : Bool} {vk : Int} {vb : ByteArray} {Q : List (List Vl)} {ca : Option Addr} {cl cc : Nat} {x : Option Addr} {lx cx : Nat} {ra : Option Addr} {rl rc : Nat}
    (h : TbV (m + 1) (fun _ => True) w ((cnt, L, mo, (vk, vb), Q) : Tb) ca cl cc x lx cx ra rl rc) (hi : -9223372036854775808 ≤ cnt ∧ cnt ≤ 9223372036854775807) (gl : Bool) {at_ : Int} (ha : -9223372036854775808 ≤ at_ ∧ at_ ≤ 9223372036854775807) {mr : Int} (hmr : 0 ≤ mr ∧ mr ≤ 255)
    (hvb : vb.size ≤ 1048576) (hsr : ∀ r ∈ Q, ∀ V ∈ r, V.2.size ≤ 1048576) :
    Calls Tryd.prog 7 #[.agg #[.int .i64 cnt, .slice ca cl cc, .bool mo, .int .i64 vk, .slice x lx cx, .slice ra rl rc], .bool gl, .int .i64 at_, .int .u8 mr] w fun e w' => e = .returned (.bool true) ∧ Below w.heap.size w w' := by
  obtain ⟨w0, hw0⟩ : ∃ w0, w0 = w.alloc (.cells #[.int .i64 cnt, .slice ca cl cc, .bool mo, .int .i64 vk, .slice x lx cx, .slice ra rl rc] 29) := ⟨_, rfl⟩
  have HW0 : Hid (w.alloc (.cells #[.int .i64 cnt, .slice ca cl cc, .bool mo, .int .i64 vk, .slice x lx cx, .slice ra rl rc] 29) = w0) := hw0.symm
  have hB0 : Below w.heap.size w w0 := by rw [hw0]; exact below_one _ _
  have HB0 : Hid (Below w.heap.size w w0) := hB0
  obtain ⟨q, hq⟩ : ∃ q, q = w.heap.size := ⟨_, rfl⟩
  have HQE : Hid (w.heap.size = q) := hq.symm
  have HG0 : Hid (w0.heap[q]? = some (.cells #[.int .i64 cnt, .slice ca cl cc, .bool mo, .int .i64 vk, .slice x lx cx, .slice ra rl rc] 29 (0, 0))) := by rw [hw0, hq]; exact heap_alloc_new w _
  have HV0 : Hid (TbV (m + 1) (fun _ => True) w0 ((cnt, L, mo, (vk, vb), Q) : Tb) ca cl cc x lx cx ra rl rc) := h.old hB0
  have HT0 : Hid (Tab w0) := hT.old hB0
  have HVB : Hid (vb.size ≤ 1048576) := hvb
  have HSR : Hid (∀ r ∈ Q, ∀ V ∈ r, V.2.size ≤ 1048576) := hsr
  have hand := i64_and at_
  have hlq := block_lt HG0.out
  clear hw0 hB0 hq h hsr hvb hT
  go_enter Tryd.func7, Tryd.ntmps7
  go_upto_region 1 with fail
  (try rw [HQE.out])
  rw [HW0.out]
  clear HW0
  go_wp2_with fail
  refine (awake_any _ HT0.out).mono ?_
  rintro e w1 ⟨rfl, HB1⟩
  have hg1 := (HB1.out.block q hlq).trans HG0.out
  have HG1 : Hid (w1.heap[q]? = some (.cells #[.int .i64 cnt, .slice ca cl cc, .bool mo, .int .i64 vk, .slice x lx cx, .slice ra rl rc] 29 (0, 0))) := hg1
  obtain ⟨⟨a0, a1, a2, a3, a4, a5⟩, _⟩ := blk6 hg1
  have hlq1 := block_lt hg1
  have HV1 : Hid (TbV (m + 1) (fun _ => True) w1 ((cnt, L, mo, (vk, vb), Q) : Tb) ca cl cc x lx cx ra rl rc) := HV0.out.old HB1.out
  have HT1 : Hid (Tab w1) := HT0.out.old HB1.out
  have HBw1 : Hid (Below w.heap.size w w1) := HB0.out.trans (HB1.out.mono HB0.out.size)
  obtain ⟨d, hd⟩ : ∃ d, d = slB ((cnt, L, mo, (vk, vb), Q) : Tb) := ⟨_, rfl⟩
  have HD : Hid (d = slB ((cnt, L, mo, (vk, vb), Q) : Tb)) := hd
  clear hg1 hd
  go_wp2_with fail
  refine (slight_any HV1.out HD.out).mono ?_
  rintro e w2 ⟨rfl, HB2⟩
  have hg2 := (HB2.out.block q hlq1).trans HG1.out
  have HG2 : Hid (w2.heap[q]? = some (.cells #[.int .i64 cnt, .slice ca cl cc, .bool mo, .int .i64 vk, .slice x lx cx, .slice ra rl rc] 29 (0, 0))) := hg2
  clear a0 a1 a2 a3 a4 a5
  obtain ⟨⟨a0, a1, a2, a3, a4, a5⟩, _⟩ := blk6 hg2
  have hlq2 := block_lt hg2
  have HV2 : Hid (TbV (m + 1) (fun _ => True) w2 ((cnt, L, mo, (vk, vb), Q) : Tb) ca cl cc x lx cx ra rl rc) := HV1.out.old HB2.out
  have HT2 : Hid (Tab w2) := HT1.out.old HB2.out
  have HBw2 : Hid (Below w.heap.size w w2) := HBw1.out.trans (HB2.out.mono HBw1.out.size)
  clear hg2
  cases d with
  | false =>
    go_wp2_with fail
    go_ret
    exact ⟨rfl, HBw2.out⟩
  | true =>
    have HW : Hid (tabW 25 ((cnt, L, mo, (vk, vb), Q) : Tb) ≤ 7000000000) := sl_bd HD.out.symm HVB.out HSR.out
    obtain ⟨B, hB⟩ : ∃ B, B = putT 25 gl ((cnt, L, mo, (vk, vb), Q) : Tb) := ⟨_, rfl⟩
    have HBE : Hid (B = putT 25 gl ((cnt, L, mo, (vk, vb), Q) : Tb)) := hB
    clear hB
    go_wp2_with fail
    refine (put_any HT2.out (sl_view HV2.out HD.out.symm) hi gl (by have := HVB.out; omega) (fun r hr V hV => by have := HSR.out r hr V hV; omega) (by have := HW.out; omega) HBE.out).mono ?_
    rintro e w3 ⟨v3, rfl, HO3, HR3, HB3⟩
    obtain ⟨a3x, cp3, hv3, hi3⟩ := isB_own HO3.out HR3.out
    have HBw3 : Hid (Below w.heap.size w w3) := HBw2.out.trans (HB3.out.mono HBw2.out.size)
    have HT3 : Hid (Tab w3) := HT2.out.old HB3.out
    obtain ⟨Z, hZ⟩ : ∃ Z, Z = B.1.length := ⟨_, rfl⟩
    rw [← hZ] at hv3 hi3 HO3
    subst hv3
    have HI3 : Hid (IsB w3 a3x Z cp3 B.1) := hi3
    have HZ : Hid (Z = B.1.length) := hZ
    have hZm : Z ≤ 7000000000 := by rw [hZ, HBE.out]; have := HW.out; have := putT_len 25 gl ((cnt, L, mo, (vk, vb), Q) : Tb); omega
    have hcp : Z ≤ cp3 ∧ cp3 ≤ 9223372036854775807 := ⟨hi3.2.1, hi3.2.2.1⟩
    clear hi3 hZ a0 a1 a2 a3 a4 a5
    by_cases he : B.2 = 0
    · have HRE : Hid (RE tabR B.1) := by
        show RE tabR B.1
        rw [HBE.out] at he ⊢
        exact re_tab (by have := HVB.out; show vb.size < _; omega) (fun r hr V hV => by have := HSR.out r hr V hV; omega) he
      have hZ2 : 0 < Z := by rw [HZ.out]; exact re_pos HRE.out
      obtain ⟨K, hK⟩ : ∃ K : Nat, (at_ % 65536) % Z = K := Int.eq_ofNat_of_zero_le (Int.emod_nonneg _ (by omega))
      have hKZ : K < Z := by have := Int.emod_lt_of_pos (at_ % 65536) (show (0 : Int) < Z by omega); omega
      have h3 : 0 ≤ at_ % 65536 ∧ at_ % 65536 < 65536 := by omega
      obtain ⟨mm, hm⟩ := Int.eq_ofNat_of_zero_le h3.1
      rw [hm] at hand hK h3
      have H10 : Hid (endE tabR (B.1.take K) = 10) := end_cut HRE.out (by rw [← HZ.out]; exact hKZ)
      have H23 : Hid (endE tabR (B.1 ++ [mr]) = 23) := end_more HRE.out mr
      rw [he]
      go_wp2_with fail
      refine (get_any (HI3.out.take K (by omega)) HT3.out (by omega)).mono ?_
      rintro e w4 ⟨T4, ca4, cl4, cc4, x4, lx4, cx4, ra4, rl4, rc4, rfl, _, _, HB4⟩
      rw [H10.out]
      have HBw4 : Hid (Below w.heap.size w w4) := HBw3.out.trans (HB4.out.mono HBw3.out.size)
      go_wp2_with (at_builtin; refine wpList_append_own rfl (.tmp 47) (.tmp 49) rfl rfl (HO3.out.grown ?c1) rfl (isB_block (X := [mr]) ?c2 ?c3 ?c4) ?c5 ?c6 ?_)
      case c1 => exact HB4.out.trans (((below_one w4 _).alloc (by simp) _).mono HB4.out.size)
      case c2 =>
        have := heap_alloc_new (w4.alloc (.cells #[.int .i64 T4.1, .slice ca4 cl4 cc4, .bool T4.2.2.1, .int .i64 T4.2.2.2.1.1, .slice x4 lx4 cx4, .slice ra4 rl4 rc4] 29)) (.cells #[.int .u8 mr] 5)
        simpa using this
      case c3 =>
        intro j
        match j with
        | 0 => simpa using hmr
        | j + 1 => simp
      case c4 => unfold maxLen; simp
      case c5 => omega
      case c6 =>
        have h1 := HB3.out.size
        have h2 := HB4.out.size
        simp
        omega
      intro v5 w5 ho5 hK5 _
      have hBw5 : Below w.heap.size w w5 := by
        refine (HBw4.out.trans (((below_one w4 _).alloc (by simp) _).mono HBw4.out.size)).trans (hK5.below ?_ ?_)
        · have h1 := HBw4.out.size
          simp
          omega
        · intro k hk e
          have h1 := (World.ownsRow.lt HO3.out k e).1
          have h2 := HBw2.out.size
          omega
      have hBx5 : Below w2.heap.size w2 w5 := by
        have h24 := HB3.out.trans (HB4.out.mono HB3.out.size)
        refine (h24.trans (((below_one w4 _).alloc (by simp) _).mono h24.size)).trans (hK5.below ?_ ?_)
        · have h1 := h24.size
          simp
          omega
        · intro k hk e
          have h1 := (World.ownsRow.lt HO3.out k e).1
          omega
      have HBw5 : Hid (Below w.heap.size w w5) := hBw5
      have HT5 : Hid (Tab w5) := HT2.out.old hBx5
      obtain ⟨a5, cp5, hv5, hi5⟩ := isB_own ho5 (range_append HR3.out (by
        intro j
        match j with
        | 0 => simpa using hmr
        | j + 1 => simp))
      subst hv5
      have HI5 : Hid (IsB w5 a5 (Z + 1) cp5 (B.1 ++ [mr])) := hi5
      clear hi5 ho5 hK5 hBw5 hBx5
      go_wp2_with fail
      refine (get_any HI5.out HT5.out (by omega)).mono ?_
      rintro e w6 ⟨T6, ca6, cl6, cc6, x6, lx6, cx6, ra6, rl6, rc6, rfl, _, _, HB6⟩
      rw [H23.out]
      have HBw6 : Hid (Below w.heap.size w w6) := HBw5.out.trans (HB6.out.mono HBw5.out.size)
      go_wp2_with fail
      go_ret
      exact ⟨rfl, HBw6.out.trans ((below_one w6 _).mono HBw6.out.size)⟩
    · have t2 : (B.2 == 0) = false := by simpa using he
      have hZ0 : Z = 0 := by
        have := putT_nrm 25 gl ((cnt, L, mo, (vk, vb), Q) : Tb) (by rw [← HBE.out]; exact he)
        rw [HZ.out, HBE.out, this]; rfl
      subst hZ0
      clear he
      go_wp2_with fail
      go_ret
      exact ⟨rfl, HBw3.out⟩

end Go.Proofs.YtnapeecmlkkolaaDoor
