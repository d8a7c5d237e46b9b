/-
  What is got of the bytes that are put of a table: said wholly.
-/
import Derived.Test.YtnapeecmlkkolaaDoorRc10
namespace Go.Proofs.YtnapeecmlkkolaaDoor
open Go.RowKit
set_option maxRecDepth 100000
set_option linter.unusedVariables false
set_option linter.unusedSimpArgs false

/-- A column, with the owner o. -/
def gotC (n : Nat) (o : ByteArray × ByteArray) (c : Col) : Col := (o.1, o.2, c.2.2.1, norm (n + 1) c.2.2.2)
def gotCols (n : Nat) : Bool → List Col → List Col
  | true, [] => []
  | true, c :: r => (c :: r).map (gotC n (c.1, c.2.1))
  | false, l => l.map (fun c => gotC n (c.1, c.2.1) c)
/-- What is got of what is put of a table. -/
def gotT (n : Nat) (gl : Bool) (T : Tb) : Tb := (T.1, gotCols n (gl && decide (0 < T.2.1.length)) T.2.1, T.2.2.1, (if T.2.2.1 = true then gotV T.2.2.2.1 else v0), T.2.2.2.2.map (List.map gotV))

theorem rc_ty {n : Nat} {t : Ty} (h : (putR n t).2 = 0) : RC (tyR 20) (putR n t).1 (norm (n + 1) t) := by
  obtain ⟨hd, he⟩ := putR_ok h
  rw [he] at h ⊢
  exact ⟨fun Z => fits_ty (n + 1) 20 t hd h Z, cuts_ty (n + 1) 20 t hd h⟩

theorem rc_loop {α β : Type} {p : Ps α} {f : β → BE} {g : β → α} : ∀ xs : List β, (goQ f xs).2 = 0 → (∀ x ∈ xs, (f x).2 = 0 → RC p (f x).1 (g x)) → RC (loopR p xs.length) (goQ f xs).1 (xs.map g)
  | [], _, _ => rc_pure _
  | x :: r, h, hp => by
    rw [goQ] at h ⊢
    obtain ⟨h1, h2, h3⟩ := seqB_fine h
    rw [h3]
    simp only
    have ih := rc_loop r h2 (fun y hy => hp y (List.mem_cons_of_mem _ hy))
    exact rc_bind (hp x List.mem_cons_self h1) (rc_then ih rfl)

theorem rc_rows {N : Int} {Q : List (List Vl)} (hQ : Q.all (rowOk N) = true) (hl : Q.length ≤ 4096) (hs : ∀ r ∈ Q, ∀ V ∈ r, V.2.size < 2147483648) (h : (rowsB Q).2 = 0) : RC (rowsR N.toNat) (rowsB Q).1 (Q.map (List.map gotV)) := by
  unfold rowsB at h ⊢
  obtain ⟨h1, h2, h3⟩ := seqB_fine h
  rw [h3]
  simp only
  refine rc_bind (rc_many (by omega) (by omega)) ?_
  rw [Int.toNat_natCast]
  refine rc_loop Q h2 fun r hr h => ?_
  have hro := List.all_eq_true.mp hQ r hr
  unfold rowOk unB at hro
  simp only [Bool.and_eq_true, decide_eq_true_eq, Bool.not_eq_true', List.any_eq_false, beq_iff_eq] at hro
  rw [← hro.1, Int.toNat_natCast]
  exact rc_loop r h fun x hx hv => rc_set (hs r hr x hx) hv (hro.2 x hx)

theorem rc_name {n : Nat} {c : Col} {o : ByteArray × ByteArray} (h : (seqB (textB c.2.2.1) (putR n c.2.2.2)).2 = 0) :
    RC (bindR textR fun n => bindR (tyR 20) fun t => pureR ((o.1, o.2, n, t) : Col)) (seqB (textB c.2.2.1) (putR n c.2.2.2)).1 (gotC n o c) := by
  obtain ⟨h1, h2, h3⟩ := seqB_fine h
  rw [h3]
  exact rc_bind (rc_text h1) (rc_then (rc_ty h2) rfl)
theorem rc_owner {c : Col} (h : (seqB (textB c.1) (textB c.2.1)).2 = 0) : RC ownerR (seqB (textB c.1) (textB c.2.1)).1 (c.1, c.2.1) := by
  obtain ⟨h1, h2, h3⟩ := seqB_fine h
  rw [h3]
  exact rc_bind (rc_text h1) (rc_then (rc_text h2) rfl)

theorem rc_colsG {n : Nat} (o : ByteArray × ByteArray) : ∀ (l : List Col) (k : Nat), 0 < k → (colsFrom n true k l).2 = 0 → RC (loopR (colR true o) l.length) (colsFrom n true k l).1 (l.map (gotC n o))
  | [], k, _, _ => rc_pure _
  | c :: r, k, hk, h => by
    rw [colsFrom] at h ⊢
    obtain ⟨h1, h2, h3⟩ := seqB_fine h
    rw [h3]
    simp only
    have ih := rc_colsG o r (k + 1) (by omega) h2
    have e : (decide (k = 0) || !true) = false := by simp; omega
    rw [e] at h1 ⊢
    unfold colB optB at h1 ⊢
    simp only [Bool.false_eq_true, if_false] at h1 ⊢
    obtain ⟨g1, g2, g3⟩ := seqB_fine h1
    rw [g3]
    exact rc_bind (rc_skip (rc_name (o := o) g2)) (rc_then ih rfl)

theorem rc_colsL {n : Nat} (o : ByteArray × ByteArray) : ∀ (l : List Col) (k : Nat), (colsFrom n false k l).2 = 0 → RC (loopR (colR false o) l.length) (colsFrom n false k l).1 (l.map (fun c => gotC n (c.1, c.2.1) c))
  | [], k, _ => rc_pure _
  | c :: r, k, h => by
    rw [colsFrom] at h ⊢
    obtain ⟨h1, h2, h3⟩ := seqB_fine h
    rw [h3]
    simp only
    have ih := rc_colsL o r (k + 1) h2
    have e : (decide (k = 0) || !false) = true := by simp
    rw [e] at h1 ⊢
    unfold colB optB at h1 ⊢
    simp only [if_true] at h1 ⊢
    obtain ⟨g1, g2, g3⟩ := seqB_fine h1
    rw [g3]
    exact rc_bind (rc_bind (rc_owner g1) (rc_name (o := (c.1, c.2.1)) g2)) (rc_then ih rfl)

theorem rc_cols {n : Nat} {g : Bool} {l : List Col} (hg : g = true → 0 < l.length) (h : (colsFrom n g 0 l).2 = 0) : RC (colsR l.length g) (colsFrom n g 0 l).1 (gotCols n g l) := by
  cases g with
  | false => exact rc_skip (rc_colsL (n := n) (ByteArray.empty, ByteArray.empty) l 0 h)
  | true =>
    cases l with
    | nil => exact absurd (hg rfl) (by simp)
    | cons c r =>
      rw [colsFrom] at h ⊢
      obtain ⟨h1, h2, h3⟩ := seqB_fine h
      rw [h3]
      show RC (colsR (c :: r).length true) ((colB n (decide (0 = 0) || !true) c).1 ++ (colsFrom n true (0 + 1) r).1) _
      have e : (decide (0 = 0) || !true) = true := by simp
      rw [e] at h1 ⊢
      unfold colB optB at h1 ⊢
      simp only [if_true] at h1 ⊢
      obtain ⟨g1, g2, g3⟩ := seqB_fine h1
      rw [g3]
      simp only
      rw [List.append_assoc]
      have ih := rc_colsG (n := n) (c.1, c.2.1) r 1 (by omega) h2
      exact rc_bind (rc_owner g1) (rc_bind (rc_skip (rc_name (o := (c.1, c.2.1)) g2)) (rc_then ih rfl))

/-- What Put makes of a table is read wholly. -/
theorem rc_tab {n : Nat} {gl : Bool} {T : Tb} (hs : T.2.2.2.1.2.size < 2147483648) (hr : ∀ r ∈ T.2.2.2.2, ∀ V ∈ r, V.2.size < 2147483648) (h : (putT n gl T).2 = 0) : RC tabR (putT n gl T).1 (gotT n gl T) := by
  obtain ⟨cn, L, mo, st, Q⟩ := T
  unfold putT at h ⊢
  by_cases hc : (mayT (cn, L, mo, st, Q) && (!gl || oneB L)) = true
  · rw [if_pos hc] at h ⊢
    obtain ⟨h1, h2, h3⟩ := seqB_fine h
    rw [h3]
    simp only at hs hr ⊢
    have hm : mayT (cn, L, mo, st, Q) = true := by
      rw [Bool.and_eq_true] at hc; exact hc.1
    unfold mayT at hm
    simp only [Bool.and_eq_true, Bool.or_eq_true, decide_eq_true_eq] at hm
    obtain ⟨⟨⟨m0, m1⟩, m2⟩, m3, m4⟩ := hm
    have hfr := flagsN_range gl L.length mo cn
    have b1 := bit_one gl L.length mo cn
    have b2 := bit_two gl L.length mo cn
    have b4 := bit_four gl L.length mo cn
    simp only at h1 h2 h3 ⊢
    generalize flagsN gl L.length mo cn = f at h1 h2 h3 hfr b1 b2 b4 ⊢
    unfold headB at h1 ⊢
    simp only at h1 ⊢
    obtain ⟨i1, i2, i3⟩ := seqB_fine h1
    obtain ⟨j1, j2, j3⟩ := seqB_fine i2
    obtain ⟨k1, k2, k3⟩ := seqB_fine j2
    rw [i3, j3, k3]
    simp only
    have e : intB f = (putL f 4, 0) := rfl
    have e2 : intB cn = (putL cn 4, 0) := rfl
    rw [e, e2]
    simp only
    rw [show putL f 4 ++ (putL cn 4 ++ ((optB mo (valueB st)).1 ++ (colsFrom n (bitX f 1) 0 L).1)) ++ (rowsB Q).1 = (putL f 4 ++ putL cn 4) ++ (((optB mo (valueB st)).1 ++ (colsFrom n (bitX f 1) 0 L).1) ++ (rowsB Q).1) by simp only [List.append_assoc]]
    have key : RC (tableR f cn) ((optB mo (valueB st)).1 ++ (colsFrom n (bitX f 1) 0 L).1) ((cn, gotCols n (gl && decide (0 < L.length)) L, mo, (if mo = true then gotV st else v0), []) : Tb) := by
      unfold tableR
      rw [b2]
      have ks : RC (optR mo v0 valueR) (optB mo (valueB st)).1 (if mo = true then gotV st else v0) := by
        cases mo with
        | false => exact rc_pure _
        | true => exact rc_value hs k1
      refine rc_bind ks ?_
      by_cases hz : L.length = 0 ∧ cn ≠ 0
      · rw [b4, decide_eq_true hz]
        have hL : L = [] := List.length_eq_zero_iff.mp hz.1
        subst hL
        have eg : gotCols n (gl && decide (0 < ([] : List Col).length)) [] = [] := by
          simp [gotCols]
        rw [eg]
        exact rc_skip (rc_pure _)
      · rw [b4, decide_eq_false hz]
        have hn : cn.toNat = L.length := by
          rcases m3 with e | e
          · have : cn = 0 := by
              by_cases hh : cn = 0
              · exact hh
              · exact absurd ⟨e, hh⟩ hz
            omega
          · omega
        rw [hn, b1] at *
        exact rc_then (rc_cols (fun hg => by simp at hg; exact hg.2) k2) rfl
    exact rc_bind (rc_head hfr ⟨m0, m1⟩) (rc_bind key (rc_then (rc_rows (N := cn) m4 m2 hr h2) rfl))
  · rw [if_neg hc] at h; exact absurd (show (1 : Int) = 0 from h) (by decide)

theorem end_all {B : List Int} {V : Tb} (h : RC tabR B V) : endE tabR B = 0 ∧ (tabR B).val = V := by
  have h1 := h.1 []
  rw [List.append_nil] at h1
  unfold endE
  rw [h1]
  simp

theorem gotCols_len (n : Nat) (g : Bool) (l : List Col) : (gotCols n g l).length = l.length := by
  cases g <;> cases l <;> simp [gotCols]
theorem gotCols_names (n : Nat) (g : Bool) (l : List Col) : (gotCols n g l).map (fun c => c.2.2.1) = l.map (fun c => c.2.2.1) := by
  cases g <;> cases l <;> simp [gotCols, gotC]
theorem idxC_names (nm : ByteArray) : ∀ (l l' : List Col) (k : Nat), l.map (fun c => c.2.2.1) = l'.map (fun c => c.2.2.1) → idxC nm l k = idxC nm l' k
  | [], [], k, _ => rfl
  | [], _ :: _, k, h => by simp at h
  | _ :: _, [], k, h => by simp at h
  | c :: r, c' :: r', k, h => by
    simp only [List.map_cons, List.cons.injEq] at h
    unfold idxC
    rw [h.1, idxC_names nm r r' (k + 1) h.2]

/-- A cell of what is got is the cell of what was put. -/
theorem cell_got (n : Nat) (gl : Bool) (T : Tb) (row : Int) (nm : ByteArray) : cellX (gotT n gl T) row nm = (cellX T row nm).map gotV := by
  have e : idxC nm (gotT n gl T).2.1 0 = idxC nm T.2.1 0 := idxC_names nm _ _ 0 (gotCols_names n _ _)
  unfold cellX
  rw [e]
  have er : (gotT n gl T).2.2.2.2 = T.2.2.2.2.map (List.map gotV) := rfl
  rw [er, List.getElem?_map]
  split
  · rfl
  · cases T.2.2.2.2[row.toNat]? with
    | none => rfl
    | some r =>
      simp only [Option.map_some]
      split
      · rfl
      · rw [List.getElem?_map]

end Go.Proofs.YtnapeecmlkkolaaDoor
