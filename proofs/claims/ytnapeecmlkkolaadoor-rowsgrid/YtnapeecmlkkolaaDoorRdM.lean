/-
  What a reader reads: parsers one behind the other, of which the first error stays.
-/
import Derived.Test.YtnapeecmlkkolaaDoorOwnI
namespace Go.Proofs.YtnapeecmlkkolaaDoor
open Go.RowKit
set_option maxRecDepth 100000
set_option linter.unusedVariables false
set_option linter.unusedSimpArgs false

abbrev Ps (α : Type) := List Int → Res α

/-- A reader's bytes and its error, behind a parser. -/
def stepR {α : Type} (p : Ps α) (S : BE) : BE := if S.2 = 0 then (if (p S.1).err = 0 then (S.1.drop (p S.1).done, 0) else ([], (p S.1).err)) else ([], S.2)

def bindR {α β : Type} (p : Ps α) (f : α → Ps β) : Ps β := fun zs =>
  if (p zs).err = 0 then
    (if (f (p zs).val (zs.drop (p zs).done)).err = 0 then ⟨(f (p zs).val (zs.drop (p zs).done)).val, (p zs).done + (f (p zs).val (zs.drop (p zs).done)).done, 0⟩ else ⟨(f (p zs).val zs).val, 0, (f (p zs).val (zs.drop (p zs).done)).err⟩)
  else ⟨(f (p zs).val zs).val, 0, (p zs).err⟩
def pureR {α : Type} (a : α) : Ps α := fun _ => ⟨a, 0, 0⟩
def failR {α : Type} (a : α) (e : Int) : Ps α := fun _ => ⟨a, 0, e⟩
def optR {α : Type} (b : Bool) (a : α) (p : Ps α) : Ps α := if b then p else pureR a

theorem step_nrm {α : Type} (p : Ps α) (S : BE) : Nrm (stepR p S) := by
  unfold Nrm stepR
  split
  · split
    · intro h; exact absurd rfl h
    · intro _; rfl
  · intro _; rfl

theorem step_ok {α : Type} {p : Ps α} {S : BE} (h : (stepR p S).2 = 0) : S.2 = 0 ∧ (p S.1).err = 0 ∧ stepR p S = (S.1.drop (p S.1).done, 0) := by
  unfold stepR at h ⊢
  by_cases h1 : S.2 = 0
  · rw [if_pos h1] at h ⊢
    by_cases h2 : (p S.1).err = 0
    · rw [if_pos h2]; exact ⟨h1, h2, rfl⟩
    · rw [if_neg h2] at h; exact absurd h h2
  · rw [if_neg h1] at h; exact absurd h h1

theorem step_err {α : Type} (p : Ps α) {S : BE} (h : S.2 ≠ 0) (hn : Nrm S) : stepR p S = S := by
  unfold stepR
  rw [if_neg h, ← hn h]

theorem step_pure {α : Type} (a : α) {S : BE} (hn : Nrm S) : stepR (pureR a) S = S := by
  obtain ⟨X, e⟩ := S
  unfold stepR pureR
  by_cases h : e = 0
  · subst h; simp
  · have := hn h
    simp only at this
    subst this
    simp [h]

theorem step_bind {α β : Type} (p : Ps α) (f : α → Ps β) (S : BE) : stepR (bindR p f) S = stepR (f (p S.1).val) (stepR p S) := by
  unfold stepR bindR
  by_cases h1 : S.2 = 0
  · by_cases h2 : (p S.1).err = 0
    · by_cases h3 : (f (p S.1).val (S.1.drop (p S.1).done)).err = 0
      · simp [h1, h2, h3, List.drop_drop]
      · simp [h1, h2, h3]
    · simp [h1, h2]
  · simp [h1]

theorem bind_val {α β : Type} (p : Ps α) (f : α → Ps β) (S : BE) (h : (stepR (bindR p f) S).2 = 0) : (bindR p f S.1).val = (f (p S.1).val (stepR p S).1).val := by
  obtain ⟨h1, h2, h3⟩ := step_ok h
  unfold bindR at h2 ⊢
  by_cases hp : (p S.1).err = 0
  · rw [if_pos hp] at h2 ⊢
    have hs : (stepR p S).1 = S.1.drop (p S.1).done := by unfold stepR; rw [if_pos h1, if_pos hp]
    rw [hs]
    by_cases hf : (f (p S.1).val (S.1.drop (p S.1).done)).err = 0
    · rw [if_pos hf]
    · rw [if_neg hf] at h2; exact absurd h2 hf
  · rw [if_neg hp] at h2; exact absurd h2 hp

/-- Without an error behind both there is none behind the first. -/
theorem bind_fst {α β : Type} (p : Ps α) (f : α → Ps β) (S : BE) (h : (stepR (bindR p f) S).2 = 0) : (stepR p S).2 = 0 := by
  rw [step_bind] at h
  by_cases h1 : (stepR p S).2 = 0
  · exact h1
  · rw [step_err _ h1 (step_nrm _ _)] at h; exact h

theorem step_opt_no {α : Type} (a : α) (p : Ps α) {S : BE} (hn : Nrm S) : stepR (optR false a p) S = S := step_pure _ hn
theorem step_opt_yes {α : Type} (a : α) (p : Ps α) (S : BE) : stepR (optR true a p) S = stepR p S := rfl

def numR (n : Nat) : Ps Int := fun zs => if zs.length < n then ⟨0, 0, 10⟩ else ⟨numTo zs n, n, 0⟩
def int4R : Ps Int := bindR (numR 4) fun x => pureR (sgn x 4)
def manyR : Ps Int := bindR int4R fun n => if n < 0 then failR 0 11 else if 4096 < n then failR 0 12 else pureR n
def headR : Ps (Int × Int) := bindR int4R fun f => if f < 0 ∨ 7 < f then failR (f, 0) 21 else bindR manyR fun n => pureR (f, n)

/-- So many items, one behind the other. -/
def loopR {α : Type} (p : Ps α) : Nat → Ps (List α)
  | 0 => pureR []
  | n + 1 => bindR p fun x => bindR (loopR p n) fun l => pureR (x :: l)

def keysR (count : Int) : Ps (List Int) := bindR manyR fun m => bindR (loopR (numR 2) m.toNat) fun l => if l.any (fun k => decide (count ≤ k)) then failR l 11 else pureR l
def ownerR : Ps (ByteArray × ByteArray) := bindR textR fun s => bindR textR fun t => pureR (s, t)
def colR (g : Bool) (o : ByteArray × ByteArray) : Ps Col := bindR (optR (!g) o ownerR) fun o => bindR textR fun n => bindR (tyR 20) fun t => pureR (o.1, o.2, n, t)
def colsR (n : Nat) (g : Bool) : Ps (List Col) := bindR (optR g (ByteArray.empty, ByteArray.empty) ownerR) fun o => loopR (colR g o) n
def setR : Ps Vl := bindR valueR fun v => if v.1 = 1 then failR v 11 else pureR v
def rowsR (n : Nat) : Ps (List (List Vl)) := bindR manyR fun m => loopR (loopR setR n) m.toNat

/-- Columns and rows: how many columns, the columns, more, the state, the rows. -/
abbrev Tb := Int × List Col × Bool × Vl × List (List Vl)
def Tb.count (t : Tb) : Int := t.1
def Tb.cols (t : Tb) : List Col := t.2.1
def Tb.more (t : Tb) : Bool := t.2.2.1
def Tb.state (t : Tb) : Vl := t.2.2.2.1
def Tb.rows (t : Tb) : List (List Vl) := t.2.2.2.2
def bitX (x k : Int) : Bool := !(bits .and .i64 x k == 0)
def v0 : Vl := (0, ByteArray.empty)
def tableR (f n : Int) : Ps Tb := bindR (optR (bitX f 2) v0 valueR) fun s => bindR (optR (!bitX f 4) [] (colsR n.toNat (bitX f 1))) fun l => pureR (n, l, bitX f 2, s, [])
def tabR : Ps Tb := bindR headR fun h => bindR (tableR h.1 h.2) fun t => bindR (rowsR h.2.toNat) fun r => pureR (t.1, t.2.1, t.2.2.1, t.2.2.2.1, r)
def metaR : Ps (List Int × Tb × Tb) := bindR headR fun h => bindR (keysR h.2) fun k => bindR (tableR h.1 h.2) fun t => bindR headR fun h2 => bindR (tableR h2.1 h2.2) fun u => pureR (k, t, u)
/-- The error, with bytes that are left. -/
def endE {α : Type} (p : Ps α) (zs : List Int) : Int := if (p zs).err = 0 then (if (p zs).done < zs.length then 23 else 0) else (p zs).err

end Go.Proofs.YtnapeecmlkkolaaDoor
