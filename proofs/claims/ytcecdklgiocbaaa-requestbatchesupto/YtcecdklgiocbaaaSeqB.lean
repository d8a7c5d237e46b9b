/-
  Bytes one behind the other, of which the first error stays; what the parts of a request are put as.
-/
import Derived.Test.YtcecdklgiocbaaaPutP
namespace Go.Proofs.Ytcecdklgiocbaaa
open Go.RowKit
set_option linter.unusedVariables false
set_option linter.unusedSimpArgs false

/-- Bytes, and an error. -/
abbrev BE := List Int × Int

def seqB (S B : BE) : BE := if S.2 = 0 then (if B.2 = 0 then (S.1 ++ B.1, 0) else ([], B.2)) else ([], S.2)

/-- With an error there are no bytes. -/
def Nrm (S : BE) : Prop := S.2 ≠ 0 → S.1 = []

theorem seqB_assoc (A B C : BE) : seqB (seqB A B) C = seqB A (seqB B C) := by
  unfold seqB
  by_cases hA : A.2 = 0 <;> by_cases hB : B.2 = 0 <;> by_cases hC : C.2 = 0 <;> simp [hA, hB, hC, List.append_assoc]

theorem nrm_seq (A B : BE) : Nrm (seqB A B) := by
  unfold Nrm seqB
  split
  · split
    · intro h; exact absurd rfl h
    · intro _; rfl
  · intro _; rfl

theorem seqB_unit {S : BE} (h : Nrm S) : seqB S ([], 0) = S := by
  obtain ⟨X, e⟩ := S
  unfold seqB
  by_cases he : e = 0
  · subst he; simp
  · have := h he
    simp only at this
    subst this
    simp [he]

theorem unit_seqB {B : BE} (h : Nrm B) : seqB ([], 0) B = B := by
  obtain ⟨X, e⟩ := B
  unfold seqB
  by_cases he : e = 0
  · subst he; simp
  · have := h he
    simp only at this
    subst this
    simp [he]

theorem seqB_err {S : BE} (B : BE) (h : S.2 ≠ 0) : seqB S B = ([], S.2) := by unfold seqB; rw [if_neg h]
theorem seqB_ok {S B : BE} (h : S.2 = 0) (hb : B.2 = 0) : seqB S B = (S.1 ++ B.1, 0) := by unfold seqB; rw [if_pos h, if_pos hb]
theorem seqB_no {S B : BE} (h : S.2 = 0) (hb : B.2 ≠ 0) : seqB S B = ([], B.2) := by unfold seqB; rw [if_pos h, if_neg hb]

theorem seqB_keep {S B : BE} (hS : Nrm S) (h : S.2 ≠ 0) : seqB S B = S := by
  rw [seqB_err B h, ← hS h]

theorem seqB_fine {A B : BE} (h : (seqB A B).2 = 0) : A.2 = 0 ∧ B.2 = 0 ∧ seqB A B = (A.1 ++ B.1, 0) := by
  by_cases hA : A.2 = 0
  · by_cases hB : B.2 = 0
    · exact ⟨hA, hB, seqB_ok hA hB⟩
    · rw [seqB_no hA hB] at h; exact absurd h hB
  · rw [seqB_err B hA] at h; exact absurd h hA

/-- How many there are, as a short. -/
def countB (n : Nat) : BE := if n ≤ 65535 then (putL n 2, 0) else ([], 12)

/-- The rest of a list, behind what is there. -/
def goS {α : Type} (f : α → BE) (xs : List α) (S : BE) : BE := if S.2 = 0 then goB f xs S.1 else ([], S.2)

theorem goS_cons {α : Type} (f : α → BE) (x : α) (r : List α) (S : BE) : goS f (x :: r) S = goS f r (seqB S (f x)) := by
  unfold goS seqB
  by_cases hS : S.2 = 0
  · by_cases hx : (f x).2 = 0
    · simp [hS, hx, goB]
    · simp [hS, hx, goB]
  · simp [hS]

theorem goS_nil {α : Type} (f : α → BE) {S : BE} (h : Nrm S) : goS f [] S = S := by
  obtain ⟨X, e⟩ := S
  unfold goS
  by_cases he : e = 0
  · subst he; simp [goB]
  · have := h he
    simp only at this
    subst this
    simp [he]

theorem goS_err {α : Type} (f : α → BE) (xs : List α) {S : BE} (h : Nrm S) (he : S.2 ≠ 0) : goS f xs S = S := by
  unfold goS
  rw [if_neg he, ← h he]

theorem goB_pre {α : Type} (f : α → BE) (xs : List α) : ∀ (A acc : List Int), goB f xs (A ++ acc) = seqB (A, 0) (goB f xs acc) := by
  induction xs with
  | nil => intro A acc; simp [goB, seqB]
  | cons x r ih =>
    intro A acc
    rw [goB, goB]
    by_cases hx : (f x).2 = 0
    · rw [if_pos hx, if_pos hx, List.append_assoc, ih]
    · rw [if_neg hx, if_neg hx]
      simp [seqB, hx]

theorem goS_list {α : Type} (f : α → BE) (xs : List α) (S : BE) : goS f xs (seqB S (countB xs.length)) = seqB S (listB f xs) := by
  unfold goS
  by_cases hS : S.2 = 0
  · by_cases hl : xs.length ≤ 65535
    · rw [countB, if_pos hl, listB, if_pos hl, seqB_ok hS rfl, if_pos rfl, goB_pre]
      unfold seqB
      simp [hS]
    · rw [countB, if_neg hl, listB, if_neg hl, seqB_no hS (by decide : ((12 : Int)) ≠ 0), if_neg (by decide : ¬ ((12 : Int)) = 0)]
  · rw [seqB_err _ hS, seqB_err _ hS, if_neg hS]

abbrev Vl := Int × ByteArray

/-- What a statement is run with: consistency, values, names, skip, paged, page, resumed, state, serially, serial, timed, time. -/
abbrev Rn := Int × List Vl × List ByteArray × Bool × Bool × Int × Bool × Vl × Bool × Int × Bool × Int
def Rn.cons (p : Rn) : Int := p.1
def Rn.vals (p : Rn) : List Vl := p.2.1
def Rn.names (p : Rn) : List ByteArray := p.2.2.1
def Rn.skip (p : Rn) : Bool := p.2.2.2.1
def Rn.paged (p : Rn) : Bool := p.2.2.2.2.1
def Rn.page (p : Rn) : Int := p.2.2.2.2.2.1
def Rn.resumed (p : Rn) : Bool := p.2.2.2.2.2.2.1
def Rn.state (p : Rn) : Vl := p.2.2.2.2.2.2.2.1
def Rn.serially (p : Rn) : Bool := p.2.2.2.2.2.2.2.2.1
def Rn.serial (p : Rn) : Int := p.2.2.2.2.2.2.2.2.2.1
def Rn.timed (p : Rn) : Bool := p.2.2.2.2.2.2.2.2.2.2.1
def Rn.time (p : Rn) : Int := p.2.2.2.2.2.2.2.2.2.2.2

/-- A statement of a batch: whether it was prepared, its text, its number, its values. -/
abbrev St := Bool × ByteArray × ByteArray × List Vl
def St.prep (p : St) : Bool := p.1
def St.text (p : St) : ByteArray := p.2.1
def St.id (p : St) : ByteArray := p.2.2.1
def St.vals (p : St) : List Vl := p.2.2.2

/-- A request: opcode, options, text, number, run, events, token, kind, all. -/
abbrev Rq := Int × List (ByteArray × ByteArray) × ByteArray × ByteArray × Rn × List ByteArray × Vl × Int × List St
def Rq.op (p : Rq) : Int := p.1
def Rq.opts (p : Rq) : List (ByteArray × ByteArray) := p.2.1
def Rq.text (p : Rq) : ByteArray := p.2.2.1
def Rq.id (p : Rq) : ByteArray := p.2.2.2.1
def Rq.run (p : Rq) : Rn := p.2.2.2.2.1
def Rq.evs (p : Rq) : List ByteArray := p.2.2.2.2.2.1
def Rq.tok (p : Rq) : Vl := p.2.2.2.2.2.2.1
def Rq.kind (p : Rq) : Int := p.2.2.2.2.2.2.2.1
def Rq.all (p : Rq) : List St := p.2.2.2.2.2.2.2.2

def longB (s : ByteArray) : BE := (putL s.size 4 ++ sNums s, 0)
def kindB (k : Int) : BE := if k ≤ 2 then (putL k 1, 0) else ([], 1)
def consB (c : Int) : BE := if c ≤ 10 then (putL c 2, 0) else ([], 1)
def valsB (l : List Vl) (ns : List ByteArray) : BE := if ns.length = 0 then listB valueB l else listB (keyB valueB) (ns.zip l)
def bN (b : Bool) (k : Int) : Int := if b then k else 0
def flN (v s p r e t n : Bool) : Int := bN v 1 + bN s 2 + bN p 4 + bN r 8 + bN e 16 + bN t 32 + bN n 64
def hasV (p : Rn) : Bool := decide (0 < p.vals.length)
def hasN (p : Rn) : Bool := decide (0 < p.names.length)
def flagsN (p : Rn) : Int := flN (hasV p) p.skip p.paged p.resumed p.serially p.timed (hasN p)
def badF (batch : Bool) (p : Rn) : Bool := (batch && (hasV p || p.skip || p.paged || p.resumed || hasN p)) || (hasN p && !decide (p.names.length = p.vals.length))
def flagsB (batch : Bool) (p : Rn) : BE := if badF batch p then ([], 1) else ([flagsN p], 0)
def optB (b : Bool) (B : BE) : BE := if b then B else ([], 0)
def numB (x : Int) (n : Nat) : BE := (putL x n, 0)
def runB5 (p : Rn) : BE := optB p.timed (numB (IntKind.u64.wrap p.time) 8)
def runB4 (p : Rn) : BE := seqB (optB p.serially (consB p.serial)) (runB5 p)
def runB3 (p : Rn) : BE := seqB (optB p.resumed (valueB p.state)) (runB4 p)
def runB2 (p : Rn) : BE := seqB (optB p.paged (numB (IntKind.u64.wrap p.page) 4)) (runB3 p)
def runB1 (p : Rn) : BE := seqB (optB (hasV p) (valsB p.vals p.names)) (runB2 p)
def runB (batch : Bool) (p : Rn) : BE := seqB (consB p.cons) (seqB (flagsB batch p) (runB1 p))
def aheadB (s : St) : BE := if s.prep then seqB ([1], 0) (textB s.id) else seqB ([0], 0) (longB s.text)
def stB (s : St) : BE := seqB (aheadB s) (listB valueB s.vals)

/-- A request's body. -/
def putB (r : Rq) : BE :=
  if r.op = 1 then listB (keyB textB) r.opts
  else if r.op = 5 then ([], 0)
  else if r.op = 7 then seqB (longB r.text) (runB false r.run)
  else if r.op = 9 then longB r.text
  else if r.op = 10 then seqB (textB r.id) (runB false r.run)
  else if r.op = 11 then listB textB r.evs
  else if r.op = 15 then valueB r.tok
  else if r.op = 13 then seqB (kindB r.kind) (seqB (listB stB r.all) (runB true r.run))
  else ([], 22)

/-- A row of bytes. -/
def Rng (X : List Int) : Prop := ∀ j : Nat, 0 ≤ X[j]?.getD 0 ∧ X[j]?.getD 0 ≤ 255
theorem rng_nil : Rng [] := by intro j; simp
theorem rng_seq {A B : BE} (hA : Rng A.1) (hB : Rng B.1) : Rng (seqB A B).1 := by
  unfold seqB
  split
  · split
    · exact range_append hA hB
    · exact rng_nil
  · exact rng_nil
end Go.Proofs.Ytcecdklgiocbaaa
