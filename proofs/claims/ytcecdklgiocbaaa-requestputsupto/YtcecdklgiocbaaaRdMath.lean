/-
  What a reader reads: parsers one behind the other, of which the first error stays.
-/
import Derived.Test.YtcecdklgiocbaaaPut8
namespace Go.Proofs.Ytcecdklgiocbaaa
open Go.RowKit
set_option maxRecDepth 100000
set_option linter.unusedVariables false
set_option linter.unusedSimpArgs false

abbrev Ps (α : Type) := List Int → Res α

/-- A reader's bytes and its error, behind a parser. -/
def stepR {α : Type} (p : Ps α) (S : BE) : BE := if S.2 = 0 then (if (p S.1).err = 0 then (S.1.drop (p S.1).done, 0) else ([], (p S.1).err)) else ([], S.2)

def bindR {α β : Type} [Inhabited β] (p : Ps α) (f : α → Ps β) : Ps β := fun zs =>
  if (p zs).err = 0 then
    (if (f (p zs).val (zs.drop (p zs).done)).err = 0 then ⟨(f (p zs).val (zs.drop (p zs).done)).val, (p zs).done + (f (p zs).val (zs.drop (p zs).done)).done, 0⟩ else ⟨default, 0, (f (p zs).val (zs.drop (p zs).done)).err⟩)
  else ⟨default, 0, (p zs).err⟩
def pureR {α : Type} (a : α) : Ps α := fun _ => ⟨a, 0, 0⟩
def failR {α : Type} [Inhabited α] (e : Int) : Ps α := fun _ => ⟨default, 0, e⟩
def optR {α : Type} [Inhabited α] (b : Bool) (p : Ps α) : Ps α := if b then p else pureR default

theorem step_nrm {α : Type} (p : Ps α) (S : BE) : Nrm (stepR p S) := by
  unfold Nrm stepR
  split
  · split
    · intro h; exact absurd rfl h
    · intro _; rfl
  · intro _; rfl

theorem step_ok {α : Type} {p : Ps α} {S : BE} (h : (stepR p S).2 = 0) : S.2 = 0 ∧ (p S.1).err = 0 ∧ stepR p S = (S.1.drop (p S.1).done, 0) := by
  unfold stepR at h ⊢
  by_cases h1 : S.2 = 0
  · rw [if_pos h1] at h ⊢
    by_cases h2 : (p S.1).err = 0
    · rw [if_pos h2]; exact ⟨h1, h2, rfl⟩
    · rw [if_neg h2] at h; exact absurd h h2
  · rw [if_neg h1] at h; exact absurd h h1

theorem step_err {α : Type} (p : Ps α) {S : BE} (h : S.2 ≠ 0) (hn : Nrm S) : stepR p S = S := by
  unfold stepR
  rw [if_neg h, ← hn h]

theorem step_pure {α : Type} (a : α) {S : BE} (hn : Nrm S) : stepR (pureR a) S = S := by
  obtain ⟨X, e⟩ := S
  unfold stepR pureR
  by_cases h : e = 0
  · subst h; simp
  · have := hn h
    simp only at this
    subst this
    simp [h]

theorem step_bind {α β : Type} [Inhabited β] (p : Ps α) (f : α → Ps β) (S : BE) : stepR (bindR p f) S = stepR (f (p S.1).val) (stepR p S) := by
  unfold stepR bindR
  by_cases h1 : S.2 = 0
  · by_cases h2 : (p S.1).err = 0
    · by_cases h3 : (f (p S.1).val (S.1.drop (p S.1).done)).err = 0
      · simp [h1, h2, h3, List.drop_drop]
      · simp [h1, h2, h3]
    · simp [h1, h2]
  · simp [h1]

theorem bind_val {α β : Type} [Inhabited β] (p : Ps α) (f : α → Ps β) (S : BE) (h : (stepR (bindR p f) S).2 = 0) : (bindR p f S.1).val = (f (p S.1).val (stepR p S).1).val := by
  obtain ⟨h1, h2, h3⟩ := step_ok h
  unfold bindR at h2 ⊢
  by_cases hp : (p S.1).err = 0
  · rw [if_pos hp] at h2 ⊢
    have hs : (stepR p S).1 = S.1.drop (p S.1).done := by unfold stepR; rw [if_pos h1, if_pos hp]
    rw [hs]
    by_cases hf : (f (p S.1).val (S.1.drop (p S.1).done)).err = 0
    · rw [if_pos hf]
    · rw [if_neg hf] at h2; exact absurd h2 hf
  · rw [if_neg hp] at h2; exact absurd h2 hp

theorem step_opt_no {α : Type} [Inhabited α] (p : Ps α) {S : BE} (hn : Nrm S) : stepR (optR false p) S = S := step_pure _ hn

def numR (n : Nat) : Ps Int := fun zs => if zs.length < n then ⟨0, 0, 10⟩ else ⟨numTo zs n, n, 0⟩
def takeR (n : Nat) : Ps (List Int) := fun zs => if zs.length < n then ⟨[], 0, 10⟩ else ⟨zs.take n, n, 0⟩
def longR : Ps ByteArray := fun zs => ⟨strOfNums (longA zs).bytes, (longA zs).done, (longA zs).err⟩
def bitX (x k : Int) : Bool := decide (x / k % 2 = 1)
def checkR {α : Type} [Inhabited α] (bad : α → Bool) (e : Int) (p : Ps α) : Ps α := bindR p fun a => if bad a then failR e else pureR a
def consR : Ps Int := checkR (fun c => decide (10 < c)) 11 (numR 2)
def kindR : Ps Int := checkR (fun c => decide (2 < c)) 11 (numR 1)
def badX (batch : Bool) (x : Int) : Bool := decide (128 ≤ x) || (bitX x 64 && !bitX x 1) || (batch && (decide (0 < x % 16) || decide (64 ≤ x)))
def flagsR (batch : Bool) : Ps Int := checkR (badX batch) 21 (numR 1)
def sgnR (n : Nat) : Ps Int := bindR (numR n) fun x => pureR (sgn x n)
def valsR (named : Bool) : Ps (List Vl × List ByteArray) :=
  if named then bindR (listR (keyR valueR)) fun L => pureR (L.map (·.2), L.map (·.1)) else bindR (listR valueR) fun L => pureR (L, [])
def valsR1 (named : Bool) : Ps (List Vl × List ByteArray) := checkR (fun a => decide (a.1.length = 0)) 11 (valsR named)
def stR : Ps St := bindR (numR 1) fun k =>
  if k = 0 then bindR longR fun t => bindR (listR valueR) fun vs => pureR (false, t, ByteArray.empty, vs)
  else if k = 1 then bindR textR fun i => bindR (listR valueR) fun vs => pureR (true, ByteArray.empty, i, vs)
  else failR 11
def runR6 (c x : Int) (vn : List Vl × List ByteArray) (pg : Int) (st : Vl) (sr : Int) : Ps Rn := bindR (optR (bitX x 32) (sgnR 8)) fun tm =>
  pureR (c, vn.1, vn.2, bitX x 2, bitX x 4, pg, bitX x 8, st, bitX x 16, sr, bitX x 32, tm)
def runR5 (c x : Int) (vn : List Vl × List ByteArray) (pg : Int) (st : Vl) : Ps Rn := bindR (optR (bitX x 16) consR) (runR6 c x vn pg st)
def runR4 (c x : Int) (vn : List Vl × List ByteArray) (pg : Int) : Ps Rn := bindR (optR (bitX x 8) valueR) (runR5 c x vn pg)
def runR3 (c x : Int) (vn : List Vl × List ByteArray) : Ps Rn := bindR (optR (bitX x 4) (sgnR 4)) (runR4 c x vn)
def runR2 (c x : Int) : Ps Rn := bindR (optR (bitX x 1) (valsR1 (bitX x 64))) (runR3 c x)
def runR1 (batch : Bool) (c : Int) : Ps Rn := bindR (flagsR batch) (runR2 c)
def runR (batch : Bool) : Ps Rn := bindR consR (runR1 batch)

def rq0 (op : Int) : Rq := (op, [], ByteArray.empty, ByteArray.empty, default, [], (0, ByteArray.empty), 0, [])
def getR (op : Int) : Ps Rq :=
  if op = 1 then bindR (listR (keyR textR)) fun o => pureR (op, o, ByteArray.empty, ByteArray.empty, default, [], (0, ByteArray.empty), 0, [])
  else if op = 5 then pureR (rq0 op)
  else if op = 7 then bindR longR fun t => bindR (runR false) fun r => pureR (op, [], t, ByteArray.empty, r, [], (0, ByteArray.empty), 0, [])
  else if op = 9 then bindR longR fun t => pureR (op, [], t, ByteArray.empty, default, [], (0, ByteArray.empty), 0, [])
  else if op = 10 then bindR textR fun i => bindR (runR false) fun r => pureR (op, [], ByteArray.empty, i, r, [], (0, ByteArray.empty), 0, [])
  else if op = 11 then bindR (listR textR) fun es => pureR (op, [], ByteArray.empty, ByteArray.empty, default, es, (0, ByteArray.empty), 0, [])
  else if op = 15 then bindR valueR fun tk => pureR (op, [], ByteArray.empty, ByteArray.empty, default, [], tk, 0, [])
  else if op = 13 then bindR kindR fun k => bindR (listR stR) fun a => bindR (runR true) fun r => pureR (op, [], ByteArray.empty, ByteArray.empty, r, [], (0, ByteArray.empty), k, a)
  else failR 22

/-- The error of a body that is read. -/
def getE (op : Int) (zs : List Int) : Int := if (getR op zs).err = 0 then (if (getR op zs).done < zs.length then 23 else 0) else (getR op zs).err

/-- So many items, one behind the other. -/
def loopR {α : Type} (p : Ps α) : Nat → BE → List α → BE × List α
  | 0, S, acc => (S, acc)
  | n + 1, S, acc => if (stepR p S).2 = 0 then loopR p n (stepR p S) (acc ++ [(p S.1).val]) else (stepR p S, [])

theorem loop_go {α : Type} (p : Ps α) (zs : List Int) : ∀ (n d : Nat) (acc : List α), loopR p n (zs.drop d, 0) acc = (if (goR p zs n d acc).err = 0 then ((zs.drop (goR p zs n d acc).done, 0), (goR p zs n d acc).val) else (([], (goR p zs n d acc).err), (goR p zs n d acc).val)) := by
  intro n
  induction n with
  | zero => intro d acc; simp [loopR, goR]
  | succ n ih =>
    intro d acc
    rw [loopR, goR]
    by_cases h : (p (zs.drop d)).err = 0
    · have e : stepR p (zs.drop d, 0) = (zs.drop (d + (p (zs.drop d)).done), 0) := by
        unfold stepR; simp [h, List.drop_drop]
      rw [e, if_pos rfl, if_pos h, ih]
    · have e : stepR p (zs.drop d, 0) = ([], (p (zs.drop d)).err) := by unfold stepR; simp [h]
      rw [e, if_neg h, if_neg h]
      simp [h]

theorem loop_list {α : Type} (p : Ps α) (S : BE) (hn : Nrm S) (x : Int) (hx : x = if (stepR (numR 2) S).2 = 0 then numTo S.1 2 else 0) :
    (loopR p x.toNat (stepR (numR 2) S) []).1 = stepR (listR p) S ∧ ((stepR (listR p) S).2 = 0 → (loopR p x.toNat (stepR (numR 2) S) []).2 = (listR p S.1).val) := by
  obtain ⟨zs, e⟩ := S
  by_cases he : e = 0
  · subst he
    by_cases hl : zs.length < 2
    · have e1 : stepR (numR 2) (zs, 0) = ([], 10) := by unfold stepR numR; simp [hl]
      have e2 : stepR (listR p) (zs, 0) = ([], 10) := by unfold stepR listR; simp [hl]
      rw [e1] at hx ⊢
      rw [if_neg (by decide)] at hx
      subst hx
      rw [e2]
      refine ⟨rfl, fun h => absurd h (by decide)⟩
    · have e1 : stepR (numR 2) (zs, 0) = (zs.drop 2, 0) := by unfold stepR numR; simp [hl]
      rw [e1] at hx ⊢
      rw [if_pos rfl] at hx
      simp only at hx
      rw [loop_go p zs]
      have e2 : listR p zs = goR p zs x.toNat 2 [] := by rw [listR, if_neg hl, hx]
      have e3 : stepR (listR p) (zs, 0) = if (goR p zs x.toNat 2 []).err = 0 then (zs.drop (goR p zs x.toNat 2 []).done, 0) else ([], (goR p zs x.toNat 2 []).err) := by
        unfold stepR; simp [e2]
      rw [e3]
      by_cases hg : (goR p zs x.toNat 2 []).err = 0
      · rw [if_pos hg, if_pos hg]; exact ⟨rfl, fun _ => by simp only; rw [e2]⟩
      · rw [if_neg hg, if_neg hg]; exact ⟨rfl, fun h => absurd h hg⟩
  · have e1 : stepR (numR 2) (zs, e) = (zs, e) := step_err _ he hn
    have e2 : stepR (listR p) (zs, e) = (zs, e) := step_err _ he hn
    rw [e1, if_neg he] at hx
    subst hx
    rw [e1, e2]
    exact ⟨rfl, fun h => absurd h he⟩

theorem loop_step {α : Type} {p : Ps α} {n k : Nat} {S : BE} {acc : List α} {Y : BE × List α} (h : loopR p (n - k) S acc = Y) (hk : k < n) (he : (stepR p S).2 = 0) : loopR p (n - (k + 1)) (stepR p S) (acc ++ [(p S.1).val]) = Y := by
  rw [show n - k = (n - (k + 1)) + 1 by omega, loopR, if_pos he] at h
  exact h
theorem loop_stop {α : Type} {p : Ps α} {n k : Nat} {S : BE} {acc : List α} {Y : BE × List α} (h : loopR p (n - k) S acc = Y) (hk : k < n) (he : (stepR p S).2 ≠ 0) : Y = (stepR p S, []) := by
  rw [show n - k = (n - (k + 1)) + 1 by omega, loopR, if_neg he] at h
  exact h.symm
theorem loop_end {α : Type} {p : Ps α} {n k : Nat} {S : BE} {acc : List α} {Y : BE × List α} (h : loopR p (n - k) S acc = Y) (hk : n ≤ k) : Y = (S, acc) := by
  rw [show n - k = 0 by omega, loopR] at h
  exact h.symm

theorem step_key (q : Ps Vl) (S : BE) : stepR (keyR q) S = stepR q (stepR textR S) := by
  unfold stepR keyR
  by_cases h1 : S.2 = 0
  · by_cases h2 : (textR S.1).err = 0
    · by_cases h3 : (q (S.1.drop (textR S.1).done)).err = 0
      · simp [h1, h2, h3, List.drop_drop]
      · simp [h1, h2, h3]
    · simp [h1, h2]
  · simp [h1]

theorem key_val (q : Ps Vl) (S : BE) (h : (stepR (keyR q) S).2 = 0) : (keyR q S.1).val = ((textR S.1).val, (q (stepR textR S).1).val) := by
  obtain ⟨h1, h2, h3⟩ := step_ok h
  unfold keyR at h2 ⊢
  by_cases hp : (textR S.1).err = 0
  · rw [if_pos hp] at h2 ⊢
    have hs : (stepR textR S).1 = S.1.drop (textR S.1).done := by unfold stepR; rw [if_pos h1, if_pos hp]
    rw [hs]
    by_cases hf : (q (S.1.drop (textR S.1).done)).err = 0
    · rw [if_pos hf]
    · rw [if_neg hf] at h2; exact absurd h2 hf
  · rw [if_neg hp] at h2; exact absurd h2 hp

theorem step_text (S : BE) (hn : Nrm S) (hr : Rng S.1) (x : Int) (hx : x = if (stepR (numR 2) S).2 = 0 then numTo S.1 2 else 0) :
    stepR (takeR x.toNat) (stepR (numR 2) S) = stepR textR S ∧ ((stepR textR S).2 = 0 → (takeR x.toNat (stepR (numR 2) S).1).val = (textA S.1).bytes) := by
  obtain ⟨zs, e⟩ := S
  by_cases he : e = 0
  · subst he
    simp only at hr
    by_cases hl : zs.length < 2
    · have e1 : stepR (numR 2) (zs, 0) = ([], 10) := by unfold stepR numR; simp [hl]
      have e2 : stepR textR (zs, 0) = ([], 10) := by unfold stepR textR textA; simp [hl]
      rw [e1, e2]
      exact ⟨step_err _ (by decide) (fun _ => rfl), fun h => absurd h (by decide)⟩
    · have e1 : stepR (numR 2) (zs, 0) = (zs.drop 2, 0) := by unfold stepR numR; simp [hl]
      have h0 := (numTo_bound zs hr 2 (by omega)).1
      rw [e1] at hx ⊢
      rw [if_pos rfl] at hx
      simp only at hx
      by_cases hs : ((zs.length - 2 : Nat) : Int) < numTo zs 2
      · have e2 : stepR textR (zs, 0) = ([], 10) := by unfold stepR textR textA; simp [hl, hs]
        have e3 : stepR (takeR x.toNat) (zs.drop 2, 0) = ([], 10) := by
          unfold stepR takeR
          simp only [List.length_drop]
          rw [if_pos (show zs.length - 2 < x.toNat by omega)]
          simp
        rw [e2, e3]
        exact ⟨rfl, fun h => absurd h (by decide)⟩
      · have e2 : stepR textR (zs, 0) = (zs.drop (2 + (numTo zs 2).toNat), 0) := by unfold stepR textR textA; simp [hl, hs]
        have e3 : stepR (takeR x.toNat) (zs.drop 2, 0) = ((zs.drop 2).drop x.toNat, 0) := by
          unfold stepR takeR
          simp only [List.length_drop]
          rw [if_neg (show ¬ zs.length - 2 < x.toNat by omega)]
          simp
        rw [e2, e3, List.drop_drop, hx]
        refine ⟨rfl, fun _ => ?_⟩
        unfold takeR textA
        simp only [List.length_drop]
        rw [if_neg (show ¬ zs.length - 2 < (numTo zs 2).toNat by omega), if_neg hl, if_neg hs]
  · have e1 : stepR (numR 2) (zs, e) = (zs, e) := step_err _ he hn
    rw [e1, step_err _ he hn, step_err _ he hn]
    exact ⟨rfl, fun h => absurd h he⟩
end Go.Proofs.Ytcecdklgiocbaaa
