/-
  Bytes with an error, one behind the other; worlds that part in some blocks alone; blocks of two cells (carried over).
-/
import Derived.Test.YtnapeecmlkkolaaDoorVals
import Derived.Deep.AppendLies
import Derived.ArgAppend
namespace Go.Proofs.YtnapeecmlkkolaaDoor
open Go.RowKit
set_option maxRecDepth 100000
set_option linter.unusedVariables false
set_option linter.unusedSimpArgs false

/-- Bytes, and an error. -/
abbrev BE := List Int × Int

def seqB (S B : BE) : BE := if S.2 = 0 then (if B.2 = 0 then (S.1 ++ B.1, 0) else ([], B.2)) else ([], S.2)

/-- With an error there are no bytes. -/
def Nrm (S : BE) : Prop := S.2 ≠ 0 → S.1 = []

theorem seqB_assoc (A B C : BE) : seqB (seqB A B) C = seqB A (seqB B C) := by
  unfold seqB
  by_cases hA : A.2 = 0 <;> by_cases hB : B.2 = 0 <;> by_cases hC : C.2 = 0 <;> simp [hA, hB, hC, List.append_assoc]

theorem nrm_seq (A B : BE) : Nrm (seqB A B) := by
  unfold Nrm seqB
  split
  · split
    · intro h; exact absurd rfl h
    · intro _; rfl
  · intro _; rfl

theorem seqB_unit {S : BE} (h : Nrm S) : seqB S ([], 0) = S := by
  obtain ⟨X, e⟩ := S
  unfold seqB
  by_cases he : e = 0
  · subst he; simp
  · have := h he
    simp only at this
    subst this
    simp [he]

theorem unit_seqB {B : BE} (h : Nrm B) : seqB ([], 0) B = B := by
  obtain ⟨X, e⟩ := B
  unfold seqB
  by_cases he : e = 0
  · subst he; simp
  · have := h he
    simp only at this
    subst this
    simp [he]

theorem seqB_err {S : BE} (B : BE) (h : S.2 ≠ 0) : seqB S B = ([], S.2) := by unfold seqB; rw [if_neg h]

theorem seqB_ok {S B : BE} (h : S.2 = 0) (hb : B.2 = 0) : seqB S B = (S.1 ++ B.1, 0) := by unfold seqB; rw [if_pos h, if_pos hb]

theorem seqB_no {S B : BE} (h : S.2 = 0) (hb : B.2 ≠ 0) : seqB S B = ([], B.2) := by unfold seqB; rw [if_pos h, if_neg hb]

theorem seqB_keep {S B : BE} (hS : Nrm S) (h : S.2 ≠ 0) : seqB S B = S := by
  rw [seqB_err B h, ← hS h]

theorem seqB_fine {A B : BE} (h : (seqB A B).2 = 0) : A.2 = 0 ∧ B.2 = 0 ∧ seqB A B = (A.1 ++ B.1, 0) := by
  by_cases hA : A.2 = 0
  · by_cases hB : B.2 = 0
    · exact ⟨hA, hB, seqB_ok hA hB⟩
    · rw [seqB_no hA hB] at h; exact absurd h hB
  · rw [seqB_err B hA] at h; exact absurd h hA

abbrev Vl := Int × ByteArray

/-- A row of bytes. -/
def Rng (X : List Int) : Prop := ∀ j : Nat, 0 ≤ X[j]?.getD 0 ∧ X[j]?.getD 0 ≤ 255

theorem rng_nil : Rng [] := by intro j; simp

theorem rng_seq {A B : BE} (hA : Rng A.1) (hB : Rng B.1) : Rng (seqB A B).1 := by
  unfold seqB
  split
  · split
    · exact range_append hA hB
    · exact rng_nil
  · exact rng_nil

/-- But for the blocks S, and what is new, the world is as it was. -/
structure Kept (S : Nat → Prop) (w w' : World) : Prop where
  os : w'.os = w.os
  tape : w'.tape = w.tape
  output : w'.output = w.output
  size : w.heap.size ≤ w'.heap.size
  block : ∀ k, k < w.heap.size → ¬ S k → w'.heap[k]? = w.heap[k]?

theorem Kept.refl (S : Nat → Prop) (w : World) : Kept S w w := ⟨rfl, rfl, rfl, Nat.le_refl _, fun _ _ _ => rfl⟩

theorem Kept.trans {S S' : Nat → Prop} {a b c : World} (h : Kept S a b) (k : Kept S' b c) (hs : ∀ i, i < a.heap.size → S' i → S i) : Kept S a c :=
  ⟨k.os.trans h.os, k.tape.trans h.tape, k.output.trans h.output, Nat.le_trans h.size k.size, fun i hi hn => (k.block i (Nat.lt_of_lt_of_le hi h.size) (fun e => hn (hs i hi e))).trans (h.block i hi hn)⟩

theorem kept_of {S : Nat → Prop} {w w' : World} (h : Below w.heap.size w w') : Kept S w w' := ⟨h.os, h.tape, h.output, h.size, fun k hk _ => h.block k hk⟩

theorem Kept.below {S : Nat → Prop} {w w' : World} (h : Kept S w w') {B : Nat} (hB : B ≤ w.heap.size) (hs : ∀ k, k < w.heap.size → S k → B ≤ k) : Below B w w' :=
  ⟨h.os, h.tape, h.output, h.size, fun k hk => h.block k (by omega) (fun e => by have := hs k (by omega) e; omega)⟩

theorem Kept.setCell {S : Nat → Prop} {a w : World} (h : Kept S a w) {p : Addr} (hp : p.block < a.heap.size → S p.block) (u : Value) : Kept S a (w.setCell p u) :=
  h.trans (S' := fun k => k = p.block) ⟨rfl, rfl, rfl, by simp [World.setCell], fun k hk hn => Below.heap_setCell _ _ _ _ hn⟩ (fun i hi e => by subst e; exact hp hi)

theorem Kept.alloc {S : Nat → Prop} {a w : World} (h : Kept S a w) (o : Obj) : Kept S a (w.alloc o) :=
  h.trans (S' := fun _ => False) (kept_of ((Below.refl _ _).alloc (Nat.le_refl _) _)) (fun _ _ e => e.elim)

theorem Kept.new {S : Nat → Prop} {a w w' : World} (h : Kept S a w) (hB : Below w.heap.size w w') : Kept S a w' := h.trans (S' := fun _ => False) (kept_of hB) (fun _ _ e => e.elim)

theorem Kept.cell {S : Nat → Prop} {w w' : World} (h : Kept S w w') {p : Addr} (hp : p.block < w.heap.size) (hn : ¬ S p.block) : w'.cell? p = w.cell? p := World.cell?_of_block (w := w) (h.block _ hp hn)

theorem IsB.kept {S : Nat → Prop} {w W : World} {a : Option Addr} {len cap : Nat} {zs : List Int} (h : IsB w a len cap zs) (hK : Kept S w W) (hn : ∀ p, a = some p → 0 < len → ¬ S p.block) : IsB W a len cap zs := by
  obtain ⟨h1, h2, h3, h4, h5⟩ := h
  refine ⟨h1, h2, h3, h4, fun hp => ?_⟩
  obtain ⟨b, off, rfl, hR⟩ := h5 hp
  have hb := hR.lt hp
  exact ⟨b, off, rfl, hR.len_eq, hR.le, hR.cap_le, fun _ => Nat.lt_of_lt_of_le hb hK.size, fun i hi => (hK.cell (p := ⟨b, off + i, none⟩) hb (hn ⟨b, off, none⟩ rfl hp)).trans (hR.cell i hi), hR.rng⟩

theorem block_lt {w : World} {p : Nat} {o : Obj} (h : w.heap[p]? = some o) : p < w.heap.size := (Array.getElem?_eq_some_iff.1 h).1

/-- The cells of a block of two, and that none is frozen. -/
theorem two_cells {w : World} {p : Nat} {x0 x1 : Value} {t : TypeId} (h : w.heap[p]? = some (.cells #[x0, x1] t (0, 0))) :
    w.cell? ⟨p, 0, none⟩ = some x0 ∧ w.cell? ⟨p, 1, none⟩ = some x1 ∧ w.frozen? ⟨p, 0, none⟩ = false ∧ w.frozen? ⟨p, 1, none⟩ = false := by
  refine ⟨?_, ?_, ?_, ?_⟩ <;> simp [World.cell?, World.frozen?, h]

theorem two_set0 {w : World} {p : Nat} {x0 x1 : Value} {t : TypeId} (h : w.heap[p]? = some (.cells #[x0, x1] t (0, 0))) (u : Value) : (w.setCell ⟨p, 0, none⟩ u).heap[p]? = some (.cells #[u, x1] t (0, 0)) := by
  have hlt := block_lt h
  have h' : w.heap[p] = .cells #[x0, x1] t (0, 0) := by simpa [Array.getElem?_eq_getElem hlt] using h
  show (w.heap.modify p _)[p]? = _
  rw [Array.getElem?_eq_getElem (by simpa using hlt), Array.getElem_modify_self, h']
  rfl

theorem two_set1 {w : World} {p : Nat} {x0 x1 : Value} {t : TypeId} (h : w.heap[p]? = some (.cells #[x0, x1] t (0, 0))) (u : Value) : (w.setCell ⟨p, 1, none⟩ u).heap[p]? = some (.cells #[x0, u] t (0, 0)) := by
  have hlt := block_lt h
  have h' : w.heap[p] = .cells #[x0, x1] t (0, 0) := by simpa [Array.getElem?_eq_getElem hlt] using h
  show (w.heap.modify p _)[p]? = _
  rw [Array.getElem?_eq_getElem (by simpa using hlt), Array.getElem_modify_self, h']
  rfl

theorem one_kept (w : World) (p j : Nat) (v : Value) : Kept (fun k => k = p) w (w.setCell ⟨p, j, none⟩ v) := (Kept.refl (fun k => k = p) w).setCell (p := ⟨p, j, none⟩) (fun _ => rfl) v

/-- What is owned in other blocks stays. -/
theorem OwnB.kept {S : Nat → Prop} {w W : World} {base : Nat} {v : Value} {n : Nat} {X : List Int} (h : OwnB w base v n X) (hK : Kept S w W) (hn : ∀ k, v.ownBlock = some k → ¬ S k) : OwnB W base v n X := by
  refine ⟨h.1, ?_⟩
  rcases h.2 with h2 | ⟨g, cap, cur, hv, hg, hh, r⟩
  · exact .inl h2
  · exact .inr ⟨g, cap, cur, hv, hg, by rw [hK.block g (block_lt hh) (hn g (by rw [hv]; rfl))]; exact hh, r⟩

/-- append of bytes onto a row that is owned, and where the row lies then. -/
theorem append_own_run {w : World} {base : Nat} {v : Value} {n : Nat} {X : List Int} (hown : OwnB w base v n X) {xa : Option Addr} {len cap : Nat} {zs : List Int} (hB : IsB w xa len cap zs) (hbd : n + len ≤ 140737488355328) (hbase : base ≤ w.heap.size) (ty : TypeId) :
    ∃ v' w', (Builtin.append_ #[22, 22] ty #[v, .slice xa len cap]).run Tryd.prog w = .ok v' w' ∧ OwnB w' base v' (n + len) (X ++ zs) ∧ Kept (fun k => v.ownBlock = some k) w w' ∧ (v'.ownBlock = v.ownBlock ∨ v'.ownBlock = some w.heap.size) := by
  obtain ⟨i0, hi, hz0, hz1, hz2⟩ := info_parts Tryd.info5
  cases xa with
  | none =>
    obtain ⟨h1, h2, h3, h4, h5⟩ := hB
    obtain ⟨rfl, rfl⟩ := h4 rfl
    obtain rfl : zs = [] := List.eq_nil_of_length_eq_zero h1
    refine ⟨v, w, run_append_owned_none (P := Tryd.prog) (w := w) base 22 ty 5 i0 1 Tryd.underlying22 hi v n _ hown, ?_, Kept.refl _ _, .inl rfl⟩
    rw [List.append_nil]; exact hown
  | some x =>
    have hl : (zs.map (Value.int .u8)).length = len * 1 := by rw [List.length_map, hB.1, Nat.mul_one]
    obtain ⟨v', w', hr, h2, h3, _, h5⟩ := run_append_own_at (P := Tryd.prog) w base 22 ty 5 i0 (.int .u8 0) 1 1 Tryd.underlying22 hi hz0 hz1 hz2 rfl (by decide) v n _ hown x len cap _ hl hB.news (bytes_one zs) (by unfold maxLen; omega) (by omega) hbase
    exact ⟨v', w', hr, OwnB.join h2 rfl, ⟨h3.os, h3.tape, h3.output, h3.size, fun k hk hn => h3.block k hk (fun e => hn e.symm)⟩, h5⟩

theorem wpList_append_own {ops : Array Oper} {rest : List Oper} {o : Oper} {a : Act} {w : World} {Q : Exit → Act → World → Prop} (hgd : o.guard = none) (s x : Operand)
    (ho : o.op = .call { callee := .builtin .append, args := #[s, x], argTypes := #[22, 22] })
    {base : Nat} {v : Value} {n : Nat} {X : List Int} (hs : a.eval s = v) (hown : OwnB w base v n X) {xa : Option Addr} {len cap : Nat} {zs : List Int} (hx : a.eval x = .slice xa len cap) (hB : IsB w xa len cap zs) (hbd : n + len ≤ 140737488355328) (hbase : base ≤ w.heap.size)
    (h : ∀ v' w', OwnB w' base v' (n + len) (X ++ zs) → Kept (fun k => v.ownBlock = some k) w w' → (v'.ownBlock = v.ownBlock ∨ v'.ownBlock = some w.heap.size) → wpList Tryd.prog ops Q rest (a.put o.dst v') w') : wpList Tryd.prog ops Q (o :: rest) a w := by
  refine wpList_plain hgd fun K hK => ?_
  obtain ⟨v', w', hr, h2, h3, h4⟩ := append_own_run hown hB hbd hbase o.type
  unfold Oper.wp
  simp [execOp, ho, resolve, invoke, builtin, hs, hx, hr, Result.andThen]
  exact hK _ _ (h v' w' h2 h3 h4)
end Go.Proofs.YtnapeecmlkkolaaDoor
