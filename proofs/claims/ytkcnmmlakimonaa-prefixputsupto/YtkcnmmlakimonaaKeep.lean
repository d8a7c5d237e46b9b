/-
  Worlds that part in some blocks alone; what lies in other blocks stays; what a reader of parts has read so far, in memory.
-/
import Derived.Test.YtkcnmmlakimonaaPutE
namespace Go.Proofs.Ytkcnmmlakimonaa
open Go.RowKit
set_option linter.unusedVariables false
set_option linter.unusedSimpArgs false

/-- But for the blocks S, and what is new, the world is as it was. -/
structure Kept (S : Nat → Prop) (w w' : World) : Prop where
  os : w'.os = w.os
  tape : w'.tape = w.tape
  output : w'.output = w.output
  size : w.heap.size ≤ w'.heap.size
  block : ∀ k, k < w.heap.size → ¬ S k → w'.heap[k]? = w.heap[k]?

theorem Kept.refl (S : Nat → Prop) (w : World) : Kept S w w := ⟨rfl, rfl, rfl, Nat.le_refl _, fun _ _ _ => rfl⟩

theorem Kept.trans {S S' : Nat → Prop} {a b c : World} (h : Kept S a b) (k : Kept S' b c) (hs : ∀ i, i < a.heap.size → S' i → S i) : Kept S a c :=
  ⟨k.os.trans h.os, k.tape.trans h.tape, k.output.trans h.output, Nat.le_trans h.size k.size, fun i hi hn => (k.block i (Nat.lt_of_lt_of_le hi h.size) (fun e => hn (hs i hi e))).trans (h.block i hi hn)⟩

theorem kept_of {S : Nat → Prop} {w w' : World} (h : Below w.heap.size w w') : Kept S w w' := ⟨h.os, h.tape, h.output, h.size, fun k hk _ => h.block k hk⟩

theorem Kept.below {S : Nat → Prop} {w w' : World} (h : Kept S w w') {B : Nat} (hB : B ≤ w.heap.size) (hs : ∀ k, k < w.heap.size → S k → B ≤ k) : Below B w w' :=
  ⟨h.os, h.tape, h.output, h.size, fun k hk => h.block k (by omega) (fun e => by have := hs k (by omega) e; omega)⟩

theorem Kept.setCell {S : Nat → Prop} {a w : World} (h : Kept S a w) {p : Addr} (hp : p.block < a.heap.size → S p.block) (u : Value) : Kept S a (w.setCell p u) :=
  h.trans (S' := fun k => k = p.block) ⟨rfl, rfl, rfl, by simp [World.setCell], fun k hk hn => Below.heap_setCell _ _ _ _ hn⟩ (fun i hi e => by subst e; exact hp hi)

theorem Kept.alloc {S : Nat → Prop} {a w : World} (h : Kept S a w) (o : Obj) : Kept S a (w.alloc o) :=
  h.trans (S' := fun _ => False) (kept_of ((Below.refl _ _).alloc (Nat.le_refl _) _)) (fun _ _ e => e.elim)

theorem Kept.new {S : Nat → Prop} {a w w' : World} (h : Kept S a w) (hB : Below w.heap.size w w') : Kept S a w' := h.trans (S' := fun _ => False) (kept_of hB) (fun _ _ e => e.elim)

theorem Kept.cell {S : Nat → Prop} {w w' : World} (h : Kept S w w') {p : Addr} (hp : p.block < w.heap.size) (hn : ¬ S p.block) : w'.cell? p = w.cell? p := World.cell?_of_block (w := w) (h.block _ hp hn)

theorem IsB.kept {S : Nat → Prop} {w W : World} {a : Option Addr} {len cap : Nat} {zs : List Int} (h : IsB w a len cap zs) (hK : Kept S w W) (hn : ∀ p, a = some p → 0 < len → ¬ S p.block) : IsB W a len cap zs := by
  obtain ⟨h1, h2, h3, h4, h5⟩ := h
  refine ⟨h1, h2, h3, h4, fun hp => ?_⟩
  obtain ⟨b, off, rfl, hR⟩ := h5 hp
  have hb := hR.lt hp
  exact ⟨b, off, rfl, hR.len_eq, hR.le, hR.cap_le, fun _ => Nat.lt_of_lt_of_le hb hK.size, fun i hi => (hK.cell (p := ⟨b, off + i, none⟩) hb (hn ⟨b, off, none⟩ rfl hp)).trans (hR.cell i hi), hR.rng⟩

abbrev En := ByteArray × Int × ByteArray

/-- What was read so far: the block p of three slices; what they lead to lies in blocks from base on, and p below. -/
def PIn (w : World) (base p : Nat) (T : List Int) (ws : List ByteArray) (es : List En) : Prop :=
  p < base ∧ base ≤ w.heap.size ∧ ∃ t lt ct vw ve, w.heap[p]? = some (.cells #[.slice t lt ct, vw, ve] 27 (0, 0)) ∧ IsB w t lt ct T ∧ Fresh base w t ∧ Own 9 1 VS w base vw ws ∧ Own 42 3 VE w base ve es

/-- The cells of a block of three, and that none is frozen. -/
theorem three_cells {w : World} {p : Nat} {x0 x1 x2 : Value} {t : TypeId} (h : w.heap[p]? = some (.cells #[x0, x1, x2] t (0, 0))) :
    w.cell? ⟨p, 0, none⟩ = some x0 ∧ w.cell? ⟨p, 1, none⟩ = some x1 ∧ w.cell? ⟨p, 2, none⟩ = some x2 ∧ w.frozen? ⟨p, 0, none⟩ = false ∧ w.frozen? ⟨p, 1, none⟩ = false ∧ w.frozen? ⟨p, 2, none⟩ = false := by
  refine ⟨?_, ?_, ?_, ?_, ?_, ?_⟩ <;> simp [World.cell?, World.frozen?, h]

theorem block_lt {w : World} {p : Nat} {o : Obj} (h : w.heap[p]? = some o) : p < w.heap.size := (Array.getElem?_eq_some_iff.1 h).1

/-- One cell of a block of three is written. -/
theorem three_set0 {w : World} {p : Nat} {x0 x1 x2 : Value} {t : TypeId} (h : w.heap[p]? = some (.cells #[x0, x1, x2] t (0, 0))) (u : Value) : (w.setCell ⟨p, 0, none⟩ u).heap[p]? = some (.cells #[u, x1, x2] t (0, 0)) := by
  have hlt := block_lt h
  have h' : w.heap[p] = .cells #[x0, x1, x2] t (0, 0) := by simpa [Array.getElem?_eq_getElem hlt] using h
  show (w.heap.modify p _)[p]? = _
  rw [Array.getElem?_eq_getElem (by simpa using hlt), Array.getElem_modify_self, h']
  rfl
theorem three_set1 {w : World} {p : Nat} {x0 x1 x2 : Value} {t : TypeId} (h : w.heap[p]? = some (.cells #[x0, x1, x2] t (0, 0))) (u : Value) : (w.setCell ⟨p, 1, none⟩ u).heap[p]? = some (.cells #[x0, u, x2] t (0, 0)) := by
  have hlt := block_lt h
  have h' : w.heap[p] = .cells #[x0, x1, x2] t (0, 0) := by simpa [Array.getElem?_eq_getElem hlt] using h
  show (w.heap.modify p _)[p]? = _
  rw [Array.getElem?_eq_getElem (by simpa using hlt), Array.getElem_modify_self, h']
  rfl
theorem three_set2 {w : World} {p : Nat} {x0 x1 x2 : Value} {t : TypeId} (h : w.heap[p]? = some (.cells #[x0, x1, x2] t (0, 0))) (u : Value) : (w.setCell ⟨p, 2, none⟩ u).heap[p]? = some (.cells #[x0, x1, u] t (0, 0)) := by
  have hlt := block_lt h
  have h' : w.heap[p] = .cells #[x0, x1, x2] t (0, 0) := by simpa [Array.getElem?_eq_getElem hlt] using h
  show (w.heap.modify p _)[p]? = _
  rw [Array.getElem?_eq_getElem (by simpa using hlt), Array.getElem_modify_self, h']
  rfl
end Go.Proofs.Ytkcnmmlakimonaa
