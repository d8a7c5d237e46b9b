/-
  One type in a block; small facts on types that several texts use.
-/
import Derived.Test.YtnapeecmlkkolaaDoorGetT
import Derived.Test.YtnapeecmlkkolaaDoorPutU
namespace Go.Proofs.YtnapeecmlkkolaaDoor
open Go.RowKit
set_option linter.unusedVariables false
set_option linter.unusedSimpArgs false

theorem isB_block {w : World} {g : Nat} {X : List Int} (h : w.heap[g]? = some (.cells (X.map (Value.int .u8)).toArray 5 (0, 0))) (hr : ∀ j : Nat, 0 ≤ X[j]?.getD 0 ∧ X[j]?.getD 0 ≤ 255) (hl : X.length ≤ maxLen) : IsB w (some ⟨g, 0, none⟩) X.length X.length X := by
  refine ⟨rfl, Nat.le_refl _, hl, (fun e => by cases e), fun hp => ⟨g, 0, rfl, rfl, Nat.le_refl _, hl, fun _ => (Array.getElem?_eq_some_iff.1 h).1, fun i hi => ?_, hr⟩⟩
  rw [Nat.zero_add]; exact row_cell h i hi

/-- One kid in a block. -/
theorem sees_one {n : Nat} {F : Nat → Prop} {w : World} {g : Nat} {x : Ty} {na : Option Addr} {nl nc : Nat} {ka : Option Addr} {kl kc : Nat} (hb : w.heap[g]? = some (.cells #[.int .u16 x.id, .string x.space, .string x.name, .slice na nl nc, .slice ka kl kc] 62 (0, 0))) (hF : F g) (h : TyAt n F w x na nl nc ka kl kc) :
    Sees 5 F (VT (n + 1) F w) w (some ⟨g, 0, none⟩) 1 1 [x] := by
  refine ⟨rfl, Nat.le_refl _, by unfold maxLen; omega, (fun e => by cases e), fun hp => ⟨g, 0, rfl, (Array.getElem?_eq_some_iff.1 hb).1, hF, fun i y hy => ?_⟩⟩
  have hi : i = 0 := by
    have := (List.getElem?_eq_some_iff.1 hy).1
    simp at this; exact this
  subst hi
  obtain rfl : x = y := by simpa using hy
  refine ⟨_, fun j hj => ?_, h.vt⟩
  rw [Nat.zero_add, Nat.zero_mul, Nat.zero_add, Lib.cell_of_heap hb]
  rcases (show j = 0 ∨ j = 1 ∨ j = 2 ∨ j = 3 ∨ j = 4 by omega) with rfl | rfl | rfl | rfl | rfl <;> rfl

def plainTy (id : Int) : Ty := ⟨id, ⟨#[]⟩, ⟨#[]⟩, [], []⟩

theorem tyAt_plain (n : Nat) (F : Nat → Prop) (w : World) (id : Int) (h0 : 0 ≤ id) (h1 : id < 65536) : TyAt n F w (plainTy id) none 0 0 none 0 0 :=
  ⟨⟨h0, h1⟩, by unfold maxLen; show 0 ≤ _; omega, by unfold maxLen; show 0 ≤ _; omega, sees_nil _ _ _ _, sees_nil _ _ _ _⟩

theorem cells5 {w : World} {s : Nat} {a b c d e : Value} (h : w.heap[s]? = some (.cells #[a, b, c, d, e] 62 (0, 0))) : w.cell? ⟨s, 0, none⟩ = some a ∧ w.cell? ⟨s, 1, none⟩ = some b ∧ w.cell? ⟨s, 2, none⟩ = some c ∧ w.cell? ⟨s, 3, none⟩ = some d ∧ w.cell? ⟨s, 4, none⟩ = some e := by
  refine ⟨?_, ?_, ?_, ?_, ?_⟩ <;> (rw [Lib.cell_of_heap h]; rfl)

theorem frozen5 {w : World} {s : Nat} {cs : Array Value} (h : w.heap[s]? = some (.cells cs 62 (0, 0))) : w.frozen? ⟨s, 0, none⟩ = false ∧ w.frozen? ⟨s, 1, none⟩ = false ∧ w.frozen? ⟨s, 2, none⟩ = false ∧ w.frozen? ⟨s, 3, none⟩ = false ∧ w.frozen? ⟨s, 4, none⟩ = false := by
  refine ⟨?_, ?_, ?_, ?_, ?_⟩ <;> simp [World.frozen?, h]

theorem deepB_kids {f : Nat} {t : Ty} (h : deepB (f + 1) t = false) : ∀ k ∈ t.kids, deepB f k = false := fun k hk => by
  rw [deepB] at h
  have := List.any_eq_false.1 h k hk
  simpa using this

theorem deep_up : ∀ (f : Nat) (t : Ty), deepB f t = false → deepB (f + 1) t = false
  | 0, t, h => by cases h
  | f + 1, t, h => by
    have hk := deepB_kids h
    rw [deepB]
    apply List.any_eq_false.2
    intro k hk2
    rw [deep_up f k (hk k hk2)]; decide

/-- The two boxes' cells, in a later world. -/
theorem boxes {w W : World} {a b c d e a' b' c' d' e' : Value} (h : Below (w.heap.size + 2) ((w.alloc (.cells #[a, b, c, d, e] 62)).alloc (.cells #[a', b', c', d', e'] 62)) W) :
    (W.cell? ⟨w.heap.size, 0, none⟩ = some a ∧ W.cell? ⟨w.heap.size, 1, none⟩ = some b ∧ W.cell? ⟨w.heap.size, 2, none⟩ = some c ∧ W.cell? ⟨w.heap.size, 3, none⟩ = some d ∧ W.cell? ⟨w.heap.size, 4, none⟩ = some e) ∧
    (W.cell? ⟨w.heap.size + 1, 0, none⟩ = some a' ∧ W.cell? ⟨w.heap.size + 1, 1, none⟩ = some b' ∧ W.cell? ⟨w.heap.size + 1, 2, none⟩ = some c' ∧ W.cell? ⟨w.heap.size + 1, 3, none⟩ = some d' ∧ W.cell? ⟨w.heap.size + 1, 4, none⟩ = some e') ∧ w.heap.size + 1 < W.heap.size := by
  refine ⟨cells5 ?_, cells5 ?_, ?_⟩
  · rw [h.block _ (by omega), (below_one (w.alloc _) _).block _ (by simp)]
    exact heap_alloc_new w _
  · rw [h.block _ (by omega)]
    exact two_new _ _ _ _
  · have := h.size; simp at this; omega

theorem sum_mem {ks : List Ty} {f : Ty → Nat} {x : Ty} (hx : x ∈ ks) : f x ≤ (ks.map f).sum := by
  induction ks with
  | nil => cases hx
  | cons y r ih =>
    rw [List.map_cons, List.sum_cons]
    rcases List.mem_cons.1 hx with h | h
    · subst h; omega
    · have := ih h; omega
end Go.Proofs.YtnapeecmlkkolaaDoor
