/-
  The box of a type that the document's own Get fills.
-/
import Derived.Test.YtnapeecmlkkolaaDoorRefAt
namespace Go.Proofs.YtnapeecmlkkolaaDoor
open Go.RowKit
set_option linter.unusedVariables false
set_option linter.unusedSimpArgs false

/-- The contract of the document's own Get, so many deep. -/
def GetsRef (f : Nat) : Prop := ∀ (w : World) (a : Option Addr) (len cap : Nat) (zs : List Int), IsB w a len cap zs → len ≤ 140737488351232 → ∀ d : Nat, d ≤ len → ∀ X : Res Ty, X = tyR f (zs.drop d) → ∀ p q : Int, p = d → q = 21 - f →
  Calls Tryd.prog 54 #[.slice a len cap, .int .i64 p, .int .i64 q] w fun e w' => ∃ na nl nc ka kl kc, e = .returned (.tuple #[.agg #[.int .u16 X.val.id, .string X.val.space, .string X.val.name, .slice na nl nc, .slice ka kl kc], .int .i64 (place d X), .int .i64 X.err]) ∧
    Hid (TyAt (f - 1) (New w.heap.size w') w' X.val na nl nc ka kl kc) ∧ Hid (X.err = 0 → d + X.done ≤ len) ∧ Below w.heap.size w w'

/-- The box of a type that is being got. -/
structure RBox (w : World) (ob : Nat) (id : Int) (sp nm : ByteArray) (vn vk : Value) : Prop where
  c0 : w.cell? ⟨ob, 0, none⟩ = some (.int .u16 id)
  c1 : w.cell? ⟨ob, 1, none⟩ = some (.string sp)
  c2 : w.cell? ⟨ob, 2, none⟩ = some (.string nm)
  c3 : w.cell? ⟨ob, 3, none⟩ = some vn
  c4 : w.cell? ⟨ob, 4, none⟩ = some vk
  f1 : w.frozen? ⟨ob, 1, none⟩ = false
  f2 : w.frozen? ⟨ob, 2, none⟩ = false
  f3 : w.frozen? ⟨ob, 3, none⟩ = false
  f4 : w.frozen? ⟨ob, 4, none⟩ = false
  lt : ob < w.heap.size

theorem RBox.keep {w W : World} {ob : Nat} {id : Int} {sp nm : ByteArray} {vn vk : Value} (h : RBox w ob id sp nm vn vk) (hk : W.heap[ob]? = w.heap[ob]?) (hs : w.heap.size ≤ W.heap.size) : RBox W ob id sp nm vn vk := by
  have hc : ∀ j, W.cell? ⟨ob, j, none⟩ = w.cell? ⟨ob, j, none⟩ := fun j => World.cell?_of_block (w := w) (w' := W) (a := ⟨ob, j, none⟩) hk
  have hf : ∀ j, W.frozen? ⟨ob, j, none⟩ = w.frozen? ⟨ob, j, none⟩ := fun j => World.frozen?_of_block (w := w) (w' := W) (a := ⟨ob, j, none⟩) hk
  exact ⟨(hc 0).trans h.c0, (hc 1).trans h.c1, (hc 2).trans h.c2, (hc 3).trans h.c3, (hc 4).trans h.c4, (hf 1).trans h.f1, (hf 2).trans h.f2, (hf 3).trans h.f3, (hf 4).trans h.f4, Nat.lt_of_lt_of_le h.lt hs⟩

theorem RBox.set1 {w : World} {ob : Nat} {id : Int} {sp nm : ByteArray} {vn vk : Value} (h : RBox w ob id sp nm vn vk) (x : ByteArray) : RBox (w.setCell ⟨ob, 1, none⟩ (.string x)) ob id x nm vn vk := by
  refine ⟨?_, World.cell?_setCell_same _ _ _ h.c1, ?_, ?_, ?_, ?_, ?_, ?_, ?_, by simpa using h.lt⟩
  · rw [World.cell?_setCell_other _ _ _ _ (by intro e; cases e)]; exact h.c0
  · rw [World.cell?_setCell_other _ _ _ _ (by intro e; cases e)]; exact h.c2
  · rw [World.cell?_setCell_other _ _ _ _ (by intro e; cases e)]; exact h.c3
  · rw [World.cell?_setCell_other _ _ _ _ (by intro e; cases e)]; exact h.c4
  · rw [World.frozen?_setCell]; exact h.f1
  · rw [World.frozen?_setCell]; exact h.f2
  · rw [World.frozen?_setCell]; exact h.f3
  · rw [World.frozen?_setCell]; exact h.f4

theorem RBox.set2 {w : World} {ob : Nat} {id : Int} {sp nm : ByteArray} {vn vk : Value} (h : RBox w ob id sp nm vn vk) (x : ByteArray) : RBox (w.setCell ⟨ob, 2, none⟩ (.string x)) ob id sp x vn vk := by
  refine ⟨?_, ?_, World.cell?_setCell_same _ _ _ h.c2, ?_, ?_, ?_, ?_, ?_, ?_, by simpa using h.lt⟩
  · rw [World.cell?_setCell_other _ _ _ _ (by intro e; cases e)]; exact h.c0
  · rw [World.cell?_setCell_other _ _ _ _ (by intro e; cases e)]; exact h.c1
  · rw [World.cell?_setCell_other _ _ _ _ (by intro e; cases e)]; exact h.c3
  · rw [World.cell?_setCell_other _ _ _ _ (by intro e; cases e)]; exact h.c4
  · rw [World.frozen?_setCell]; exact h.f1
  · rw [World.frozen?_setCell]; exact h.f2
  · rw [World.frozen?_setCell]; exact h.f3
  · rw [World.frozen?_setCell]; exact h.f4

theorem RBox.set3 {w : World} {ob : Nat} {id : Int} {sp nm : ByteArray} {vn vk : Value} (h : RBox w ob id sp nm vn vk) (x : Value) : RBox (w.setCell ⟨ob, 3, none⟩ (x)) ob id sp nm x vk := by
  refine ⟨?_, ?_, ?_, World.cell?_setCell_same _ _ _ h.c3, ?_, ?_, ?_, ?_, ?_, by simpa using h.lt⟩
  · rw [World.cell?_setCell_other _ _ _ _ (by intro e; cases e)]; exact h.c0
  · rw [World.cell?_setCell_other _ _ _ _ (by intro e; cases e)]; exact h.c1
  · rw [World.cell?_setCell_other _ _ _ _ (by intro e; cases e)]; exact h.c2
  · rw [World.cell?_setCell_other _ _ _ _ (by intro e; cases e)]; exact h.c4
  · rw [World.frozen?_setCell]; exact h.f1
  · rw [World.frozen?_setCell]; exact h.f2
  · rw [World.frozen?_setCell]; exact h.f3
  · rw [World.frozen?_setCell]; exact h.f4

theorem RBox.set4 {w : World} {ob : Nat} {id : Int} {sp nm : ByteArray} {vn vk : Value} (h : RBox w ob id sp nm vn vk) (x : Value) : RBox (w.setCell ⟨ob, 4, none⟩ (x)) ob id sp nm vn x := by
  refine ⟨?_, ?_, ?_, ?_, World.cell?_setCell_same _ _ _ h.c4, ?_, ?_, ?_, ?_, by simpa using h.lt⟩
  · rw [World.cell?_setCell_other _ _ _ _ (by intro e; cases e)]; exact h.c0
  · rw [World.cell?_setCell_other _ _ _ _ (by intro e; cases e)]; exact h.c1
  · rw [World.cell?_setCell_other _ _ _ _ (by intro e; cases e)]; exact h.c2
  · rw [World.cell?_setCell_other _ _ _ _ (by intro e; cases e)]; exact h.c3
  · rw [World.frozen?_setCell]; exact h.f1
  · rw [World.frozen?_setCell]; exact h.f2
  · rw [World.frozen?_setCell]; exact h.f3
  · rw [World.frozen?_setCell]; exact h.f4


abbrev zeroTy : Obj := .cells #[.int .u16 0, .string ⟨#[]⟩, .string ⟨#[]⟩, .slice none 0 0, .slice none 0 0] 62

theorem RBox.start (w : World) (id : Int) : RBox ((w.alloc zeroTy).alloc (.cells #[.int .u16 id, .string ⟨#[]⟩, .string ⟨#[]⟩, .slice none 0 0, .slice none 0 0] 62)) (w.heap.size + 1) id ⟨#[]⟩ ⟨#[]⟩ (.slice none 0 0) (.slice none 0 0) := by
  refine ⟨?_, ?_, ?_, ?_, ?_, ?_, ?_, ?_, ?_, by simp⟩ <;> simp [go_sem]

theorem below_two (w : World) (id : Int) : Below (w.alloc zeroTy).heap.size (w.alloc zeroTy) ((w.alloc zeroTy).alloc (.cells #[.int .u16 id, .string ⟨#[]⟩, .string ⟨#[]⟩, .slice none 0 0, .slice none 0 0] 62)) :=
  below_one _ _

theorem below_of {w W : World} (h : Below (w.alloc zeroTy).heap.size (w.alloc zeroTy) W) : Below w.heap.size w W := (below_one w _).trans (h.mono (by simp))

/-- What the loop leaves is the type. -/
theorem tyAt_of {f : Nat} {w wr : World} {id : Int} {sp nm : ByteArray} {an : Option Addr} {ln cn : Nat} {ak : Option Addr} {lk ck : Nat} {ns : List ByteArray} {ks : List Ty} (h0 : 0 ≤ id) (h1 : id < 65536) (hsp : sp.size ≤ maxLen) (hnm : nm.size ≤ maxLen)
    (HSn : Sees 1 (fun q => w.heap.size + 2 ≤ q ∧ q < wr.heap.size) VS wr an ln cn ns) (HSk : Sees 5 (fun q => w.heap.size + 2 ≤ q ∧ q < wr.heap.size) (VT f (fun q => w.heap.size + 2 ≤ q ∧ q < wr.heap.size) wr) wr ak lk ck ks) :
    TyAt f (New w.heap.size (five wr w.heap.size (.int .u16 id) (.string sp) (.string nm) (.slice an ln cn) (.slice ak lk ck))) (five wr w.heap.size (.int .u16 id) (.string sp) (.string nm) (.slice an ln cn) (.slice ak lk ck)) ⟨id, sp, nm, ns, ks⟩ an ln cn ak lk ck := by
  have hz := five_size wr w.heap.size (.int .u16 id) (.string sp) (.string nm) (.slice an ln cn) (.slice ak lk ck)
  have hh := five_heap wr w.heap.size (.int .u16 id) (.string sp) (.string nm) (.slice an ln cn) (.slice ak lk ck)
  generalize five wr w.heap.size (.int .u16 id) (.string sp) (.string nm) (.slice an ln cn) (.slice ak lk ck) = W at *
  have hF : ∀ q, q < wr.heap.size → (w.heap.size + 2 ≤ q ∧ q < wr.heap.size) → New w.heap.size W q ∧ W.heap[q]? = wr.heap[q]? := fun q _ hq => ⟨⟨by omega, by omega⟩, hh q (by omega)⟩
  exact ⟨⟨h0, h1⟩, hsp, hnm, HSn.mono hF (by omega) (fun _ _ _ h => h), HSk.mono hF (by omega) (fun _ _ _ h => VT.mono hF (by omega) h)⟩
end Go.Proofs.YtnapeecmlkkolaaDoor
