/-
  A table that is seen: what came in, and what was made.
-/
import Derived.Test.YtnapeecmlkkolaaDoorMeta10
namespace Go.Proofs.YtnapeecmlkkolaaDoor
open Go.RowKit
set_option maxRecDepth 100000
set_option linter.unusedVariables false
set_option linter.unusedSimpArgs false

def VRowS : Vw (List Vl) := fun F w xs c => ∃ a l cp, c 0 = .slice a l cp ∧ Sees 2 F (VVal F w) w a l cp xs

theorem Sees.kept {α : Type} {size : Nat} {V : Vw α} (hV : StaysI size V) {w W : World} {F F' : Nat → Prop} {a : Option Addr} {len cap : Nat} {xs : List α} (h : Sees size F (V F w) w a len cap xs)
    (hb : ∀ k, k < w.heap.size → F k → W.heap[k]? = w.heap[k]?) (hs : w.heap.size ≤ W.heap.size) (hF : ∀ k, k < w.heap.size → F k → F' k) : Sees size F' (V F' W) W a len cap xs :=
  h.mono (fun k hk hf => ⟨hF k hk hf, hb k hk hf⟩) hs (fun x c _ hv => hV _ _ w W x c c hv (fun _ _ => rfl) hb hs hF)

theorem stays_rowS : StaysI 1 VRowS := by
  intro F F' w w' x c c' h hc hb hs hF
  obtain ⟨a, l, cp, h0, hv⟩ := h
  exact ⟨a, l, cp, (hc 0 (by omega)).trans h0, hv.kept stays_val hb hs hF⟩

theorem row_rowS {F : Nat → Prop} {w : World} {xs : List Vl} {c : Nat → Value} (h : VRow F w xs c) : VRowS F w xs c := by
  obtain ⟨a, cap, e, hs⟩ := OwnI.sees (U := VVal F w) h (fun _ _ _ hv => hv) stays_val
  exact ⟨a, _, cap, e, hs⟩

/-- A table, seen: its columns, its state, its rows. -/
def TbV (n : Nat) (F : Nat → Prop) (w : World) (T : Tb) (ca : Option Addr) (cl cc : Nat) (x : Option Addr) (lx cx : Nat) (ra : Option Addr) (rl rc : Nat) : Prop :=
  Sees 8 F (VCol n F w) w ca cl cc T.2.1 ∧ IsBF F w x lx cx (sNums T.2.2.2.1.2) ∧ Sees 1 F (VRowS F w) w ra rl rc T.2.2.2.2

theorem TbV.kept {n : Nat} {w W : World} {F F' : Nat → Prop} {T : Tb} {ca : Option Addr} {cl cc : Nat} {x : Option Addr} {lx cx : Nat} {ra : Option Addr} {rl rc : Nat} (h : TbV n F w T ca cl cc x lx cx ra rl rc)
    (hb : ∀ k, k < w.heap.size → F k → W.heap[k]? = w.heap[k]?) (hs : w.heap.size ≤ W.heap.size) (hF : ∀ k, k < w.heap.size → F k → F' k) : TbV n F' W T ca cl cc x lx cx ra rl rc :=
  ⟨h.1.kept (stays_col n) hb hs hF, h.2.1.stay hb hs hF, h.2.2.kept stays_rowS hb hs hF⟩
theorem TbV.old {n : Nat} {w W : World} {F : Nat → Prop} {T : Tb} {ca : Option Addr} {cl cc : Nat} {x : Option Addr} {lx cx : Nat} {ra : Option Addr} {rl rc : Nat} (h : TbV n F w T ca cl cc x lx cx ra rl rc) (hB : Below w.heap.size w W) : TbV n F W T ca cl cc x lx cx ra rl rc :=
  h.kept (fun k hk _ => hB.block k hk) hB.size (fun _ _ hf => hf)
theorem TbV.apart {n : Nat} {w W : World} {F K : Nat → Prop} {T : Tb} {ca : Option Addr} {cl cc : Nat} {x : Option Addr} {lx cx : Nat} {ra : Option Addr} {rl rc : Nat} (h : TbV n F w T ca cl cc x lx cx ra rl rc) (hK : Kept K w W) (hn : ∀ k, k < w.heap.size → F k → ¬ K k) : TbV n F W T ca cl cc x lx cx ra rl rc :=
  h.kept (fun k hk hf => hK.block k hk (hn k hk hf)) hK.size (fun _ _ hf => hf)

theorem TbO.view {w : World} {F : Nat → Prop} {T : Tb} {ca : Option Addr} {cl cc : Nat} {x : Option Addr} {lx cx : Nat} {ra : Option Addr} {rl rc : Nat} (h : TbO w F T ca cl cc x lx cx ra rl rc) : TbV 20 F w T ca cl cc x lx cx ra rl rc := by
  obtain ⟨h1, h2, h3⟩ := h
  obtain ⟨a, cap, e, hs⟩ := h1.sees (U := VCol 20 F w) (fun _ _ _ hv => hv) (stays_col 20)
  obtain ⟨a3, cap3, e3, hs3⟩ := h3.sees (U := VRowS F w) (fun _ _ _ hv => row_rowS hv) stays_row
  cases e; cases e3
  exact ⟨hs, h2, hs3⟩

theorem Sees.len_eq {α : Type} {size : Nat} {F : Nat → Prop} {V : α → (Nat → Value) → Prop} {w : World} {a : Option Addr} {len cap : Nat} {xs : List α} (h : Sees size F V w a len cap xs) : xs.length = len := h.1
theorem Sees.max {α : Type} {size : Nat} {F : Nat → Prop} {V : α → (Nat → Value) → Prop} {w : World} {a : Option Addr} {len cap : Nat} {xs : List α} (h : Sees size F V w a len cap xs) : len ≤ cap ∧ cap ≤ maxLen := ⟨h.2.1, h.2.2.1⟩

/-- An element's cells. -/
theorem Sees.at {α : Type} {size : Nat} {F : Nat → Prop} {V : α → (Nat → Value) → Prop} {w : World} {a : Option Addr} {len cap : Nat} {xs : List α} (h : Sees size F V w a len cap xs) {k : Nat} (hk : k < len) :
    ∃ x b off c, xs[k]? = some x ∧ a = some ⟨b, off, none⟩ ∧ b < w.heap.size ∧ F b ∧ (∀ j, j < size → w.cell? ⟨b, off + (k * size + j), none⟩ = some (c j)) ∧ V x c := by
  obtain ⟨h1, h2, h3, h4, h5⟩ := h
  obtain ⟨b, off, ha, hb, hF, hc⟩ := h5 (by omega)
  have hx : xs[k]? = some xs[k] := List.getElem?_eq_getElem (by omega)
  obtain ⟨c, hcell, hv⟩ := hc k _ hx
  exact ⟨_, b, off, c, hx, ha, hb, hF, hcell, hv⟩

/-- A column's eight cells. -/
theorem Sees.col {m : Nat} {F : Nat → Prop} {w : World} {a : Option Addr} {len cap : Nat} {xs : List Col} (h : Sees 8 F (VCol (m + 1) F w) w a len cap xs) {k : Nat} (hk : k < len) :
    ∃ (s t nm : ByteArray) (X : Ty) (b off : Nat) (na : Option Addr) (nl nc : Nat) (ka : Option Addr) (kl kc : Nat), xs[k]? = some (s, t, nm, X) ∧ a = some ⟨b, off, none⟩ ∧ b < w.heap.size ∧ F b ∧
      (w.cell? ⟨b, off + k * 8, none⟩ = some (.string s) ∧ w.cell? ⟨b, off + k * 8 + 1, none⟩ = some (.string t) ∧ w.cell? ⟨b, off + k * 8 + 2, none⟩ = some (.string nm) ∧ w.cell? ⟨b, off + k * 8 + 3, none⟩ = some (.int .u16 X.id) ∧ w.cell? ⟨b, off + k * 8 + 4, none⟩ = some (.string X.space) ∧
        w.cell? ⟨b, off + k * 8 + 5, none⟩ = some (.string X.name) ∧ w.cell? ⟨b, off + k * 8 + 6, none⟩ = some (.slice na nl nc) ∧ w.cell? ⟨b, off + k * 8 + 7, none⟩ = some (.slice ka kl kc)) ∧
      (s.size ≤ maxLen ∧ t.size ≤ maxLen ∧ nm.size ≤ maxLen) ∧ TyAt m F w X na nl nc ka kl kc := by
  obtain ⟨⟨s, t, nm, X⟩, b, off, c, hx, ha, hb, hF, hcell, ⟨h0, m0⟩, ⟨h1, m1⟩, ⟨h2, m2⟩, na, nl, nc, ka, kl, kc, e0, e1, e2, e3, e4, hin⟩ := h.at hk
  refine ⟨s, t, nm, X, b, off, na, nl, nc, ka, kl, kc, hx, ha, hb, hF, ⟨?_, ?_, ?_, ?_, ?_, ?_, ?_, ?_⟩, ⟨m0, m1, m2⟩, hin⟩
  · have := hcell 0 (by omega); rw [h0] at this; exact this
  · have := hcell 1 (by omega); rw [h1] at this; rw [Nat.add_assoc]; exact this
  · have := hcell 2 (by omega); rw [h2] at this; rw [Nat.add_assoc]; exact this
  · have := hcell 3 (by omega); rw [show c 3 = .int .u16 X.id from e0] at this; rw [Nat.add_assoc]; exact this
  · have := hcell 4 (by omega); rw [show c 4 = .string X.space from e1] at this; rw [Nat.add_assoc]; exact this
  · have := hcell 5 (by omega); rw [show c 5 = .string X.name from e2] at this; rw [Nat.add_assoc]; exact this
  · have := hcell 6 (by omega); rw [show c 6 = .slice na nl nc from e3] at this; rw [Nat.add_assoc]; exact this
  · have := hcell 7 (by omega); rw [show c 7 = .slice ka kl kc from e4] at this; rw [Nat.add_assoc]; exact this

theorem Sees.val {F : Nat → Prop} {w : World} {a : Option Addr} {len cap : Nat} {xs : List Vl} (h : Sees 2 F (VVal F w) w a len cap xs) {k : Nat} (hk : k < len) :
    ∃ V b off x lx cx, xs[k]? = some V ∧ a = some ⟨b, off, none⟩ ∧ b < w.heap.size ∧ F b ∧ w.cell? ⟨b, off + k * 2, none⟩ = some (.int .i64 V.1) ∧ w.cell? ⟨b, off + k * 2 + 1, none⟩ = some (.slice x lx cx) ∧ IsBF F w x lx cx (sNums V.2) := by
  obtain ⟨V, b, off, c, hx, ha, hb, hF, hcell, h0, x, lx, cx, h1, hv⟩ := h.at hk
  refine ⟨V, b, off, x, lx, cx, hx, ha, hb, hF, ?_, ?_, hv⟩
  · have := hcell 0 (by omega); rw [h0] at this; exact this
  · have := hcell 1 (by omega); rw [h1] at this; rw [Nat.add_assoc]; exact this

theorem Sees.row {F : Nat → Prop} {w : World} {a : Option Addr} {len cap : Nat} {xs : List (List Vl)} (h : Sees 1 F (VRowS F w) w a len cap xs) {k : Nat} (hk : k < len) :
    ∃ r b off x lx cx, xs[k]? = some r ∧ a = some ⟨b, off, none⟩ ∧ b < w.heap.size ∧ F b ∧ w.cell? ⟨b, off + k, none⟩ = some (.slice x lx cx) ∧ Sees 2 F (VVal F w) w x lx cx r := by
  obtain ⟨r, b, off, c, hx, ha, hb, hF, hcell, x, lx, cx, h0, hv⟩ := h.at hk
  refine ⟨r, b, off, x, lx, cx, hx, ha, hb, hF, ?_, hv⟩
  have := hcell 0 (by omega); rw [h0, Nat.mul_one] at this; exact this

theorem drop_cons {α : Type} {xs : List α} {k : Nat} {x : α} (hx : xs[k]? = some x) : xs.drop k = x :: xs.drop (k + 1) := by
  obtain ⟨hk, e⟩ := List.getElem?_eq_some_iff.1 hx
  rw [List.drop_eq_getElem_cons hk, e]

end Go.Proofs.YtnapeecmlkkolaaDoor
