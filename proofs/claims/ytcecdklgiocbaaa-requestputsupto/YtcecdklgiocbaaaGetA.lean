/-
  A request's block, cell by cell; what is read of a body, step by step.
-/
import Derived.Test.YtcecdklgiocbaaaRd9
namespace Go.Proofs.Ytcecdklgiocbaaa
open Go.RowKit
set_option maxRecDepth 100000
set_option linter.unusedVariables false
set_option linter.unusedSimpArgs false

theorem req_set0 {w : World} {p : Nat} {c0 c1 c2 c3 c4 c5 c6 c7 c8 c9 c10 c11 c12 c13 c14 c15 c16 c17 c18 c19 c20 c21 : Value} {t : TypeId} (h : w.heap[p]? = some (.cells #[c0, c1, c2, c3, c4, c5, c6, c7, c8, c9, c10, c11, c12, c13, c14, c15, c16, c17, c18, c19, c20, c21] t (0, 0))) (u : Value) : (w.setCell ⟨p, 0, none⟩ u).heap[p]? = some (.cells #[u, c1, c2, c3, c4, c5, c6, c7, c8, c9, c10, c11, c12, c13, c14, c15, c16, c17, c18, c19, c20, c21] t (0, 0)) := by
  have hlt := block_lt h
  have h' : w.heap[p] = .cells #[c0, c1, c2, c3, c4, c5, c6, c7, c8, c9, c10, c11, c12, c13, c14, c15, c16, c17, c18, c19, c20, c21] t (0, 0) := by simpa [Array.getElem?_eq_getElem hlt] using h
  show (w.heap.modify p _)[p]? = _
  rw [Array.getElem?_eq_getElem (by simpa using hlt), Array.getElem_modify_self, h']
  rfl
theorem req_set1 {w : World} {p : Nat} {c0 c1 c2 c3 c4 c5 c6 c7 c8 c9 c10 c11 c12 c13 c14 c15 c16 c17 c18 c19 c20 c21 : Value} {t : TypeId} (h : w.heap[p]? = some (.cells #[c0, c1, c2, c3, c4, c5, c6, c7, c8, c9, c10, c11, c12, c13, c14, c15, c16, c17, c18, c19, c20, c21] t (0, 0))) (u : Value) : (w.setCell ⟨p, 1, none⟩ u).heap[p]? = some (.cells #[c0, u, c2, c3, c4, c5, c6, c7, c8, c9, c10, c11, c12, c13, c14, c15, c16, c17, c18, c19, c20, c21] t (0, 0)) := by
  have hlt := block_lt h
  have h' : w.heap[p] = .cells #[c0, c1, c2, c3, c4, c5, c6, c7, c8, c9, c10, c11, c12, c13, c14, c15, c16, c17, c18, c19, c20, c21] t (0, 0) := by simpa [Array.getElem?_eq_getElem hlt] using h
  show (w.heap.modify p _)[p]? = _
  rw [Array.getElem?_eq_getElem (by simpa using hlt), Array.getElem_modify_self, h']
  rfl
theorem req_set2 {w : World} {p : Nat} {c0 c1 c2 c3 c4 c5 c6 c7 c8 c9 c10 c11 c12 c13 c14 c15 c16 c17 c18 c19 c20 c21 : Value} {t : TypeId} (h : w.heap[p]? = some (.cells #[c0, c1, c2, c3, c4, c5, c6, c7, c8, c9, c10, c11, c12, c13, c14, c15, c16, c17, c18, c19, c20, c21] t (0, 0))) (u : Value) : (w.setCell ⟨p, 2, none⟩ u).heap[p]? = some (.cells #[c0, c1, u, c3, c4, c5, c6, c7, c8, c9, c10, c11, c12, c13, c14, c15, c16, c17, c18, c19, c20, c21] t (0, 0)) := by
  have hlt := block_lt h
  have h' : w.heap[p] = .cells #[c0, c1, c2, c3, c4, c5, c6, c7, c8, c9, c10, c11, c12, c13, c14, c15, c16, c17, c18, c19, c20, c21] t (0, 0) := by simpa [Array.getElem?_eq_getElem hlt] using h
  show (w.heap.modify p _)[p]? = _
  rw [Array.getElem?_eq_getElem (by simpa using hlt), Array.getElem_modify_self, h']
  rfl
theorem req_set3 {w : World} {p : Nat} {c0 c1 c2 c3 c4 c5 c6 c7 c8 c9 c10 c11 c12 c13 c14 c15 c16 c17 c18 c19 c20 c21 : Value} {t : TypeId} (h : w.heap[p]? = some (.cells #[c0, c1, c2, c3, c4, c5, c6, c7, c8, c9, c10, c11, c12, c13, c14, c15, c16, c17, c18, c19, c20, c21] t (0, 0))) (u : Value) : (w.setCell ⟨p, 3, none⟩ u).heap[p]? = some (.cells #[c0, c1, c2, u, c4, c5, c6, c7, c8, c9, c10, c11, c12, c13, c14, c15, c16, c17, c18, c19, c20, c21] t (0, 0)) := by
  have hlt := block_lt h
  have h' : w.heap[p] = .cells #[c0, c1, c2, c3, c4, c5, c6, c7, c8, c9, c10, c11, c12, c13, c14, c15, c16, c17, c18, c19, c20, c21] t (0, 0) := by simpa [Array.getElem?_eq_getElem hlt] using h
  show (w.heap.modify p _)[p]? = _
  rw [Array.getElem?_eq_getElem (by simpa using hlt), Array.getElem_modify_self, h']
  rfl
theorem req_set4 {w : World} {p : Nat} {c0 c1 c2 c3 c4 c5 c6 c7 c8 c9 c10 c11 c12 c13 c14 c15 c16 c17 c18 c19 c20 c21 : Value} {t : TypeId} (h : w.heap[p]? = some (.cells #[c0, c1, c2, c3, c4, c5, c6, c7, c8, c9, c10, c11, c12, c13, c14, c15, c16, c17, c18, c19, c20, c21] t (0, 0))) (u : Value) : (w.setCell ⟨p, 4, none⟩ u).heap[p]? = some (.cells #[c0, c1, c2, c3, u, c5, c6, c7, c8, c9, c10, c11, c12, c13, c14, c15, c16, c17, c18, c19, c20, c21] t (0, 0)) := by
  have hlt := block_lt h
  have h' : w.heap[p] = .cells #[c0, c1, c2, c3, c4, c5, c6, c7, c8, c9, c10, c11, c12, c13, c14, c15, c16, c17, c18, c19, c20, c21] t (0, 0) := by simpa [Array.getElem?_eq_getElem hlt] using h
  show (w.heap.modify p _)[p]? = _
  rw [Array.getElem?_eq_getElem (by simpa using hlt), Array.getElem_modify_self, h']
  rfl
theorem req_set5 {w : World} {p : Nat} {c0 c1 c2 c3 c4 c5 c6 c7 c8 c9 c10 c11 c12 c13 c14 c15 c16 c17 c18 c19 c20 c21 : Value} {t : TypeId} (h : w.heap[p]? = some (.cells #[c0, c1, c2, c3, c4, c5, c6, c7, c8, c9, c10, c11, c12, c13, c14, c15, c16, c17, c18, c19, c20, c21] t (0, 0))) (u : Value) : (w.setCell ⟨p, 5, none⟩ u).heap[p]? = some (.cells #[c0, c1, c2, c3, c4, u, c6, c7, c8, c9, c10, c11, c12, c13, c14, c15, c16, c17, c18, c19, c20, c21] t (0, 0)) := by
  have hlt := block_lt h
  have h' : w.heap[p] = .cells #[c0, c1, c2, c3, c4, c5, c6, c7, c8, c9, c10, c11, c12, c13, c14, c15, c16, c17, c18, c19, c20, c21] t (0, 0) := by simpa [Array.getElem?_eq_getElem hlt] using h
  show (w.heap.modify p _)[p]? = _
  rw [Array.getElem?_eq_getElem (by simpa using hlt), Array.getElem_modify_self, h']
  rfl
theorem req_set6 {w : World} {p : Nat} {c0 c1 c2 c3 c4 c5 c6 c7 c8 c9 c10 c11 c12 c13 c14 c15 c16 c17 c18 c19 c20 c21 : Value} {t : TypeId} (h : w.heap[p]? = some (.cells #[c0, c1, c2, c3, c4, c5, c6, c7, c8, c9, c10, c11, c12, c13, c14, c15, c16, c17, c18, c19, c20, c21] t (0, 0))) (u : Value) : (w.setCell ⟨p, 6, none⟩ u).heap[p]? = some (.cells #[c0, c1, c2, c3, c4, c5, u, c7, c8, c9, c10, c11, c12, c13, c14, c15, c16, c17, c18, c19, c20, c21] t (0, 0)) := by
  have hlt := block_lt h
  have h' : w.heap[p] = .cells #[c0, c1, c2, c3, c4, c5, c6, c7, c8, c9, c10, c11, c12, c13, c14, c15, c16, c17, c18, c19, c20, c21] t (0, 0) := by simpa [Array.getElem?_eq_getElem hlt] using h
  show (w.heap.modify p _)[p]? = _
  rw [Array.getElem?_eq_getElem (by simpa using hlt), Array.getElem_modify_self, h']
  rfl
theorem req_set7 {w : World} {p : Nat} {c0 c1 c2 c3 c4 c5 c6 c7 c8 c9 c10 c11 c12 c13 c14 c15 c16 c17 c18 c19 c20 c21 : Value} {t : TypeId} (h : w.heap[p]? = some (.cells #[c0, c1, c2, c3, c4, c5, c6, c7, c8, c9, c10, c11, c12, c13, c14, c15, c16, c17, c18, c19, c20, c21] t (0, 0))) (u : Value) : (w.setCell ⟨p, 7, none⟩ u).heap[p]? = some (.cells #[c0, c1, c2, c3, c4, c5, c6, u, c8, c9, c10, c11, c12, c13, c14, c15, c16, c17, c18, c19, c20, c21] t (0, 0)) := by
  have hlt := block_lt h
  have h' : w.heap[p] = .cells #[c0, c1, c2, c3, c4, c5, c6, c7, c8, c9, c10, c11, c12, c13, c14, c15, c16, c17, c18, c19, c20, c21] t (0, 0) := by simpa [Array.getElem?_eq_getElem hlt] using h
  show (w.heap.modify p _)[p]? = _
  rw [Array.getElem?_eq_getElem (by simpa using hlt), Array.getElem_modify_self, h']
  rfl
theorem req_set8 {w : World} {p : Nat} {c0 c1 c2 c3 c4 c5 c6 c7 c8 c9 c10 c11 c12 c13 c14 c15 c16 c17 c18 c19 c20 c21 : Value} {t : TypeId} (h : w.heap[p]? = some (.cells #[c0, c1, c2, c3, c4, c5, c6, c7, c8, c9, c10, c11, c12, c13, c14, c15, c16, c17, c18, c19, c20, c21] t (0, 0))) (u : Value) : (w.setCell ⟨p, 8, none⟩ u).heap[p]? = some (.cells #[c0, c1, c2, c3, c4, c5, c6, c7, u, c9, c10, c11, c12, c13, c14, c15, c16, c17, c18, c19, c20, c21] t (0, 0)) := by
  have hlt := block_lt h
  have h' : w.heap[p] = .cells #[c0, c1, c2, c3, c4, c5, c6, c7, c8, c9, c10, c11, c12, c13, c14, c15, c16, c17, c18, c19, c20, c21] t (0, 0) := by simpa [Array.getElem?_eq_getElem hlt] using h
  show (w.heap.modify p _)[p]? = _
  rw [Array.getElem?_eq_getElem (by simpa using hlt), Array.getElem_modify_self, h']
  rfl
theorem req_set9 {w : World} {p : Nat} {c0 c1 c2 c3 c4 c5 c6 c7 c8 c9 c10 c11 c12 c13 c14 c15 c16 c17 c18 c19 c20 c21 : Value} {t : TypeId} (h : w.heap[p]? = some (.cells #[c0, c1, c2, c3, c4, c5, c6, c7, c8, c9, c10, c11, c12, c13, c14, c15, c16, c17, c18, c19, c20, c21] t (0, 0))) (u : Value) : (w.setCell ⟨p, 9, none⟩ u).heap[p]? = some (.cells #[c0, c1, c2, c3, c4, c5, c6, c7, c8, u, c10, c11, c12, c13, c14, c15, c16, c17, c18, c19, c20, c21] t (0, 0)) := by
  have hlt := block_lt h
  have h' : w.heap[p] = .cells #[c0, c1, c2, c3, c4, c5, c6, c7, c8, c9, c10, c11, c12, c13, c14, c15, c16, c17, c18, c19, c20, c21] t (0, 0) := by simpa [Array.getElem?_eq_getElem hlt] using h
  show (w.heap.modify p _)[p]? = _
  rw [Array.getElem?_eq_getElem (by simpa using hlt), Array.getElem_modify_self, h']
  rfl
theorem req_set10 {w : World} {p : Nat} {c0 c1 c2 c3 c4 c5 c6 c7 c8 c9 c10 c11 c12 c13 c14 c15 c16 c17 c18 c19 c20 c21 : Value} {t : TypeId} (h : w.heap[p]? = some (.cells #[c0, c1, c2, c3, c4, c5, c6, c7, c8, c9, c10, c11, c12, c13, c14, c15, c16, c17, c18, c19, c20, c21] t (0, 0))) (u : Value) : (w.setCell ⟨p, 10, none⟩ u).heap[p]? = some (.cells #[c0, c1, c2, c3, c4, c5, c6, c7, c8, c9, u, c11, c12, c13, c14, c15, c16, c17, c18, c19, c20, c21] t (0, 0)) := by
  have hlt := block_lt h
  have h' : w.heap[p] = .cells #[c0, c1, c2, c3, c4, c5, c6, c7, c8, c9, c10, c11, c12, c13, c14, c15, c16, c17, c18, c19, c20, c21] t (0, 0) := by simpa [Array.getElem?_eq_getElem hlt] using h
  show (w.heap.modify p _)[p]? = _
  rw [Array.getElem?_eq_getElem (by simpa using hlt), Array.getElem_modify_self, h']
  rfl
theorem req_set11 {w : World} {p : Nat} {c0 c1 c2 c3 c4 c5 c6 c7 c8 c9 c10 c11 c12 c13 c14 c15 c16 c17 c18 c19 c20 c21 : Value} {t : TypeId} (h : w.heap[p]? = some (.cells #[c0, c1, c2, c3, c4, c5, c6, c7, c8, c9, c10, c11, c12, c13, c14, c15, c16, c17, c18, c19, c20, c21] t (0, 0))) (u : Value) : (w.setCell ⟨p, 11, none⟩ u).heap[p]? = some (.cells #[c0, c1, c2, c3, c4, c5, c6, c7, c8, c9, c10, u, c12, c13, c14, c15, c16, c17, c18, c19, c20, c21] t (0, 0)) := by
  have hlt := block_lt h
  have h' : w.heap[p] = .cells #[c0, c1, c2, c3, c4, c5, c6, c7, c8, c9, c10, c11, c12, c13, c14, c15, c16, c17, c18, c19, c20, c21] t (0, 0) := by simpa [Array.getElem?_eq_getElem hlt] using h
  show (w.heap.modify p _)[p]? = _
  rw [Array.getElem?_eq_getElem (by simpa using hlt), Array.getElem_modify_self, h']
  rfl
theorem req_set12 {w : World} {p : Nat} {c0 c1 c2 c3 c4 c5 c6 c7 c8 c9 c10 c11 c12 c13 c14 c15 c16 c17 c18 c19 c20 c21 : Value} {t : TypeId} (h : w.heap[p]? = some (.cells #[c0, c1, c2, c3, c4, c5, c6, c7, c8, c9, c10, c11, c12, c13, c14, c15, c16, c17, c18, c19, c20, c21] t (0, 0))) (u : Value) : (w.setCell ⟨p, 12, none⟩ u).heap[p]? = some (.cells #[c0, c1, c2, c3, c4, c5, c6, c7, c8, c9, c10, c11, u, c13, c14, c15, c16, c17, c18, c19, c20, c21] t (0, 0)) := by
  have hlt := block_lt h
  have h' : w.heap[p] = .cells #[c0, c1, c2, c3, c4, c5, c6, c7, c8, c9, c10, c11, c12, c13, c14, c15, c16, c17, c18, c19, c20, c21] t (0, 0) := by simpa [Array.getElem?_eq_getElem hlt] using h
  show (w.heap.modify p _)[p]? = _
  rw [Array.getElem?_eq_getElem (by simpa using hlt), Array.getElem_modify_self, h']
  rfl
theorem req_set13 {w : World} {p : Nat} {c0 c1 c2 c3 c4 c5 c6 c7 c8 c9 c10 c11 c12 c13 c14 c15 c16 c17 c18 c19 c20 c21 : Value} {t : TypeId} (h : w.heap[p]? = some (.cells #[c0, c1, c2, c3, c4, c5, c6, c7, c8, c9, c10, c11, c12, c13, c14, c15, c16, c17, c18, c19, c20, c21] t (0, 0))) (u : Value) : (w.setCell ⟨p, 13, none⟩ u).heap[p]? = some (.cells #[c0, c1, c2, c3, c4, c5, c6, c7, c8, c9, c10, c11, c12, u, c14, c15, c16, c17, c18, c19, c20, c21] t (0, 0)) := by
  have hlt := block_lt h
  have h' : w.heap[p] = .cells #[c0, c1, c2, c3, c4, c5, c6, c7, c8, c9, c10, c11, c12, c13, c14, c15, c16, c17, c18, c19, c20, c21] t (0, 0) := by simpa [Array.getElem?_eq_getElem hlt] using h
  show (w.heap.modify p _)[p]? = _
  rw [Array.getElem?_eq_getElem (by simpa using hlt), Array.getElem_modify_self, h']
  rfl
theorem req_set14 {w : World} {p : Nat} {c0 c1 c2 c3 c4 c5 c6 c7 c8 c9 c10 c11 c12 c13 c14 c15 c16 c17 c18 c19 c20 c21 : Value} {t : TypeId} (h : w.heap[p]? = some (.cells #[c0, c1, c2, c3, c4, c5, c6, c7, c8, c9, c10, c11, c12, c13, c14, c15, c16, c17, c18, c19, c20, c21] t (0, 0))) (u : Value) : (w.setCell ⟨p, 14, none⟩ u).heap[p]? = some (.cells #[c0, c1, c2, c3, c4, c5, c6, c7, c8, c9, c10, c11, c12, c13, u, c15, c16, c17, c18, c19, c20, c21] t (0, 0)) := by
  have hlt := block_lt h
  have h' : w.heap[p] = .cells #[c0, c1, c2, c3, c4, c5, c6, c7, c8, c9, c10, c11, c12, c13, c14, c15, c16, c17, c18, c19, c20, c21] t (0, 0) := by simpa [Array.getElem?_eq_getElem hlt] using h
  show (w.heap.modify p _)[p]? = _
  rw [Array.getElem?_eq_getElem (by simpa using hlt), Array.getElem_modify_self, h']
  rfl
theorem req_set15 {w : World} {p : Nat} {c0 c1 c2 c3 c4 c5 c6 c7 c8 c9 c10 c11 c12 c13 c14 c15 c16 c17 c18 c19 c20 c21 : Value} {t : TypeId} (h : w.heap[p]? = some (.cells #[c0, c1, c2, c3, c4, c5, c6, c7, c8, c9, c10, c11, c12, c13, c14, c15, c16, c17, c18, c19, c20, c21] t (0, 0))) (u : Value) : (w.setCell ⟨p, 15, none⟩ u).heap[p]? = some (.cells #[c0, c1, c2, c3, c4, c5, c6, c7, c8, c9, c10, c11, c12, c13, c14, u, c16, c17, c18, c19, c20, c21] t (0, 0)) := by
  have hlt := block_lt h
  have h' : w.heap[p] = .cells #[c0, c1, c2, c3, c4, c5, c6, c7, c8, c9, c10, c11, c12, c13, c14, c15, c16, c17, c18, c19, c20, c21] t (0, 0) := by simpa [Array.getElem?_eq_getElem hlt] using h
  show (w.heap.modify p _)[p]? = _
  rw [Array.getElem?_eq_getElem (by simpa using hlt), Array.getElem_modify_self, h']
  rfl
theorem req_set16 {w : World} {p : Nat} {c0 c1 c2 c3 c4 c5 c6 c7 c8 c9 c10 c11 c12 c13 c14 c15 c16 c17 c18 c19 c20 c21 : Value} {t : TypeId} (h : w.heap[p]? = some (.cells #[c0, c1, c2, c3, c4, c5, c6, c7, c8, c9, c10, c11, c12, c13, c14, c15, c16, c17, c18, c19, c20, c21] t (0, 0))) (u : Value) : (w.setCell ⟨p, 16, none⟩ u).heap[p]? = some (.cells #[c0, c1, c2, c3, c4, c5, c6, c7, c8, c9, c10, c11, c12, c13, c14, c15, u, c17, c18, c19, c20, c21] t (0, 0)) := by
  have hlt := block_lt h
  have h' : w.heap[p] = .cells #[c0, c1, c2, c3, c4, c5, c6, c7, c8, c9, c10, c11, c12, c13, c14, c15, c16, c17, c18, c19, c20, c21] t (0, 0) := by simpa [Array.getElem?_eq_getElem hlt] using h
  show (w.heap.modify p _)[p]? = _
  rw [Array.getElem?_eq_getElem (by simpa using hlt), Array.getElem_modify_self, h']
  rfl
theorem req_set17 {w : World} {p : Nat} {c0 c1 c2 c3 c4 c5 c6 c7 c8 c9 c10 c11 c12 c13 c14 c15 c16 c17 c18 c19 c20 c21 : Value} {t : TypeId} (h : w.heap[p]? = some (.cells #[c0, c1, c2, c3, c4, c5, c6, c7, c8, c9, c10, c11, c12, c13, c14, c15, c16, c17, c18, c19, c20, c21] t (0, 0))) (u : Value) : (w.setCell ⟨p, 17, none⟩ u).heap[p]? = some (.cells #[c0, c1, c2, c3, c4, c5, c6, c7, c8, c9, c10, c11, c12, c13, c14, c15, c16, u, c18, c19, c20, c21] t (0, 0)) := by
  have hlt := block_lt h
  have h' : w.heap[p] = .cells #[c0, c1, c2, c3, c4, c5, c6, c7, c8, c9, c10, c11, c12, c13, c14, c15, c16, c17, c18, c19, c20, c21] t (0, 0) := by simpa [Array.getElem?_eq_getElem hlt] using h
  show (w.heap.modify p _)[p]? = _
  rw [Array.getElem?_eq_getElem (by simpa using hlt), Array.getElem_modify_self, h']
  rfl
theorem req_set18 {w : World} {p : Nat} {c0 c1 c2 c3 c4 c5 c6 c7 c8 c9 c10 c11 c12 c13 c14 c15 c16 c17 c18 c19 c20 c21 : Value} {t : TypeId} (h : w.heap[p]? = some (.cells #[c0, c1, c2, c3, c4, c5, c6, c7, c8, c9, c10, c11, c12, c13, c14, c15, c16, c17, c18, c19, c20, c21] t (0, 0))) (u : Value) : (w.setCell ⟨p, 18, none⟩ u).heap[p]? = some (.cells #[c0, c1, c2, c3, c4, c5, c6, c7, c8, c9, c10, c11, c12, c13, c14, c15, c16, c17, u, c19, c20, c21] t (0, 0)) := by
  have hlt := block_lt h
  have h' : w.heap[p] = .cells #[c0, c1, c2, c3, c4, c5, c6, c7, c8, c9, c10, c11, c12, c13, c14, c15, c16, c17, c18, c19, c20, c21] t (0, 0) := by simpa [Array.getElem?_eq_getElem hlt] using h
  show (w.heap.modify p _)[p]? = _
  rw [Array.getElem?_eq_getElem (by simpa using hlt), Array.getElem_modify_self, h']
  rfl
theorem req_set19 {w : World} {p : Nat} {c0 c1 c2 c3 c4 c5 c6 c7 c8 c9 c10 c11 c12 c13 c14 c15 c16 c17 c18 c19 c20 c21 : Value} {t : TypeId} (h : w.heap[p]? = some (.cells #[c0, c1, c2, c3, c4, c5, c6, c7, c8, c9, c10, c11, c12, c13, c14, c15, c16, c17, c18, c19, c20, c21] t (0, 0))) (u : Value) : (w.setCell ⟨p, 19, none⟩ u).heap[p]? = some (.cells #[c0, c1, c2, c3, c4, c5, c6, c7, c8, c9, c10, c11, c12, c13, c14, c15, c16, c17, c18, u, c20, c21] t (0, 0)) := by
  have hlt := block_lt h
  have h' : w.heap[p] = .cells #[c0, c1, c2, c3, c4, c5, c6, c7, c8, c9, c10, c11, c12, c13, c14, c15, c16, c17, c18, c19, c20, c21] t (0, 0) := by simpa [Array.getElem?_eq_getElem hlt] using h
  show (w.heap.modify p _)[p]? = _
  rw [Array.getElem?_eq_getElem (by simpa using hlt), Array.getElem_modify_self, h']
  rfl
theorem req_set20 {w : World} {p : Nat} {c0 c1 c2 c3 c4 c5 c6 c7 c8 c9 c10 c11 c12 c13 c14 c15 c16 c17 c18 c19 c20 c21 : Value} {t : TypeId} (h : w.heap[p]? = some (.cells #[c0, c1, c2, c3, c4, c5, c6, c7, c8, c9, c10, c11, c12, c13, c14, c15, c16, c17, c18, c19, c20, c21] t (0, 0))) (u : Value) : (w.setCell ⟨p, 20, none⟩ u).heap[p]? = some (.cells #[c0, c1, c2, c3, c4, c5, c6, c7, c8, c9, c10, c11, c12, c13, c14, c15, c16, c17, c18, c19, u, c21] t (0, 0)) := by
  have hlt := block_lt h
  have h' : w.heap[p] = .cells #[c0, c1, c2, c3, c4, c5, c6, c7, c8, c9, c10, c11, c12, c13, c14, c15, c16, c17, c18, c19, c20, c21] t (0, 0) := by simpa [Array.getElem?_eq_getElem hlt] using h
  show (w.heap.modify p _)[p]? = _
  rw [Array.getElem?_eq_getElem (by simpa using hlt), Array.getElem_modify_self, h']
  rfl
theorem req_set21 {w : World} {p : Nat} {c0 c1 c2 c3 c4 c5 c6 c7 c8 c9 c10 c11 c12 c13 c14 c15 c16 c17 c18 c19 c20 c21 : Value} {t : TypeId} (h : w.heap[p]? = some (.cells #[c0, c1, c2, c3, c4, c5, c6, c7, c8, c9, c10, c11, c12, c13, c14, c15, c16, c17, c18, c19, c20, c21] t (0, 0))) (u : Value) : (w.setCell ⟨p, 21, none⟩ u).heap[p]? = some (.cells #[c0, c1, c2, c3, c4, c5, c6, c7, c8, c9, c10, c11, c12, c13, c14, c15, c16, c17, c18, c19, c20, u] t (0, 0)) := by
  have hlt := block_lt h
  have h' : w.heap[p] = .cells #[c0, c1, c2, c3, c4, c5, c6, c7, c8, c9, c10, c11, c12, c13, c14, c15, c16, c17, c18, c19, c20, c21] t (0, 0) := by simpa [Array.getElem?_eq_getElem hlt] using h
  show (w.heap.modify p _)[p]? = _
  rw [Array.getElem?_eq_getElem (by simpa using hlt), Array.getElem_modify_self, h']
  rfl
theorem req_frozen {w : World} {q : Nat} {c0 c1 c2 c3 c4 c5 c6 c7 c8 c9 c10 c11 c12 c13 c14 c15 c16 c17 c18 c19 c20 c21 : Value} {t : TypeId} (h : w.heap[q]? = some (.cells #[c0, c1, c2, c3, c4, c5, c6, c7, c8, c9, c10, c11, c12, c13, c14, c15, c16, c17, c18, c19, c20, c21] t (0, 0))) :
    w.frozen? ⟨q, 0, none⟩ = false ∧ w.frozen? ⟨q, 1, none⟩ = false ∧ w.frozen? ⟨q, 2, none⟩ = false ∧ w.frozen? ⟨q, 3, none⟩ = false ∧ w.frozen? ⟨q, 4, none⟩ = false ∧ w.frozen? ⟨q, 5, none⟩ = false ∧ w.frozen? ⟨q, 6, none⟩ = false ∧ w.frozen? ⟨q, 7, none⟩ = false ∧ w.frozen? ⟨q, 8, none⟩ = false ∧ w.frozen? ⟨q, 9, none⟩ = false ∧ w.frozen? ⟨q, 10, none⟩ = false ∧ w.frozen? ⟨q, 11, none⟩ = false ∧ w.frozen? ⟨q, 12, none⟩ = false ∧ w.frozen? ⟨q, 13, none⟩ = false ∧ w.frozen? ⟨q, 14, none⟩ = false ∧ w.frozen? ⟨q, 15, none⟩ = false ∧ w.frozen? ⟨q, 16, none⟩ = false ∧ w.frozen? ⟨q, 17, none⟩ = false ∧ w.frozen? ⟨q, 18, none⟩ = false ∧ w.frozen? ⟨q, 19, none⟩ = false ∧ w.frozen? ⟨q, 20, none⟩ = false ∧ w.frozen? ⟨q, 21, none⟩ = false := by
  refine ⟨?_, ?_, ?_, ?_, ?_, ?_, ?_, ?_, ?_, ?_, ?_, ?_, ?_, ?_, ?_, ?_, ?_, ?_, ?_, ?_, ?_, ?_⟩ <;> simp [World.frozen?, h]

theorem req_fill {w : World} {q : Nat} {c0 c1 c2 c3 c4 c5 c6 c7 c8 c9 c10 c11 c12 c13 c14 c15 c16 c17 c18 c19 c20 c21 : Value} {t : TypeId} (h : w.heap[q]? = some (.cells #[c0, c1, c2, c3, c4, c5, c6, c7, c8, c9, c10, c11, c12, c13, c14, c15, c16, c17, c18, c19, c20, c21] t (0, 0))) (x0 x1 x2 x3 x4 x5 x6 x7 x8 x9 x10 x11 x12 x13 x14 x15 x16 x17 x18 x19 x20 x21 : Value) :
    (((((((((((((((((((((((w.setCell ⟨q, 0, none⟩ x0).setCell ⟨q, 1, none⟩ x1).setCell ⟨q, 2, none⟩ x2).setCell ⟨q, 3, none⟩ x3).setCell ⟨q, 4, none⟩ x4).setCell ⟨q, 5, none⟩ x5).setCell ⟨q, 6, none⟩ x6).setCell ⟨q, 7, none⟩ x7).setCell ⟨q, 8, none⟩ x8).setCell ⟨q, 9, none⟩ x9).setCell ⟨q, 10, none⟩ x10).setCell ⟨q, 11, none⟩ x11).setCell ⟨q, 12, none⟩ x12).setCell ⟨q, 13, none⟩ x13).setCell ⟨q, 14, none⟩ x14).setCell ⟨q, 15, none⟩ x15).setCell ⟨q, 16, none⟩ x16).setCell ⟨q, 17, none⟩ x17).setCell ⟨q, 18, none⟩ x18).setCell ⟨q, 19, none⟩ x19).setCell ⟨q, 20, none⟩ x20).setCell ⟨q, 21, none⟩ x21)).heap[q]? = some (.cells #[x0, x1, x2, x3, x4, x5, x6, x7, x8, x9, x10, x11, x12, x13, x14, x15, x16, x17, x18, x19, x20, x21] t (0, 0)) ∧ Kept (fun k => k = q) w ((((((((((((((((((((((w.setCell ⟨q, 0, none⟩ x0).setCell ⟨q, 1, none⟩ x1).setCell ⟨q, 2, none⟩ x2).setCell ⟨q, 3, none⟩ x3).setCell ⟨q, 4, none⟩ x4).setCell ⟨q, 5, none⟩ x5).setCell ⟨q, 6, none⟩ x6).setCell ⟨q, 7, none⟩ x7).setCell ⟨q, 8, none⟩ x8).setCell ⟨q, 9, none⟩ x9).setCell ⟨q, 10, none⟩ x10).setCell ⟨q, 11, none⟩ x11).setCell ⟨q, 12, none⟩ x12).setCell ⟨q, 13, none⟩ x13).setCell ⟨q, 14, none⟩ x14).setCell ⟨q, 15, none⟩ x15).setCell ⟨q, 16, none⟩ x16).setCell ⟨q, 17, none⟩ x17).setCell ⟨q, 18, none⟩ x18).setCell ⟨q, 19, none⟩ x19).setCell ⟨q, 20, none⟩ x20).setCell ⟨q, 21, none⟩ x21) := ⟨(req_set21 (req_set20 (req_set19 (req_set18 (req_set17 (req_set16 (req_set15 (req_set14 (req_set13 (req_set12 (req_set11 (req_set10 (req_set9 (req_set8 (req_set7 (req_set6 (req_set5 (req_set4 (req_set3 (req_set2 (req_set1 (req_set0 h x0) x1) x2) x3) x4) x5) x6) x7) x8) x9) x10) x11) x12) x13) x14) x15) x16) x17) x18) x19) x20) x21), (((((((((((((((((((((((Kept.refl (fun k => k = q) w).setCell (p := ⟨q, 0, none⟩) (fun _ => rfl) _).setCell (p := ⟨q, 1, none⟩) (fun _ => rfl) _).setCell (p := ⟨q, 2, none⟩) (fun _ => rfl) _).setCell (p := ⟨q, 3, none⟩) (fun _ => rfl) _).setCell (p := ⟨q, 4, none⟩) (fun _ => rfl) _).setCell (p := ⟨q, 5, none⟩) (fun _ => rfl) _).setCell (p := ⟨q, 6, none⟩) (fun _ => rfl) _).setCell (p := ⟨q, 7, none⟩) (fun _ => rfl) _).setCell (p := ⟨q, 8, none⟩) (fun _ => rfl) _).setCell (p := ⟨q, 9, none⟩) (fun _ => rfl) _).setCell (p := ⟨q, 10, none⟩) (fun _ => rfl) _).setCell (p := ⟨q, 11, none⟩) (fun _ => rfl) _).setCell (p := ⟨q, 12, none⟩) (fun _ => rfl) _).setCell (p := ⟨q, 13, none⟩) (fun _ => rfl) _).setCell (p := ⟨q, 14, none⟩) (fun _ => rfl) _).setCell (p := ⟨q, 15, none⟩) (fun _ => rfl) _).setCell (p := ⟨q, 16, none⟩) (fun _ => rfl) _).setCell (p := ⟨q, 17, none⟩) (fun _ => rfl) _).setCell (p := ⟨q, 18, none⟩) (fun _ => rfl) _).setCell (p := ⟨q, 19, none⟩) (fun _ => rfl) _).setCell (p := ⟨q, 20, none⟩) (fun _ => rfl) _).setCell (p := ⟨q, 21, none⟩) (fun _ => rfl) _)⟩

theorem req_fillP {w : World} {q : Nat} {c0 c1 c2 c3 c4 c5 c6 c7 c8 c9 c10 c11 c12 c13 c14 c15 c16 c17 c18 c19 c20 c21 : Value} {t : TypeId} (h : w.heap[q]? = some (.cells #[c0, c1, c2, c3, c4, c5, c6, c7, c8, c9, c10, c11, c12, c13, c14, c15, c16, c17, c18, c19, c20, c21] t (0, 0))) (x4 x5 x6 x7 x8 x9 x10 x11 x12 x13 x14 x15 x16 : Value) :
    ((((((((((((((w.setCell ⟨q, 4, none⟩ x4).setCell ⟨q, 5, none⟩ x5).setCell ⟨q, 6, none⟩ x6).setCell ⟨q, 7, none⟩ x7).setCell ⟨q, 8, none⟩ x8).setCell ⟨q, 9, none⟩ x9).setCell ⟨q, 10, none⟩ x10).setCell ⟨q, 11, none⟩ x11).setCell ⟨q, 12, none⟩ x12).setCell ⟨q, 13, none⟩ x13).setCell ⟨q, 14, none⟩ x14).setCell ⟨q, 15, none⟩ x15).setCell ⟨q, 16, none⟩ x16)).heap[q]? = some (.cells #[c0, c1, c2, c3, x4, x5, x6, x7, x8, x9, x10, x11, x12, x13, x14, x15, x16, c17, c18, c19, c20, c21] t (0, 0)) ∧ Kept (fun k => k = q) w (((((((((((((w.setCell ⟨q, 4, none⟩ x4).setCell ⟨q, 5, none⟩ x5).setCell ⟨q, 6, none⟩ x6).setCell ⟨q, 7, none⟩ x7).setCell ⟨q, 8, none⟩ x8).setCell ⟨q, 9, none⟩ x9).setCell ⟨q, 10, none⟩ x10).setCell ⟨q, 11, none⟩ x11).setCell ⟨q, 12, none⟩ x12).setCell ⟨q, 13, none⟩ x13).setCell ⟨q, 14, none⟩ x14).setCell ⟨q, 15, none⟩ x15).setCell ⟨q, 16, none⟩ x16) := ⟨(req_set16 (req_set15 (req_set14 (req_set13 (req_set12 (req_set11 (req_set10 (req_set9 (req_set8 (req_set7 (req_set6 (req_set5 (req_set4 h x4) x5) x6) x7) x8) x9) x10) x11) x12) x13) x14) x15) x16), ((((((((((((((Kept.refl (fun k => k = q) w).setCell (p := ⟨q, 4, none⟩) (fun _ => rfl) _).setCell (p := ⟨q, 5, none⟩) (fun _ => rfl) _).setCell (p := ⟨q, 6, none⟩) (fun _ => rfl) _).setCell (p := ⟨q, 7, none⟩) (fun _ => rfl) _).setCell (p := ⟨q, 8, none⟩) (fun _ => rfl) _).setCell (p := ⟨q, 9, none⟩) (fun _ => rfl) _).setCell (p := ⟨q, 10, none⟩) (fun _ => rfl) _).setCell (p := ⟨q, 11, none⟩) (fun _ => rfl) _).setCell (p := ⟨q, 12, none⟩) (fun _ => rfl) _).setCell (p := ⟨q, 13, none⟩) (fun _ => rfl) _).setCell (p := ⟨q, 14, none⟩) (fun _ => rfl) _).setCell (p := ⟨q, 15, none⟩) (fun _ => rfl) _).setCell (p := ⟨q, 16, none⟩) (fun _ => rfl) _)⟩

theorem RunG.at {F : Nat → Prop} {w : World} {a : Option Addr} {l c : Nat} {vs : List Vl} {na : Option Addr} {nl nc : Nat} {ns : List ByteArray} {sa : Option Addr} {sl sc : Nat} {sb : ByteArray} (h : RunG F w a l c vs na nl nc ns sa sl sc sb) {co pn sr tm : Int}
    (hr : (0 ≤ co ∧ co ≤ 65535) ∧ (-2147483648 ≤ pn ∧ pn ≤ 2147483647) ∧ (0 ≤ sr ∧ sr ≤ 65535) ∧ (-9223372036854775808 ≤ tm ∧ tm ≤ 9223372036854775807)) (b2 b4 b8 b16 b32 : Bool) (sk1 : Int) :
    RunAt w a l c na nl nc sa sl sc (co, vs, ns, b2, b4, pn, b8, (sk1, sb), b16, sr, b32, tm) := by
  obtain ⟨h1, h2, h3, _⟩ := h
  obtain ⟨a', c', e1, hV⟩ := h1.view gv_v
  obtain ⟨na', nc', e2, hN⟩ := h2.view gs_s
  cases e1
  cases e2
  exact ⟨hV, hN, h3, hr.1, hr.2.2.1, hr.2.1, hr.2.2.2⟩

theorem run_zero (w : World) : RunAt w none 0 0 none 0 0 none 0 0 default := ⟨view_nil _ _ _, view_nil _ _ _, isB_nil _, ⟨by decide, by decide⟩, ⟨by decide, by decide⟩, ⟨by decide, by decide⟩, ⟨by decide, by decide⟩⟩

theorem rq_zero (w : World) (op : Int) (h : 0 ≤ op ∧ op ≤ 255) : RqAt w none 0 0 none 0 0 none 0 0 none 0 0 none 0 0 none 0 0 none 0 0 none 0 0 (rq0 op) :=
  ⟨h, view_nil _ _ _, isB_nil _, run_zero w, view_nil _ _ _, isB_nil _, ⟨Int.le_refl 0, show (0 : Int) ≤ 255 by decide⟩, view_nil _ _ _⟩

/-- The error of a body, by the reader's last state. -/
def lastE (S : BE) : Int := if S.2 = 0 then (if 0 < S.1.length then 23 else 0) else S.2

theorem getE_last (op : Int) (zs : List Int) : getE op zs = lastE (stepR (getR op) (zs, 0)) := by
  unfold getE lastE stepR
  simp only
  by_cases h : (getR op zs).err = 0
  · simp only [h, if_true, List.length_drop]
    by_cases h2 : (getR op zs).done < zs.length
    · rw [if_pos h2, if_pos (by omega)]
    · rw [if_neg h2, if_neg (by omega)]
  · simp only [h, if_false, if_true]

theorem lastE_ok {S : BE} (h : lastE S = 0) : S.2 = 0 := by
  unfold lastE at h
  by_cases h1 : S.2 = 0
  · exact h1
  · rw [if_neg h1] at h; exact absurd h h1

theorem g1 (S : BE) : stepR (getR 1) S = stepR (listR (keyR textR)) S ∧ ((stepR (getR 1) S).2 = 0 → (getR 1 S.1).val = (1, (listR (keyR textR) S.1).val, ByteArray.empty, ByteArray.empty, default, [], (0, ByteArray.empty), 0, [])) := by
  have e : getR 1 = bindR (listR (keyR textR)) fun o => pureR (1, o, ByteArray.empty, ByteArray.empty, default, [], (0, ByteArray.empty), 0, []) := rfl
  rw [e]
  refine ⟨by rw [step_bind]; exact step_pure _ (step_nrm _ _), fun h => by rw [bind_val _ _ _ h]; rfl⟩
theorem g11 (S : BE) : stepR (getR 11) S = stepR (listR textR) S ∧ ((stepR (getR 11) S).2 = 0 → (getR 11 S.1).val = (11, [], ByteArray.empty, ByteArray.empty, default, (listR textR S.1).val, (0, ByteArray.empty), 0, [])) := by
  have e : getR 11 = bindR (listR textR) fun es => pureR (11, [], ByteArray.empty, ByteArray.empty, default, es, (0, ByteArray.empty), 0, []) := rfl
  rw [e]
  refine ⟨by rw [step_bind]; exact step_pure _ (step_nrm _ _), fun h => by rw [bind_val _ _ _ h]; rfl⟩
theorem g15 (S : BE) : stepR (getR 15) S = stepR valueR S ∧ ((stepR (getR 15) S).2 = 0 → (getR 15 S.1).val = (15, [], ByteArray.empty, ByteArray.empty, default, [], (valueR S.1).val, 0, [])) := by
  have e : getR 15 = bindR valueR fun tk => pureR (15, [], ByteArray.empty, ByteArray.empty, default, [], tk, 0, []) := rfl
  rw [e]
  refine ⟨by rw [step_bind]; exact step_pure _ (step_nrm _ _), fun h => by rw [bind_val _ _ _ h]; rfl⟩
theorem g9 (S : BE) : stepR (getR 9) S = stepR longR S ∧ ((stepR (getR 9) S).2 = 0 → (getR 9 S.1).val = (9, [], (longR S.1).val, ByteArray.empty, default, [], (0, ByteArray.empty), 0, [])) := by
  have e : getR 9 = bindR longR fun t => pureR (9, [], t, ByteArray.empty, default, [], (0, ByteArray.empty), 0, []) := rfl
  rw [e]
  refine ⟨by rw [step_bind]; exact step_pure _ (step_nrm _ _), fun h => by rw [bind_val _ _ _ h]; rfl⟩
theorem g5 {S : BE} (hn : Nrm S) : stepR (getR 5) S = S ∧ (getR 5 S.1).val = rq0 5 := by
  have e : getR 5 = pureR (rq0 5) := rfl
  rw [e]
  exact ⟨step_pure _ hn, rfl⟩
theorem g7 (S : BE) : stepR (getR 7) S = stepR (runR false) (stepR longR S) ∧ ((stepR (getR 7) S).2 = 0 → (getR 7 S.1).val = (7, [], (longR S.1).val, ByteArray.empty, (runR false (stepR longR S).1).val, [], (0, ByteArray.empty), 0, [])) := by
  have e : getR 7 = bindR longR fun t => bindR (runR false) fun r => pureR (7, [], t, ByteArray.empty, r, [], (0, ByteArray.empty), 0, []) := rfl
  rw [e]
  refine ⟨by rw [step_bind, step_bind]; exact step_pure _ (step_nrm _ _), fun h => ?_⟩
  rw [bind_val _ _ _ h]
  rw [step_bind] at h
  rw [bind_val _ _ _ h]
  rfl
theorem g10 (S : BE) : stepR (getR 10) S = stepR (runR false) (stepR textR S) ∧ ((stepR (getR 10) S).2 = 0 → (getR 10 S.1).val = (10, [], ByteArray.empty, (textR S.1).val, (runR false (stepR textR S).1).val, [], (0, ByteArray.empty), 0, [])) := by
  have e : getR 10 = bindR textR fun i => bindR (runR false) fun r => pureR (10, [], ByteArray.empty, i, r, [], (0, ByteArray.empty), 0, []) := rfl
  rw [e]
  refine ⟨by rw [step_bind, step_bind]; exact step_pure _ (step_nrm _ _), fun h => ?_⟩
  rw [bind_val _ _ _ h]
  rw [step_bind] at h
  rw [bind_val _ _ _ h]
  rfl
theorem g13 (S : BE) : stepR (getR 13) S = stepR (runR true) (stepR (listR stR) (stepR kindR S)) ∧ ((stepR (getR 13) S).2 = 0 → (getR 13 S.1).val = (13, [], ByteArray.empty, ByteArray.empty, (runR true (stepR (listR stR) (stepR kindR S)).1).val, [], (0, ByteArray.empty), (kindR S.1).val, (listR stR (stepR kindR S).1).val)) := by
  have e : getR 13 = bindR kindR fun k => bindR (listR stR) fun a => bindR (runR true) fun r => pureR (13, [], ByteArray.empty, ByteArray.empty, r, [], (0, ByteArray.empty), k, a) := rfl
  rw [e]
  refine ⟨by rw [step_bind, step_bind, step_bind]; exact step_pure _ (step_nrm _ _), fun h => ?_⟩
  rw [bind_val _ _ _ h]
  rw [step_bind] at h
  rw [bind_val _ _ _ h]
  rw [step_bind] at h
  rw [bind_val _ _ _ h]
  rfl
theorem g_no {op : Int} (h1 : op ≠ 1) (h5 : op ≠ 5) (h7 : op ≠ 7) (h9 : op ≠ 9) (h10 : op ≠ 10) (h11 : op ≠ 11) (h13 : op ≠ 13) (h15 : op ≠ 15) : getR op = failR 22 := by
  unfold getR
  rw [if_neg h1, if_neg h5, if_neg h7, if_neg h9, if_neg h10, if_neg h11, if_neg h15, if_neg h13]
end Go.Proofs.Ytcecdklgiocbaaa
