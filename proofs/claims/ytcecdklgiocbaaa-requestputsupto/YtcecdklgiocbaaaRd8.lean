/-
  A run's block, cell by cell; what a run that was read leads to; what is read of a run, step by step.
-/
import Derived.Test.YtcecdklgiocbaaaRd7
namespace Go.Proofs.Ytcecdklgiocbaaa
open Go.RowKit
set_option maxRecDepth 100000
set_option linter.unusedVariables false
set_option linter.unusedSimpArgs false

theorem run_set0 {w : World} {p : Nat} {c0 c1 c2 c3 c4 c5 c6 c7 c8 c9 c10 c11 c12 : Value} {t : TypeId} (h : w.heap[p]? = some (.cells #[c0, c1, c2, c3, c4, c5, c6, c7, c8, c9, c10, c11, c12] t (0, 0))) (u : Value) : (w.setCell ⟨p, 0, none⟩ u).heap[p]? = some (.cells #[u, c1, c2, c3, c4, c5, c6, c7, c8, c9, c10, c11, c12] t (0, 0)) := by
  have hlt := block_lt h
  have h' : w.heap[p] = .cells #[c0, c1, c2, c3, c4, c5, c6, c7, c8, c9, c10, c11, c12] t (0, 0) := by simpa [Array.getElem?_eq_getElem hlt] using h
  show (w.heap.modify p _)[p]? = _
  rw [Array.getElem?_eq_getElem (by simpa using hlt), Array.getElem_modify_self, h']
  rfl
theorem run_set1 {w : World} {p : Nat} {c0 c1 c2 c3 c4 c5 c6 c7 c8 c9 c10 c11 c12 : Value} {t : TypeId} (h : w.heap[p]? = some (.cells #[c0, c1, c2, c3, c4, c5, c6, c7, c8, c9, c10, c11, c12] t (0, 0))) (u : Value) : (w.setCell ⟨p, 1, none⟩ u).heap[p]? = some (.cells #[c0, u, c2, c3, c4, c5, c6, c7, c8, c9, c10, c11, c12] t (0, 0)) := by
  have hlt := block_lt h
  have h' : w.heap[p] = .cells #[c0, c1, c2, c3, c4, c5, c6, c7, c8, c9, c10, c11, c12] t (0, 0) := by simpa [Array.getElem?_eq_getElem hlt] using h
  show (w.heap.modify p _)[p]? = _
  rw [Array.getElem?_eq_getElem (by simpa using hlt), Array.getElem_modify_self, h']
  rfl
theorem run_set2 {w : World} {p : Nat} {c0 c1 c2 c3 c4 c5 c6 c7 c8 c9 c10 c11 c12 : Value} {t : TypeId} (h : w.heap[p]? = some (.cells #[c0, c1, c2, c3, c4, c5, c6, c7, c8, c9, c10, c11, c12] t (0, 0))) (u : Value) : (w.setCell ⟨p, 2, none⟩ u).heap[p]? = some (.cells #[c0, c1, u, c3, c4, c5, c6, c7, c8, c9, c10, c11, c12] t (0, 0)) := by
  have hlt := block_lt h
  have h' : w.heap[p] = .cells #[c0, c1, c2, c3, c4, c5, c6, c7, c8, c9, c10, c11, c12] t (0, 0) := by simpa [Array.getElem?_eq_getElem hlt] using h
  show (w.heap.modify p _)[p]? = _
  rw [Array.getElem?_eq_getElem (by simpa using hlt), Array.getElem_modify_self, h']
  rfl
theorem run_set3 {w : World} {p : Nat} {c0 c1 c2 c3 c4 c5 c6 c7 c8 c9 c10 c11 c12 : Value} {t : TypeId} (h : w.heap[p]? = some (.cells #[c0, c1, c2, c3, c4, c5, c6, c7, c8, c9, c10, c11, c12] t (0, 0))) (u : Value) : (w.setCell ⟨p, 3, none⟩ u).heap[p]? = some (.cells #[c0, c1, c2, u, c4, c5, c6, c7, c8, c9, c10, c11, c12] t (0, 0)) := by
  have hlt := block_lt h
  have h' : w.heap[p] = .cells #[c0, c1, c2, c3, c4, c5, c6, c7, c8, c9, c10, c11, c12] t (0, 0) := by simpa [Array.getElem?_eq_getElem hlt] using h
  show (w.heap.modify p _)[p]? = _
  rw [Array.getElem?_eq_getElem (by simpa using hlt), Array.getElem_modify_self, h']
  rfl
theorem run_set4 {w : World} {p : Nat} {c0 c1 c2 c3 c4 c5 c6 c7 c8 c9 c10 c11 c12 : Value} {t : TypeId} (h : w.heap[p]? = some (.cells #[c0, c1, c2, c3, c4, c5, c6, c7, c8, c9, c10, c11, c12] t (0, 0))) (u : Value) : (w.setCell ⟨p, 4, none⟩ u).heap[p]? = some (.cells #[c0, c1, c2, c3, u, c5, c6, c7, c8, c9, c10, c11, c12] t (0, 0)) := by
  have hlt := block_lt h
  have h' : w.heap[p] = .cells #[c0, c1, c2, c3, c4, c5, c6, c7, c8, c9, c10, c11, c12] t (0, 0) := by simpa [Array.getElem?_eq_getElem hlt] using h
  show (w.heap.modify p _)[p]? = _
  rw [Array.getElem?_eq_getElem (by simpa using hlt), Array.getElem_modify_self, h']
  rfl
theorem run_set5 {w : World} {p : Nat} {c0 c1 c2 c3 c4 c5 c6 c7 c8 c9 c10 c11 c12 : Value} {t : TypeId} (h : w.heap[p]? = some (.cells #[c0, c1, c2, c3, c4, c5, c6, c7, c8, c9, c10, c11, c12] t (0, 0))) (u : Value) : (w.setCell ⟨p, 5, none⟩ u).heap[p]? = some (.cells #[c0, c1, c2, c3, c4, u, c6, c7, c8, c9, c10, c11, c12] t (0, 0)) := by
  have hlt := block_lt h
  have h' : w.heap[p] = .cells #[c0, c1, c2, c3, c4, c5, c6, c7, c8, c9, c10, c11, c12] t (0, 0) := by simpa [Array.getElem?_eq_getElem hlt] using h
  show (w.heap.modify p _)[p]? = _
  rw [Array.getElem?_eq_getElem (by simpa using hlt), Array.getElem_modify_self, h']
  rfl
theorem run_set6 {w : World} {p : Nat} {c0 c1 c2 c3 c4 c5 c6 c7 c8 c9 c10 c11 c12 : Value} {t : TypeId} (h : w.heap[p]? = some (.cells #[c0, c1, c2, c3, c4, c5, c6, c7, c8, c9, c10, c11, c12] t (0, 0))) (u : Value) : (w.setCell ⟨p, 6, none⟩ u).heap[p]? = some (.cells #[c0, c1, c2, c3, c4, c5, u, c7, c8, c9, c10, c11, c12] t (0, 0)) := by
  have hlt := block_lt h
  have h' : w.heap[p] = .cells #[c0, c1, c2, c3, c4, c5, c6, c7, c8, c9, c10, c11, c12] t (0, 0) := by simpa [Array.getElem?_eq_getElem hlt] using h
  show (w.heap.modify p _)[p]? = _
  rw [Array.getElem?_eq_getElem (by simpa using hlt), Array.getElem_modify_self, h']
  rfl
theorem run_set7 {w : World} {p : Nat} {c0 c1 c2 c3 c4 c5 c6 c7 c8 c9 c10 c11 c12 : Value} {t : TypeId} (h : w.heap[p]? = some (.cells #[c0, c1, c2, c3, c4, c5, c6, c7, c8, c9, c10, c11, c12] t (0, 0))) (u : Value) : (w.setCell ⟨p, 7, none⟩ u).heap[p]? = some (.cells #[c0, c1, c2, c3, c4, c5, c6, u, c8, c9, c10, c11, c12] t (0, 0)) := by
  have hlt := block_lt h
  have h' : w.heap[p] = .cells #[c0, c1, c2, c3, c4, c5, c6, c7, c8, c9, c10, c11, c12] t (0, 0) := by simpa [Array.getElem?_eq_getElem hlt] using h
  show (w.heap.modify p _)[p]? = _
  rw [Array.getElem?_eq_getElem (by simpa using hlt), Array.getElem_modify_self, h']
  rfl
theorem run_set8 {w : World} {p : Nat} {c0 c1 c2 c3 c4 c5 c6 c7 c8 c9 c10 c11 c12 : Value} {t : TypeId} (h : w.heap[p]? = some (.cells #[c0, c1, c2, c3, c4, c5, c6, c7, c8, c9, c10, c11, c12] t (0, 0))) (u : Value) : (w.setCell ⟨p, 8, none⟩ u).heap[p]? = some (.cells #[c0, c1, c2, c3, c4, c5, c6, c7, u, c9, c10, c11, c12] t (0, 0)) := by
  have hlt := block_lt h
  have h' : w.heap[p] = .cells #[c0, c1, c2, c3, c4, c5, c6, c7, c8, c9, c10, c11, c12] t (0, 0) := by simpa [Array.getElem?_eq_getElem hlt] using h
  show (w.heap.modify p _)[p]? = _
  rw [Array.getElem?_eq_getElem (by simpa using hlt), Array.getElem_modify_self, h']
  rfl
theorem run_set9 {w : World} {p : Nat} {c0 c1 c2 c3 c4 c5 c6 c7 c8 c9 c10 c11 c12 : Value} {t : TypeId} (h : w.heap[p]? = some (.cells #[c0, c1, c2, c3, c4, c5, c6, c7, c8, c9, c10, c11, c12] t (0, 0))) (u : Value) : (w.setCell ⟨p, 9, none⟩ u).heap[p]? = some (.cells #[c0, c1, c2, c3, c4, c5, c6, c7, c8, u, c10, c11, c12] t (0, 0)) := by
  have hlt := block_lt h
  have h' : w.heap[p] = .cells #[c0, c1, c2, c3, c4, c5, c6, c7, c8, c9, c10, c11, c12] t (0, 0) := by simpa [Array.getElem?_eq_getElem hlt] using h
  show (w.heap.modify p _)[p]? = _
  rw [Array.getElem?_eq_getElem (by simpa using hlt), Array.getElem_modify_self, h']
  rfl
theorem run_set10 {w : World} {p : Nat} {c0 c1 c2 c3 c4 c5 c6 c7 c8 c9 c10 c11 c12 : Value} {t : TypeId} (h : w.heap[p]? = some (.cells #[c0, c1, c2, c3, c4, c5, c6, c7, c8, c9, c10, c11, c12] t (0, 0))) (u : Value) : (w.setCell ⟨p, 10, none⟩ u).heap[p]? = some (.cells #[c0, c1, c2, c3, c4, c5, c6, c7, c8, c9, u, c11, c12] t (0, 0)) := by
  have hlt := block_lt h
  have h' : w.heap[p] = .cells #[c0, c1, c2, c3, c4, c5, c6, c7, c8, c9, c10, c11, c12] t (0, 0) := by simpa [Array.getElem?_eq_getElem hlt] using h
  show (w.heap.modify p _)[p]? = _
  rw [Array.getElem?_eq_getElem (by simpa using hlt), Array.getElem_modify_self, h']
  rfl
theorem run_set11 {w : World} {p : Nat} {c0 c1 c2 c3 c4 c5 c6 c7 c8 c9 c10 c11 c12 : Value} {t : TypeId} (h : w.heap[p]? = some (.cells #[c0, c1, c2, c3, c4, c5, c6, c7, c8, c9, c10, c11, c12] t (0, 0))) (u : Value) : (w.setCell ⟨p, 11, none⟩ u).heap[p]? = some (.cells #[c0, c1, c2, c3, c4, c5, c6, c7, c8, c9, c10, u, c12] t (0, 0)) := by
  have hlt := block_lt h
  have h' : w.heap[p] = .cells #[c0, c1, c2, c3, c4, c5, c6, c7, c8, c9, c10, c11, c12] t (0, 0) := by simpa [Array.getElem?_eq_getElem hlt] using h
  show (w.heap.modify p _)[p]? = _
  rw [Array.getElem?_eq_getElem (by simpa using hlt), Array.getElem_modify_self, h']
  rfl
theorem run_set12 {w : World} {p : Nat} {c0 c1 c2 c3 c4 c5 c6 c7 c8 c9 c10 c11 c12 : Value} {t : TypeId} (h : w.heap[p]? = some (.cells #[c0, c1, c2, c3, c4, c5, c6, c7, c8, c9, c10, c11, c12] t (0, 0))) (u : Value) : (w.setCell ⟨p, 12, none⟩ u).heap[p]? = some (.cells #[c0, c1, c2, c3, c4, c5, c6, c7, c8, c9, c10, c11, u] t (0, 0)) := by
  have hlt := block_lt h
  have h' : w.heap[p] = .cells #[c0, c1, c2, c3, c4, c5, c6, c7, c8, c9, c10, c11, c12] t (0, 0) := by simpa [Array.getElem?_eq_getElem hlt] using h
  show (w.heap.modify p _)[p]? = _
  rw [Array.getElem?_eq_getElem (by simpa using hlt), Array.getElem_modify_self, h']
  rfl
theorem run_frozen {w : World} {q : Nat} {c0 c1 c2 c3 c4 c5 c6 c7 c8 c9 c10 c11 c12 : Value} {t : TypeId} (h : w.heap[q]? = some (.cells #[c0, c1, c2, c3, c4, c5, c6, c7, c8, c9, c10, c11, c12] t (0, 0))) :
    w.frozen? ⟨q, 0, none⟩ = false ∧ w.frozen? ⟨q, 1, none⟩ = false ∧ w.frozen? ⟨q, 2, none⟩ = false ∧ w.frozen? ⟨q, 3, none⟩ = false ∧ w.frozen? ⟨q, 4, none⟩ = false ∧ w.frozen? ⟨q, 5, none⟩ = false ∧ w.frozen? ⟨q, 6, none⟩ = false ∧ w.frozen? ⟨q, 7, none⟩ = false ∧ w.frozen? ⟨q, 8, none⟩ = false ∧ w.frozen? ⟨q, 9, none⟩ = false ∧ w.frozen? ⟨q, 10, none⟩ = false ∧ w.frozen? ⟨q, 11, none⟩ = false ∧ w.frozen? ⟨q, 12, none⟩ = false := by
  refine ⟨?_, ?_, ?_, ?_, ?_, ?_, ?_, ?_, ?_, ?_, ?_, ?_, ?_⟩ <;> simp [World.frozen?, h]

theorem run_fill {w : World} {q : Nat} {c0 c1 c2 c3 c4 c5 c6 c7 c8 c9 c10 c11 c12 : Value} {t : TypeId} (h : w.heap[q]? = some (.cells #[c0, c1, c2, c3, c4, c5, c6, c7, c8, c9, c10, c11, c12] t (0, 0))) (x0 x1 x2 x3 x4 x5 x6 x7 x8 x9 x10 x11 x12 : Value) :
    ((((((((((((((w.setCell ⟨q, 0, none⟩ x0).setCell ⟨q, 1, none⟩ x1).setCell ⟨q, 2, none⟩ x2).setCell ⟨q, 3, none⟩ x3).setCell ⟨q, 4, none⟩ x4).setCell ⟨q, 5, none⟩ x5).setCell ⟨q, 6, none⟩ x6).setCell ⟨q, 7, none⟩ x7).setCell ⟨q, 8, none⟩ x8).setCell ⟨q, 9, none⟩ x9).setCell ⟨q, 10, none⟩ x10).setCell ⟨q, 11, none⟩ x11).setCell ⟨q, 12, none⟩ x12)).heap[q]? = some (.cells #[x0, x1, x2, x3, x4, x5, x6, x7, x8, x9, x10, x11, x12] t (0, 0)) ∧ Kept (fun k => k = q) w (((((((((((((w.setCell ⟨q, 0, none⟩ x0).setCell ⟨q, 1, none⟩ x1).setCell ⟨q, 2, none⟩ x2).setCell ⟨q, 3, none⟩ x3).setCell ⟨q, 4, none⟩ x4).setCell ⟨q, 5, none⟩ x5).setCell ⟨q, 6, none⟩ x6).setCell ⟨q, 7, none⟩ x7).setCell ⟨q, 8, none⟩ x8).setCell ⟨q, 9, none⟩ x9).setCell ⟨q, 10, none⟩ x10).setCell ⟨q, 11, none⟩ x11).setCell ⟨q, 12, none⟩ x12) := ⟨(run_set12 (run_set11 (run_set10 (run_set9 (run_set8 (run_set7 (run_set6 (run_set5 (run_set4 (run_set3 (run_set2 (run_set1 (run_set0 h x0) x1) x2) x3) x4) x5) x6) x7) x8) x9) x10) x11) x12), ((((((((((((((Kept.refl (fun k => k = q) w).setCell (p := ⟨q, 0, none⟩) (fun _ => rfl) _).setCell (p := ⟨q, 1, none⟩) (fun _ => rfl) _).setCell (p := ⟨q, 2, none⟩) (fun _ => rfl) _).setCell (p := ⟨q, 3, none⟩) (fun _ => rfl) _).setCell (p := ⟨q, 4, none⟩) (fun _ => rfl) _).setCell (p := ⟨q, 5, none⟩) (fun _ => rfl) _).setCell (p := ⟨q, 6, none⟩) (fun _ => rfl) _).setCell (p := ⟨q, 7, none⟩) (fun _ => rfl) _).setCell (p := ⟨q, 8, none⟩) (fun _ => rfl) _).setCell (p := ⟨q, 9, none⟩) (fun _ => rfl) _).setCell (p := ⟨q, 10, none⟩) (fun _ => rfl) _).setCell (p := ⟨q, 11, none⟩) (fun _ => rfl) _).setCell (p := ⟨q, 12, none⟩) (fun _ => rfl) _)⟩

/-- What a run that was read leads to. -/
def RunG (F : Nat → Prop) (w : World) (a : Option Addr) (l c : Nat) (vs : List Vl) (na : Option Addr) (nl nc : Nat) (ns : List ByteArray) (sa : Option Addr) (sl sc : Nat) (sb : ByteArray) : Prop :=
  OwnG 28 2 GV w F (.slice a l c) vs ∧ OwnG 9 1 GS w F (.slice na nl nc) ns ∧ IsBF F w sa sl sc (sNums sb)

theorem RunG.stay {F F' : Nat → Prop} {w w' : World} {a : Option Addr} {l c : Nat} {vs : List Vl} {na : Option Addr} {nl nc : Nat} {ns : List ByteArray} {sa : Option Addr} {sl sc : Nat} {sb : ByteArray} (h : RunG F w a l c vs na nl nc ns sa sl sc sb)
    (hb : ∀ k, k < w.heap.size → F k → w'.heap[k]? = w.heap[k]?) (hs : w.heap.size ≤ w'.heap.size) (hF : ∀ k, k < w.heap.size → F k → F' k) : RunG F' w' a l c vs na nl nc ns sa sl sc sb :=
  ⟨h.1.kept stays_gv hb hs hF, h.2.1.kept stays_gs hb hs hF, h.2.2.stay hb hs hF⟩

theorem step_fail_err {S : BE} (hn : Nrm S) (h : S.2 ≠ 0) : stepR (failR 11 : Ps Int) S = S := step_err _ h hn

theorem vals1_gen {α : Type} (q : Ps (List α)) (g : List α → List Vl × List ByteArray) (hg : ∀ L, (g L).1.length = L.length) {S : BE} {L : List α} (hL : (stepR q S).2 = 0 → L = (q S.1).val) :
    stepR (checkR (fun a : List Vl × List ByteArray => decide (a.1.length = 0)) 11 (bindR q fun L => pureR (g L))) S = (if L.length = 0 then stepR (failR 11 : Ps Int) (stepR q S) else stepR q S) ∧
    ((stepR (checkR (fun a : List Vl × List ByteArray => decide (a.1.length = 0)) 11 (bindR q fun L => pureR (g L))) S).2 = 0 → (checkR (fun a : List Vl × List ByteArray => decide (a.1.length = 0)) 11 (bindR q fun L => pureR (g L)) S.1).val = g L) := by
  have e1 : stepR (bindR q fun L => pureR (g L)) S = stepR q S := by rw [step_bind]; exact step_pure _ (step_nrm _ _)
  by_cases h : (stepR q S).2 = 0
  · have hv : ((bindR q fun L => pureR (g L)) S.1).val = g L := by
      rw [bind_val q _ S (by rw [e1]; exact h), hL h]; rfl
    have e2 : stepR (checkR (fun a : List Vl × List ByteArray => decide (a.1.length = 0)) 11 (bindR q fun L => pureR (g L))) S = (if L.length = 0 then stepR (failR 11 : Ps Int) (stepR q S) else stepR q S) := by
      rw [checkR, step_bind, e1, hv]
      simp only [hg]
      by_cases h0 : L.length = 0
      · rw [if_pos h0, if_pos (by simpa using h0)]; rfl
      · rw [if_neg h0, if_neg (by simpa using h0)]; exact step_pure _ (step_nrm _ _)
    refine ⟨e2, fun h3 => ?_⟩
    have h4 := h3
    rw [e2] at h4
    have h0 : ¬ L.length = 0 := fun h0 => by rw [if_pos h0] at h4; exact fail_ne (by decide) _ h4
    rw [checkR] at h3 ⊢
    rw [bind_val _ _ S h3, hv, if_neg (by simp only [hg]; simpa using h0)]
    rfl
  · have e2 : stepR (checkR (fun a : List Vl × List ByteArray => decide (a.1.length = 0)) 11 (bindR q fun L => pureR (g L))) S = stepR q S := by
      rw [checkR, step_bind, e1]; exact step_err _ h (step_nrm _ _)
    refine ⟨?_, fun h3 => absurd (by rw [e2] at h3; exact h3) h⟩
    rw [e2]
    split
    · exact (step_err _ h (step_nrm _ _)).symm
    · rfl

theorem vals1_0 {S : BE} {L : List Vl} (hL : (stepR (listR valueR) S).2 = 0 → L = (listR valueR S.1).val) :
    stepR (valsR1 false) S = (if L.length = 0 then stepR (failR 11 : Ps Int) (stepR (listR valueR) S) else stepR (listR valueR) S) ∧ ((stepR (valsR1 false) S).2 = 0 → (valsR1 false S.1).val = (L, [])) :=
  vals1_gen (listR valueR) (fun L => (L, [])) (fun _ => rfl) hL
theorem vals1_N {S : BE} {L : List (ByteArray × Vl)} (hL : (stepR (listR (keyR valueR)) S).2 = 0 → L = (listR (keyR valueR) S.1).val) :
    stepR (valsR1 true) S = (if L.length = 0 then stepR (failR 11 : Ps Int) (stepR (listR (keyR valueR)) S) else stepR (listR (keyR valueR)) S) ∧ ((stepR (valsR1 true) S).2 = 0 → (valsR1 true S.1).val = (L.map (·.2), L.map (·.1))) :=
  vals1_gen (α := ByteArray × Vl) (listR (keyR valueR)) (fun L => (L.map Prod.snd, L.map Prod.fst)) (fun L => by simp) hL

/-- The states that a run goes through. -/
theorem run_steps (batch : Bool) (S : BE) (x : Int) (hx : (stepR (flagsR batch) (stepR consR S)).2 = 0 → x = (flagsR batch (stepR consR S).1).val) {S3 S4 S5 S6 S7 : BE}
    (h3 : S3 = stepR (optR (bitX x 1) (valsR1 (bitX x 64))) (stepR (flagsR batch) (stepR consR S))) (h4 : S4 = stepR (optR (bitX x 4) (sgnR 4)) S3) (h5 : S5 = stepR (optR (bitX x 8) valueR) S4) (h6 : S6 = stepR (optR (bitX x 16) consR) S5) (h7 : S7 = stepR (optR (bitX x 32) (sgnR 8)) S6) :
    stepR (runR batch) S = S7 ∧ (S7.2 = 0 → (runR batch S.1).val = ((consR S.1).val, ((optR (bitX x 1) (valsR1 (bitX x 64))) (stepR (flagsR batch) (stepR consR S)).1).val.1, ((optR (bitX x 1) (valsR1 (bitX x 64))) (stepR (flagsR batch) (stepR consR S)).1).val.2, bitX x 2, bitX x 4, ((optR (bitX x 4) (sgnR 4)) S3.1).val, bitX x 8, ((optR (bitX x 8) valueR) S4.1).val, bitX x 16, ((optR (bitX x 16) consR) S5.1).val, bitX x 32, ((optR (bitX x 32) (sgnR 8)) S6.1).val)) := by
  have e0 : stepR (runR batch) S = stepR (runR2 (consR S.1).val (flagsR batch (stepR consR S).1).val) (stepR (flagsR batch) (stepR consR S)) := by
    rw [runR, step_bind, runR1, step_bind]
  by_cases hS : (stepR (flagsR batch) (stepR consR S)).2 = 0
  · rw [← hx hS] at e0
    rw [runR2, step_bind, ← h3, runR3, step_bind, ← h4, runR4, step_bind, ← h5, runR5, step_bind, ← h6, runR6, step_bind, ← h7] at e0
    have e1 : stepR (runR batch) S = S7 := by rw [e0, h7]; exact step_pure _ (step_nrm _ _)
    refine ⟨e1, fun h => ?_⟩
    have hh : (stepR (runR batch) S).2 = 0 := by rw [e1]; exact h
    rw [runR] at hh ⊢
    rw [bind_val _ _ _ hh]
    rw [step_bind, runR1] at hh
    rw [runR1, bind_val _ _ _ hh]
    rw [step_bind, runR2] at hh
    rw [← hx hS] at hh ⊢
    rw [runR2, bind_val _ _ _ hh]
    rw [step_bind, ← h3, runR3] at hh
    rw [← h3, runR3, bind_val _ _ _ hh]
    rw [step_bind, ← h4, runR4] at hh
    rw [← h4, runR4, bind_val _ _ _ hh]
    rw [step_bind, ← h5, runR5] at hh
    rw [← h5, runR5, bind_val _ _ _ hh]
    rw [step_bind, ← h6, runR6] at hh
    rw [← h6, runR6, bind_val _ _ _ hh]
    rfl
  · have hn := step_nrm (flagsR batch) (stepR consR S)
    have e3 : S3 = stepR (flagsR batch) (stepR consR S) := by rw [h3]; exact step_err _ hS hn
    have e4 : S4 = stepR (flagsR batch) (stepR consR S) := by rw [h4, e3]; exact step_err _ hS hn
    have e5 : S5 = stepR (flagsR batch) (stepR consR S) := by rw [h5, e4]; exact step_err _ hS hn
    have e6 : S6 = stepR (flagsR batch) (stepR consR S) := by rw [h6, e5]; exact step_err _ hS hn
    have e7 : S7 = stepR (flagsR batch) (stepR consR S) := by rw [h7, e6]; exact step_err _ hS hn
    refine ⟨?_, fun h => absurd (by rw [e7] at h; exact h) hS⟩
    rw [e0, e7]
    exact step_err _ hS hn
end Go.Proofs.Ytcecdklgiocbaaa
