/-
  So many items one behind the other; the reader: what a column is of.
-/
import Derived.Test.YtnapeecmlkkolaaDoorRd12
namespace Go.Proofs.YtnapeecmlkkolaaDoor
open Go.RowKit
set_option maxRecDepth 100000
set_option linter.unusedVariables false
set_option linter.unusedSimpArgs false

theorem Kept.wider {S S' : Nat → Prop} {w w' : World} (h : Kept S w w') (hs : ∀ k, S k → S' k) : Kept S' w w' := ⟨h.os, h.tape, h.output, h.size, fun k h1 h2 => h.block k h1 (fun e => h2 (hs k e))⟩

theorem loop_next {α : Type} {P : Ps α} {n k : Nat} {S R : BE} {acc L : List α} (h : stepR (loopR P (n - k)) S = R ∧ (R.2 = 0 → acc ++ (loopR P (n - k) S.1).val = L)) (hk : k < n) (he : (stepR P S).2 = 0) :
    stepR (loopR P (n - (k + 1))) (stepR P S) = R ∧ (R.2 = 0 → (acc ++ [(P S.1).val]) ++ (loopR P (n - (k + 1)) (stepR P S).1).val = L) := by
  rw [show n - k = (n - (k + 1)) + 1 by omega] at h
  obtain ⟨h1, h2⟩ := h
  have e : stepR (loopR P (n - (k + 1) + 1)) S = stepR (loopR P (n - (k + 1))) (stepR P S) := by rw [loopR, step_bind, step_bind, step_pure2]
  refine ⟨by rw [← e]; exact h1, fun hR => ?_⟩
  rw [← h2 hR]
  have h0 : (stepR (loopR P (n - (k + 1) + 1)) S).2 = 0 := by rw [h1]; exact hR
  rw [loopR] at h0 ⊢
  rw [bind_val _ _ _ h0]
  rw [step_bind] at h0
  rw [bind_val _ _ _ h0, List.append_assoc]
  rfl
theorem loop_halt {α : Type} {P : Ps α} {n k : Nat} {S R : BE} {acc L : List α} (h : stepR (loopR P (n - k)) S = R ∧ (R.2 = 0 → acc ++ (loopR P (n - k) S.1).val = L)) (hk : k < n) (he : (stepR P S).2 ≠ 0) : R = stepR P S := by
  rw [show n - k = (n - (k + 1)) + 1 by omega] at h
  rw [← h.1, loopR, step_bind, step_err _ he (step_nrm _ _)]
theorem loop_done {α : Type} {P : Ps α} {n k : Nat} {S R : BE} {acc L : List α} (hn : Nrm S) (h : stepR (loopR P (n - k)) S = R ∧ (R.2 = 0 → acc ++ (loopR P (n - k) S.1).val = L)) (hk : n ≤ k) : R = S ∧ (R.2 = 0 → acc = L) := by
  rw [show n - k = 0 by omega, loopR] at h
  refine ⟨by rw [← h.1, step_pure _ hn], fun hR => ?_⟩
  rw [← h.2 hR]; simp [pureR]

theorem strOf_size (zs : List Int) : (strOfNums zs).size = zs.length := strOfNums_size zs
theorem text_size (zs : List Int) : (textR zs).val.size ≤ zs.length := by
  unfold textR textA
  split
  · simp [strOf_size]
  · split
    · simp [strOf_size]
    · simp [strOf_size]; omega

theorem owner_val {S : BE} (h : (stepR ownerR S).2 = 0) : (ownerR S.1).val = ((textR S.1).val, (textR (stepR textR S).1).val) := by
  rw [ownerR] at h ⊢
  rw [bind_val _ _ _ h]
  rw [step_bind] at h
  rw [bind_val _ _ _ h]
  rfl
theorem owner_step (S : BE) : stepR ownerR S = stepR textR (stepR textR S) := by
  rw [ownerR, step_bind, step_bind, step_pure2]

theorem col_step (g : Bool) (o : ByteArray × ByteArray) (S : BE) : stepR (colR g o) S = stepR (tyR 20) (stepR textR (stepR (optR (!g) o ownerR) S)) := by
  rw [colR, step_bind, step_bind, step_bind, step_pure2]
theorem col_val {g : Bool} {o : ByteArray × ByteArray} {S : BE} (h : (stepR (colR g o) S).2 = 0) :
    (colR g o S.1).val = ((optR (!g) o ownerR S.1).val.1, (optR (!g) o ownerR S.1).val.2, (textR (stepR (optR (!g) o ownerR) S).1).val, (tyR 20 (stepR textR (stepR (optR (!g) o ownerR) S)).1).val) := by
  rw [colR] at h ⊢
  rw [bind_val _ _ _ h]
  rw [step_bind] at h
  rw [bind_val _ _ _ h]
  rw [step_bind] at h
  rw [bind_val _ _ _ h]
  rfl

theorem step_fine {α : Type} {P : Ps α} {S : BE} (h : (stepR P S).2 = 0) : S.2 = 0 := (step_ok h).1

theorem blk8 {w : World} {p : Nat} {a b c d e f g i : Value} {t : TypeId} (h : w.heap[p]? = some (.cells #[a, b, c, d, e, f, g, i] t (0, 0))) :
    (w.cell? ⟨p, 0, none⟩ = some a ∧ w.cell? ⟨p, 1, none⟩ = some b ∧ w.cell? ⟨p, 2, none⟩ = some c ∧ w.cell? ⟨p, 3, none⟩ = some d ∧ w.cell? ⟨p, 4, none⟩ = some e ∧ w.cell? ⟨p, 5, none⟩ = some f ∧ w.cell? ⟨p, 6, none⟩ = some g ∧ w.cell? ⟨p, 7, none⟩ = some i) ∧
    (w.frozen? ⟨p, 0, none⟩ = false ∧ w.frozen? ⟨p, 1, none⟩ = false ∧ w.frozen? ⟨p, 2, none⟩ = false ∧ w.frozen? ⟨p, 3, none⟩ = false ∧ w.frozen? ⟨p, 4, none⟩ = false ∧ w.frozen? ⟨p, 5, none⟩ = false ∧ w.frozen? ⟨p, 6, none⟩ = false ∧ w.frozen? ⟨p, 7, none⟩ = false) :=
  ⟨⟨blk_cell h 0, blk_cell h 1, blk_cell h 2, blk_cell h 3, blk_cell h 4, blk_cell h 5, blk_cell h 6, blk_cell h 7⟩, ⟨blk_frozen h 0, blk_frozen h 1, blk_frozen h 2, blk_frozen h 3, blk_frozen h 4, blk_frozen h 5, blk_frozen h 6, blk_frozen h 7⟩⟩

set_option maxHeartbeats 1000000 in
theorem rowner {w : World} {p : Nat} {S : BE} (h : Rd w p S) {q : Nat} (hpq : p < q) {a b : ByteArray} {c d e f g i : Value} (hq : w.heap[q]? = some (.cells #[.string a, .string b, c, d, e, f, g, i] 64 (0, 0))) :
    Calls Tryd.prog 69 #[.pointer (some ⟨p, 0, none⟩), .pointer (some ⟨q, 0, none⟩)] w fun r w' => r = .returned (.tuple #[]) ∧ ∃ s t, Hid (w'.heap[q]? = some (.cells #[.string s, .string t, c, d, e, f, g, i] 64 (0, 0))) ∧ Hid (Rd w' p (stepR ownerR S)) ∧ Hid ((stepR ownerR S).2 = 0 → (s, t) = (ownerR S.1).val) ∧ Hid (Kept (fun k => k = p ∨ k = q) w w') := by
  have H : Hid (Rd w p S) := h
  have HQ : Hid (w.heap[q]? = some (.cells #[.string a, .string b, c, d, e, f, g, i] 64 (0, 0))) := hq
  have hlp := h.lt
  have hlq := block_lt hq
  clear h hq
  go_enter Tryd.func69, Tryd.ntmps69
  go_wp2_with fail
  refine (read_text H.out).mono ?_
  rintro r w1 ⟨s, rfl, HR1, HS1, HK1⟩
  have hq1 : w1.heap[q]? = some (.cells #[.string a, .string b, c, d, e, f, g, i] 64 (0, 0)) := (HK1.out.block q hlq (by omega)).trans HQ.out
  obtain ⟨⟨k0, k1, _⟩, f0, f1, _⟩ := blk8 hq1
  have hl1 := block_lt hq1
  have HQ1 : Hid _ := hq1
  clear hq1
  go_wp2_with fail
  have hq2 : (w1.setCell ⟨q, 0, none⟩ (.string s)).heap[q]? = some (.cells #[.string s, .string b, c, d, e, f, g, i] 64 (0, 0)) := blk_set HQ1.out 0 (.string s)
  have HR2 : Hid (Rd (w1.setCell ⟨q, 0, none⟩ (.string s)) p (stepR textR S)) := HR1.out.kept (one_kept w1 q 0 (.string s)) (fun k hk e => by omega)
  have HK2 : Hid (Kept (fun k => k = p ∨ k = q) w (w1.setCell ⟨q, 0, none⟩ (.string s))) := (HK1.out.wider (fun k e => .inl e)).setCell (p := ⟨q, 0, none⟩) (fun _ => .inr rfl) _
  generalize w1.setCell ⟨q, 0, none⟩ (.string s) = w2 at hq2 HR2 HK2 ⊢
  have HQ2 : Hid _ := hq2
  have hl2 := block_lt hq2
  clear hq2 k0 k1 f0 f1 HQ1 HR1
  refine (read_text HR2.out).mono ?_
  rintro r w3 ⟨t, rfl, HR3, HS3, HK3⟩
  have hq3 : w3.heap[q]? = some (.cells #[.string s, .string b, c, d, e, f, g, i] 64 (0, 0)) := (HK3.out.block q hl2 (by omega)).trans HQ2.out
  obtain ⟨⟨k0, k1, _⟩, f0, f1, _⟩ := blk8 hq3
  have hl3 := block_lt hq3
  have HQ3 : Hid _ := hq3
  clear hq3
  go_wp2_with fail
  go_end0
  have hK : Kept (fun k => k = p ∨ k = q) w (w3.setCell ⟨q, 1, none⟩ (.string t)) := (HK2.out.trans HK3.out (fun i hi e => .inl e)).setCell (p := ⟨q, 1, none⟩) (fun _ => .inr rfl) _
  refine ⟨rfl, s, t, blk_set HQ3.out 1 (.string t), ?_, fun hh => ?_, hK⟩
  · rw [owner_step]; exact HR3.out.kept (one_kept w3 q 1 (.string t)) (fun k hk e => by omega)
  · rw [owner_val hh]
    rw [owner_step] at hh
    rw [HS1.out (step_fine hh), HS3.out hh]

end Go.Proofs.YtnapeecmlkkolaaDoor
