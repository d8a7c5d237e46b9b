/-
  The reader's methods statement and statements.
-/
import Derived.Test.YtcecdklgiocbaaaRd5
namespace Go.Proofs.Ytcecdklgiocbaaa
open Go.RowKit
set_option maxRecDepth 100000
set_option linter.unusedVariables false
set_option linter.unusedSimpArgs false

theorem four_set {w : World} {p : Nat} {x0 x1 x2 x3 : Value} {t : TypeId} (h : w.heap[p]? = some (.cells #[x0, x1, x2, x3] t (0, 0))) (u : Value) :
    (w.setCell ⟨p, 0, none⟩ u).heap[p]? = some (.cells #[u, x1, x2, x3] t (0, 0)) ∧ (w.setCell ⟨p, 1, none⟩ u).heap[p]? = some (.cells #[x0, u, x2, x3] t (0, 0)) ∧ (w.setCell ⟨p, 2, none⟩ u).heap[p]? = some (.cells #[x0, x1, u, x3] t (0, 0)) ∧ (w.setCell ⟨p, 3, none⟩ u).heap[p]? = some (.cells #[x0, x1, x2, u] t (0, 0)) := by
  have hlt := block_lt h
  have h' : w.heap[p] = .cells #[x0, x1, x2, x3] t (0, 0) := by simpa [Array.getElem?_eq_getElem hlt] using h
  refine ⟨?_, ?_, ?_, ?_⟩ <;>
  (show (w.heap.modify p _)[p]? = _
   rw [Array.getElem?_eq_getElem (by simpa using hlt), Array.getElem_modify_self, h']
   rfl)

theorem four_frozen {w : World} {p : Nat} {x0 x1 x2 x3 : Value} {t : TypeId} (h : w.heap[p]? = some (.cells #[x0, x1, x2, x3] t (0, 0))) :
    w.frozen? ⟨p, 0, none⟩ = false ∧ w.frozen? ⟨p, 1, none⟩ = false ∧ w.frozen? ⟨p, 2, none⟩ = false ∧ w.frozen? ⟨p, 3, none⟩ = false := by
  refine ⟨?_, ?_, ?_, ?_⟩ <;> simp [World.frozen?, h]

theorem num_val {S : BE} {n : Nat} (h : (stepR (numR n) S).2 = 0) : (numR n S.1).val = numX n S := by
  unfold numX
  rw [if_pos h]
  obtain ⟨_, h4, _⟩ := step_ok h
  unfold numR at h4 ⊢
  by_cases hl : S.1.length < n
  · rw [if_pos hl] at h4; exact absurd h4 (by decide : ¬ (10 : Int) = 0)
  · rw [if_neg hl]

theorem st_text {S : BE} (hx : numX 1 S = 0) : stepR stR S = stepR (listR valueR) (stepR longR (stepR (numR 1) S)) ∧
    ((stepR stR S).2 = 0 → (stR S.1).val = (false, (longR (stepR (numR 1) S).1).val, ByteArray.empty, (listR valueR (stepR longR (stepR (numR 1) S)).1).val)) := by
  have e0 : stepR stR S = stepR (listR valueR) (stepR longR (stepR (numR 1) S)) := by
    rw [stR, step_bind]
    by_cases h1 : (stepR (numR 1) S).2 = 0
    · rw [num_val h1, hx, if_pos rfl, step_bind, step_bind]
      exact step_pure _ (step_nrm _ _)
    · rw [step_err _ h1 (step_nrm _ _), step_err longR h1 (step_nrm _ _), step_err _ h1 (step_nrm _ _)]
  refine ⟨e0, fun h => ?_⟩
  have h2 := h
  rw [e0] at h2
  have h3 := (step_ok h2).1
  have h4 := (step_ok h3).1
  rw [stR] at h ⊢
  rw [bind_val _ _ _ h]
  rw [step_bind] at h
  rw [num_val h4, hx, if_pos rfl] at h ⊢
  rw [bind_val _ _ _ h]
  rw [step_bind] at h
  rw [bind_val _ _ _ h]
  rfl

theorem st_prep {S : BE} (hx : numX 1 S = 1) : stepR stR S = stepR (listR valueR) (stepR textR (stepR (numR 1) S)) ∧
    ((stepR stR S).2 = 0 → (stR S.1).val = (true, ByteArray.empty, (textR (stepR (numR 1) S).1).val, (listR valueR (stepR textR (stepR (numR 1) S)).1).val)) := by
  have e0 : stepR stR S = stepR (listR valueR) (stepR textR (stepR (numR 1) S)) := by
    rw [stR, step_bind]
    by_cases h1 : (stepR (numR 1) S).2 = 0
    · rw [num_val h1, hx, if_neg (by decide), if_pos rfl, step_bind, step_bind]
      exact step_pure _ (step_nrm _ _)
    · rw [step_err _ h1 (step_nrm _ _), step_err textR h1 (step_nrm _ _), step_err _ h1 (step_nrm _ _)]
  refine ⟨e0, fun h => ?_⟩
  have h2 := h
  rw [e0] at h2
  have h3 := (step_ok h2).1
  have h4 := (step_ok h3).1
  rw [stR] at h ⊢
  rw [bind_val _ _ _ h]
  rw [step_bind] at h
  rw [num_val h4, hx, if_neg (by decide), if_pos rfl] at h ⊢
  rw [bind_val _ _ _ h]
  rw [step_bind] at h
  rw [bind_val _ _ _ h]
  rfl

theorem fail_ne {α : Type} [Inhabited α] {e : Int} (he : e ≠ 0) (S : BE) : (stepR (failR e : Ps α) S).2 ≠ 0 := by
  unfold stepR failR
  by_cases h : S.2 = 0
  · simp [h, he]
  · simp [h]

theorem st_bad {S : BE} (h0 : numX 1 S ≠ 0) (h1 : numX 1 S ≠ 1) : stepR stR S = stepR (listR valueR) (stepR (failR 11 : Ps Int) (stepR (numR 1) S)) ∧ (stepR stR S).2 ≠ 0 := by
  have hok : (stepR (numR 1) S).2 = 0 := by
    by_cases h : (stepR (numR 1) S).2 = 0
    · exact h
    · unfold numX at h0; rw [if_neg h] at h0; exact absurd rfl h0
  have hne := fail_ne (α := Int) (by decide : (11 : Int) ≠ 0) (stepR (numR 1) S)
  have e0 : stepR stR S = stepR (failR 11 : Ps St) (stepR (numR 1) S) := by
    rw [stR, step_bind, num_val hok, if_neg h0, if_neg h1]
  have e1 : stepR (failR 11 : Ps St) (stepR (numR 1) S) = stepR (failR 11 : Ps Int) (stepR (numR 1) S) := by
    unfold stepR failR; rfl
  rw [e0, e1]
  exact ⟨(step_err _ hne (step_nrm _ _)).symm, hne⟩

/-- A statement that was read, in memory. -/
def StAt (F : Nat → Prop) (w : World) (s : St) (i : Option Addr) (li ci : Nat) (v : Value) : Prop := IsBF F w i li ci (sNums s.id) ∧ OwnG 28 2 GV w F v s.vals

set_option maxHeartbeats 4000000 in
theorem rstatement {w : World} {p : Nat} {S : BE} (h : Rd w p S) :
    Calls Try.prog 88 #[.pointer (some ⟨p, 0, none⟩)] w fun e w' => ∃ (s : St) (i : Option Addr) (li ci : Nat) (va : Option Addr) (vl vc : Nat), e = .returned (.agg #[.bool s.prep, .string s.text, .slice i li ci, .slice va vl vc]) ∧ Hid (Rd w' p (stepR stR S)) ∧ Hid (StAt (fun k => w.heap.size ≤ k) w' s i li ci (.slice va vl vc)) ∧ Hid ((stepR stR S).2 = 0 → s = (stR S.1).val) ∧ Hid (Kept (fun k => k = p) w w') := by
  obtain ⟨w0, hw0⟩ : ∃ w0, w0 = (w.alloc (.cells #[.bool false, .string ⟨#[]⟩, .slice none 0 0, .slice none 0 0] 60)).alloc (.cells #[.bool false, .string ⟨#[]⟩, .slice none 0 0, .slice none 0 0] 60) := ⟨_, rfl⟩
  have HW0 : Hid ((w.alloc (.cells #[.bool false, .string ⟨#[]⟩, .slice none 0 0, .slice none 0 0] 60)).alloc (.cells #[.bool false, .string ⟨#[]⟩, .slice none 0 0, .slice none 0 0] 60) = w0) := hw0.symm
  have hB0 : Below w.heap.size w w0 := by rw [hw0]; exact (below_one _ _).alloc (by simp) _
  have hq1 : w0.heap[w.heap.size]? = some (.cells #[.bool false, .string ⟨#[]⟩, .slice none 0 0, .slice none 0 0] 60 (0, 0)) := by
    rw [hw0]
    exact ((below_one (w.alloc (.cells #[.bool false, .string ⟨#[]⟩, .slice none 0 0, .slice none 0 0] 60)) _).block w.heap.size (by simp)).trans (heap_alloc_new w _)
  have hq2 : w0.heap[w.heap.size + 1]? = some (.cells #[.bool false, .string ⟨#[]⟩, .slice none 0 0, .slice none 0 0] 60 (0, 0)) := by
    rw [hw0]
    have := heap_alloc_new (w.alloc (.cells #[.bool false, .string ⟨#[]⟩, .slice none 0 0, .slice none 0 0] 60)) (.cells #[.bool false, .string ⟨#[]⟩, .slice none 0 0, .slice none 0 0] 60)
    simpa using this
  have hpw := h.lt
  have H : Hid (Rd w0 p S) := h.new hB0
  have HB0 : Hid (Below w.heap.size w w0) := hB0
  obtain ⟨q, hq⟩ : ∃ q, q = w.heap.size := ⟨_, rfl⟩
  have HQE : Hid (q = w.heap.size) := hq
  have HQW : Hid (w.heap.size = q) := hq.symm
  have hHW : Hid (Rd w p S) := h
  rw [← hq] at hq1 hq2 hpw
  have HQ1 : Hid (w0.heap[q]? = some (.cells #[.bool false, .string ⟨#[]⟩, .slice none 0 0, .slice none 0 0] 60 (0, 0))) := hq1
  have HQ2 : Hid (w0.heap[q + 1]? = some (.cells #[.bool false, .string ⟨#[]⟩, .slice none 0 0, .slice none 0 0] 60 (0, 0))) := hq2
  have hlt2 := block_lt hq2
  clear h hB0 hw0 hq hq1 hq2
  go_enter Try.func88, Try.ntmps88
  go_upto_region 2 with fail
  rw [HW0.out]
  clear HW0
  (try rw [HQW.out])
  go_wp2_with fail
  refine (rnumber H.out 1 (by omega) (by omega) _ rfl).mono ?_
  rintro e w1 ⟨x, rfl, HR1, _, HT, HK1⟩
  have hx0 := (num_rng H.out.rng (by omega) HT.out)
  have h256 : (256 : Int) ^ 1 = 256 := by decide
  have hx1 : 0 ≤ x ∧ x ≤ 255 := by omega
  have hb1 : w1.heap[q + 1]? = some (.cells #[.bool false, .string ⟨#[]⟩, .slice none 0 0, .slice none 0 0] 60 (0, 0)) := (HK1.out.block _ hlt2 (by omega)).trans HQ2.out
  obtain ⟨a0, a1, a2, a3⟩ := four_cells hb1
  obtain ⟨f0, f1, f2, f3⟩ := four_frozen hb1
  have hla := block_lt hb1
  have HBK : Hid (w1.heap[q + 1]? = some (.cells #[.bool false, .string ⟨#[]⟩, .slice none 0 0, .slice none 0 0] 60 (0, 0))) := hb1
  have HBQ : Hid (w1.heap[q]? = some (.cells #[.bool false, .string ⟨#[]⟩, .slice none 0 0, .slice none 0 0] 60 (0, 0))) := (HK1.out.block _ (by omega) (by omega)).trans HQ1.out
  clear hx0 h256 hb1
  by_cases hx : x = 0
  · subst hx
    have HSX : Hid (stepR stR S = stepR (listR valueR) (stepR longR (stepR (numR 1) S)) ∧ ((stepR stR S).2 = 0 → (stR S.1).val = (false, (longR (stepR (numR 1) S).1).val, ByteArray.empty, (listR valueR (stepR longR (stepR (numR 1) S)).1).val))) := by
      have h0 := HT.out
      have h1 : numX 1 S = 0 := h0.symm
      exact st_text h1
    go_wp2_with fail
    refine (read_long HR1.out).mono ?_
    rintro e w2 ⟨t, rfl, HR2, HV2, HK2⟩
    have hb2 : w2.heap[q + 1]? = some (.cells #[.bool false, .string ⟨#[]⟩, .slice none 0 0, .slice none 0 0] 60 (0, 0)) := (HK2.out.block _ hla (by omega)).trans HBK.out
    have hq2 : w2.heap[q]? = some (.cells #[.bool false, .string ⟨#[]⟩, .slice none 0 0, .slice none 0 0] 60 (0, 0)) := (HK2.out.block _ (by omega) (by omega)).trans HBQ.out
    clear a0 a1 a2 a3 f0 f1 f2 f3
    obtain ⟨a0, a1, a2, a3⟩ := four_cells hb2
    obtain ⟨f0, f1, f2, f3⟩ := four_frozen hb2
    have hla2 := block_lt hb2
    go_upto_region 9 with fail
    have hKb : Kept (fun k => k = q + 1) w2 (w2.setCell ⟨q + 1, 1, none⟩ (.string t)) := one_kept _ _ _ _
    have hbb := (four_set hb2 (.string t)).2.1
    generalize w2.setCell ⟨q + 1, 1, none⟩ (.string t) = wb at hKb hbb ⊢
    have hqb : wb.heap[q]? = some (.cells #[.bool false, .string ⟨#[]⟩, .slice none 0 0, .slice none 0 0] 60 (0, 0)) := (hKb.block q (block_lt hq2) (by omega)).trans hq2
    have HRB : Hid (Rd wb p (stepR longR (stepR (numR 1) S))) := HR2.out.kept hKb (fun k hk e => by omega)
    have HKB : Hid (Kept (fun k => k = p) w wb) := (((kept_of HB0.out).trans HK1.out (fun i hi e => e)).trans HK2.out (fun i hi e => e)).trans hKb (fun i hi e => by have := HQE.out; omega)
    obtain ⟨sid, hsid⟩ : ∃ sid, sid = ByteArray.empty := ⟨_, rfl⟩
    have HIB : Hid (IsBF (fun k => q + 2 ≤ k) wb none 0 0 (sNums sid)) := by rw [hsid]; exact ⟨isB_nil _, fun q hq => by cases hq⟩
    have hszb : q + 1 < wb.heap.size := block_lt hbb
    clear hb2 hq2 hKb
    have HBB : Hid (wb.heap[q + 1]? = some (.cells #[.bool false, .string t, .slice none 0 0, .slice none 0 0] 60 (0, 0))) := hbb
    have hlb := block_lt hbb
    have HQB : Hid (wb.heap[q]? = some (.cells #[.bool false, .string ⟨#[]⟩, .slice none 0 0, .slice none 0 0] 60 (0, 0))) := hqb
    clear hbb hqb
    go_wp2_with fail
    refine (rvalues0 HRB.out).mono ?_
    rintro e w3 ⟨v, L, rfl, HR3, HO3, HV3, HK3⟩
    obtain ⟨va, vc, rfl⟩ := HO3.out.shape
    have hb3 : w3.heap[q + 1]? = some (.cells #[.bool false, .string t, .slice none 0 0, .slice none 0 0] 60 (0, 0)) := (HK3.out.block _ hlb (by omega)).trans HBB.out
    have hq3 : w3.heap[q]? = some (.cells #[.bool false, .string ⟨#[]⟩, .slice none 0 0, .slice none 0 0] 60 (0, 0)) := (HK3.out.block _ (block_lt HQB.out) (by omega)).trans HQB.out
    clear a0 a1 a2 a3 f0 f1 f2 f3
    obtain ⟨a0, a1, a2, a3⟩ := four_cells hb3
    obtain ⟨f0, f1, f2, f3⟩ := four_frozen hb3
    obtain ⟨b0, b1, b2, b3⟩ := four_cells hq3
    obtain ⟨g0, g1, g2, g3⟩ := four_frozen hq3
    have hl3 := block_lt hb3
    have hlq3 := block_lt hq3
    obtain ⟨vl, hvl⟩ : ∃ vl, vl = L.length := ⟨_, rfl⟩
    rw [← hvl] at HO3 ⊢
    clear hvl
    go_wp2_with fail
    have hKA : Kept (fun k => k = q + 1) w3 (w3.setCell ⟨q + 1, 3, none⟩ (.slice va vl vc)) := one_kept _ _ _ _
    generalize w3.setCell ⟨q + 1, 3, none⟩ (.slice va vl vc) = wA at hKA ⊢
    have hqA : wA.heap[q]? = some (.cells #[.bool false, .string ⟨#[]⟩, .slice none 0 0, .slice none 0 0] 60 (0, 0)) := (hKA.block q hlq3 (by omega)).trans hq3
    have hKC : Kept (fun k => k = q) wA ((((wA.setCell ⟨q, 0, none⟩ (.bool false)).setCell ⟨q, 1, none⟩ (.string t)).setCell ⟨q, 2, none⟩ (.slice none 0 0)).setCell ⟨q, 3, none⟩ (.slice va vl vc)) := ((((Kept.refl (fun k => k = q) wA).setCell (p := ⟨q, 0, none⟩) (fun _ => rfl) _).setCell (p := ⟨q, 1, none⟩) (fun _ => rfl) _).setCell (p := ⟨q, 2, none⟩) (fun _ => rfl) _).setCell (p := ⟨q, 3, none⟩) (fun _ => rfl) _
    have hqC := (four_set (four_set (four_set (four_set hqA (.bool false)).1 (.string t)).2.1 (.slice none 0 0)).2.2.1 (.slice va vl vc)).2.2.2
    generalize (((wA.setCell ⟨q, 0, none⟩ (.bool false)).setCell ⟨q, 1, none⟩ (.string t)).setCell ⟨q, 2, none⟩ (.slice none 0 0)).setCell ⟨q, 3, none⟩ (.slice va vl vc) = wC at hKC hqC ⊢
    obtain ⟨z0, z1, z2, z3⟩ := four_cells hqC
    have hwq := HQE.out
    have hszA := hKA.size
    have hszC := hKC.size
    refine bodyPost_ret (v := .agg #[.bool false, .string t, .slice none 0 0, .slice va vl vc]) (by simp [results, Try.results88, go_sem, z0, z1, z2, z3]) rfl ?_
    refine ⟨(false, t, sid, L), _, _, _, va, vl, vc, rfl, ?_, ⟨?_, ?_⟩, ?_, ((HKB.out.trans HK3.out (fun i hi e => e)).trans hKA (fun i hi e => by omega)).trans hKC (fun i hi e => by omega)⟩
    · rw [HSX.out.1]
      exact (HR3.out.kept hKA (fun k hk e => by omega)).kept hKC (fun k hk e => by omega)
    · refine HIB.out.stay (fun k hk hf => ?_) (Nat.le_trans (Nat.le_trans HK3.out.size hszA) hszC) (fun k hk hf => by omega)
      exact (hKC.block k (by have := HK3.out.size; omega) (by omega)).trans ((hKA.block k (by have := HK3.out.size; omega) (by omega)).trans (HK3.out.block k hk (by omega)))
    · refine HO3.out.kept stays_gv (fun k hk hf => ?_) (Nat.le_trans hszA hszC) (fun k hk hf => by omega)
      exact (hKC.block k (by omega) (by omega)).trans (hKA.block k hk (by omega))
    · intro h0
      rw [HSX.out.2 h0]
      rw [HSX.out.1] at h0
      rw [HV3.out h0, HV2.out (step_ok h0).1, hsid]
  · by_cases hx2 : x = 1
    · subst hx2
      have HSX : Hid (stepR stR S = stepR (listR valueR) (stepR textR (stepR (numR 1) S)) ∧ ((stepR stR S).2 = 0 → (stR S.1).val = (true, ByteArray.empty, (textR (stepR (numR 1) S).1).val, (listR valueR (stepR textR (stepR (numR 1) S)).1).val))) := by
        have h0 := HT.out
        have h1 : numX 1 S = 1 := h0.symm
        exact st_prep h1
      go_upto_region 8 with fail
      have hKb0 : Kept (fun k => k = q + 1) w1 (w1.setCell ⟨q + 1, 0, none⟩ (.bool true)) := one_kept _ _ _ _
      have hb0 := (four_set HBK.out (.bool true)).1
      generalize w1.setCell ⟨q + 1, 0, none⟩ (.bool true) = w1b at hKb0 hb0 ⊢
      have HR1B : Hid (Rd w1b p (stepR (numR 1) S)) := HR1.out.kept hKb0 (fun k hk e => by omega)
      have HK1B : Hid (Kept (fun k => k = p) w w1b) := ((kept_of HB0.out).trans HK1.out (fun i hi e => e)).trans hKb0 (fun i hi e => by have := HQE.out; omega)
      have HQ1B : Hid (w1b.heap[q]? = some (.cells #[.bool false, .string ⟨#[]⟩, .slice none 0 0, .slice none 0 0] 60 (0, 0))) := (hKb0.block q (by omega) (by omega)).trans HBQ.out
      have HB1B : Hid (w1b.heap[q + 1]? = some (.cells #[.bool true, .string ⟨#[]⟩, .slice none 0 0, .slice none 0 0] 60 (0, 0))) := hb0
      have hl1b := block_lt hb0
      clear hKb0 hb0
      go_wp2_with fail
      refine (rid HR1B.out).mono ?_
      rintro e w2 ⟨ia, il, ic, sid, rfl, HR2, HI2, hF2, HV2, HK2⟩
      have hb2 : w2.heap[q + 1]? = some (.cells #[.bool true, .string ⟨#[]⟩, .slice none 0 0, .slice none 0 0] 60 (0, 0)) := (HK2.out.block _ hl1b (by omega)).trans HB1B.out
      have hq2 : w2.heap[q]? = some (.cells #[.bool false, .string ⟨#[]⟩, .slice none 0 0, .slice none 0 0] 60 (0, 0)) := (HK2.out.block _ (by omega) (by omega)).trans HQ1B.out
      clear a0 a1 a2 a3 f0 f1 f2 f3
      obtain ⟨a0, a1, a2, a3⟩ := four_cells hb2
      obtain ⟨f0, f1, f2, f3⟩ := four_frozen hb2
      have hla2 := block_lt hb2
      go_upto_region 9 with fail
      have hKb : Kept (fun k => k = q + 1) w2 (w2.setCell ⟨q + 1, 2, none⟩ (.slice ia il ic)) := one_kept _ _ _ _
      have hbb := (four_set hb2 (.slice ia il ic)).2.2.1
      generalize w2.setCell ⟨q + 1, 2, none⟩ (.slice ia il ic) = wb at hKb hbb ⊢
      have hqb : wb.heap[q]? = some (.cells #[.bool false, .string ⟨#[]⟩, .slice none 0 0, .slice none 0 0] 60 (0, 0)) := (hKb.block q (block_lt hq2) (by omega)).trans hq2
      have HRB : Hid (Rd wb p (stepR textR (stepR (numR 1) S))) := HR2.out.kept hKb (fun k hk e => by omega)
      have HKB : Hid (Kept (fun k => k = p) w wb) := (HK1B.out.trans HK2.out (fun i hi e => e)).trans hKb (fun i hi e => by have := HQE.out; omega)
      have HIB : Hid (IsBF (fun k => q + 2 ≤ k) wb ia il ic (sNums sid)) := by
        refine ⟨HI2.out.kept hKb (fun z hz _ e => by have := (hF2 z hz).1; omega), fun z hz _ => ?_⟩
        have h1 := hF2 z hz
        have h2 := hKb.size
        exact ⟨by omega, by omega⟩
      have hszb : q + 1 < wb.heap.size := block_lt hbb
      clear hb2 hq2 hKb hF2
      have HBB : Hid (wb.heap[q + 1]? = some (.cells #[.bool true, .string ⟨#[]⟩, .slice ia il ic, .slice none 0 0] 60 (0, 0))) := hbb
      have hlb := block_lt hbb
      have HQB : Hid (wb.heap[q]? = some (.cells #[.bool false, .string ⟨#[]⟩, .slice none 0 0, .slice none 0 0] 60 (0, 0))) := hqb
      clear hbb hqb
      go_wp2_with fail
      refine (rvalues0 HRB.out).mono ?_
      rintro e w3 ⟨v, L, rfl, HR3, HO3, HV3, HK3⟩
      obtain ⟨va, vc, rfl⟩ := HO3.out.shape
      have hb3 : w3.heap[q + 1]? = some (.cells #[.bool true, .string ⟨#[]⟩, .slice ia il ic, .slice none 0 0] 60 (0, 0)) := (HK3.out.block _ hlb (by omega)).trans HBB.out
      have hq3 : w3.heap[q]? = some (.cells #[.bool false, .string ⟨#[]⟩, .slice none 0 0, .slice none 0 0] 60 (0, 0)) := (HK3.out.block _ (block_lt HQB.out) (by omega)).trans HQB.out
      clear a0 a1 a2 a3 f0 f1 f2 f3
      obtain ⟨a0, a1, a2, a3⟩ := four_cells hb3
      obtain ⟨f0, f1, f2, f3⟩ := four_frozen hb3
      obtain ⟨b0, b1, b2, b3⟩ := four_cells hq3
      obtain ⟨g0, g1, g2, g3⟩ := four_frozen hq3
      have hl3 := block_lt hb3
      have hlq3 := block_lt hq3
      obtain ⟨vl, hvl⟩ : ∃ vl, vl = L.length := ⟨_, rfl⟩
      rw [← hvl] at HO3 ⊢
      clear hvl
      go_wp2_with fail
      have hKA : Kept (fun k => k = q + 1) w3 (w3.setCell ⟨q + 1, 3, none⟩ (.slice va vl vc)) := one_kept _ _ _ _
      generalize w3.setCell ⟨q + 1, 3, none⟩ (.slice va vl vc) = wA at hKA ⊢
      have hqA : wA.heap[q]? = some (.cells #[.bool false, .string ⟨#[]⟩, .slice none 0 0, .slice none 0 0] 60 (0, 0)) := (hKA.block q hlq3 (by omega)).trans hq3
      have hKC : Kept (fun k => k = q) wA ((((wA.setCell ⟨q, 0, none⟩ (.bool true)).setCell ⟨q, 1, none⟩ (.string ⟨#[]⟩)).setCell ⟨q, 2, none⟩ (.slice ia il ic)).setCell ⟨q, 3, none⟩ (.slice va vl vc)) := ((((Kept.refl (fun k => k = q) wA).setCell (p := ⟨q, 0, none⟩) (fun _ => rfl) _).setCell (p := ⟨q, 1, none⟩) (fun _ => rfl) _).setCell (p := ⟨q, 2, none⟩) (fun _ => rfl) _).setCell (p := ⟨q, 3, none⟩) (fun _ => rfl) _
      have hqC := (four_set (four_set (four_set (four_set hqA (.bool true)).1 (.string ⟨#[]⟩)).2.1 (.slice ia il ic)).2.2.1 (.slice va vl vc)).2.2.2
      generalize (((wA.setCell ⟨q, 0, none⟩ (.bool true)).setCell ⟨q, 1, none⟩ (.string ⟨#[]⟩)).setCell ⟨q, 2, none⟩ (.slice ia il ic)).setCell ⟨q, 3, none⟩ (.slice va vl vc) = wC at hKC hqC ⊢
      obtain ⟨z0, z1, z2, z3⟩ := four_cells hqC
      have hwq := HQE.out
      have hszA := hKA.size
      have hszC := hKC.size
      refine bodyPost_ret (v := .agg #[.bool true, .string ⟨#[]⟩, .slice ia il ic, .slice va vl vc]) (by simp [results, Try.results88, go_sem, z0, z1, z2, z3]) rfl ?_
      refine ⟨(true, ⟨#[]⟩, sid, L), _, _, _, va, vl, vc, rfl, ?_, ⟨?_, ?_⟩, ?_, ((HKB.out.trans HK3.out (fun i hi e => e)).trans hKA (fun i hi e => by omega)).trans hKC (fun i hi e => by omega)⟩
      · rw [HSX.out.1]
        exact (HR3.out.kept hKA (fun k hk e => by omega)).kept hKC (fun k hk e => by omega)
      · refine HIB.out.stay (fun k hk hf => ?_) (Nat.le_trans (Nat.le_trans HK3.out.size hszA) hszC) (fun k hk hf => by omega)
        exact (hKC.block k (by have := HK3.out.size; omega) (by omega)).trans ((hKA.block k (by have := HK3.out.size; omega) (by omega)).trans (HK3.out.block k hk (by omega)))
      · refine HO3.out.kept stays_gv (fun k hk hf => ?_) (Nat.le_trans hszA hszC) (fun k hk hf => by omega)
        exact (hKC.block k (by omega) (by omega)).trans (hKA.block k hk (by omega))
      · intro h0
        rw [HSX.out.2 h0]
        rw [HSX.out.1] at h0
        rw [HV3.out h0, HV2.out (step_ok h0).1]
        rfl
    · have HSX : Hid (stepR stR S = stepR (listR valueR) (stepR (failR 11 : Ps Int) (stepR (numR 1) S)) ∧ (stepR stR S).2 ≠ 0) := by
        have h0 := HT.out
        exact st_bad (by rw [← h0]; exact hx) (by rw [← h0]; exact hx2)
      have t0 : (x == 0) = false := by simpa using hx
      have t1 : (x == 1) = false := by simpa using hx2
      clear hx hx2
      go_wp2_with fail
      refine (rfail HR1.out 11 (by decide)).mono ?_
      rintro e wb ⟨rfl, HRB, HK2⟩
      have hbb : wb.heap[q + 1]? = some (.cells #[.bool false, .string ⟨#[]⟩, .slice none 0 0, .slice none 0 0] 60 (0, 0)) := (HK2.out.block _ hla (by omega)).trans HBK.out
      have hqb : wb.heap[q]? = some (.cells #[.bool false, .string ⟨#[]⟩, .slice none 0 0, .slice none 0 0] 60 (0, 0)) := (HK2.out.block _ (by omega) (by omega)).trans HBQ.out
      have HKB : Hid (Kept (fun k => k = p) w wb) := ((kept_of HB0.out).trans HK1.out (fun i hi e => e)).trans HK2.out (fun i hi e => e)
      obtain ⟨sid, hsid⟩ : ∃ sid, sid = ByteArray.empty := ⟨_, rfl⟩
      have HIB : Hid (IsBF (fun k => q + 2 ≤ k) wb none 0 0 (sNums sid)) := by rw [hsid]; exact ⟨isB_nil _, fun q hq => by cases hq⟩
      have hszb : q + 1 < wb.heap.size := block_lt hbb
      have HBB : Hid (wb.heap[q + 1]? = some (.cells #[.bool false, .string ⟨#[]⟩, .slice none 0 0, .slice none 0 0] 60 (0, 0))) := hbb
      have hlb := block_lt hbb
      have HQB : Hid (wb.heap[q]? = some (.cells #[.bool false, .string ⟨#[]⟩, .slice none 0 0, .slice none 0 0] 60 (0, 0))) := hqb
      clear hbb hqb
      go_wp2_with fail
      refine (rvalues0 HRB.out).mono ?_
      rintro e w3 ⟨v, L, rfl, HR3, HO3, HV3, HK3⟩
      obtain ⟨va, vc, rfl⟩ := HO3.out.shape
      have hb3 : w3.heap[q + 1]? = some (.cells #[.bool false, .string ⟨#[]⟩, .slice none 0 0, .slice none 0 0] 60 (0, 0)) := (HK3.out.block _ hlb (by omega)).trans HBB.out
      have hq3 : w3.heap[q]? = some (.cells #[.bool false, .string ⟨#[]⟩, .slice none 0 0, .slice none 0 0] 60 (0, 0)) := (HK3.out.block _ (block_lt HQB.out) (by omega)).trans HQB.out
      clear a0 a1 a2 a3 f0 f1 f2 f3
      obtain ⟨a0, a1, a2, a3⟩ := four_cells hb3
      obtain ⟨f0, f1, f2, f3⟩ := four_frozen hb3
      obtain ⟨b0, b1, b2, b3⟩ := four_cells hq3
      obtain ⟨g0, g1, g2, g3⟩ := four_frozen hq3
      have hl3 := block_lt hb3
      have hlq3 := block_lt hq3
      obtain ⟨vl, hvl⟩ : ∃ vl, vl = L.length := ⟨_, rfl⟩
      rw [← hvl] at HO3 ⊢
      clear hvl
      go_wp2_with fail
      have hKA : Kept (fun k => k = q + 1) w3 (w3.setCell ⟨q + 1, 3, none⟩ (.slice va vl vc)) := one_kept _ _ _ _
      generalize w3.setCell ⟨q + 1, 3, none⟩ (.slice va vl vc) = wA at hKA ⊢
      have hqA : wA.heap[q]? = some (.cells #[.bool false, .string ⟨#[]⟩, .slice none 0 0, .slice none 0 0] 60 (0, 0)) := (hKA.block q hlq3 (by omega)).trans hq3
      have hKC : Kept (fun k => k = q) wA ((((wA.setCell ⟨q, 0, none⟩ (.bool false)).setCell ⟨q, 1, none⟩ (.string ⟨#[]⟩)).setCell ⟨q, 2, none⟩ (.slice none 0 0)).setCell ⟨q, 3, none⟩ (.slice va vl vc)) := ((((Kept.refl (fun k => k = q) wA).setCell (p := ⟨q, 0, none⟩) (fun _ => rfl) _).setCell (p := ⟨q, 1, none⟩) (fun _ => rfl) _).setCell (p := ⟨q, 2, none⟩) (fun _ => rfl) _).setCell (p := ⟨q, 3, none⟩) (fun _ => rfl) _
      have hqC := (four_set (four_set (four_set (four_set hqA (.bool false)).1 (.string ⟨#[]⟩)).2.1 (.slice none 0 0)).2.2.1 (.slice va vl vc)).2.2.2
      generalize (((wA.setCell ⟨q, 0, none⟩ (.bool false)).setCell ⟨q, 1, none⟩ (.string ⟨#[]⟩)).setCell ⟨q, 2, none⟩ (.slice none 0 0)).setCell ⟨q, 3, none⟩ (.slice va vl vc) = wC at hKC hqC ⊢
      obtain ⟨z0, z1, z2, z3⟩ := four_cells hqC
      have hwq := HQE.out
      have hszA := hKA.size
      have hszC := hKC.size
      refine bodyPost_ret (v := .agg #[.bool false, .string ⟨#[]⟩, .slice none 0 0, .slice va vl vc]) (by simp [results, Try.results88, go_sem, z0, z1, z2, z3]) rfl ?_
      refine ⟨(false, ⟨#[]⟩, sid, L), _, _, _, va, vl, vc, rfl, ?_, ⟨?_, ?_⟩, ?_, ((HKB.out.trans HK3.out (fun i hi e => e)).trans hKA (fun i hi e => by omega)).trans hKC (fun i hi e => by omega)⟩
      · rw [HSX.out.1]
        exact (HR3.out.kept hKA (fun k hk e => by omega)).kept hKC (fun k hk e => by omega)
      · refine HIB.out.stay (fun k hk hf => ?_) (Nat.le_trans (Nat.le_trans HK3.out.size hszA) hszC) (fun k hk hf => by omega)
        exact (hKC.block k (by have := HK3.out.size; omega) (by omega)).trans ((hKA.block k (by have := HK3.out.size; omega) (by omega)).trans (HK3.out.block k hk (by omega)))
      · refine HO3.out.kept stays_gv (fun k hk hf => ?_) (Nat.le_trans hszA hszC) (fun k hk hf => by omega)
        exact (hKC.block k (by omega) (by omega)).trans (hKA.block k hk (by omega))
      · intro h0
        exact absurd h0 HSX.out.2
end Go.Proofs.Ytcecdklgiocbaaa
