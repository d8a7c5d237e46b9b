/-
  The reader: head; a type that is read.
-/
import Derived.Test.YtnapeecmlkkolaaDoorRd11
namespace Go.Proofs.YtnapeecmlkkolaaDoor
open Go.RowKit
set_option maxRecDepth 100000
set_option linter.unusedVariables false
set_option linter.unusedSimpArgs false

theorem blk_set {w : World} {p : Nat} {cs : Array Value} {t : TypeId} (h : w.heap[p]? = some (.cells cs t (0, 0))) (j : Nat) (u : Value) : (w.setCell ⟨p, j, none⟩ u).heap[p]? = some (.cells (cs.setIfInBounds j u) t (0, 0)) := by
  have hlt := block_lt h
  have h' : w.heap[p] = .cells cs t (0, 0) := by simpa [Array.getElem?_eq_getElem hlt] using h
  show (w.heap.modify p _)[p]? = _
  rw [Array.getElem?_eq_getElem (by simpa using hlt), Array.getElem_modify_self, h']
  rfl
theorem blk_cell {w : World} {p : Nat} {cs : Array Value} {t : TypeId} (h : w.heap[p]? = some (.cells cs t (0, 0))) (j : Nat) : w.cell? ⟨p, j, none⟩ = cs[j]? := by
  simp [World.cell?, h]
theorem blk_frozen {w : World} {p : Nat} {cs : Array Value} {t : TypeId} (h : w.heap[p]? = some (.cells cs t (0, 0))) (j : Nat) : w.frozen? ⟨p, j, none⟩ = false := by
  simp [World.frozen?, h]
theorem blk5 {w : World} {p : Nat} {a b c d e : Value} {t : TypeId} (h : w.heap[p]? = some (.cells #[a, b, c, d, e] t (0, 0))) :
    (w.cell? ⟨p, 0, none⟩ = some a ∧ w.cell? ⟨p, 1, none⟩ = some b ∧ w.cell? ⟨p, 2, none⟩ = some c ∧ w.cell? ⟨p, 3, none⟩ = some d ∧ w.cell? ⟨p, 4, none⟩ = some e) ∧
    (w.frozen? ⟨p, 0, none⟩ = false ∧ w.frozen? ⟨p, 1, none⟩ = false ∧ w.frozen? ⟨p, 2, none⟩ = false ∧ w.frozen? ⟨p, 3, none⟩ = false ∧ w.frozen? ⟨p, 4, none⟩ = false) :=
  ⟨⟨blk_cell h 0, blk_cell h 1, blk_cell h 2, blk_cell h 3, blk_cell h 4⟩, ⟨blk_frozen h 0, blk_frozen h 1, blk_frozen h 2, blk_frozen h 3, blk_frozen h 4⟩⟩

theorem Tab.kept {w W : World} {K : Nat → Prop} (h : Tab w) (hK : Kept K w W) (h0 : ¬ K 0) : Tab W :=
  ⟨fun i hi => (hK.cell (p := ⟨0, i, none⟩) h.lt h0).trans (h.cell i hi), Nat.lt_of_lt_of_le h.lt hK.size⟩

/-- New blocks, and what they hold, stay while others are written. -/
theorem TyAt.apart {n : Nat} {F K : Nat → Prop} {w W : World} {t : Ty} {na : Option Addr} {nl nc : Nat} {ka : Option Addr} {kl kc : Nat} (h : TyAt n F w t na nl nc ka kl kc) (hK : Kept K w W) (hn : ∀ k, k < w.heap.size → F k → ¬ K k) : TyAt n F W t na nl nc ka kl kc :=
  h.mono (fun k hk hF => ⟨hF, hK.block k hk (hn k hk hF)⟩) hK.size

theorem head_bad {S : BE} (h : int4X S < 0 ∨ 7 < int4X S) : stepR headR S = stepR (failR (0 : Int) 21) (stepR int4R S) := by
  have h0 : (stepR int4R S).2 = 0 := by
    by_cases h1 : (stepR int4R S).2 = 0
    · exact h1
    · rw [int4X_err h1] at h; omega
  rw [headR, step_bind, ← int4_val h0, if_pos h]
  rfl

theorem head_ok {S : BE} (h : 0 ≤ int4X S) (h7 : int4X S ≤ 7) : stepR headR S = stepR manyR (stepR int4R S) ∧ ((stepR headR S).2 = 0 → (headR S.1).val = (int4X S, manyX (stepR int4R S))) := by
  by_cases h0 : (stepR int4R S).2 = 0
  · have hn : ¬ (int4X S < 0 ∨ 7 < int4X S) := by omega
    have e : stepR headR S = stepR manyR (stepR int4R S) := by
      rw [headR, step_bind, ← int4_val h0, if_neg hn, step_bind, step_pure2]
    refine ⟨e, fun hh => ?_⟩
    have h2 := hh
    rw [headR] at h2 ⊢
    rw [bind_val _ _ _ h2, ← int4_val h0, if_neg hn]
    have h3 : (stepR (bindR manyR fun n => pureR (int4X S, n)) (stepR int4R S)).2 = 0 := by
      rw [step_bind, step_pure2, ← e]; exact hh
    rw [bind_val _ _ _ h3]
    have h4 : (stepR manyR (stepR int4R S)).2 = 0 := by rw [← e]; exact hh
    rw [← many_val h4]
    rfl
  · have e : stepR headR S = stepR int4R S := by rw [headR, step_bind, step_err _ h0 (step_nrm _ _)]
    have e2 : stepR manyR (stepR int4R S) = stepR int4R S := step_err _ h0 (step_nrm _ _)
    exact ⟨by rw [e, e2], fun hh => absurd (by rw [← e]; exact hh) h0⟩

set_option maxHeartbeats 400000 in
theorem rhead {w : World} {p : Nat} {S : BE} (h : Rd w p S) :
    Calls Tryd.prog 22 #[.pointer (some ⟨p, 0, none⟩)] w fun e w' => ∃ f n, e = .returned (.tuple #[.int .i64 f, .int .i64 n]) ∧ Hid (Rd w' p (stepR headR S)) ∧ (0 ≤ n ∧ n ≤ 4096) ∧ Hid ((stepR headR S).2 = 0 → (f, n) = (headR S.1).val) ∧ Hid (Kept (fun k => k = p) w w') := by
  obtain ⟨t, ht⟩ : ∃ t, t = int4X S := ⟨_, rfl⟩
  have hb := int4X_bounds S
  rw [← ht] at hb
  have H : Hid (Rd w p S) := h
  have HT : Hid (t = int4X S) := ht
  clear h ht
  by_cases h1 : t < 0 ∨ 7 < t
  · have HY : Hid _ := head_bad (S := S) (by rw [← HT.out]; exact h1)
    by_cases h2 : t < 0
    · clear h1
      go_enter Tryd.func22, Tryd.ntmps22
      go_wp2_with fail
      refine (rnumber H.out HT.out).mono ?_
      rintro e w1 ⟨rfl, HR, HK⟩
      go_wp2_with fail
      refine (rfail HR.out 21 (by decide)).mono ?_
      rintro e w2 ⟨rfl, HR2, HK2⟩
      rw [← HY.out] at HR2
      obtain ⟨m, hm⟩ : ∃ m, m = manyX (stepR headR S) := ⟨_, rfl⟩
      have HM : Hid (m = manyX (stepR headR S)) := hm
      have hmb := manyX_bounds (stepR headR S)
      rw [← hm] at hmb
      clear hm
      go_wp2_with fail
      refine (rmany HR2.out HM.out).mono ?_
      rintro e w3 ⟨rfl, HR3, HK3⟩
      go_wp2_with fail
      go_ret2
      have he : (stepR headR S).2 ≠ 0 := by
        rw [HY.out]
        by_cases h0 : (stepR int4R S).2 = 0
        · rw [step_fail _ _ h0 (by decide)]; decide
        · rw [step_err _ h0 (step_nrm _ _)]; exact h0
      refine ⟨_, _, rfl, ?_, hmb, fun hh => absurd hh he, (HK.out.trans HK2.out (fun _ _ e => e)).trans HK3.out (fun _ _ e => e)⟩
      rw [step_err _ he (step_nrm _ _)] at HR3; exact HR3
    · have h3 : 7 < t := by omega
      clear h1
      go_enter Tryd.func22, Tryd.ntmps22
      go_wp2_with fail
      refine (rnumber H.out HT.out).mono ?_
      rintro e w1 ⟨rfl, HR, HK⟩
      go_wp2_with fail
      refine (rfail HR.out 21 (by decide)).mono ?_
      rintro e w2 ⟨rfl, HR2, HK2⟩
      rw [← HY.out] at HR2
      obtain ⟨m, hm⟩ : ∃ m, m = manyX (stepR headR S) := ⟨_, rfl⟩
      have HM : Hid (m = manyX (stepR headR S)) := hm
      have hmb := manyX_bounds (stepR headR S)
      rw [← hm] at hmb
      clear hm
      go_wp2_with fail
      refine (rmany HR2.out HM.out).mono ?_
      rintro e w3 ⟨rfl, HR3, HK3⟩
      go_wp2_with fail
      go_ret2
      have he : (stepR headR S).2 ≠ 0 := by
        rw [HY.out]
        by_cases h0 : (stepR int4R S).2 = 0
        · rw [step_fail _ _ h0 (by decide)]; decide
        · rw [step_err _ h0 (step_nrm _ _)]; exact h0
      refine ⟨_, _, rfl, ?_, hmb, fun hh => absurd hh he, (HK.out.trans HK2.out (fun _ _ e => e)).trans HK3.out (fun _ _ e => e)⟩
      rw [step_err _ he (step_nrm _ _)] at HR3; exact HR3
  · have HY : Hid _ := head_ok (S := S) (by rw [← HT.out]; omega) (by rw [← HT.out]; omega)
    have h2 : ¬ t < 0 := by omega
    have h3 : ¬ 7 < t := by omega
    clear h1
    go_enter Tryd.func22, Tryd.ntmps22
    go_wp2_with fail
    refine (rnumber H.out HT.out).mono ?_
    rintro e w1 ⟨rfl, HR, HK⟩
    obtain ⟨m, hm⟩ : ∃ m, m = manyX (stepR int4R S) := ⟨_, rfl⟩
    have HM : Hid (m = manyX (stepR int4R S)) := hm
    have hmb := manyX_bounds (stepR int4R S)
    rw [← hm] at hmb
    clear hm
    go_wp2_with fail
    refine (rmany HR.out HM.out).mono ?_
    rintro e w3 ⟨rfl, HR3, HK3⟩
    go_wp2_with fail
    go_ret2
    refine ⟨_, _, rfl, ?_, hmb, fun hh => ?_, HK.out.trans HK3.out (fun _ _ e => e)⟩
    · rw [HY.out.1]; exact HR3
    · rw [HY.out.2 hh, HT.out, HM.out]

set_option maxHeartbeats 2000000 in
theorem read_opt {w : World} {p : Nat} {S : BE} (h : Rd w p S) (hT : Tab w) :
    Calls Tryd.prog 72 #[.pointer (some ⟨p, 0, none⟩), .func (.func 73) #[] #[]] w fun e w' => ∃ (X : Ty) (na : Option Addr) (nl nc : Nat) (ka : Option Addr) (kl kc : Nat), e = .returned (.agg #[.int .u16 X.id, .string X.space, .string X.name, .slice na nl nc, .slice ka kl kc]) ∧ Hid (Rd w' p (stepR (tyR 20) S)) ∧ Hid (TyAt 19 (New w.heap.size w') w' X na nl nc ka kl kc) ∧
      Hid ((stepR (tyR 20) S).2 = 0 → X = (tyR 20 S.1).val) ∧ Hid (Kept (fun k => k = p) w w') := by
  obtain ⟨⟨r, lr, cr, hb, hok⟩, hn, hl, hr⟩ := h
  have hlt0 := block_lt hb
  obtain ⟨w0, hw0⟩ : ∃ w0, w0 = (w.alloc (.cells #[.int .u16 0, .string ⟨#[]⟩, .string ⟨#[]⟩, .slice none 0 0, .slice none 0 0] 62)).alloc (.cells #[.int .u16 0, .string ⟨#[]⟩, .string ⟨#[]⟩, .slice none 0 0, .slice none 0 0] 62) := ⟨_, rfl⟩
  have HW0 : Hid ((w.alloc (.cells #[.int .u16 0, .string ⟨#[]⟩, .string ⟨#[]⟩, .slice none 0 0, .slice none 0 0] 62)).alloc (.cells #[.int .u16 0, .string ⟨#[]⟩, .string ⟨#[]⟩, .slice none 0 0, .slice none 0 0] 62) = w0) := hw0.symm
  have hB0 : Below w.heap.size w w0 := by rw [hw0]; exact (below_one _ _).alloc (by simp) _
  have hq1 : w0.heap[w.heap.size]? = some (.cells #[.int .u16 0, .string ⟨#[]⟩, .string ⟨#[]⟩, .slice none 0 0, .slice none 0 0] 62 (0, 0)) := by
    rw [hw0]
    exact ((below_one (w.alloc (.cells #[.int .u16 0, .string ⟨#[]⟩, .string ⟨#[]⟩, .slice none 0 0, .slice none 0 0] 62)) _).block w.heap.size (by simp)).trans (heap_alloc_new w _)
  have hq2 : w0.heap[w.heap.size + 1]? = some (.cells #[.int .u16 0, .string ⟨#[]⟩, .string ⟨#[]⟩, .slice none 0 0, .slice none 0 0] 62 (0, 0)) := by
    rw [hw0]
    have := heap_alloc_new (w.alloc (.cells #[.int .u16 0, .string ⟨#[]⟩, .string ⟨#[]⟩, .slice none 0 0, .slice none 0 0] 62)) (.cells #[.int .u16 0, .string ⟨#[]⟩, .string ⟨#[]⟩, .slice none 0 0, .slice none 0 0] 62)
    simpa using this
  have hb0 : w0.heap[p]? = some (.cells #[.slice r lr cr, .int .i64 S.2] 71 (0, 0)) := (hB0.block p hlt0).trans hb
  obtain ⟨c0, c1, f0, f1⟩ := two_cells hb0
  obtain ⟨⟨a0, a1, a2, a3, a4⟩, af0, af1, af2, af3, af4⟩ := blk5 hq1
  obtain ⟨⟨b0, b1, b2, b3, b4⟩, bf0, bf1, bf2, bf3, bf4⟩ := blk5 hq2
  have hlt := block_lt hb0
  have hlta := block_lt hq1
  have hltb := block_lt hq2
  have HB : Hid (w0.heap[p]? = some (.cells #[.slice r lr cr, .int .i64 S.2] 71 (0, 0))) := hb0
  have HQ1 : Hid (w0.heap[w.heap.size]? = some (.cells #[.int .u16 0, .string ⟨#[]⟩, .string ⟨#[]⟩, .slice none 0 0, .slice none 0 0] 62 (0, 0))) := hq1
  have HQ2 : Hid (w0.heap[w.heap.size + 1]? = some (.cells #[.int .u16 0, .string ⟨#[]⟩, .string ⟨#[]⟩, .slice none 0 0, .slice none 0 0] 62 (0, 0))) := hq2
  have HB0 : Hid (Below w.heap.size w w0) := hB0
  have HT0 : Hid (Tab w0) := hT.old hB0
  have HN : Hid (Nrm S) := hn
  have HL : Hid (S.1.length ≤ 140737488351232) := hl
  have HR : Hid (Rng S.1) := hr
  have HOK : Hid (S.2 = 0 → IsB w r lr cr S.1 ∧ ∀ q, r = some q → 0 < lr → q.block < p) := hok
  obtain ⟨q, hq⟩ : ∃ q, q = w.heap.size := ⟨_, rfl⟩
  have HQE : Hid (q = w.heap.size) := hq
  rw [← hq] at a0 a1 a2 a3 a4 af0 af1 af2 af3 af4 b0 b1 b2 b3 b4 bf0 bf1 bf2 bf3 bf4 hlta hltb hlt0 HQ1 HQ2
  have HQW : Hid (w.heap.size = q) := hq.symm
  clear hb hok hn hl hr hb0 hq1 hq2 hw0 hB0 hq hT
  by_cases hS : S.2 = 0
  · have HI : Hid (IsB w r lr cr S.1) := (HOK.out hS).1
    have HLOW : Hid (∀ q, r = some q → 0 < lr → q.block < p) := (HOK.out hS).2
    have HS : Hid (S.2 = 0) := hS
    have HSM : Hid (lr ≤ 140737488351232) := by show _ ≤ _; rw [← HI.out.1]; exact HL.out
    obtain ⟨Y, hY⟩ : ∃ Y, Y = tyR 20 S.1 := ⟨_, rfl⟩
    have HY : Hid (Y = tyR 20 S.1) := hY
    rw [hS] at c1
    clear hS HOK hY
    go_enter Tryd.func72, Tryd.ntmps72
    go_upto_region 2 with fail
    rw [HW0.out]
    clear HW0
    (try rw [HQW.out])
    go_wp2_with fail
    refine (Get_any (HI.out.old HB0.out) HT0.out HSM.out HY.out).mono ?_
    rintro e w1 ⟨r2, lr2, cr2, na, nl, nc, ka, kl, kc, rfl, HX, HBH, hB⟩
    obtain ⟨X, hX⟩ : ∃ X, X = Y.val := ⟨_, rfl⟩
    obtain ⟨E, hE⟩ : ∃ E, E = Y.err := ⟨_, rfl⟩
    rw [← hX, ← hE]
    rw [← hX] at HX
    have HXE : Hid (X = Y.val) := hX
    have HEE : Hid (E = Y.err) := hE
    clear hX hE
    have hb1 : w1.heap[p]? = some (.cells #[.slice r lr cr, .int .i64 S.2] 71 (0, 0)) := (hB.block p hlt).trans HB.out
    obtain ⟨d0, d1, g0, g1⟩ := two_cells hb1
    have HBK : Hid (w1.heap[p]? = some (.cells #[.slice r lr cr, .int .i64 S.2] 71 (0, 0))) := hb1
    have hlt1 := block_lt hb1
    have hq1 : w1.heap[q]? = some (.cells #[.int .u16 0, .string ⟨#[]⟩, .string ⟨#[]⟩, .slice none 0 0, .slice none 0 0] 62 (0, 0)) := (hB.block _ hlta).trans HQ1.out
    have hq2 : w1.heap[q + 1]? = some (.cells #[.int .u16 0, .string ⟨#[]⟩, .string ⟨#[]⟩, .slice none 0 0, .slice none 0 0] 62 (0, 0)) := (hB.block _ hltb).trans HQ2.out
    obtain ⟨⟨a0, a1, a2, a3, a4⟩, af0, af1, af2, af3, af4⟩ := blk5 hq1
    obtain ⟨⟨b0, b1, b2, b3, b4⟩, bf0, bf1, bf2, bf3, bf4⟩ := blk5 hq2
    have hlta := block_lt hq1
    have hltb := block_lt hq2
    have hpq : p ≠ q := by omega
    have hpq1 : p ≠ q + 1 := by omega
    have hqp : q ≠ p := by omega
    have hqp1 : q + 1 ≠ p := by omega
    have HB1 : Hid (Below w0.heap.size w0 w1) := hB
    clear hB hb1
    go_wp2_with fail
    have hKA : Kept (fun k => k = q + 1) w1 (((((w1.setCell ⟨q + 1, 0, none⟩ (.int .u16 X.id)).setCell ⟨q + 1, 1, none⟩ (.string X.space)).setCell ⟨q + 1, 2, none⟩ (.string X.name)).setCell ⟨q + 1, 3, none⟩ (.slice na nl nc)).setCell ⟨q + 1, 4, none⟩ (.slice ka kl kc)) := (((((Kept.refl (fun k => k = q + 1) w1).setCell (p := ⟨q + 1, 0, none⟩) (fun _ => rfl) _).setCell (p := ⟨q + 1, 1, none⟩) (fun _ => rfl) _).setCell (p := ⟨q + 1, 2, none⟩) (fun _ => rfl) _).setCell (p := ⟨q + 1, 3, none⟩) (fun _ => rfl) _).setCell (p := ⟨q + 1, 4, none⟩) (fun _ => rfl) _
    generalize ((((w1.setCell ⟨q + 1, 0, none⟩ (.int .u16 X.id)).setCell ⟨q + 1, 1, none⟩ (.string X.space)).setCell ⟨q + 1, 2, none⟩ (.string X.name)).setCell ⟨q + 1, 3, none⟩ (.slice na nl nc)).setCell ⟨q + 1, 4, none⟩ (.slice ka kl kc) = wA at hKA ⊢
    have hbA : wA.heap[p]? = some (.cells #[.slice r lr cr, .int .i64 S.2] 71 (0, 0)) := (hKA.block p hlt1 hpq1).trans HBK.out
    have hBA : Behind wA r r2 lr2 cr2 S.1 (tyR 20 S.1).done (tyR 20 S.1).err := by
      rw [← HY.out]
      exact HBH.out.kept hKA (fun z hz hl e => by
        have h1 := HLOW.out z hz (by rw [← HI.out.1]; exact hl)
        omega)
    have hRB := rd_next (tyR 20) HN.out HL.out HR.out HS.out hbA HI.out HLOW.out hBA
    rw [← HY.out, ← HEE.out] at hRB
    have hKB : Kept (fun k => k = p) wA ((wA.setCell ⟨p, 0, none⟩ (.slice r2 lr2 cr2)).setCell ⟨p, 1, none⟩ (.int .i64 E)) := ((Kept.refl (fun k => k = p) wA).setCell (p := ⟨p, 0, none⟩) (fun _ => rfl) _).setCell (p := ⟨p, 1, none⟩) (fun _ => rfl) _
    generalize (wA.setCell ⟨p, 0, none⟩ (.slice r2 lr2 cr2)).setCell ⟨p, 1, none⟩ (.int .i64 E) = wB at hRB hKB ⊢
    have hqA : wA.heap[q]? = some (.cells #[.int .u16 0, .string ⟨#[]⟩, .string ⟨#[]⟩, .slice none 0 0, .slice none 0 0] 62 (0, 0)) := (hKA.block q hlta (by omega)).trans hq1
    have hqB : wB.heap[q]? = some (.cells #[.int .u16 0, .string ⟨#[]⟩, .string ⟨#[]⟩, .slice none 0 0, .slice none 0 0] 62 (0, 0)) := (hKB.block q (block_lt hqA) hqp).trans hqA
    have hKC : Kept (fun k => k = q) wB (((((wB.setCell ⟨q, 0, none⟩ (.int .u16 X.id)).setCell ⟨q, 1, none⟩ (.string X.space)).setCell ⟨q, 2, none⟩ (.string X.name)).setCell ⟨q, 3, none⟩ (.slice na nl nc)).setCell ⟨q, 4, none⟩ (.slice ka kl kc)) := (((((Kept.refl (fun k => k = q) wB).setCell (p := ⟨q, 0, none⟩) (fun _ => rfl) _).setCell (p := ⟨q, 1, none⟩) (fun _ => rfl) _).setCell (p := ⟨q, 2, none⟩) (fun _ => rfl) _).setCell (p := ⟨q, 3, none⟩) (fun _ => rfl) _).setCell (p := ⟨q, 4, none⟩) (fun _ => rfl) _
    have hqC : (((((wB.setCell ⟨q, 0, none⟩ (.int .u16 X.id)).setCell ⟨q, 1, none⟩ (.string X.space)).setCell ⟨q, 2, none⟩ (.string X.name)).setCell ⟨q, 3, none⟩ (.slice na nl nc)).setCell ⟨q, 4, none⟩ (.slice ka kl kc)).heap[q]? = some (.cells #[.int .u16 X.id, .string X.space, .string X.name, .slice na nl nc, .slice ka kl kc] 62 (0, 0)) := blk_set ((blk_set ((blk_set ((blk_set ((blk_set (hqB) 0 (.int .u16 X.id))) 1 (.string X.space))) 2 (.string X.name))) 3 (.slice na nl nc))) 4 (.slice ka kl kc)
    generalize ((((wB.setCell ⟨q, 0, none⟩ (.int .u16 X.id)).setCell ⟨q, 1, none⟩ (.string X.space)).setCell ⟨q, 2, none⟩ (.string X.name)).setCell ⟨q, 3, none⟩ (.slice na nl nc)).setCell ⟨q, 4, none⟩ (.slice ka kl kc) = wC at hKC hqC ⊢
    obtain ⟨⟨z0, z1, z2, z3, z4⟩, _⟩ := blk5 hqC
    have hsz : w0.heap.size ≤ w1.heap.size := HB1.out.size
    have hw0s : q + 1 < w0.heap.size := block_lt HQ2.out
    have hF1 : ∀ k, k < w1.heap.size → New w0.heap.size w1 k → ¬ k = q + 1 := fun k _ hk e => by have := hk.1; omega
    have hF2 : ∀ k, k < wA.heap.size → New w0.heap.size w1 k → ¬ k = p := fun k _ hk e => by have := hk.1; omega
    have hF3 : ∀ k, k < wB.heap.size → New w0.heap.size w1 k → ¬ k = q := fun k _ hk e => by have := hk.1; omega
    have hTC := ((HX.out.apart hKA hF1).apart hKB hF2).apart hKC hF3
    have hK1 : Kept (fun k => k = p) w w1 := kept_of (HB0.out.trans (HB1.out.mono HB0.out.size))
    have hKall : Kept (fun k => k = p) w wC := ((hK1.trans hKA (fun i hi e => by have := HQE.out; omega)).trans hKB (fun i hi e => e)).trans hKC (fun i hi e => by have := HQE.out; omega)
    have hsz2 : w1.heap.size ≤ wC.heap.size := by have := hKA.size; have := hKB.size; have := hKC.size; omega
    refine bodyPost_ret (v := .agg #[.int .u16 X.id, .string X.space, .string X.name, .slice na nl nc, .slice ka kl kc]) (by simp [results, Tryd.results72, go_sem, z0, z1, z2, z3, z4]) rfl ?_
    refine ⟨X, na, nl, nc, ka, kl, kc, rfl, ?_, ?_, fun _ => by rw [HXE.out, HY.out], hKall⟩
    · exact hRB.kept hKC (fun k hk e => by omega)
    · exact hTC.mono (fun k hk hF => ⟨⟨by have := hF.1; have := HQE.out; omega, hk⟩, rfl⟩) (Nat.le_refl _)
  · have t : (S.2 == 0) = false := by simpa using hS
    have HE : Hid (stepR (tyR 20) S = S) := step_err _ hS HN.out
    have HNE : Hid (S.2 ≠ 0) := hS
    clear hS
    go_enter Tryd.func72, Tryd.ntmps72
    go_upto_region 2 with fail
    rw [HW0.out]
    clear HW0
    (try rw [HQW.out])
    go_wp2_with fail
    have hKC : Kept (fun k => k = q) w0 (((((w0.setCell ⟨q, 0, none⟩ (.int .u16 0)).setCell ⟨q, 1, none⟩ (.string ⟨#[]⟩)).setCell ⟨q, 2, none⟩ (.string ⟨#[]⟩)).setCell ⟨q, 3, none⟩ (.slice none 0 0)).setCell ⟨q, 4, none⟩ (.slice none 0 0)) := (((((Kept.refl (fun k => k = q) w0).setCell (p := ⟨q, 0, none⟩) (fun _ => rfl) _).setCell (p := ⟨q, 1, none⟩) (fun _ => rfl) _).setCell (p := ⟨q, 2, none⟩) (fun _ => rfl) _).setCell (p := ⟨q, 3, none⟩) (fun _ => rfl) _).setCell (p := ⟨q, 4, none⟩) (fun _ => rfl) _
    have hqC : (((((w0.setCell ⟨q, 0, none⟩ (.int .u16 0)).setCell ⟨q, 1, none⟩ (.string ⟨#[]⟩)).setCell ⟨q, 2, none⟩ (.string ⟨#[]⟩)).setCell ⟨q, 3, none⟩ (.slice none 0 0)).setCell ⟨q, 4, none⟩ (.slice none 0 0)).heap[q]? = some (.cells #[.int .u16 0, .string ⟨#[]⟩, .string ⟨#[]⟩, .slice none 0 0, .slice none 0 0] 62 (0, 0)) := blk_set ((blk_set ((blk_set ((blk_set ((blk_set (HQ1.out) 0 (.int .u16 0))) 1 (.string ⟨#[]⟩))) 2 (.string ⟨#[]⟩))) 3 (.slice none 0 0))) 4 (.slice none 0 0)
    generalize ((((w0.setCell ⟨q, 0, none⟩ (.int .u16 0)).setCell ⟨q, 1, none⟩ (.string ⟨#[]⟩)).setCell ⟨q, 2, none⟩ (.string ⟨#[]⟩)).setCell ⟨q, 3, none⟩ (.slice none 0 0)).setCell ⟨q, 4, none⟩ (.slice none 0 0) = wC at hKC hqC ⊢
    obtain ⟨⟨z0, z1, z2, z3, z4⟩, _⟩ := blk5 hqC
    refine bodyPost_ret (v := .agg #[.int .u16 0, .string ⟨#[]⟩, .string ⟨#[]⟩, .slice none 0 0, .slice none 0 0]) (by simp [results, Tryd.results72, go_sem, z0, z1, z2, z3, z4]) rfl ?_
    refine ⟨tyNil, none, 0, 0, none, 0, 0, rfl, ?_, tyAt_nil _ _ _, fun h => absurd (by rw [HE.out] at h; exact h) HNE.out, (kept_of HB0.out).trans hKC (fun i hi e => by have := HQE.out; omega)⟩
    rw [HE.out]
    have hR : Rd w0 p S := ⟨⟨r, lr, cr, HB.out, fun e => absurd e HNE.out⟩, HN.out, HL.out, HR.out⟩
    exact hR.kept hKC (fun k hk e => by omega)

end Go.Proofs.YtnapeecmlkkolaaDoor
