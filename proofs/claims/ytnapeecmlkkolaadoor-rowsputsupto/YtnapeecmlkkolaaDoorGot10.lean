/-
  Get: the columns and rows of bytes.
-/
import Derived.Test.YtnapeecmlkkolaaDoorAf
namespace Go.Proofs.YtnapeecmlkkolaaDoor
open Go.RowKit
set_option maxRecDepth 100000
set_option linter.unusedVariables false
set_option linter.unusedSimpArgs false

/-- A table that the call made. -/
def TbO (w : World) (F : Nat → Prop) (T : Tb) (ca : Option Addr) (cl cc : Nat) (x : Option Addr) (lx cx : Nat) (ra : Option Addr) (rl rc : Nat) : Prop :=
  OwnI 64 8 (VCol 20) w F (.slice ca cl cc) T.2.1 ∧ IsBF F w x lx cx (sNums T.2.2.2.1.2) ∧ OwnI 65 1 VRow w F (.slice ra rl rc) T.2.2.2.2
def tb0 : Tb := (0, [], false, v0, [])

theorem tbO_0 (w : World) (F : Nat → Prop) : TbO w F tb0 none 0 0 none 0 0 none 0 0 := ⟨ownI_nil _ _ _ _ _, isBF_nil _ _, ownI_nil _ _ _ _ _⟩
theorem TbO.apart {w W : World} {F K : Nat → Prop} {T : Tb} {ca : Option Addr} {cl cc : Nat} {x : Option Addr} {lx cx : Nat} {ra : Option Addr} {rl rc : Nat} (h : TbO w F T ca cl cc x lx cx ra rl rc) (hK : Kept K w W) (hn : ∀ k, k < w.heap.size → F k → ¬ K k) : TbO W F T ca cl cc x lx cx ra rl rc :=
  ⟨h.1.apart (stays_col 20) hK hn, h.2.1.apart hK hn, h.2.2.apart stays_row hK hn⟩
theorem TbO.sub {w : World} {F F' : Nat → Prop} {T : Tb} {ca : Option Addr} {cl cc : Nat} {x : Option Addr} {lx cx : Nat} {ra : Option Addr} {rl rc : Nat} (h : TbO w F T ca cl cc x lx cx ra rl rc) (hF : ∀ k, k < w.heap.size → F k → F' k) : TbO w F' T ca cl cc x lx cx ra rl rc :=
  ⟨h.1.sub (stays_col 20) hF, h.2.1.stay (fun _ _ _ => rfl) (Nat.le_refl _) hF, h.2.2.sub stays_row hF⟩
theorem TbO.old {w W : World} {F : Nat → Prop} {T : Tb} {ca : Option Addr} {cl cc : Nat} {x : Option Addr} {lx cx : Nat} {ra : Option Addr} {rl rc : Nat} (h : TbO w F T ca cl cc x lx cx ra rl rc) (hB : Below w.heap.size w W) : TbO W F T ca cl cc x lx cx ra rl rc :=
  h.apart (K := fun _ => False) (kept_of hB) (fun _ _ _ e => e.elim)

theorem end_eq {α : Type} (P : Ps α) (zs : List Int) {E : Int} (hE : E = if (stepR P (zs, 0)).2 = 0 then (if 0 < (stepR P (zs, 0)).1.length then 23 else 0) else (stepR P (zs, 0)).2) : E = endE P zs := by
  rw [hE]
  unfold endE stepR
  by_cases h : (P zs).err = 0
  · simp only [h, if_true, List.length_drop]
    by_cases h2 : (P zs).done < zs.length
    · rw [if_pos (show 0 < zs.length - (P zs).done by omega), if_pos h2]
    · rw [if_neg (show ¬ 0 < zs.length - (P zs).done by omega), if_neg h2]
  · simp [h]
theorem end_zero {α : Type} {P : Ps α} {zs : List Int} (h : endE P zs = 0) : (stepR P (zs, 0)).2 = 0 := by
  unfold endE at h
  unfold stepR
  by_cases h1 : (P zs).err = 0
  · simp [h1]
  · rw [if_neg h1] at h; exact absurd h h1

theorem tab_step {S : BE} {f n : Int} (h : (stepR headR S).2 = 0 → (f, n) = (headR S.1).val) :
    stepR tabR S = stepR (rowsR n.toNat) (stepR (tableR f n) (stepR headR S)) ∧ ((stepR tabR S).2 = 0 → ∀ (L : List Col) (m : Bool) (V : Vl) (Q : List (List Vl)), (n, L, m, V, ([] : List (List Vl))) = (tableR f n (stepR headR S).1).val → Q = (rowsR n.toNat (stepR (tableR f n) (stepR headR S)).1).val → (tabR S.1).val = (n, L, m, V, Q)) := by
  by_cases h0 : (stepR headR S).2 = 0
  · have hv := h h0
    have e : stepR tabR S = stepR (rowsR n.toNat) (stepR (tableR f n) (stepR headR S)) := by
      rw [tabR, step_bind, ← hv]
      show stepR (bindR (tableR f n) _) _ = _
      rw [step_bind, step_bind, step_pure2]
    refine ⟨e, fun hh L m V Q h1 h2 => ?_⟩
    rw [tabR] at hh ⊢
    rw [bind_val _ _ _ hh, ← hv]
    rw [step_bind, ← hv] at hh
    show (bindR (tableR f n) _ _).val = _
    rw [bind_val _ _ _ hh]
    rw [step_bind] at hh
    rw [bind_val _ _ _ hh, ← h1, ← h2]
    rfl
  · have e1 : stepR tabR S = stepR headR S := by rw [tabR, step_bind, step_err _ h0 (step_nrm _ _)]
    refine ⟨by rw [e1, step_err _ h0 (step_nrm _ _), step_err _ h0 (step_nrm _ _)], fun hh => absurd (by rw [← e1]; exact hh) h0⟩

/-- What Get answers. -/
def GotT (w : World) (zs : List Int) (e : Ending) (w' : World) : Prop := ∃ (T : Tb) (ca : Option Addr) (cl cc : Nat) (x : Option Addr) (lx cx : Nat) (ra : Option Addr) (rl rc : Nat), e = .returned (.tuple #[.agg #[.int .i64 T.1, .slice ca cl cc, .bool T.2.2.1, .int .i64 T.2.2.2.1.1, .slice x lx cx, .slice ra rl rc], .int .i64 (endE tabR zs)]) ∧
      Hid (TbO w' (fun k => w.heap.size ≤ k) T ca cl cc x lx cx ra rl rc) ∧ Hid (T = if endE tabR zs = 0 then (tabR zs).val else tb0) ∧ Hid (Below w.heap.size w w')

set_option maxHeartbeats 4000000 in
theorem get_any {w : World} {a : Option Addr} {len cap : Nat} {zs : List Int} (h : IsB w a len cap zs) (hT : Tab w) (hsm : len ≤ 140737488351232) :
    Calls Tryd.prog 10 #[.slice a len cap] w fun e w' => GotT w zs e w' := by
  obtain ⟨q, hq⟩ : ∃ q, q = w.heap.size := ⟨_, rfl⟩
  have HQE : Hid (w.heap.size = q) := hq.symm
  obtain ⟨w0, hw0⟩ : ∃ w0, w0 = (w.alloc (.cells #[.int .i64 0, .slice none 0 0, .bool false, .int .i64 0, .slice none 0 0, .slice none 0 0] 29)).alloc (.cells #[.slice a len cap, .int .i64 0] 71) := ⟨_, rfl⟩
  have HW0 : Hid ((w.alloc (.cells #[.int .i64 0, .slice none 0 0, .bool false, .int .i64 0, .slice none 0 0, .slice none 0 0] 29)).alloc (.cells #[.slice a len cap, .int .i64 0] 71) = w0) := hw0.symm
  have hB0 : Below w.heap.size w w0 := by rw [hw0]; exact (below_one _ _).alloc (by simp) _
  have hz0 : w0.heap[q]? = some (.cells #[.int .i64 0, .slice none 0 0, .bool false, .int .i64 0, .slice none 0 0, .slice none 0 0] 29 (0, 0)) := by
    rw [hw0, hq]
    exact ((below_one (w.alloc (.cells #[.int .i64 0, .slice none 0 0, .bool false, .int .i64 0, .slice none 0 0, .slice none 0 0] 29)) _).block w.heap.size (by simp)).trans (heap_alloc_new w _)
  have hp0 : w0.heap[q + 1]? = some (.cells #[.slice a len cap, .int .i64 0] 71 (0, 0)) := by
    rw [hw0, hq]
    have := heap_alloc_new (w.alloc (.cells #[.int .i64 0, .slice none 0 0, .bool false, .int .i64 0, .slice none 0 0, .slice none 0 0] 29)) (.cells #[.slice a len cap, .int .i64 0] 71)
    simpa using this
  have hlow : ∀ z, a = some z → 0 < len → z.block < q := by
    intro z hz hl
    obtain ⟨b, off, e, hR⟩ := h.2.2.2.2 hl
    have hb := hR.lt hl
    rw [hz] at e; cases e
    show b < q
    omega
  have HR0 : Hid (Rd w0 (q + 1) (zs, 0)) := ⟨⟨a, len, cap, hp0, fun _ => ⟨h.old hB0, fun z hz hl => by have := hlow z hz hl; omega⟩⟩, fun e => absurd rfl e, by rw [h.1]; exact hsm, h.range⟩
  have HZ0 : Hid _ := hz0
  have HB0 : Hid (Below w.heap.size w w0) := hB0
  have HT0 : Hid (Tab w0) := hT.old hB0
  have hla := block_lt hz0
  have hlp := block_lt hp0
  have hq0 : 0 < q := by rw [hq]; exact hT.lt
  obtain ⟨E, hE⟩ : ∃ E, E = endE tabR zs := ⟨_, rfl⟩
  have HE : Hid (E = endE tabR zs) := hE
  clear hw0 hB0 hq hz0 hp0 hlow h hT hE
  go_enter Tryd.func10, Tryd.ntmps10
  go_upto_region 2 with fail
  rw [HW0.out]
  clear HW0
  (try rw [HQE.out])
  go_wp2_with fail
  refine (rhead HR0.out).mono ?_
  rintro r w1 ⟨f, n0, rfl, HR1, hnb, HFN, HK1⟩
  obtain ⟨n, rfl⟩ : ∃ n : Nat, n0 = n := ⟨n0.toNat, by omega⟩
  have HT1 : Hid (Tab w1) := HT0.out.kept HK1.out (by omega)
  have hn : n ≤ 4096 := by omega
  go_wp2_with fail
  refine (rtable HR1.out HT1.out (by omega) hn).mono ?_
  rintro r w2 ⟨ca, cl, cc, L, m, V, x, lx, cx, rfl, HR2, HO2, HX2, HV2, HK2⟩
  have hs1 := HK1.out.size
  have hs2 := HK2.out.size
  obtain ⟨w3, hw3⟩ : ∃ w3, w3 = w2.alloc (.cells #[.int .i64 n, .slice ca cl cc, .bool m, .int .i64 V.1, .slice x lx cx, .slice none 0 0] 29) := ⟨_, rfl⟩
  have HW3 : Hid (w2.alloc (.cells #[.int .i64 n, .slice ca cl cc, .bool m, .int .i64 V.1, .slice x lx cx, .slice none 0 0] 29) = w3) := hw3.symm
  obtain ⟨g, hg⟩ : ∃ g, g = w2.heap.size := ⟨_, rfl⟩
  have HG : Hid (w2.heap.size = g) := hg.symm
  have hB3 : Below w2.heap.size w2 w3 := by rw [hw3]; exact below_one _ _
  have ht3 : w3.heap[g]? = some (.cells #[.int .i64 n, .slice ca cl cc, .bool m, .int .i64 V.1, .slice x lx cx, .slice none 0 0] 29 (0, 0)) := by rw [hw3, hg]; exact heap_alloc_new w2 _
  have HT3 : Hid _ := ht3
  have HTB3 : Hid (Tab w3) := (HT1.out.kept HK2.out (by omega)).old hB3
  have HR3 : Hid (Rd w3 (q + 1) (stepR (tableR f n) (stepR headR (zs, 0)))) := HR2.out.new hB3
  have HO3 : Hid (OwnI 64 8 (VCol 20) w3 (fun k => q + 1 < k ∧ k < g) (.slice ca cl cc) L) := (HO2.out.sub (stays_col 20) (fun k h1 h2 => ⟨by omega, by omega⟩)).old (stays_col 20) hB3
  have HX3 : Hid (IsBF (fun k => q + 1 < k ∧ k < g) w3 x lx cx (sNums V.2)) := (HX2.out.stay (fun _ _ _ => rfl) (Nat.le_refl _) (fun k h1 h2 => ⟨by omega, by omega⟩)).apart (K := fun _ => False) (kept_of hB3) (fun _ _ _ e => e)
  have HK3 : Hid (Kept (fun k => k = q + 1) w w3) := ((kept_of HB0.out).trans HK1.out (fun i hi e => e)).trans HK2.out (fun i hi e => e) |>.new hB3
  have hz3 : w3.heap[q]? = some (.cells #[.int .i64 0, .slice none 0 0, .bool false, .int .i64 0, .slice none 0 0, .slice none 0 0] 29 (0, 0)) := (hB3.block q (by omega)).trans ((HK2.out.block q (by omega) (by omega)).trans ((HK1.out.block q hla (by omega)).trans HZ0.out))
  have HZ3 : Hid _ := hz3
  obtain ⟨⟨a0, a1, a2, a3, a4, a5⟩, af0, af1, af2, af3, af4, af5⟩ := blk6 ht3
  have hlg := block_lt ht3
  have hgq : q + 1 < g := by omega
  have hs3 : g < w3.heap.size := hlg
  clear hw3 hg hB3 ht3 hz3 HR2 HO2 HX2 HR1 HR0 HZ0 HT0 HT1 HK1 HK2 HB0
  go_upto_region 3 with fail
  rw [HW3.out]
  (try rw [HG.out])
  clear HW3
  go_wp2_with fail
  refine (rrows HR3.out HTB3.out (by omega) hn).mono ?_
  rintro r w4 ⟨v, Q, rfl, HR4, HO4, HQ4, HK4⟩
  obtain ⟨ra, rc, hv⟩ := HO4.out.shape
  obtain ⟨rl, hrl⟩ : ∃ rl, rl = Q.length := ⟨_, rfl⟩
  rw [← hrl] at hv
  subst hv
  have ht4 : w4.heap[g]? = some (.cells #[.int .i64 n, .slice ca cl cc, .bool m, .int .i64 V.1, .slice x lx cx, .slice none 0 0] 29 (0, 0)) := (HK4.out.block g hlg (by omega)).trans HT3.out
  have hz4 : w4.heap[q]? = some (.cells #[.int .i64 0, .slice none 0 0, .bool false, .int .i64 0, .slice none 0 0, .slice none 0 0] 29 (0, 0)) := (HK4.out.block q (by omega) (by omega)).trans HZ3.out
  have HT4 : Hid _ := ht4
  have HZ4 : Hid _ := hz4
  obtain ⟨⟨a0, a1, a2, a3, a4, a5⟩, af0, af1, af2, af3, af4, af5⟩ := blk6 ht4
  have hlg4 := block_lt ht4
  have hs4 := HK4.out.size
  clear ht4 hz4 hrl
  go_upto_region 4 with fail
  have hKA : Kept (fun k => k = g) w4 (w4.setCell ⟨g, 5, none⟩ (.slice ra rl rc)) := one_kept w4 g 5 _
  have ht5 : (w4.setCell ⟨g, 5, none⟩ (.slice ra rl rc)).heap[g]? = some (.cells #[.int .i64 n, .slice ca cl cc, .bool m, .int .i64 V.1, .slice x lx cx, .slice ra rl rc] 29 (0, 0)) := blk_set HT4.out 5 _
  generalize w4.setCell ⟨g, 5, none⟩ (.slice ra rl rc) = w5 at hKA ht5 ⊢
  have HT5 : Hid _ := ht5
  have hz5 : w5.heap[q]? = some (.cells #[.int .i64 0, .slice none 0 0, .bool false, .int .i64 0, .slice none 0 0, .slice none 0 0] 29 (0, 0)) := (hKA.block q (by omega) (by omega)).trans HZ4.out
  have HZ5 : Hid _ := hz5
  have HR5 : Hid (Rd w5 (q + 1) (stepR (rowsR n) (stepR (tableR f n) (stepR headR (zs, 0))))) := HR4.out.kept hKA (fun k hk e => by omega)
  have HTB5 : Hid (TbO w5 (fun k => q + 1 < k ∧ k ≠ g) ((((n : Nat) : Int), L, m, V, Q) : Tb) ca cl cc x lx cx ra rl rc) := by
    refine ⟨?_, ?_, ?_⟩
    · exact ((HO3.out.apart (stays_col 20) HK4.out (fun k _ h1 e => by omega)).apart (stays_col 20) hKA (fun k _ h1 e => by omega)).sub (stays_col 20) (fun k _ h1 => ⟨by omega, by omega⟩)
    · exact ((HX3.out.apart HK4.out (fun k _ h1 e => by omega)).apart hKA (fun k _ h1 e => by omega)).stay (fun _ _ _ => rfl) (Nat.le_refl _) (fun k _ h1 => ⟨by omega, by omega⟩)
    · exact (HO4.out.apart stays_row hKA (fun k _ h1 e => by omega)).sub stays_row (fun k _ h1 => ⟨by omega, by omega⟩)
  have HK5 : Hid (Kept (fun k => k = q + 1) w w5) := (HK3.out.trans HK4.out (fun i hi e => e)).trans hKA (fun i hi e => by have := HQE.out; omega)
  have hs5 := hKA.size
  have hlg5 := block_lt ht5
  have hlq5 := block_lt hz5
  have HST : Hid _ := tab_step (S := (zs, 0)) (f := f) (n := n) (fun hh => HFN.out hh)
  have HEE : Hid (E = if (stepR (rowsR n) (stepR (tableR f n) (stepR headR (zs, 0)))).2 = 0 then (if 0 < (stepR (rowsR n) (stepR (tableR f n) (stepR headR (zs, 0)))).1.length then 23 else 0) else (stepR (rowsR n) (stepR (tableR f n) (stepR headR (zs, 0)))).2) := by
    show _ = _
    rw [HE.out]
    have := end_eq tabR zs rfl
    rw [HST.out.1, Int.toNat_natCast] at this
    exact this.symm
  clear hKA ht5 hz5 HT4 HZ4 HT3 HZ3 HR3 HO3 HX3 HR4 HO4 HK3 HK4 a0 a1 a2 a3 a4 a5 af0 af1 af2 af3 af4 af5
  go_wp2_with fail
  refine (rend HR5.out HEE.out).mono ?_
  rintro r w6 ⟨rfl, xr, hp6, HK6⟩
  obtain ⟨d0, d1, g0, g1⟩ := two_cells hp6
  have hlp6 := block_lt hp6
  have ht6 : w6.heap[g]? = some (.cells #[.int .i64 n, .slice ca cl cc, .bool m, .int .i64 V.1, .slice x lx cx, .slice ra rl rc] 29 (0, 0)) := (HK6.out.block g hlg5 (by omega)).trans HT5.out
  have hz6 : w6.heap[q]? = some (.cells #[.int .i64 0, .slice none 0 0, .bool false, .int .i64 0, .slice none 0 0, .slice none 0 0] 29 (0, 0)) := (HK6.out.block q hlq5 (by omega)).trans HZ5.out
  have HZ6 : Hid _ := hz6
  obtain ⟨⟨a0, a1, a2, a3, a4, a5⟩, af0, af1, af2, af3, af4, af5⟩ := blk6 ht6
  obtain ⟨⟨b0, b1, b2, b3, b4, b5⟩, bf0, bf1, bf2, bf3, bf4, bf5⟩ := blk6 hz6
  have hlg6 := block_lt ht6
  have hlq6 := block_lt hz6
  have HTB6 : Hid (TbO w6 (fun k => q + 1 < k ∧ k ≠ g) ((((n : Nat) : Int), L, m, V, Q) : Tb) ca cl cc x lx cx ra rl rc) := HTB5.out.apart HK6.out (fun k _ h1 e => by omega)
  have HK6w : Hid (Kept (fun k => k = q + 1) w w6) := HK5.out.trans HK6.out (fun i hi e => e)
  clear hp6 ht6 hz6 HTB5 HK5 HK6 HZ5 HT5 HR5
  by_cases hE0 : E = 0
  · have HE0 : Hid (E = 0) := hE0
    rw [hE0] at d1
    clear hE0
    go_wp2_with fail
    have hKC : Kept (fun k => k = q) w6 ((((((w6.setCell ⟨q, 0, none⟩ (.int .i64 n)).setCell ⟨q, 1, none⟩ (.slice ca cl cc)).setCell ⟨q, 2, none⟩ (.bool m)).setCell ⟨q, 3, none⟩ (.int .i64 V.1)).setCell ⟨q, 4, none⟩ (.slice x lx cx)).setCell ⟨q, 5, none⟩ (.slice ra rl rc)) := ((((((Kept.refl (fun k => k = q) w6).setCell (p := ⟨q, 0, none⟩) (fun _ => rfl) _).setCell (p := ⟨q, 1, none⟩) (fun _ => rfl) _).setCell (p := ⟨q, 2, none⟩) (fun _ => rfl) _).setCell (p := ⟨q, 3, none⟩) (fun _ => rfl) _).setCell (p := ⟨q, 4, none⟩) (fun _ => rfl) _).setCell (p := ⟨q, 5, none⟩) (fun _ => rfl) _
    have hzC : ((((((w6.setCell ⟨q, 0, none⟩ (.int .i64 n)).setCell ⟨q, 1, none⟩ (.slice ca cl cc)).setCell ⟨q, 2, none⟩ (.bool m)).setCell ⟨q, 3, none⟩ (.int .i64 V.1)).setCell ⟨q, 4, none⟩ (.slice x lx cx)).setCell ⟨q, 5, none⟩ (.slice ra rl rc)).heap[q]? = some (.cells #[.int .i64 n, .slice ca cl cc, .bool m, .int .i64 V.1, .slice x lx cx, .slice ra rl rc] 29 (0, 0)) := blk_set ((blk_set ((blk_set ((blk_set ((blk_set ((blk_set (HZ6.out) 0 (.int .i64 n))) 1 (.slice ca cl cc))) 2 (.bool m))) 3 (.int .i64 V.1))) 4 (.slice x lx cx))) 5 (.slice ra rl rc)
    generalize (((((w6.setCell ⟨q, 0, none⟩ (.int .i64 n)).setCell ⟨q, 1, none⟩ (.slice ca cl cc)).setCell ⟨q, 2, none⟩ (.bool m)).setCell ⟨q, 3, none⟩ (.int .i64 V.1)).setCell ⟨q, 4, none⟩ (.slice x lx cx)).setCell ⟨q, 5, none⟩ (.slice ra rl rc) = wC at hKC hzC ⊢
    obtain ⟨⟨z0, z1, z2, z3, z4, z5⟩, _⟩ := blk6 hzC
    refine bodyPost_ret (v := .tuple #[.agg #[.int .i64 n, .slice ca cl cc, .bool m, .int .i64 V.1, .slice x lx cx, .slice ra rl rc], .int .i64 0]) (by simp [results, Tryd.results10, go_sem, z0, z1, z2, z3, z4, z5]) rfl ?_
    have hK : Kept (fun k => k = q ∨ k = q + 1) w wC := (HK6w.out.wider (fun k e => .inr e)).trans hKC (fun i hi e => .inl e)
    refine ⟨((((n : Nat) : Int), L, m, V, Q) : Tb), ca, cl, cc, x, lx, cx, ra, rl, rc, by rw [← HE.out, HE0.out], ?_, ?_, hK.below (Nat.le_refl _) (fun k hk e => by have := HQE.out; rcases e with e | e <;> omega)⟩
    · exact (HTB6.out.apart hKC (fun k _ h1 e => by omega)).sub (fun k _ h1 => by have := HQE.out; omega)
    · show _ = _
      have h0 : (stepR tabR (zs, 0)).2 = 0 := end_zero (by rw [← HE.out]; exact HE0.out)
      rw [← HE.out, if_pos HE0.out]
      have h1 := h0
      rw [HST.out.1, Int.toNat_natCast] at h1
      exact (HST.out.2 h0 L m V Q (HV2.out (step_fine h1)) (by rw [Int.toNat_natCast]; exact HQ4.out h1)).symm
  · have t : (E != 0) = true := by simpa using hE0
    have HE0 : Hid (E ≠ 0) := hE0
    clear hE0
    go_wp2_with fail
    go_region
    go_wp2_with fail
    have hKC : Kept (fun k => k = q) w6 ((((((w6.setCell ⟨q, 0, none⟩ (.int .i64 0)).setCell ⟨q, 1, none⟩ (.slice none 0 0)).setCell ⟨q, 2, none⟩ (.bool false)).setCell ⟨q, 3, none⟩ (.int .i64 0)).setCell ⟨q, 4, none⟩ (.slice none 0 0)).setCell ⟨q, 5, none⟩ (.slice none 0 0)) := ((((((Kept.refl (fun k => k = q) w6).setCell (p := ⟨q, 0, none⟩) (fun _ => rfl) _).setCell (p := ⟨q, 1, none⟩) (fun _ => rfl) _).setCell (p := ⟨q, 2, none⟩) (fun _ => rfl) _).setCell (p := ⟨q, 3, none⟩) (fun _ => rfl) _).setCell (p := ⟨q, 4, none⟩) (fun _ => rfl) _).setCell (p := ⟨q, 5, none⟩) (fun _ => rfl) _
    have hzC : ((((((w6.setCell ⟨q, 0, none⟩ (.int .i64 0)).setCell ⟨q, 1, none⟩ (.slice none 0 0)).setCell ⟨q, 2, none⟩ (.bool false)).setCell ⟨q, 3, none⟩ (.int .i64 0)).setCell ⟨q, 4, none⟩ (.slice none 0 0)).setCell ⟨q, 5, none⟩ (.slice none 0 0)).heap[q]? = some (.cells #[.int .i64 0, .slice none 0 0, .bool false, .int .i64 0, .slice none 0 0, .slice none 0 0] 29 (0, 0)) := blk_set ((blk_set ((blk_set ((blk_set ((blk_set ((blk_set (HZ6.out) 0 (.int .i64 0))) 1 (.slice none 0 0))) 2 (.bool false))) 3 (.int .i64 0))) 4 (.slice none 0 0))) 5 (.slice none 0 0)
    generalize (((((w6.setCell ⟨q, 0, none⟩ (.int .i64 0)).setCell ⟨q, 1, none⟩ (.slice none 0 0)).setCell ⟨q, 2, none⟩ (.bool false)).setCell ⟨q, 3, none⟩ (.int .i64 0)).setCell ⟨q, 4, none⟩ (.slice none 0 0)).setCell ⟨q, 5, none⟩ (.slice none 0 0) = wC at hKC hzC ⊢
    have hzD : wC.drew.heap[q]? = some (.cells #[.int .i64 0, .slice none 0 0, .bool false, .int .i64 0, .slice none 0 0, .slice none 0 0] 29 (0, 0)) := hzC
    obtain ⟨⟨z0, z1, z2, z3, z4, z5⟩, _⟩ := blk6 hzD
    refine bodyPost_ret (v := .tuple #[.agg #[.int .i64 0, .slice none 0 0, .bool false, .int .i64 0, .slice none 0 0, .slice none 0 0], .int .i64 E]) (by simp [results, Tryd.results10, go_sem, z0, z1, z2, z3, z4, z5]) rfl ?_
    have hK : Kept (fun k => k = q ∨ k = q + 1) w wC := (HK6w.out.wider (fun k e => .inr e)).trans hKC (fun i hi e => .inl e)
    refine ⟨tb0, none, 0, 0, none, 0, 0, none, 0, 0, by rw [← HE.out]; rfl, tbO_0 _ _, ?_, (hK.below (Nat.le_refl _) (fun k hk e => by have := HQE.out; rcases e with e | e <;> omega)).drew⟩
    show _ = _
    rw [← HE.out, if_neg HE0.out]

end Go.Proofs.YtnapeecmlkkolaaDoor
