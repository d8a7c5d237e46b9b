/-
  GetMeta: what stands behind what was prepared.
-/
import Derived.Test.YtnapeecmlkkolaaDoorGot10
namespace Go.Proofs.YtnapeecmlkkolaaDoor
open Go.RowKit
set_option maxRecDepth 100000
set_option linter.unusedVariables false
set_option linter.unusedSimpArgs false

theorem blk13 {w : World} {p : Nat} {a0 a1 a2 a3 a4 a5 a6 a7 a8 a9 a10 a11 a12 : Value} {t : TypeId} (h : w.heap[p]? = some (.cells #[a0, a1, a2, a3, a4, a5, a6, a7, a8, a9, a10, a11, a12] t (0, 0))) :
    (w.cell? ⟨p, 0, none⟩ = some a0 ∧ w.cell? ⟨p, 1, none⟩ = some a1 ∧ w.cell? ⟨p, 2, none⟩ = some a2 ∧ w.cell? ⟨p, 3, none⟩ = some a3 ∧ w.cell? ⟨p, 4, none⟩ = some a4 ∧ w.cell? ⟨p, 5, none⟩ = some a5 ∧ w.cell? ⟨p, 6, none⟩ = some a6 ∧ w.cell? ⟨p, 7, none⟩ = some a7 ∧ w.cell? ⟨p, 8, none⟩ = some a8 ∧ w.cell? ⟨p, 9, none⟩ = some a9 ∧ w.cell? ⟨p, 10, none⟩ = some a10 ∧ w.cell? ⟨p, 11, none⟩ = some a11 ∧ w.cell? ⟨p, 12, none⟩ = some a12) ∧
    (w.frozen? ⟨p, 0, none⟩ = false ∧ w.frozen? ⟨p, 1, none⟩ = false ∧ w.frozen? ⟨p, 2, none⟩ = false ∧ w.frozen? ⟨p, 3, none⟩ = false ∧ w.frozen? ⟨p, 4, none⟩ = false ∧ w.frozen? ⟨p, 5, none⟩ = false ∧ w.frozen? ⟨p, 6, none⟩ = false ∧ w.frozen? ⟨p, 7, none⟩ = false ∧ w.frozen? ⟨p, 8, none⟩ = false ∧ w.frozen? ⟨p, 9, none⟩ = false ∧ w.frozen? ⟨p, 10, none⟩ = false ∧ w.frozen? ⟨p, 11, none⟩ = false ∧ w.frozen? ⟨p, 12, none⟩ = false) :=
  ⟨⟨blk_cell h 0, blk_cell h 1, blk_cell h 2, blk_cell h 3, blk_cell h 4, blk_cell h 5, blk_cell h 6, blk_cell h 7, blk_cell h 8, blk_cell h 9, blk_cell h 10, blk_cell h 11, blk_cell h 12⟩, ⟨blk_frozen h 0, blk_frozen h 1, blk_frozen h 2, blk_frozen h 3, blk_frozen h 4, blk_frozen h 5, blk_frozen h 6, blk_frozen h 7, blk_frozen h 8, blk_frozen h 9, blk_frozen h 10, blk_frozen h 11, blk_frozen h 12⟩⟩

theorem meta_step {S : BE} {f n f2 n2 : Int} (h : (stepR headR S).2 = 0 → (f, n) = (headR S.1).val) {St Sh2 : BE} (hSt : St = stepR (tableR f n) (stepR (keysR n) (stepR headR S))) (hSh2 : Sh2 = stepR headR St) (h2 : Sh2.2 = 0 → (f2, n2) = (headR St.1).val) :
    stepR metaR S = stepR (tableR f2 n2) Sh2 ∧ ((stepR metaR S).2 = 0 → (metaR S.1).val = ((keysR n (stepR headR S).1).val, (tableR f n (stepR (keysR n) (stepR headR S)).1).val, (tableR f2 n2 Sh2.1).val)) := by
  subst hSt hSh2
  by_cases h0 : (stepR headR S).2 = 0
  · have hv := h h0
    have e1 : stepR metaR S = stepR (bindR headR fun h2 => bindR (tableR h2.1 h2.2) fun u => pureR ((keysR n (stepR headR S).1).val, (tableR f n (stepR (keysR n) (stepR headR S)).1).val, u)) (stepR (tableR f n) (stepR (keysR n) (stepR headR S))) := by
      rw [metaR, step_bind, ← hv]
      show stepR (bindR (keysR n) _) _ = _
      rw [step_bind, step_bind]
    by_cases h3 : (stepR headR (stepR (tableR f n) (stepR (keysR n) (stepR headR S)))).2 = 0
    · have hv2 := h2 h3
      have e : stepR metaR S = stepR (tableR f2 n2) (stepR headR (stepR (tableR f n) (stepR (keysR n) (stepR headR S)))) := by
        rw [e1, step_bind, ← hv2]
        show stepR (bindR (tableR f2 n2) _) _ = _
        rw [step_bind, step_pure2]
      refine ⟨e, fun hh => ?_⟩
      rw [metaR] at hh ⊢
      rw [bind_val _ _ _ hh, ← hv]
      rw [step_bind, ← hv] at hh
      show (bindR (keysR n) _ _).val = _
      rw [bind_val _ _ _ hh]
      rw [step_bind] at hh
      rw [bind_val _ _ _ hh]
      rw [step_bind] at hh
      rw [bind_val _ _ _ hh, ← hv2]
      rw [step_bind, ← hv2] at hh
      show (bindR (tableR f2 n2) _ _).val = _
      rw [bind_val _ _ _ hh]
      rfl
    · have e : stepR metaR S = stepR headR (stepR (tableR f n) (stepR (keysR n) (stepR headR S))) := by rw [e1, step_bind, step_err _ h3 (step_nrm _ _)]
      exact ⟨by rw [e, step_err _ h3 (step_nrm _ _)], fun hh => absurd (by rw [← e]; exact hh) h3⟩
  · have e1 : stepR metaR S = stepR headR S := by rw [metaR, step_bind, step_err _ h0 (step_nrm _ _)]
    have e2 : stepR (tableR f2 n2) (stepR headR (stepR (tableR f n) (stepR (keysR n) (stepR headR S)))) = stepR headR S := by
      rw [step_err (keysR n) h0 (step_nrm _ _), step_err (tableR f n) h0 (step_nrm _ _), step_err headR h0 (step_nrm _ _), step_err _ h0 (step_nrm _ _)]
    exact ⟨by rw [e1, e2], fun hh => absurd (by rw [← e1]; exact hh) h0⟩

/-- What GetMeta answers. -/
def GotM (w : World) (zs : List Int) (e : Ending) (w' : World) : Prop := ∃ (ks : List Int) (T U : Tb) (ka : Option Addr) (kl kc : Nat) (ca : Option Addr) (cl cc : Nat) (x : Option Addr) (lx cx : Nat) (ca2 : Option Addr) (cl2 cc2 : Nat) (x2 : Option Addr) (lx2 cx2 : Nat),
    e = .returned (.tuple #[.agg #[.slice ka kl kc, .int .i64 T.1, .slice ca cl cc, .bool T.2.2.1, .int .i64 T.2.2.2.1.1, .slice x lx cx, .slice none 0 0, .int .i64 U.1, .slice ca2 cl2 cc2, .bool U.2.2.1, .int .i64 U.2.2.2.1.1, .slice x2 lx2 cx2, .slice none 0 0], .int .i64 (endE metaR zs)]) ∧
      Hid (OwnI 51 1 VKey w' (fun k => w.heap.size ≤ k) (.slice ka kl kc) ks) ∧ Hid (TbO w' (fun k => w.heap.size ≤ k) T ca cl cc x lx cx none 0 0) ∧ Hid (TbO w' (fun k => w.heap.size ≤ k) U ca2 cl2 cc2 x2 lx2 cx2 none 0 0) ∧
      Hid ((ks, T, U) = if endE metaR zs = 0 then (metaR zs).val else ([], tb0, tb0)) ∧ Hid (Below w.heap.size w w')

set_option maxHeartbeats 8000000 in
theorem getMeta_any {w : World} {a : Option Addr} {len cap : Nat} {zs : List Int} (h : IsB w a len cap zs) (hT : Tab w) (hsm : len ≤ 140737488351232) :
    Calls Tryd.prog 14 #[.slice a len cap] w fun e w' => GotM w zs e w' := by
  obtain ⟨q, hq⟩ : ∃ q, q = w.heap.size := ⟨_, rfl⟩
  have HQE : Hid (w.heap.size = q) := hq.symm
  obtain ⟨wa, hwa⟩ : ∃ wa, wa = (w.alloc (.cells #[.slice none 0 0, .int .i64 0, .slice none 0 0, .bool false, .int .i64 0, .slice none 0 0, .slice none 0 0, .int .i64 0, .slice none 0 0, .bool false, .int .i64 0, .slice none 0 0, .slice none 0 0] 46)).alloc (.cells #[.slice a len cap, .int .i64 0] 71) := ⟨_, rfl⟩
  obtain ⟨w0, hw0⟩ : ∃ w0, w0 = wa.alloc (.cells #[.slice none 0 0, .int .i64 0, .slice none 0 0, .bool false, .int .i64 0, .slice none 0 0, .slice none 0 0, .int .i64 0, .slice none 0 0, .bool false, .int .i64 0, .slice none 0 0, .slice none 0 0] 46) := ⟨_, rfl⟩
  have HW0 : Hid (((w.alloc (.cells #[.slice none 0 0, .int .i64 0, .slice none 0 0, .bool false, .int .i64 0, .slice none 0 0, .slice none 0 0, .int .i64 0, .slice none 0 0, .bool false, .int .i64 0, .slice none 0 0, .slice none 0 0] 46)).alloc (.cells #[.slice a len cap, .int .i64 0] 71)).alloc (.cells #[.slice none 0 0, .int .i64 0, .slice none 0 0, .bool false, .int .i64 0, .slice none 0 0, .slice none 0 0, .int .i64 0, .slice none 0 0, .bool false, .int .i64 0, .slice none 0 0, .slice none 0 0] 46) = w0) := by rw [hw0, hwa]; rfl
  have hsa : wa.heap.size = q + 2 := by rw [hwa, hq]; simp
  have hBa : Below w.heap.size w wa := by rw [hwa]; exact (below_one _ _).alloc (by simp) _
  have hBa0 : Below wa.heap.size wa w0 := by rw [hw0]; exact below_one _ _
  have hB0 : Below w.heap.size w w0 := hBa.trans (hBa0.mono (by omega))
  have hza : wa.heap[q]? = some (.cells #[.slice none 0 0, .int .i64 0, .slice none 0 0, .bool false, .int .i64 0, .slice none 0 0, .slice none 0 0, .int .i64 0, .slice none 0 0, .bool false, .int .i64 0, .slice none 0 0, .slice none 0 0] 46 (0, 0)) := by
    rw [hwa, hq]
    exact ((below_one (w.alloc (.cells #[.slice none 0 0, .int .i64 0, .slice none 0 0, .bool false, .int .i64 0, .slice none 0 0, .slice none 0 0, .int .i64 0, .slice none 0 0, .bool false, .int .i64 0, .slice none 0 0, .slice none 0 0] 46)) _).block w.heap.size (by simp)).trans (heap_alloc_new w _)
  have hpa : wa.heap[q + 1]? = some (.cells #[.slice a len cap, .int .i64 0] 71 (0, 0)) := by
    rw [hwa, hq]
    have := heap_alloc_new (w.alloc (.cells #[.slice none 0 0, .int .i64 0, .slice none 0 0, .bool false, .int .i64 0, .slice none 0 0, .slice none 0 0, .int .i64 0, .slice none 0 0, .bool false, .int .i64 0, .slice none 0 0, .slice none 0 0] 46)) (.cells #[.slice a len cap, .int .i64 0] 71)
    simpa using this
  have hz0 := (hBa0.block q (by omega)).trans hza
  have hp0 := (hBa0.block (q + 1) (by omega)).trans hpa
  have hm0 : w0.heap[q + 2]? = some (.cells #[.slice none 0 0, .int .i64 0, .slice none 0 0, .bool false, .int .i64 0, .slice none 0 0, .slice none 0 0, .int .i64 0, .slice none 0 0, .bool false, .int .i64 0, .slice none 0 0, .slice none 0 0] 46 (0, 0)) := by rw [hw0, ← hsa]; exact heap_alloc_new wa _
  have hlow : ∀ z, a = some z → 0 < len → z.block < q := by
    intro z hz hl
    obtain ⟨b, off, e, hR⟩ := h.2.2.2.2 hl
    have hb := hR.lt hl
    rw [hz] at e; cases e
    show b < q
    omega
  have HR0 : Hid (Rd w0 (q + 1) (zs, 0)) := ⟨⟨a, len, cap, hp0, fun _ => ⟨h.old hB0, fun z hz hl => by have := hlow z hz hl; omega⟩⟩, fun e => absurd rfl e, by rw [h.1]; exact hsm, h.range⟩
  have HZ0 : Hid (w0.heap[q]? = some (.cells #[.slice none 0 0, .int .i64 0, .slice none 0 0, .bool false, .int .i64 0, .slice none 0 0, .slice none 0 0, .int .i64 0, .slice none 0 0, .bool false, .int .i64 0, .slice none 0 0, .slice none 0 0] 46 (0, 0))) := hz0
  have HM0 : Hid (w0.heap[q + 2]? = some (.cells #[.slice none 0 0, .int .i64 0, .slice none 0 0, .bool false, .int .i64 0, .slice none 0 0, .slice none 0 0, .int .i64 0, .slice none 0 0, .bool false, .int .i64 0, .slice none 0 0, .slice none 0 0] 46 (0, 0))) := hm0
  have HB0 : Hid (Below w.heap.size w w0) := hB0
  have HT0 : Hid (Tab w0) := hT.old hB0
  have hlz := block_lt hz0
  have hlm := block_lt hm0
  have hq0 : 0 < q := by rw [hq]; exact hT.lt
  obtain ⟨E, hE⟩ : ∃ E, E = endE metaR zs := ⟨_, rfl⟩
  have HE : Hid (E = endE metaR zs) := hE
  have hsz0 : w0.heap.size = q + 3 := by rw [hw0]; simp [hsa]
  have hsz0' : q + 2 < w0.heap.size := by omega
  clear hw0 hwa hsa hBa hBa0 hB0 hza hpa hq hz0 hp0 hm0 hlow h hT hE hsz0
  go_enter Tryd.func14, Tryd.ntmps14
  go_upto_region 3 with fail
  (try rw [HQE.out])
  rw [HW0.out]
  clear HW0
  go_wp2_with fail
  refine (rhead HR0.out).mono ?_
  rintro r w1 ⟨f, n0, rfl, HR1, hnb, HFN, HK1⟩
  have hs1 := HK1.out.size
  obtain ⟨n, rfl⟩ : ∃ n : Nat, n0 = n := ⟨n0.toNat, by omega⟩
  have HT1 : Hid (Tab w1) := HT0.out.kept HK1.out (by omega)
  have hn : n ≤ 4096 := by omega
  go_wp2_with fail
  refine (rkeys HR1.out (n := n) hnb).mono ?_
  rintro r w2 ⟨v, ks, rfl, HR2, HO2, HV2, HK2⟩
  obtain ⟨ka, kc, hv⟩ := HO2.out.shape
  obtain ⟨kl, hkl⟩ : ∃ kl, kl = ks.length := ⟨_, rfl⟩
  rw [← hkl] at hv
  subst hv
  have hs2 := HK2.out.size
  have hm2 : w2.heap[q + 2]? = some (.cells #[.slice none 0 0, .int .i64 0, .slice none 0 0, .bool false, .int .i64 0, .slice none 0 0, .slice none 0 0, .int .i64 0, .slice none 0 0, .bool false, .int .i64 0, .slice none 0 0, .slice none 0 0] 46 (0, 0)) := (HK2.out.block _ (by omega) (by omega)).trans ((HK1.out.block _ hlm (by omega)).trans HM0.out)
  have hz2 : w2.heap[q]? = some (.cells #[.slice none 0 0, .int .i64 0, .slice none 0 0, .bool false, .int .i64 0, .slice none 0 0, .slice none 0 0, .int .i64 0, .slice none 0 0, .bool false, .int .i64 0, .slice none 0 0, .slice none 0 0] 46 (0, 0)) := (HK2.out.block _ (by omega) (by omega)).trans ((HK1.out.block _ hlz (by omega)).trans HZ0.out)
  have HM2 : Hid _ := hm2
  have HZ2 : Hid _ := hz2
  have hlm2 := block_lt hm2
  have hfm := blk_frozen hm2 0
  have hcm := blk_cell hm2 0
  have HT2 : Hid (Tab w2) := HT1.out.kept HK2.out (by omega)
  have HK2w : Hid (Kept (fun k => k = q + 1) w w2) := ((kept_of HB0.out).trans HK1.out (fun i hi e => e)).trans HK2.out (fun i hi e => e)
  have HO2b : Hid (OwnI 51 1 VKey w2 (fun k => q + 2 < k ∧ k < w2.heap.size) (.slice ka kl kc) ks) := HO2.out.sub stays_key (fun k h1 h2 => ⟨by omega, h1⟩)
  clear hm2 hz2 hkl HO2 HZ0 HM0 HB0 HT0 HT1 HR0
  go_upto_region 5 with fail
  have hKA : Kept (fun k => k = q + 2) w2 (w2.setCell ⟨q + 2, 0, none⟩ (.slice ka kl kc)) := one_kept w2 (q + 2) 0 _
  have hm3 : (w2.setCell ⟨q + 2, 0, none⟩ (.slice ka kl kc)).heap[q + 2]? = some (.cells #[.slice ka kl kc, .int .i64 0, .slice none 0 0, .bool false, .int .i64 0, .slice none 0 0, .slice none 0 0, .int .i64 0, .slice none 0 0, .bool false, .int .i64 0, .slice none 0 0, .slice none 0 0] 46 (0, 0)) := blk_set HM2.out 0 _
  generalize w2.setCell ⟨q + 2, 0, none⟩ (.slice ka kl kc) = w3 at hKA hm3 ⊢
  have hs3 := hKA.size
  have HM3 : Hid _ := hm3
  have HZ3 : Hid (w3.heap[q]? = some (.cells #[.slice none 0 0, .int .i64 0, .slice none 0 0, .bool false, .int .i64 0, .slice none 0 0, .slice none 0 0, .int .i64 0, .slice none 0 0, .bool false, .int .i64 0, .slice none 0 0, .slice none 0 0] 46 (0, 0))) := (hKA.block q (by omega) (by omega)).trans HZ2.out
  have HR3 : Hid (Rd w3 (q + 1) (stepR (keysR n) (stepR headR (zs, 0)))) := HR2.out.kept hKA (fun k hk e => by omega)
  have HT3 : Hid (Tab w3) := HT2.out.kept hKA (by omega)
  have HO3 : Hid (OwnI 51 1 VKey w3 (fun k => q + 2 < k ∧ k < w3.heap.size) (.slice ka kl kc) ks) := (HO2b.out.apart stays_key hKA (fun k _ h1 e => by omega)).sub stays_key (fun k _ h1 => ⟨h1.1, by omega⟩)
  have HK3 : Hid (Kept (fun k => k = q + 1) w w3) := HK2w.out.trans hKA (fun i hi e => by have := HQE.out; omega)
  clear hKA hm3 HM2 HZ2 HR2 HT2 HO2b HK2w hfm hcm HR1
  go_wp2_with fail
  refine (rtable HR3.out HT3.out (by omega) hn).mono ?_
  rintro r w4 ⟨ca, cl, cc, L, m, V, x, lx, cx, rfl, HR4, HO4, HX4, HV4, HK4⟩
  have hs4 := HK4.out.size
  have hm4 : w4.heap[q + 2]? = some (.cells #[.slice ka kl kc, .int .i64 0, .slice none 0 0, .bool false, .int .i64 0, .slice none 0 0, .slice none 0 0, .int .i64 0, .slice none 0 0, .bool false, .int .i64 0, .slice none 0 0, .slice none 0 0] 46 (0, 0)) := (HK4.out.block _ (by omega) (by omega)).trans HM3.out
  have hz4 : w4.heap[q]? = some (.cells #[.slice none 0 0, .int .i64 0, .slice none 0 0, .bool false, .int .i64 0, .slice none 0 0, .slice none 0 0, .int .i64 0, .slice none 0 0, .bool false, .int .i64 0, .slice none 0 0, .slice none 0 0] 46 (0, 0)) := (HK4.out.block _ (by omega) (by omega)).trans HZ3.out
  have HM4 : Hid _ := hm4
  have HZ4 : Hid _ := hz4
  have hlm4 := block_lt hm4
  obtain ⟨⟨a0, a1, a2, a3, a4, a5, a6, a7, a8, a9, a10, a11, a12⟩, af0, af1, af2, af3, af4, af5, af6, af7, af8, af9, af10, af11, af12⟩ := blk13 hm4
  clear hm4 hz4
  go_upto_region 6 with fail
  have hKA : Kept (fun k => k = q + 2) w4 ((((((w4.setCell ⟨q + 2, 1, none⟩ (.int .i64 n)).setCell ⟨q + 2, 2, none⟩ (.slice ca cl cc)).setCell ⟨q + 2, 3, none⟩ (.bool m)).setCell ⟨q + 2, 4, none⟩ (.int .i64 V.1)).setCell ⟨q + 2, 5, none⟩ (.slice x lx cx)).setCell ⟨q + 2, 6, none⟩ (.slice none 0 0)) := ((((((Kept.refl (fun k => k = q + 2) w4).setCell (p := ⟨q + 2, 1, none⟩) (fun _ => rfl) _).setCell (p := ⟨q + 2, 2, none⟩) (fun _ => rfl) _).setCell (p := ⟨q + 2, 3, none⟩) (fun _ => rfl) _).setCell (p := ⟨q + 2, 4, none⟩) (fun _ => rfl) _).setCell (p := ⟨q + 2, 5, none⟩) (fun _ => rfl) _).setCell (p := ⟨q + 2, 6, none⟩) (fun _ => rfl) _
  have hm5 : ((((((w4.setCell ⟨q + 2, 1, none⟩ (.int .i64 n)).setCell ⟨q + 2, 2, none⟩ (.slice ca cl cc)).setCell ⟨q + 2, 3, none⟩ (.bool m)).setCell ⟨q + 2, 4, none⟩ (.int .i64 V.1)).setCell ⟨q + 2, 5, none⟩ (.slice x lx cx)).setCell ⟨q + 2, 6, none⟩ (.slice none 0 0)).heap[q + 2]? = some (.cells #[.slice ka kl kc, .int .i64 n, .slice ca cl cc, .bool m, .int .i64 V.1, .slice x lx cx, .slice none 0 0, .int .i64 0, .slice none 0 0, .bool false, .int .i64 0, .slice none 0 0, .slice none 0 0] 46 (0, 0)) := blk_set ((blk_set ((blk_set ((blk_set ((blk_set ((blk_set (HM4.out) 1 (.int .i64 n))) 2 (.slice ca cl cc))) 3 (.bool m))) 4 (.int .i64 V.1))) 5 (.slice x lx cx))) 6 (.slice none 0 0)
  generalize (((((w4.setCell ⟨q + 2, 1, none⟩ (.int .i64 n)).setCell ⟨q + 2, 2, none⟩ (.slice ca cl cc)).setCell ⟨q + 2, 3, none⟩ (.bool m)).setCell ⟨q + 2, 4, none⟩ (.int .i64 V.1)).setCell ⟨q + 2, 5, none⟩ (.slice x lx cx)).setCell ⟨q + 2, 6, none⟩ (.slice none 0 0) = w5 at hKA hm5 ⊢
  have hs5 := hKA.size
  have HM5 : Hid _ := hm5
  have HZ5 : Hid (w5.heap[q]? = some (.cells #[.slice none 0 0, .int .i64 0, .slice none 0 0, .bool false, .int .i64 0, .slice none 0 0, .slice none 0 0, .int .i64 0, .slice none 0 0, .bool false, .int .i64 0, .slice none 0 0, .slice none 0 0] 46 (0, 0))) := (hKA.block q (by omega) (by omega)).trans HZ4.out
  have HR5 : Hid (Rd w5 (q + 1) (stepR (tableR f n) (stepR (keysR n) (stepR headR (zs, 0))))) := HR4.out.kept hKA (fun k hk e => by omega)
  have HT5 : Hid (Tab w5) := (HT3.out.kept HK4.out (by omega)).kept hKA (by omega)
  have HO5 : Hid (OwnI 51 1 VKey w5 (fun k => q + 2 < k ∧ k < w5.heap.size) (.slice ka kl kc) ks) := ((HO3.out.apart stays_key HK4.out (fun k _ h1 e => by omega)).apart stays_key hKA (fun k _ h1 e => by omega)).sub stays_key (fun k _ h1 => ⟨h1.1, by omega⟩)
  have HTA5 : Hid (TbO w5 (fun k => q + 2 < k ∧ k < w5.heap.size) ((((n : Nat) : Int), L, m, V, []) : Tb) ca cl cc x lx cx none 0 0) := by
    refine ⟨?_, ?_, ownI_nil _ _ _ _ _⟩
    · exact (HO4.out.sub (stays_col 20) (fun k h1 h2 => ⟨by omega, h1⟩) (F' := fun k => q + 2 < k ∧ k < w4.heap.size)).apart (stays_col 20) hKA (fun k _ h1 e => by omega) |>.sub (stays_col 20) (fun k h1 h2 => ⟨h2.1, by omega⟩)
    · exact ((HX4.out.stay (F' := fun k => q + 2 < k ∧ k < w4.heap.size) (fun _ _ _ => rfl) (Nat.le_refl _) (fun k h1 h2 => ⟨by omega, h1⟩)).apart hKA (fun k _ h1 e => by omega)).stay (fun _ _ _ => rfl) (Nat.le_refl _) (fun k h1 h2 => ⟨h2.1, by omega⟩)
  have HK5 : Hid (Kept (fun k => k = q + 1) w w5) := (HK3.out.trans HK4.out (fun i hi e => e)).trans hKA (fun i hi e => by have := HQE.out; omega)
  clear hKA hm5 HM4 HZ4 HR4 HT3 HO3 HO4 HX4 HK3 HK4 HM3 HZ3 a0 a1 a2 a3 a4 a5 a6 a7 a8 a9 a10 a11 a12 af0 af1 af2 af3 af4 af5 af6 af7 af8 af9 af10 af11 af12 HR3
  go_wp2_with fail
  refine (rhead HR5.out).mono ?_
  rintro r w6 ⟨f2, n02, rfl, HR6, hnb2, HFN2, HK6⟩
  have hs6 := HK6.out.size
  obtain ⟨n2, rfl⟩ : ∃ n : Nat, n02 = n := ⟨n02.toNat, by omega⟩
  have HT6 : Hid (Tab w6) := HT5.out.kept HK6.out (by omega)
  have hn2 : n2 ≤ 4096 := by omega
  go_wp2_with fail
  refine (rtable HR6.out HT6.out (by omega) hn2).mono ?_
  rintro r w7 ⟨ca2, cl2, cc2, L2, m2, V2, x2, lx2, cx2, rfl, HR7, HO7, HX7, HV7, HK7⟩
  have hs7 := HK7.out.size
  have HK67 : Hid (Kept (fun k => k = q + 1) w5 w7) := HK6.out.trans HK7.out (fun i hi e => e)
  have hm7 : w7.heap[q + 2]? = some (.cells #[.slice ka kl kc, .int .i64 n, .slice ca cl cc, .bool m, .int .i64 V.1, .slice x lx cx, .slice none 0 0, .int .i64 0, .slice none 0 0, .bool false, .int .i64 0, .slice none 0 0, .slice none 0 0] 46 (0, 0)) := (HK67.out.block _ (by omega) (by omega)).trans HM5.out
  have hz7 : w7.heap[q]? = some (.cells #[.slice none 0 0, .int .i64 0, .slice none 0 0, .bool false, .int .i64 0, .slice none 0 0, .slice none 0 0, .int .i64 0, .slice none 0 0, .bool false, .int .i64 0, .slice none 0 0, .slice none 0 0] 46 (0, 0)) := (HK67.out.block _ (by omega) (by omega)).trans HZ5.out
  have HM7 : Hid _ := hm7
  have HZ7 : Hid _ := hz7
  have hlm7 := block_lt hm7
  obtain ⟨⟨a0, a1, a2, a3, a4, a5, a6, a7, a8, a9, a10, a11, a12⟩, af0, af1, af2, af3, af4, af5, af6, af7, af8, af9, af10, af11, af12⟩ := blk13 hm7
  clear hm7 hz7
  go_upto_region 7 with fail
  have hKA : Kept (fun k => k = q + 2) w7 ((((((w7.setCell ⟨q + 2, 7, none⟩ (.int .i64 n2)).setCell ⟨q + 2, 8, none⟩ (.slice ca2 cl2 cc2)).setCell ⟨q + 2, 9, none⟩ (.bool m2)).setCell ⟨q + 2, 10, none⟩ (.int .i64 V2.1)).setCell ⟨q + 2, 11, none⟩ (.slice x2 lx2 cx2)).setCell ⟨q + 2, 12, none⟩ (.slice none 0 0)) := ((((((Kept.refl (fun k => k = q + 2) w7).setCell (p := ⟨q + 2, 7, none⟩) (fun _ => rfl) _).setCell (p := ⟨q + 2, 8, none⟩) (fun _ => rfl) _).setCell (p := ⟨q + 2, 9, none⟩) (fun _ => rfl) _).setCell (p := ⟨q + 2, 10, none⟩) (fun _ => rfl) _).setCell (p := ⟨q + 2, 11, none⟩) (fun _ => rfl) _).setCell (p := ⟨q + 2, 12, none⟩) (fun _ => rfl) _
  have hm8 : ((((((w7.setCell ⟨q + 2, 7, none⟩ (.int .i64 n2)).setCell ⟨q + 2, 8, none⟩ (.slice ca2 cl2 cc2)).setCell ⟨q + 2, 9, none⟩ (.bool m2)).setCell ⟨q + 2, 10, none⟩ (.int .i64 V2.1)).setCell ⟨q + 2, 11, none⟩ (.slice x2 lx2 cx2)).setCell ⟨q + 2, 12, none⟩ (.slice none 0 0)).heap[q + 2]? = some (.cells #[.slice ka kl kc, .int .i64 n, .slice ca cl cc, .bool m, .int .i64 V.1, .slice x lx cx, .slice none 0 0, .int .i64 n2, .slice ca2 cl2 cc2, .bool m2, .int .i64 V2.1, .slice x2 lx2 cx2, .slice none 0 0] 46 (0, 0)) := blk_set ((blk_set ((blk_set ((blk_set ((blk_set ((blk_set (HM7.out) 7 (.int .i64 n2))) 8 (.slice ca2 cl2 cc2))) 9 (.bool m2))) 10 (.int .i64 V2.1))) 11 (.slice x2 lx2 cx2))) 12 (.slice none 0 0)
  generalize (((((w7.setCell ⟨q + 2, 7, none⟩ (.int .i64 n2)).setCell ⟨q + 2, 8, none⟩ (.slice ca2 cl2 cc2)).setCell ⟨q + 2, 9, none⟩ (.bool m2)).setCell ⟨q + 2, 10, none⟩ (.int .i64 V2.1)).setCell ⟨q + 2, 11, none⟩ (.slice x2 lx2 cx2)).setCell ⟨q + 2, 12, none⟩ (.slice none 0 0) = w8 at hKA hm8 ⊢
  have hs8 := hKA.size
  have HM8 : Hid _ := hm8
  have hlm8 := block_lt hm8
  have HZ8 : Hid (w8.heap[q]? = some (.cells #[.slice none 0 0, .int .i64 0, .slice none 0 0, .bool false, .int .i64 0, .slice none 0 0, .slice none 0 0, .int .i64 0, .slice none 0 0, .bool false, .int .i64 0, .slice none 0 0, .slice none 0 0] 46 (0, 0))) := (hKA.block q (by omega) (by omega)).trans HZ7.out
  have HR8 : Hid (Rd w8 (q + 1) (stepR (tableR f2 n2) (stepR headR (stepR (tableR f n) (stepR (keysR n) (stepR headR (zs, 0))))))) := HR7.out.kept hKA (fun k hk e => by omega)
  have HO8 : Hid (OwnI 51 1 VKey w8 (fun k => q + 2 < k) (.slice ka kl kc) ks) := ((HO5.out.apart stays_key HK67.out (fun k _ h1 e => by omega)).apart stays_key hKA (fun k _ h1 e => by omega)).sub stays_key (fun k _ h1 => h1.1)
  have HTA8 : Hid (TbO w8 (fun k => q + 2 < k) ((((n : Nat) : Int), L, m, V, []) : Tb) ca cl cc x lx cx none 0 0) := ((HTA5.out.apart HK67.out (fun k _ h1 e => by omega)).apart hKA (fun k _ h1 e => by omega)).sub (fun k _ h1 => h1.1)
  have HTU8 : Hid (TbO w8 (fun k => q + 2 < k) ((((n2 : Nat) : Int), L2, m2, V2, []) : Tb) ca2 cl2 cc2 x2 lx2 cx2 none 0 0) := by
    refine ⟨?_, ?_, ownI_nil _ _ _ _ _⟩
    · exact (HO7.out.sub (stays_col 20) (F' := fun k => q + 2 < k) (fun k h1 h2 => by omega)).apart (stays_col 20) hKA (fun k _ h1 e => by omega)
    · exact (HX7.out.stay (F' := fun k => q + 2 < k) (fun _ _ _ => rfl) (Nat.le_refl _) (fun k h1 h2 => by omega)).apart hKA (fun k _ h1 e => by omega)
  have HK8 : Hid (Kept (fun k => k = q + 1) w w8) := (HK5.out.trans HK67.out (fun i hi e => e)).trans hKA (fun i hi e => by have := HQE.out; omega)
  have HST : Hid _ := meta_step (S := (zs, 0)) (f := f) (n := n) (f2 := f2) (n2 := n2) (fun hh => HFN.out hh) rfl rfl (fun hh => HFN2.out hh)
  have HEE : Hid (E = if (stepR (tableR f2 n2) (stepR headR (stepR (tableR f n) (stepR (keysR n) (stepR headR (zs, 0)))))).2 = 0 then (if 0 < (stepR (tableR f2 n2) (stepR headR (stepR (tableR f n) (stepR (keysR n) (stepR headR (zs, 0)))))).1.length then 23 else 0) else (stepR (tableR f2 n2) (stepR headR (stepR (tableR f n) (stepR (keysR n) (stepR headR (zs, 0)))))).2) := by
    show _ = _
    rw [HE.out]
    have := end_eq metaR zs rfl
    rw [HST.out.1] at this
    exact this.symm
  clear hKA hm8 HM7 HZ7 HR7 HT6 HO7 HX7 HK7 HK67 HM5 HZ5 HR5 HT5 HO5 HTA5 HK5 HR6 HK6 a0 a1 a2 a3 a4 a5 a6 a7 a8 a9 a10 a11 a12 af0 af1 af2 af3 af4 af5 af6 af7 af8 af9 af10 af11 af12
  go_wp2_with fail
  refine (rend HR8.out HEE.out).mono ?_
  rintro r w9 ⟨rfl, xr, hp9, HK9⟩
  have hs9 := HK9.out.size
  obtain ⟨d0, d1, g0, g1⟩ := two_cells hp9
  have hlp9 := block_lt hp9
  have hm9 : w9.heap[q + 2]? = some (.cells #[.slice ka kl kc, .int .i64 n, .slice ca cl cc, .bool m, .int .i64 V.1, .slice x lx cx, .slice none 0 0, .int .i64 n2, .slice ca2 cl2 cc2, .bool m2, .int .i64 V2.1, .slice x2 lx2 cx2, .slice none 0 0] 46 (0, 0)) := (HK9.out.block _ (by omega) (by omega)).trans HM8.out
  have hz9 : w9.heap[q]? = some (.cells #[.slice none 0 0, .int .i64 0, .slice none 0 0, .bool false, .int .i64 0, .slice none 0 0, .slice none 0 0, .int .i64 0, .slice none 0 0, .bool false, .int .i64 0, .slice none 0 0, .slice none 0 0] 46 (0, 0)) := (HK9.out.block _ (by omega) (by omega)).trans HZ8.out
  have HZ9 : Hid _ := hz9
  obtain ⟨⟨a0, a1, a2, a3, a4, a5, a6, a7, a8, a9, a10, a11, a12⟩, af0, af1, af2, af3, af4, af5, af6, af7, af8, af9, af10, af11, af12⟩ := blk13 hm9
  obtain ⟨⟨b0, b1, b2, b3, b4, b5, b6, b7, b8, b9, b10, b11, b12⟩, bf0, bf1, bf2, bf3, bf4, bf5, bf6, bf7, bf8, bf9, bf10, bf11, bf12⟩ := blk13 hz9
  have hlm9 := block_lt hm9
  have hlz9 := block_lt hz9
  have HO9 : Hid (OwnI 51 1 VKey w9 (fun k => q + 2 < k) (.slice ka kl kc) ks) := HO8.out.apart stays_key HK9.out (fun k _ h1 e => by omega)
  have HTA9 : Hid (TbO w9 (fun k => q + 2 < k) ((((n : Nat) : Int), L, m, V, []) : Tb) ca cl cc x lx cx none 0 0) := HTA8.out.apart HK9.out (fun k _ h1 e => by omega)
  have HTU9 : Hid (TbO w9 (fun k => q + 2 < k) ((((n2 : Nat) : Int), L2, m2, V2, []) : Tb) ca2 cl2 cc2 x2 lx2 cx2 none 0 0) := HTU8.out.apart HK9.out (fun k _ h1 e => by omega)
  have HK9w : Hid (Kept (fun k => k = q + 1) w w9) := HK8.out.trans HK9.out (fun i hi e => e)
  clear hp9 hm9 hz9 HO8 HTA8 HTU8 HK8 HK9 HZ8 HM8 HR8
  by_cases hE0 : E = 0
  · have HE0 : Hid (E = 0) := hE0
    rw [hE0] at d1
    clear hE0
    go_wp2_with fail
    have hKC : Kept (fun k => k = q) w9 (((((((((((((w9.setCell ⟨q, 0, none⟩ (.slice ka kl kc)).setCell ⟨q, 1, none⟩ (.int .i64 n)).setCell ⟨q, 2, none⟩ (.slice ca cl cc)).setCell ⟨q, 3, none⟩ (.bool m)).setCell ⟨q, 4, none⟩ (.int .i64 V.1)).setCell ⟨q, 5, none⟩ (.slice x lx cx)).setCell ⟨q, 6, none⟩ (.slice none 0 0)).setCell ⟨q, 7, none⟩ (.int .i64 n2)).setCell ⟨q, 8, none⟩ (.slice ca2 cl2 cc2)).setCell ⟨q, 9, none⟩ (.bool m2)).setCell ⟨q, 10, none⟩ (.int .i64 V2.1)).setCell ⟨q, 11, none⟩ (.slice x2 lx2 cx2)).setCell ⟨q, 12, none⟩ (.slice none 0 0)) := (((((((((((((Kept.refl (fun k => k = q) w9).setCell (p := ⟨q, 0, none⟩) (fun _ => rfl) _).setCell (p := ⟨q, 1, none⟩) (fun _ => rfl) _).setCell (p := ⟨q, 2, none⟩) (fun _ => rfl) _).setCell (p := ⟨q, 3, none⟩) (fun _ => rfl) _).setCell (p := ⟨q, 4, none⟩) (fun _ => rfl) _).setCell (p := ⟨q, 5, none⟩) (fun _ => rfl) _).setCell (p := ⟨q, 6, none⟩) (fun _ => rfl) _).setCell (p := ⟨q, 7, none⟩) (fun _ => rfl) _).setCell (p := ⟨q, 8, none⟩) (fun _ => rfl) _).setCell (p := ⟨q, 9, none⟩) (fun _ => rfl) _).setCell (p := ⟨q, 10, none⟩) (fun _ => rfl) _).setCell (p := ⟨q, 11, none⟩) (fun _ => rfl) _).setCell (p := ⟨q, 12, none⟩) (fun _ => rfl) _
    have hzC_0 : (w9.setCell ⟨q, 0, none⟩ (.slice ka kl kc)).heap[q]? = some (.cells #[.slice ka kl kc, .int .i64 0, .slice none 0 0, .bool false, .int .i64 0, .slice none 0 0, .slice none 0 0, .int .i64 0, .slice none 0 0, .bool false, .int .i64 0, .slice none 0 0, .slice none 0 0] 46 (0, 0)) := blk_set HZ9.out 0 _
    have hzC_1 : ((w9.setCell ⟨q, 0, none⟩ (.slice ka kl kc)).setCell ⟨q, 1, none⟩ (.int .i64 n)).heap[q]? = some (.cells #[.slice ka kl kc, .int .i64 n, .slice none 0 0, .bool false, .int .i64 0, .slice none 0 0, .slice none 0 0, .int .i64 0, .slice none 0 0, .bool false, .int .i64 0, .slice none 0 0, .slice none 0 0] 46 (0, 0)) := blk_set hzC_0 1 _
    have hzC_2 : (((w9.setCell ⟨q, 0, none⟩ (.slice ka kl kc)).setCell ⟨q, 1, none⟩ (.int .i64 n)).setCell ⟨q, 2, none⟩ (.slice ca cl cc)).heap[q]? = some (.cells #[.slice ka kl kc, .int .i64 n, .slice ca cl cc, .bool false, .int .i64 0, .slice none 0 0, .slice none 0 0, .int .i64 0, .slice none 0 0, .bool false, .int .i64 0, .slice none 0 0, .slice none 0 0] 46 (0, 0)) := blk_set hzC_1 2 _
    have hzC_3 : ((((w9.setCell ⟨q, 0, none⟩ (.slice ka kl kc)).setCell ⟨q, 1, none⟩ (.int .i64 n)).setCell ⟨q, 2, none⟩ (.slice ca cl cc)).setCell ⟨q, 3, none⟩ (.bool m)).heap[q]? = some (.cells #[.slice ka kl kc, .int .i64 n, .slice ca cl cc, .bool m, .int .i64 0, .slice none 0 0, .slice none 0 0, .int .i64 0, .slice none 0 0, .bool false, .int .i64 0, .slice none 0 0, .slice none 0 0] 46 (0, 0)) := blk_set hzC_2 3 _
    have hzC_4 : (((((w9.setCell ⟨q, 0, none⟩ (.slice ka kl kc)).setCell ⟨q, 1, none⟩ (.int .i64 n)).setCell ⟨q, 2, none⟩ (.slice ca cl cc)).setCell ⟨q, 3, none⟩ (.bool m)).setCell ⟨q, 4, none⟩ (.int .i64 V.1)).heap[q]? = some (.cells #[.slice ka kl kc, .int .i64 n, .slice ca cl cc, .bool m, .int .i64 V.1, .slice none 0 0, .slice none 0 0, .int .i64 0, .slice none 0 0, .bool false, .int .i64 0, .slice none 0 0, .slice none 0 0] 46 (0, 0)) := blk_set hzC_3 4 _
    have hzC_5 : ((((((w9.setCell ⟨q, 0, none⟩ (.slice ka kl kc)).setCell ⟨q, 1, none⟩ (.int .i64 n)).setCell ⟨q, 2, none⟩ (.slice ca cl cc)).setCell ⟨q, 3, none⟩ (.bool m)).setCell ⟨q, 4, none⟩ (.int .i64 V.1)).setCell ⟨q, 5, none⟩ (.slice x lx cx)).heap[q]? = some (.cells #[.slice ka kl kc, .int .i64 n, .slice ca cl cc, .bool m, .int .i64 V.1, .slice x lx cx, .slice none 0 0, .int .i64 0, .slice none 0 0, .bool false, .int .i64 0, .slice none 0 0, .slice none 0 0] 46 (0, 0)) := blk_set hzC_4 5 _
    have hzC_6 : (((((((w9.setCell ⟨q, 0, none⟩ (.slice ka kl kc)).setCell ⟨q, 1, none⟩ (.int .i64 n)).setCell ⟨q, 2, none⟩ (.slice ca cl cc)).setCell ⟨q, 3, none⟩ (.bool m)).setCell ⟨q, 4, none⟩ (.int .i64 V.1)).setCell ⟨q, 5, none⟩ (.slice x lx cx)).setCell ⟨q, 6, none⟩ (.slice none 0 0)).heap[q]? = some (.cells #[.slice ka kl kc, .int .i64 n, .slice ca cl cc, .bool m, .int .i64 V.1, .slice x lx cx, .slice none 0 0, .int .i64 0, .slice none 0 0, .bool false, .int .i64 0, .slice none 0 0, .slice none 0 0] 46 (0, 0)) := blk_set hzC_5 6 _
    have hzC_7 : ((((((((w9.setCell ⟨q, 0, none⟩ (.slice ka kl kc)).setCell ⟨q, 1, none⟩ (.int .i64 n)).setCell ⟨q, 2, none⟩ (.slice ca cl cc)).setCell ⟨q, 3, none⟩ (.bool m)).setCell ⟨q, 4, none⟩ (.int .i64 V.1)).setCell ⟨q, 5, none⟩ (.slice x lx cx)).setCell ⟨q, 6, none⟩ (.slice none 0 0)).setCell ⟨q, 7, none⟩ (.int .i64 n2)).heap[q]? = some (.cells #[.slice ka kl kc, .int .i64 n, .slice ca cl cc, .bool m, .int .i64 V.1, .slice x lx cx, .slice none 0 0, .int .i64 n2, .slice none 0 0, .bool false, .int .i64 0, .slice none 0 0, .slice none 0 0] 46 (0, 0)) := blk_set hzC_6 7 _
    have hzC_8 : (((((((((w9.setCell ⟨q, 0, none⟩ (.slice ka kl kc)).setCell ⟨q, 1, none⟩ (.int .i64 n)).setCell ⟨q, 2, none⟩ (.slice ca cl cc)).setCell ⟨q, 3, none⟩ (.bool m)).setCell ⟨q, 4, none⟩ (.int .i64 V.1)).setCell ⟨q, 5, none⟩ (.slice x lx cx)).setCell ⟨q, 6, none⟩ (.slice none 0 0)).setCell ⟨q, 7, none⟩ (.int .i64 n2)).setCell ⟨q, 8, none⟩ (.slice ca2 cl2 cc2)).heap[q]? = some (.cells #[.slice ka kl kc, .int .i64 n, .slice ca cl cc, .bool m, .int .i64 V.1, .slice x lx cx, .slice none 0 0, .int .i64 n2, .slice ca2 cl2 cc2, .bool false, .int .i64 0, .slice none 0 0, .slice none 0 0] 46 (0, 0)) := blk_set hzC_7 8 _
    have hzC_9 : ((((((((((w9.setCell ⟨q, 0, none⟩ (.slice ka kl kc)).setCell ⟨q, 1, none⟩ (.int .i64 n)).setCell ⟨q, 2, none⟩ (.slice ca cl cc)).setCell ⟨q, 3, none⟩ (.bool m)).setCell ⟨q, 4, none⟩ (.int .i64 V.1)).setCell ⟨q, 5, none⟩ (.slice x lx cx)).setCell ⟨q, 6, none⟩ (.slice none 0 0)).setCell ⟨q, 7, none⟩ (.int .i64 n2)).setCell ⟨q, 8, none⟩ (.slice ca2 cl2 cc2)).setCell ⟨q, 9, none⟩ (.bool m2)).heap[q]? = some (.cells #[.slice ka kl kc, .int .i64 n, .slice ca cl cc, .bool m, .int .i64 V.1, .slice x lx cx, .slice none 0 0, .int .i64 n2, .slice ca2 cl2 cc2, .bool m2, .int .i64 0, .slice none 0 0, .slice none 0 0] 46 (0, 0)) := blk_set hzC_8 9 _
    have hzC_10 : (((((((((((w9.setCell ⟨q, 0, none⟩ (.slice ka kl kc)).setCell ⟨q, 1, none⟩ (.int .i64 n)).setCell ⟨q, 2, none⟩ (.slice ca cl cc)).setCell ⟨q, 3, none⟩ (.bool m)).setCell ⟨q, 4, none⟩ (.int .i64 V.1)).setCell ⟨q, 5, none⟩ (.slice x lx cx)).setCell ⟨q, 6, none⟩ (.slice none 0 0)).setCell ⟨q, 7, none⟩ (.int .i64 n2)).setCell ⟨q, 8, none⟩ (.slice ca2 cl2 cc2)).setCell ⟨q, 9, none⟩ (.bool m2)).setCell ⟨q, 10, none⟩ (.int .i64 V2.1)).heap[q]? = some (.cells #[.slice ka kl kc, .int .i64 n, .slice ca cl cc, .bool m, .int .i64 V.1, .slice x lx cx, .slice none 0 0, .int .i64 n2, .slice ca2 cl2 cc2, .bool m2, .int .i64 V2.1, .slice none 0 0, .slice none 0 0] 46 (0, 0)) := blk_set hzC_9 10 _
    have hzC_11 : ((((((((((((w9.setCell ⟨q, 0, none⟩ (.slice ka kl kc)).setCell ⟨q, 1, none⟩ (.int .i64 n)).setCell ⟨q, 2, none⟩ (.slice ca cl cc)).setCell ⟨q, 3, none⟩ (.bool m)).setCell ⟨q, 4, none⟩ (.int .i64 V.1)).setCell ⟨q, 5, none⟩ (.slice x lx cx)).setCell ⟨q, 6, none⟩ (.slice none 0 0)).setCell ⟨q, 7, none⟩ (.int .i64 n2)).setCell ⟨q, 8, none⟩ (.slice ca2 cl2 cc2)).setCell ⟨q, 9, none⟩ (.bool m2)).setCell ⟨q, 10, none⟩ (.int .i64 V2.1)).setCell ⟨q, 11, none⟩ (.slice x2 lx2 cx2)).heap[q]? = some (.cells #[.slice ka kl kc, .int .i64 n, .slice ca cl cc, .bool m, .int .i64 V.1, .slice x lx cx, .slice none 0 0, .int .i64 n2, .slice ca2 cl2 cc2, .bool m2, .int .i64 V2.1, .slice x2 lx2 cx2, .slice none 0 0] 46 (0, 0)) := blk_set hzC_10 11 _
    have hzC : (((((((((((((w9.setCell ⟨q, 0, none⟩ (.slice ka kl kc)).setCell ⟨q, 1, none⟩ (.int .i64 n)).setCell ⟨q, 2, none⟩ (.slice ca cl cc)).setCell ⟨q, 3, none⟩ (.bool m)).setCell ⟨q, 4, none⟩ (.int .i64 V.1)).setCell ⟨q, 5, none⟩ (.slice x lx cx)).setCell ⟨q, 6, none⟩ (.slice none 0 0)).setCell ⟨q, 7, none⟩ (.int .i64 n2)).setCell ⟨q, 8, none⟩ (.slice ca2 cl2 cc2)).setCell ⟨q, 9, none⟩ (.bool m2)).setCell ⟨q, 10, none⟩ (.int .i64 V2.1)).setCell ⟨q, 11, none⟩ (.slice x2 lx2 cx2)).setCell ⟨q, 12, none⟩ (.slice none 0 0)).heap[q]? = some (.cells #[.slice ka kl kc, .int .i64 n, .slice ca cl cc, .bool m, .int .i64 V.1, .slice x lx cx, .slice none 0 0, .int .i64 n2, .slice ca2 cl2 cc2, .bool m2, .int .i64 V2.1, .slice x2 lx2 cx2, .slice none 0 0] 46 (0, 0)) := blk_set hzC_11 12 _
    clear hzC_0 hzC_1 hzC_2 hzC_3 hzC_4 hzC_5 hzC_6 hzC_7 hzC_8 hzC_9 hzC_10 hzC_11
    generalize ((((((((((((w9.setCell ⟨q, 0, none⟩ (.slice ka kl kc)).setCell ⟨q, 1, none⟩ (.int .i64 n)).setCell ⟨q, 2, none⟩ (.slice ca cl cc)).setCell ⟨q, 3, none⟩ (.bool m)).setCell ⟨q, 4, none⟩ (.int .i64 V.1)).setCell ⟨q, 5, none⟩ (.slice x lx cx)).setCell ⟨q, 6, none⟩ (.slice none 0 0)).setCell ⟨q, 7, none⟩ (.int .i64 n2)).setCell ⟨q, 8, none⟩ (.slice ca2 cl2 cc2)).setCell ⟨q, 9, none⟩ (.bool m2)).setCell ⟨q, 10, none⟩ (.int .i64 V2.1)).setCell ⟨q, 11, none⟩ (.slice x2 lx2 cx2)).setCell ⟨q, 12, none⟩ (.slice none 0 0) = wC at hKC hzC ⊢
    obtain ⟨⟨z0, z1, z2, z3, z4, z5, z6, z7, z8, z9, z10, z11, z12⟩, _⟩ := blk13 hzC
    refine bodyPost_ret (v := .tuple #[.agg #[.slice ka kl kc, .int .i64 n, .slice ca cl cc, .bool m, .int .i64 V.1, .slice x lx cx, .slice none 0 0, .int .i64 n2, .slice ca2 cl2 cc2, .bool m2, .int .i64 V2.1, .slice x2 lx2 cx2, .slice none 0 0], .int .i64 0]) (by simp [results, Tryd.results14, go_sem, z0, z1, z2, z3, z4, z5, z6, z7, z8, z9, z10, z11, z12]) rfl ?_
    have hK : Kept (fun k => k = q ∨ k = q + 1) w wC := (HK9w.out.wider (fun k e => .inr e)).trans hKC (fun i hi e => .inl e)
    refine ⟨ks, ((((n : Nat) : Int), L, m, V, []) : Tb), ((((n2 : Nat) : Int), L2, m2, V2, []) : Tb), ka, kl, kc, ca, cl, cc, x, lx, cx, ca2, cl2, cc2, x2, lx2, cx2, by rw [← HE.out, HE0.out], ?_, ?_, ?_, ?_, hK.below (Nat.le_refl _) (fun k hk e => by have := HQE.out; rcases e with e | e <;> omega)⟩
    · exact (HO9.out.apart stays_key hKC (fun k _ h1 e => by omega)).sub stays_key (fun k _ h1 => by have := HQE.out; omega)
    · exact (HTA9.out.apart hKC (fun k _ h1 e => by omega)).sub (fun k _ h1 => by have := HQE.out; omega)
    · exact (HTU9.out.apart hKC (fun k _ h1 e => by omega)).sub (fun k _ h1 => by have := HQE.out; omega)
    · show _ = _
      have h0 : (stepR metaR (zs, 0)).2 = 0 := end_zero (by rw [← HE.out]; exact HE0.out)
      rw [← HE.out, if_pos HE0.out]
      have h1 := h0
      rw [HST.out.1] at h1
      have hT := HST.out.2 h0
      rw [← HV7.out h1, ← HV4.out (step_fine (step_fine h1)), ← HV2.out (step_fine (step_fine (step_fine h1)))] at hT
      exact hT.symm
  · have t : (E != 0) = true := by simpa using hE0
    have HE0 : Hid (E ≠ 0) := hE0
    clear hE0
    go_wp2_with fail
    go_region
    go_wp2_with fail
    have hKC : Kept (fun k => k = q) w9 (((((((((((((w9.setCell ⟨q, 0, none⟩ (.slice none 0 0)).setCell ⟨q, 1, none⟩ (.int .i64 0)).setCell ⟨q, 2, none⟩ (.slice none 0 0)).setCell ⟨q, 3, none⟩ (.bool false)).setCell ⟨q, 4, none⟩ (.int .i64 0)).setCell ⟨q, 5, none⟩ (.slice none 0 0)).setCell ⟨q, 6, none⟩ (.slice none 0 0)).setCell ⟨q, 7, none⟩ (.int .i64 0)).setCell ⟨q, 8, none⟩ (.slice none 0 0)).setCell ⟨q, 9, none⟩ (.bool false)).setCell ⟨q, 10, none⟩ (.int .i64 0)).setCell ⟨q, 11, none⟩ (.slice none 0 0)).setCell ⟨q, 12, none⟩ (.slice none 0 0)) := (((((((((((((Kept.refl (fun k => k = q) w9).setCell (p := ⟨q, 0, none⟩) (fun _ => rfl) _).setCell (p := ⟨q, 1, none⟩) (fun _ => rfl) _).setCell (p := ⟨q, 2, none⟩) (fun _ => rfl) _).setCell (p := ⟨q, 3, none⟩) (fun _ => rfl) _).setCell (p := ⟨q, 4, none⟩) (fun _ => rfl) _).setCell (p := ⟨q, 5, none⟩) (fun _ => rfl) _).setCell (p := ⟨q, 6, none⟩) (fun _ => rfl) _).setCell (p := ⟨q, 7, none⟩) (fun _ => rfl) _).setCell (p := ⟨q, 8, none⟩) (fun _ => rfl) _).setCell (p := ⟨q, 9, none⟩) (fun _ => rfl) _).setCell (p := ⟨q, 10, none⟩) (fun _ => rfl) _).setCell (p := ⟨q, 11, none⟩) (fun _ => rfl) _).setCell (p := ⟨q, 12, none⟩) (fun _ => rfl) _
    have hzC_0 : (w9.setCell ⟨q, 0, none⟩ (.slice none 0 0)).heap[q]? = some (.cells #[.slice none 0 0, .int .i64 0, .slice none 0 0, .bool false, .int .i64 0, .slice none 0 0, .slice none 0 0, .int .i64 0, .slice none 0 0, .bool false, .int .i64 0, .slice none 0 0, .slice none 0 0] 46 (0, 0)) := blk_set HZ9.out 0 _
    have hzC_1 : ((w9.setCell ⟨q, 0, none⟩ (.slice none 0 0)).setCell ⟨q, 1, none⟩ (.int .i64 0)).heap[q]? = some (.cells #[.slice none 0 0, .int .i64 0, .slice none 0 0, .bool false, .int .i64 0, .slice none 0 0, .slice none 0 0, .int .i64 0, .slice none 0 0, .bool false, .int .i64 0, .slice none 0 0, .slice none 0 0] 46 (0, 0)) := blk_set hzC_0 1 _
    have hzC_2 : (((w9.setCell ⟨q, 0, none⟩ (.slice none 0 0)).setCell ⟨q, 1, none⟩ (.int .i64 0)).setCell ⟨q, 2, none⟩ (.slice none 0 0)).heap[q]? = some (.cells #[.slice none 0 0, .int .i64 0, .slice none 0 0, .bool false, .int .i64 0, .slice none 0 0, .slice none 0 0, .int .i64 0, .slice none 0 0, .bool false, .int .i64 0, .slice none 0 0, .slice none 0 0] 46 (0, 0)) := blk_set hzC_1 2 _
    have hzC_3 : ((((w9.setCell ⟨q, 0, none⟩ (.slice none 0 0)).setCell ⟨q, 1, none⟩ (.int .i64 0)).setCell ⟨q, 2, none⟩ (.slice none 0 0)).setCell ⟨q, 3, none⟩ (.bool false)).heap[q]? = some (.cells #[.slice none 0 0, .int .i64 0, .slice none 0 0, .bool false, .int .i64 0, .slice none 0 0, .slice none 0 0, .int .i64 0, .slice none 0 0, .bool false, .int .i64 0, .slice none 0 0, .slice none 0 0] 46 (0, 0)) := blk_set hzC_2 3 _
    have hzC_4 : (((((w9.setCell ⟨q, 0, none⟩ (.slice none 0 0)).setCell ⟨q, 1, none⟩ (.int .i64 0)).setCell ⟨q, 2, none⟩ (.slice none 0 0)).setCell ⟨q, 3, none⟩ (.bool false)).setCell ⟨q, 4, none⟩ (.int .i64 0)).heap[q]? = some (.cells #[.slice none 0 0, .int .i64 0, .slice none 0 0, .bool false, .int .i64 0, .slice none 0 0, .slice none 0 0, .int .i64 0, .slice none 0 0, .bool false, .int .i64 0, .slice none 0 0, .slice none 0 0] 46 (0, 0)) := blk_set hzC_3 4 _
    have hzC_5 : ((((((w9.setCell ⟨q, 0, none⟩ (.slice none 0 0)).setCell ⟨q, 1, none⟩ (.int .i64 0)).setCell ⟨q, 2, none⟩ (.slice none 0 0)).setCell ⟨q, 3, none⟩ (.bool false)).setCell ⟨q, 4, none⟩ (.int .i64 0)).setCell ⟨q, 5, none⟩ (.slice none 0 0)).heap[q]? = some (.cells #[.slice none 0 0, .int .i64 0, .slice none 0 0, .bool false, .int .i64 0, .slice none 0 0, .slice none 0 0, .int .i64 0, .slice none 0 0, .bool false, .int .i64 0, .slice none 0 0, .slice none 0 0] 46 (0, 0)) := blk_set hzC_4 5 _
    have hzC_6 : (((((((w9.setCell ⟨q, 0, none⟩ (.slice none 0 0)).setCell ⟨q, 1, none⟩ (.int .i64 0)).setCell ⟨q, 2, none⟩ (.slice none 0 0)).setCell ⟨q, 3, none⟩ (.bool false)).setCell ⟨q, 4, none⟩ (.int .i64 0)).setCell ⟨q, 5, none⟩ (.slice none 0 0)).setCell ⟨q, 6, none⟩ (.slice none 0 0)).heap[q]? = some (.cells #[.slice none 0 0, .int .i64 0, .slice none 0 0, .bool false, .int .i64 0, .slice none 0 0, .slice none 0 0, .int .i64 0, .slice none 0 0, .bool false, .int .i64 0, .slice none 0 0, .slice none 0 0] 46 (0, 0)) := blk_set hzC_5 6 _
    have hzC_7 : ((((((((w9.setCell ⟨q, 0, none⟩ (.slice none 0 0)).setCell ⟨q, 1, none⟩ (.int .i64 0)).setCell ⟨q, 2, none⟩ (.slice none 0 0)).setCell ⟨q, 3, none⟩ (.bool false)).setCell ⟨q, 4, none⟩ (.int .i64 0)).setCell ⟨q, 5, none⟩ (.slice none 0 0)).setCell ⟨q, 6, none⟩ (.slice none 0 0)).setCell ⟨q, 7, none⟩ (.int .i64 0)).heap[q]? = some (.cells #[.slice none 0 0, .int .i64 0, .slice none 0 0, .bool false, .int .i64 0, .slice none 0 0, .slice none 0 0, .int .i64 0, .slice none 0 0, .bool false, .int .i64 0, .slice none 0 0, .slice none 0 0] 46 (0, 0)) := blk_set hzC_6 7 _
    have hzC_8 : (((((((((w9.setCell ⟨q, 0, none⟩ (.slice none 0 0)).setCell ⟨q, 1, none⟩ (.int .i64 0)).setCell ⟨q, 2, none⟩ (.slice none 0 0)).setCell ⟨q, 3, none⟩ (.bool false)).setCell ⟨q, 4, none⟩ (.int .i64 0)).setCell ⟨q, 5, none⟩ (.slice none 0 0)).setCell ⟨q, 6, none⟩ (.slice none 0 0)).setCell ⟨q, 7, none⟩ (.int .i64 0)).setCell ⟨q, 8, none⟩ (.slice none 0 0)).heap[q]? = some (.cells #[.slice none 0 0, .int .i64 0, .slice none 0 0, .bool false, .int .i64 0, .slice none 0 0, .slice none 0 0, .int .i64 0, .slice none 0 0, .bool false, .int .i64 0, .slice none 0 0, .slice none 0 0] 46 (0, 0)) := blk_set hzC_7 8 _
    have hzC_9 : ((((((((((w9.setCell ⟨q, 0, none⟩ (.slice none 0 0)).setCell ⟨q, 1, none⟩ (.int .i64 0)).setCell ⟨q, 2, none⟩ (.slice none 0 0)).setCell ⟨q, 3, none⟩ (.bool false)).setCell ⟨q, 4, none⟩ (.int .i64 0)).setCell ⟨q, 5, none⟩ (.slice none 0 0)).setCell ⟨q, 6, none⟩ (.slice none 0 0)).setCell ⟨q, 7, none⟩ (.int .i64 0)).setCell ⟨q, 8, none⟩ (.slice none 0 0)).setCell ⟨q, 9, none⟩ (.bool false)).heap[q]? = some (.cells #[.slice none 0 0, .int .i64 0, .slice none 0 0, .bool false, .int .i64 0, .slice none 0 0, .slice none 0 0, .int .i64 0, .slice none 0 0, .bool false, .int .i64 0, .slice none 0 0, .slice none 0 0] 46 (0, 0)) := blk_set hzC_8 9 _
    have hzC_10 : (((((((((((w9.setCell ⟨q, 0, none⟩ (.slice none 0 0)).setCell ⟨q, 1, none⟩ (.int .i64 0)).setCell ⟨q, 2, none⟩ (.slice none 0 0)).setCell ⟨q, 3, none⟩ (.bool false)).setCell ⟨q, 4, none⟩ (.int .i64 0)).setCell ⟨q, 5, none⟩ (.slice none 0 0)).setCell ⟨q, 6, none⟩ (.slice none 0 0)).setCell ⟨q, 7, none⟩ (.int .i64 0)).setCell ⟨q, 8, none⟩ (.slice none 0 0)).setCell ⟨q, 9, none⟩ (.bool false)).setCell ⟨q, 10, none⟩ (.int .i64 0)).heap[q]? = some (.cells #[.slice none 0 0, .int .i64 0, .slice none 0 0, .bool false, .int .i64 0, .slice none 0 0, .slice none 0 0, .int .i64 0, .slice none 0 0, .bool false, .int .i64 0, .slice none 0 0, .slice none 0 0] 46 (0, 0)) := blk_set hzC_9 10 _
    have hzC_11 : ((((((((((((w9.setCell ⟨q, 0, none⟩ (.slice none 0 0)).setCell ⟨q, 1, none⟩ (.int .i64 0)).setCell ⟨q, 2, none⟩ (.slice none 0 0)).setCell ⟨q, 3, none⟩ (.bool false)).setCell ⟨q, 4, none⟩ (.int .i64 0)).setCell ⟨q, 5, none⟩ (.slice none 0 0)).setCell ⟨q, 6, none⟩ (.slice none 0 0)).setCell ⟨q, 7, none⟩ (.int .i64 0)).setCell ⟨q, 8, none⟩ (.slice none 0 0)).setCell ⟨q, 9, none⟩ (.bool false)).setCell ⟨q, 10, none⟩ (.int .i64 0)).setCell ⟨q, 11, none⟩ (.slice none 0 0)).heap[q]? = some (.cells #[.slice none 0 0, .int .i64 0, .slice none 0 0, .bool false, .int .i64 0, .slice none 0 0, .slice none 0 0, .int .i64 0, .slice none 0 0, .bool false, .int .i64 0, .slice none 0 0, .slice none 0 0] 46 (0, 0)) := blk_set hzC_10 11 _
    have hzC : (((((((((((((w9.setCell ⟨q, 0, none⟩ (.slice none 0 0)).setCell ⟨q, 1, none⟩ (.int .i64 0)).setCell ⟨q, 2, none⟩ (.slice none 0 0)).setCell ⟨q, 3, none⟩ (.bool false)).setCell ⟨q, 4, none⟩ (.int .i64 0)).setCell ⟨q, 5, none⟩ (.slice none 0 0)).setCell ⟨q, 6, none⟩ (.slice none 0 0)).setCell ⟨q, 7, none⟩ (.int .i64 0)).setCell ⟨q, 8, none⟩ (.slice none 0 0)).setCell ⟨q, 9, none⟩ (.bool false)).setCell ⟨q, 10, none⟩ (.int .i64 0)).setCell ⟨q, 11, none⟩ (.slice none 0 0)).setCell ⟨q, 12, none⟩ (.slice none 0 0)).heap[q]? = some (.cells #[.slice none 0 0, .int .i64 0, .slice none 0 0, .bool false, .int .i64 0, .slice none 0 0, .slice none 0 0, .int .i64 0, .slice none 0 0, .bool false, .int .i64 0, .slice none 0 0, .slice none 0 0] 46 (0, 0)) := blk_set hzC_11 12 _
    clear hzC_0 hzC_1 hzC_2 hzC_3 hzC_4 hzC_5 hzC_6 hzC_7 hzC_8 hzC_9 hzC_10 hzC_11
    generalize ((((((((((((w9.setCell ⟨q, 0, none⟩ (.slice none 0 0)).setCell ⟨q, 1, none⟩ (.int .i64 0)).setCell ⟨q, 2, none⟩ (.slice none 0 0)).setCell ⟨q, 3, none⟩ (.bool false)).setCell ⟨q, 4, none⟩ (.int .i64 0)).setCell ⟨q, 5, none⟩ (.slice none 0 0)).setCell ⟨q, 6, none⟩ (.slice none 0 0)).setCell ⟨q, 7, none⟩ (.int .i64 0)).setCell ⟨q, 8, none⟩ (.slice none 0 0)).setCell ⟨q, 9, none⟩ (.bool false)).setCell ⟨q, 10, none⟩ (.int .i64 0)).setCell ⟨q, 11, none⟩ (.slice none 0 0)).setCell ⟨q, 12, none⟩ (.slice none 0 0) = wC at hKC hzC ⊢
    have hzD : wC.drew.heap[q]? = some (.cells #[.slice none 0 0, .int .i64 0, .slice none 0 0, .bool false, .int .i64 0, .slice none 0 0, .slice none 0 0, .int .i64 0, .slice none 0 0, .bool false, .int .i64 0, .slice none 0 0, .slice none 0 0] 46 (0, 0)) := hzC
    obtain ⟨⟨z0, z1, z2, z3, z4, z5, z6, z7, z8, z9, z10, z11, z12⟩, _⟩ := blk13 hzD
    refine bodyPost_ret (v := .tuple #[.agg #[.slice none 0 0, .int .i64 0, .slice none 0 0, .bool false, .int .i64 0, .slice none 0 0, .slice none 0 0, .int .i64 0, .slice none 0 0, .bool false, .int .i64 0, .slice none 0 0, .slice none 0 0], .int .i64 E]) (by simp [results, Tryd.results14, go_sem, z0, z1, z2, z3, z4, z5, z6, z7, z8, z9, z10, z11, z12]) rfl ?_
    have hK : Kept (fun k => k = q ∨ k = q + 1) w wC := (HK9w.out.wider (fun k e => .inr e)).trans hKC (fun i hi e => .inl e)
    refine ⟨[], tb0, tb0, none, 0, 0, none, 0, 0, none, 0, 0, none, 0, 0, none, 0, 0, by rw [← HE.out]; rfl, ownI_nil _ _ _ _ _, tbO_0 _ _, tbO_0 _ _, ?_, (hK.below (Nat.le_refl _) (fun k hk e => by have := HQE.out; rcases e with e | e <;> omega)).drew⟩
    show _ = _
    rw [← HE.out, if_neg HE0.out]

end Go.Proofs.YtnapeecmlkkolaaDoor
