/-
  requestOf: the request as the document's model has it.
-/
import Derived.Test.YtcecdklgiocbaaaPuts9
import Derived.Test.YtcecdklgiocbaaaReqL
import Derived.Deep.RegionHeld3
namespace Go.Proofs.Ytcecdklgiocbaaa
open Go.RowKit
set_option maxRecDepth 100000
set_option linter.unusedVariables false
set_option linter.unusedSimpArgs false

set_option maxHeartbeats 16000000 in
theorem reqOf_any : ReqOf := by
  intro w op oa ol oc os tx ia il ic id co a l c vs na nl nc ns sk pg pn rs sk1 sb sa sl sc se sr ti tm ea el ec es tk tb ta tl tc kd aa al ac ss hR hS
  have HR : Hid (RqAt w oa ol oc ia il ic a l c na nl nc sa sl sc ea el ec ta tl tc aa al ac (op, os, tx, id, (co, vs, ns, sk, pg, pn, rs, (sk1, sb), se, sr, ti, tm), es, (tk, tb), kd, ss)) := hR
  have HS : Hid (Sm (op, os, tx, id, (co, vs, ns, sk, pg, pn, rs, (sk1, sb), se, sr, ti, tm), es, (tk, tb), kd, ss)) := hS
  obtain ⟨q, hq⟩ : ∃ q, q = w.heap.size := ⟨_, rfl⟩
  have HQ : Hid (w.heap.size = q) := hq.symm
  obtain ⟨w1, hw1⟩ : ∃ w1, w1 = ((w.alloc (.cells #[.int .u8 op, .slice oa ol oc, .string tx, .slice ia il ic, .int .u16 co, .slice a l c, .slice na nl nc, .bool sk, .bool pg, .int .i32 pn, .bool rs, .int .i64 sk1, .slice sa sl sc, .bool se, .int .u16 sr, .bool ti, .int .i64 tm, .slice ea el ec, .int .i64 tk, .slice ta tl tc, .int .u8 kd, .slice aa al ac] 33)).alloc (.cells #[.int .u8 0, .slice none 0 0, .string ⟨#[]⟩, .string ⟨#[]⟩, .int .u16 0, .slice none 0 0, .slice none 0 0, .bool false, .bool false, .int .i32 0, .bool false, .int .i64 0, .string ⟨#[]⟩, .bool false, .int .u16 0, .bool false, .int .i64 0, .slice none 0 0, .int .i64 0, .string ⟨#[]⟩, .int .u8 0, .slice none 0 0] 48)) := ⟨_, rfl⟩
  have hB1 : Below w.heap.size w w1 := by rw [hw1]; exact (below_one _ _).alloc (by simp) _
  have HB1 : Hid (Below w.heap.size w w1) := hB1
  have hb1 : w1.heap[q]? = some (.cells #[.int .u8 op, .slice oa ol oc, .string tx, .slice ia il ic, .int .u16 co, .slice a l c, .slice na nl nc, .bool sk, .bool pg, .int .i32 pn, .bool rs, .int .i64 sk1, .slice sa sl sc, .bool se, .int .u16 sr, .bool ti, .int .i64 tm, .slice ea el ec, .int .i64 tk, .slice ta tl tc, .int .u8 kd, .slice aa al ac] 33 (0, 0)) := by
    rw [hw1, hq]
    exact ((below_one (w.alloc (.cells #[.int .u8 op, .slice oa ol oc, .string tx, .slice ia il ic, .int .u16 co, .slice a l c, .slice na nl nc, .bool sk, .bool pg, .int .i32 pn, .bool rs, .int .i64 sk1, .slice sa sl sc, .bool se, .int .u16 sr, .bool ti, .int .i64 tm, .slice ea el ec, .int .i64 tk, .slice ta tl tc, .int .u8 kd, .slice aa al ac] 33)) _).block w.heap.size (by simp)).trans (heap_alloc_new w _)
  have HW1 : Hid ((w.alloc (.cells #[.int .u8 op, .slice oa ol oc, .string tx, .slice ia il ic, .int .u16 co, .slice a l c, .slice na nl nc, .bool sk, .bool pg, .int .i32 pn, .bool rs, .int .i64 sk1, .slice sa sl sc, .bool se, .int .u16 sr, .bool ti, .int .i64 tm, .slice ea el ec, .int .i64 tk, .slice ta tl tc, .int .u8 kd, .slice aa al ac] 33)).alloc (.cells #[.int .u8 0, .slice none 0 0, .string ⟨#[]⟩, .string ⟨#[]⟩, .int .u16 0, .slice none 0 0, .slice none 0 0, .bool false, .bool false, .int .i32 0, .bool false, .int .i64 0, .string ⟨#[]⟩, .bool false, .int .u16 0, .bool false, .int .i64 0, .slice none 0 0, .int .i64 0, .string ⟨#[]⟩, .int .u8 0, .slice none 0 0] 48) = w1) := hw1.symm
  have HX1 : Hid (w1.heap[q + 1]? = some (.cells #[.int .u8 0, .slice none 0 0, .string ⟨#[]⟩, .string ⟨#[]⟩, .int .u16 0, .slice none 0 0, .slice none 0 0, .bool false, .bool false, .int .i32 0, .bool false, .int .i64 0, .string ⟨#[]⟩, .bool false, .int .u16 0, .bool false, .int .i64 0, .slice none 0 0, .int .i64 0, .string ⟨#[]⟩, .int .u8 0, .slice none 0 0] 48 (0, 0))) := by
    show _ = _
    rw [hw1, hq]
    have := heap_alloc_new (w.alloc (.cells #[.int .u8 op, .slice oa ol oc, .string tx, .slice ia il ic, .int .u16 co, .slice a l c, .slice na nl nc, .bool sk, .bool pg, .int .i32 pn, .bool rs, .int .i64 sk1, .slice sa sl sc, .bool se, .int .u16 sr, .bool ti, .int .i64 tm, .slice ea el ec, .int .i64 tk, .slice ta tl tc, .int .u8 kd, .slice aa al ac] 33)) (.cells #[.int .u8 0, .slice none 0 0, .string ⟨#[]⟩, .string ⟨#[]⟩, .int .u16 0, .slice none 0 0, .slice none 0 0, .bool false, .bool false, .int .i32 0, .bool false, .int .i64 0, .string ⟨#[]⟩, .bool false, .int .u16 0, .bool false, .int .i64 0, .slice none 0 0, .int .i64 0, .string ⟨#[]⟩, .int .u8 0, .slice none 0 0] 48)
    simpa using this
  have HS1 : Hid (w1.heap.size = q + 2) := by show _ = _; rw [hw1, hq]; simp
  obtain ⟨p0, p1, p2, p3, p4, p5, p6, p7, p8, p9, p10, p11, p12, p13, p14, p15, p16, p17, p18, p19, p20, p21⟩ := req_cells hb1
  have hl1 := block_lt hb1
  have HK1 : Hid (w1.heap[q]? = some (.cells #[.int .u8 op, .slice oa ol oc, .string tx, .slice ia il ic, .int .u16 co, .slice a l c, .slice na nl nc, .bool sk, .bool pg, .int .i32 pn, .bool rs, .int .i64 sk1, .slice sa sl sc, .bool se, .int .u16 sr, .bool ti, .int .i64 tm, .slice ea el ec, .int .i64 tk, .slice ta tl tc, .int .u8 kd, .slice aa al ac] 33 (0, 0))) := hb1
  clear hR hS hw1 hB1 hb1
  go_enter Try.func12, Try.ntmps12
  go_upto_region 1 with fail
  rw [HW1.out]
  rw [HQ.out]
  clear HW1 hq
  go_upto_region 2 with (refine wpList_store_hid (T := 30) (old := #[.int .u16 0, .slice none 0 0, .slice none 0 0, .bool false, .bool false, .int .i32 0, .bool false, .int .i64 0, .slice none 0 0, .bool false, .int .u16 0, .bool false, .int .i64 0]) rfl 30 (.tmp 3) (.tmp 10) rfl rfl rfl Try.isz30 (by simp [Value.oneCell']) (heap_alloc_new _ _) rfl ?_)
  intro w2 hb2 hK2 hs2
  rw [HS1.out] at hb2 hK2 hs2 ⊢
  have hB12 : Below w1.heap.size w1 w2 := ((kept_of (below_one w1 _)).trans hK2 (fun _ _ e => e)).below (S := fun k => k = q + 2) (Nat.le_refl _) (fun k hk e => by have := HS1.out; omega)
  have HB2 : Hid (Below w.heap.size w w2) := HB1.out.trans (hB12.mono HB1.out.size)
  have HQ2 : Hid (w2.heap[q]? = some _) := (hB12.block q hl1).trans HK1.out
  have HX2 : Hid (w2.heap[q + 1]? = some (.cells #[.int .u8 0, .slice none 0 0, .string ⟨#[]⟩, .string ⟨#[]⟩, .int .u16 0, .slice none 0 0, .slice none 0 0, .bool false, .bool false, .int .i32 0, .bool false, .int .i64 0, .string ⟨#[]⟩, .bool false, .int .u16 0, .bool false, .int .i64 0, .slice none 0 0, .int .i64 0, .string ⟨#[]⟩, .int .u8 0, .slice none 0 0] 48 (0, 0))) := (hB12.block (q + 1) (by have := HS1.out; omega)).trans HX1.out
  have HP2 : Hid (w2.heap[q + 2]? = some _) := hb2
  obtain ⟨r0, r1, r2, r3, r4, r5, r6, r7, r8, r9, r10, r11, r12⟩ := run_cells hb2
  have hNV : Hid (View 1 VS w2 na nl nc ns) := by
    have := (HR.out.old HB2.out).run.names
    exact this
  have hNL : Hid (nl ≤ 1048576) := by
    have h1 := HR.out.run.names.1
    have h2 := HS.out.lens.2.2.1
    show _ ≤ _
    rw [← h1]; exact h2
  have hsz2 : Hid (w2.heap.size = q + 3) := by show _ = _; rw [hs2]
  clear hb2 hK2 hs2 p0 p1 p2 p3 p4 p5 p6 p7 p8 p9 p10 p11 p12 p13 p14 p15 p16 p17 p18 p19 p20 p21
  go_wp2_with (at_builtin; refine wpList_append_names rfl (.tmp 11) (.tmp 13) rfl rfl rfl hNV.out hNL.out ?_)
  intro v3 w3 ho3 hB3
  have HB3 : Hid (Below w.heap.size w w3) := HB2.out.trans (hB3.mono HB2.out.size)
  obtain ⟨na3, nc3, rfl, hN3⟩ := ownG_names ho3
  have hQ3 := (hB3.block q (block_lt HQ2.out)).trans HQ2.out
  have hP3 := (hB3.block (q + 2) (block_lt HP2.out)).trans HP2.out
  have HQ3 : Hid (w3.heap[q]? = some _) := hQ3
  have HX3 : Hid (w3.heap[q + 1]? = some (.cells #[.int .u8 0, .slice none 0 0, .string ⟨#[]⟩, .string ⟨#[]⟩, .int .u16 0, .slice none 0 0, .slice none 0 0, .bool false, .bool false, .int .i32 0, .bool false, .int .i64 0, .string ⟨#[]⟩, .bool false, .int .u16 0, .bool false, .int .i64 0, .slice none 0 0, .int .i64 0, .string ⟨#[]⟩, .int .u8 0, .slice none 0 0] 48 (0, 0))) := (hB3.block (q + 1) (block_lt HX2.out)).trans HX2.out
  have HON3 : Hid (OwnG 9 1 GS w3 (fun z => q + 3 ≤ z) (.slice na3 ns.length nc3) ns) := by
    have h := ho3
    rw [hsz2.out] at h
    exact h
  have HP3 : Hid (w3.heap[q + 2]? = some _) := hP3
  have HN3 : Hid (View 1 VS w3 na3 ns.length nc3 ns) := hN3
  have HR3 : Hid (RqAt w3 oa ol oc ia il ic a l c na nl nc sa sl sc ea el ec ta tl tc aa al ac (op, os, tx, id, (co, vs, ns, sk, pg, pn, rs, (sk1, sb), se, sr, ti, tm), es, (tk, tb), kd, ss)) := HR.out.old HB3.out
  have hlq3 := block_lt hQ3
  have HKP : Hid (∀ W, Below w3.heap.size w3 W → W.cell? ⟨q, 0, none⟩ = some (.int .u8 op) ∧ W.cell? ⟨q, 2, none⟩ = some (.string tx) ∧ W.cell? ⟨q, 3, none⟩ = some (.slice ia il ic) ∧ W.cell? ⟨q, 18, none⟩ = some (.int .i64 tk) ∧ W.cell? ⟨q, 19, none⟩ = some (.slice ta tl tc) ∧ W.cell? ⟨q, 20, none⟩ = some (.int .u8 kd) ∧ (convert 23 9 (.slice ia il ic)).run Try.prog W = .ok (.string id) W ∧ Below w3.heap.size w3 W) := by
    intro W hW
    obtain ⟨p0, p1, p2, p3, p4, p5, p6, p7, p8, p9, p10, p11, p12, p13, p14, p15, p16, p17, p18, p19, p20, p21⟩ := req_cells ((hW.block q hlq3).trans hQ3)
    have hcv := (HR3.out.old hW).id.conv
    rw [strOfNums_sNums] at hcv
    exact ⟨p0, p2, p3, p18, p19, p20, hcv, hW⟩
  clear hQ3 hP3 hB3 ho3 hN3 r0 r1 r2 r3 r4 r5 r6 r7 r8 r9 r10 r11 r12
  go_upto_region 4 with fail
  go_cut [5] (fun b wc => ∃ g, b = .pointer (some ⟨g, 0, none⟩) ∧ Hid (wc.heap[g]? = some (.cells #[.int .u8 op, .slice none 0 0, .string tx, .string id, .int .u16 0, .slice none 0 0, .slice none 0 0, .bool false, .bool false, .int .i32 0, .bool false, .int .i64 0, .string ⟨#[]⟩, .bool false, .int .u16 0, .bool false, .int .i64 0, .slice none 0 0, .int .i64 tk, .string tb, .int .u8 kd, .slice none 0 0] 48 (0, 0))) ∧ Hid (w3.heap.size ≤ g) ∧ Hid (Below w3.heap.size w3 wc))
  case first =>
    have hk0 := HKP.out w3 (Below.refl _ _)
    obtain ⟨k0, k2, k3, k18, k19, k20, k21, k22⟩ := hk0
    have hba := ba_eq
    go_region_held3 (fun W => W.cell? ⟨q, 0, none⟩ = some (.int .u8 op) ∧ W.cell? ⟨q, 2, none⟩ = some (.string tx) ∧ W.cell? ⟨q, 3, none⟩ = some (.slice ia il ic) ∧ W.cell? ⟨q, 18, none⟩ = some (.int .i64 tk) ∧ W.cell? ⟨q, 19, none⟩ = some (.slice ta tl tc) ∧ W.cell? ⟨q, 20, none⟩ = some (.int .u8 kd) ∧ (convert 23 9 (.slice ia il ic)).run Try.prog W = .ok (.string id) W ∧ Below w3.heap.size w3 W)
      (first | (refine HKP.out _ (by repeat' (first | assumption | exact Below.refl _ _ | exact Below.size (by assumption) | exact Nat.le_refl _ | refine Below.drew ?_ | refine ba_below ?_ ?_ | refine Below.alloc ?_ ?_ _))))
      (first
        | (go_at_call 34; refine (valueOf_any (HR3.out.tok.old (by repeat' (first | assumption | exact Below.refl _ _ | exact Below.size (by assumption) | exact Nat.le_refl _ | refine Below.drew ?_ | refine ba_below ?_ ?_ | refine Below.alloc ?_ ?_ _)))).mono ?_; rintro e w5 ⟨rfl, HB45⟩; have hB5 : Below w3.heap.size w3 w5 := Below.trans (by repeat' (first | assumption | exact Below.refl _ _ | exact Below.size (by assumption) | exact Nat.le_refl _ | refine Below.drew ?_ | refine ba_below ?_ ?_ | refine Below.alloc ?_ ?_ _)) (HB45.out.mono (by first | (simp; done) | (simp [ba_size]; done) | (simp [ba_size]; omega))))
        | (obtain ⟨hsr1, hqC, hKC⟩ := store_cells (w9 := ba48 w5) (w := ba48 w5) (g := w5.heap.size) (cells := #[.int .u8 op, .slice none 0 0, .string tx, .string id, .int .u16 0, .slice none 0 0, .slice none 0 0, .bool false, .bool false, .int .i32 0, .bool false, .int .i64 0, .string ⟨#[]⟩, .bool false, .int .u16 0, .bool false, .int .i64 0, .slice none 0 0, .int .i64 tk, .string tb, .int .u8 kd, .slice none 0 0]) (old := z48) (T := 48) (by simp [Value.oneCell']) (ba_new w5) (Below.refl _ _) rfl; have hBC := (ba_below hB5 hB5.size).trans (hKC.below (B := w3.heap.size) (by rw [ba_size]; have := hB5.size; omega) (fun k hk e => by have := hB5.size; omega)); have hgC : w3.heap.size ≤ w5.heap.size := hB5.size; simp [storeCells, go_sem] at hsr1; refine upon_of hsr1 ?_)
        | (obtain ⟨hsr1, hqC, hKC⟩ := store_cells (w9 := w5) (w := w5) (g := w3.heap.size) (cells := #[.int .u8 op, .slice none 0 0, .string tx, .string id, .int .u16 0, .slice none 0 0, .slice none 0 0, .bool false, .bool false, .int .i32 0, .bool false, .int .i64 0, .string ⟨#[]⟩, .bool false, .int .u16 0, .bool false, .int .i64 0, .slice none 0 0, .int .i64 tk, .string tb, .int .u8 kd, .slice none 0 0]) (old := z48) (T := 48) (by simp [Value.oneCell']) ((HB45.out.block w3.heap.size (by simp [ba_size])).trans (ba_new _)) (Below.refl _ _) rfl; have hBC := hB5.trans (hKC.below (B := w3.heap.size) hB5.size (fun k hk e => by omega)); have hgC : w3.heap.size ≤ w3.heap.size := Nat.le_refl _; simp [storeCells, go_sem] at hsr1; refine upon_of hsr1 ?_))
    all_goals
      go_wp2_with fail
      go_meet
      case rel => exact ⟨_, rfl, hqC, hgC, hBC⟩
  case rest =>
    obtain ⟨g, rfl, HG, HGE, HB4⟩ := hcut
    have HVL : Hid (l ≤ 1048576) := by
      have h1 := HR.out.run.vals.1
      have h2 := HS.out.lens.2.1
      show _ ≤ _
      rw [← h1]; exact h2
    have hlp3 := block_lt HP3.out
    have HKV : Hid (∀ W, Below w3.heap.size w3 W → W.cell? ⟨q + 2, 0, none⟩ = some (.int .u16 co) ∧ W.cell? ⟨q + 2, 1, none⟩ = some (.slice a l c) ∧ W.cell? ⟨q + 2, 3, none⟩ = some (.bool sk) ∧ W.cell? ⟨q + 2, 4, none⟩ = some (.bool pg) ∧ W.cell? ⟨q + 2, 5, none⟩ = some (.int .i32 pn) ∧ W.cell? ⟨q + 2, 6, none⟩ = some (.bool rs) ∧ W.cell? ⟨q + 2, 7, none⟩ = some (.int .i64 sk1) ∧ W.cell? ⟨q + 2, 8, none⟩ = some (.slice sa sl sc) ∧ W.cell? ⟨q + 2, 9, none⟩ = some (.bool se) ∧ W.cell? ⟨q + 2, 10, none⟩ = some (.int .u16 sr) ∧ W.cell? ⟨q + 2, 11, none⟩ = some (.bool ti) ∧ W.cell? ⟨q + 2, 12, none⟩ = some (.int .i64 tm) ∧ Below w3.heap.size w3 W) := by
      intro W hW
      obtain ⟨r0, r1, r2, r3, r4, r5, r6, r7, r8, r9, r10, r11, r12⟩ := run_cells ((hW.block (q + 2) hlp3).trans HP3.out)
      exact ⟨r0, r1, r3, r4, r5, r6, r7, r8, r9, r10, r11, r12, hW⟩
    go_upto_region 5 with fail
    go_cut [] (fun wc => ∃ (a6 : Option Addr) (c6 : Nat), Hid (wc.heap[g]? = some (.cells #[.int .u8 op, .slice none 0 0, .string tx, .string id, .int .u16 co, .slice a6 vs.length c6, .slice na3 ns.length nc3, .bool sk, .bool pg, .int .i32 pn, .bool rs, .int .i64 sk1, .string sb, .bool se, .int .u16 sr, .bool ti, .int .i64 tm, .slice none 0 0, .int .i64 tk, .string tb, .int .u8 kd, .slice none 0 0] 48 (0, 0))) ∧ Hid (Below w3.heap.size w3 wc) ∧ Hid (OwnG 43 2 GVR wc (fun z => w3.heap.size ≤ z ∧ z ≠ g) (.slice a6 vs.length c6) vs))
    case first =>
      obtain ⟨r0, r1, r3, r4, r5, r6, r7, r8, r9, r10, r11, r12, r13⟩ := HKV.out wc HB4.out
      go_region_held3 (fun W => W.cell? ⟨q + 2, 0, none⟩ = some (.int .u16 co) ∧ W.cell? ⟨q + 2, 1, none⟩ = some (.slice a l c) ∧ W.cell? ⟨q + 2, 3, none⟩ = some (.bool sk) ∧ W.cell? ⟨q + 2, 4, none⟩ = some (.bool pg) ∧ W.cell? ⟨q + 2, 5, none⟩ = some (.int .i32 pn) ∧ W.cell? ⟨q + 2, 6, none⟩ = some (.bool rs) ∧ W.cell? ⟨q + 2, 7, none⟩ = some (.int .i64 sk1) ∧ W.cell? ⟨q + 2, 8, none⟩ = some (.slice sa sl sc) ∧ W.cell? ⟨q + 2, 9, none⟩ = some (.bool se) ∧ W.cell? ⟨q + 2, 10, none⟩ = some (.int .u16 sr) ∧ W.cell? ⟨q + 2, 11, none⟩ = some (.bool ti) ∧ W.cell? ⟨q + 2, 12, none⟩ = some (.int .i64 tm) ∧ Below w3.heap.size w3 W)
        (first | (refine HKV.out _ (by repeat' (first | assumption | exact HB4.out | exact Below.refl _ _ | exact Below.size (by assumption) | exact Nat.le_refl _ | refine Below.drew ?_ | refine Below.alloc ?_ ?_ _))))
        (first
          | (go_at_call 34; refine (valueOf_any (HR3.out.run.state.old hB6)).mono ?_; rintro e w7 ⟨rfl, HB7⟩; have hB7 := hB6.trans (HB7.out.mono hB6.size); have hg7 := (HB7.out.block g (block_lt hg6)).trans hg6; have HO7 := HO6.out.old stays_gvr HB7.out)
          | (go_at_call 35; refine (valuesOf_any (View.old stays_v HR3.out.run.vals (by repeat' (first | assumption | exact HB4.out | exact Below.refl _ _ | exact Below.size (by assumption) | exact Nat.le_refl _ | refine Below.drew ?_ | refine Below.alloc ?_ ?_ _))) HVL.out).mono ?_; rintro e w6 ⟨v6, rfl, HO6, HB6⟩; obtain ⟨a6, c6, rfl⟩ := HO6.out.shape; have hB6 : Below w3.heap.size w3 w6 := Below.trans (by repeat' (first | assumption | exact HB4.out | exact Below.refl _ _ | exact Below.size (by assumption) | exact Nat.le_refl _ | refine Below.drew ?_ | refine Below.alloc ?_ ?_ _)) (HB6.out.mono (by exact HB4.out.size)); have hg6 := (HB6.out.block g (block_lt HG.out)).trans HG.out)
          | (obtain ⟨hsr1, hqC, hKC⟩ := store_part_cells (w9 := w7) (w := w7) (g := g) (off := 4) (cells := #[.int .u16 co, .slice a6 vs.length c6, .slice na3 ns.length nc3, .bool sk, .bool pg, .int .i32 pn, .bool rs, .int .i64 sk1, .string sb, .bool se, .int .u16 sr, .bool ti, .int .i64 tm]) (by simp [Value.oneCell']) hg7 (Below.refl _ _) (by simp) #[.int .u8 op, .slice none 0 0, .string tx, .string id, .int .u16 co, .slice a6 vs.length c6, .slice na3 ns.length nc3, .bool sk, .bool pg, .int .i32 pn, .bool rs, .int .i64 sk1, .string sb, .bool se, .int .u16 sr, .bool ti, .int .i64 tm, .slice none 0 0, .int .i64 tk, .string tb, .int .u8 kd, .slice none 0 0] rfl; have hBC := hB7.trans (hKC.below (B := w3.heap.size) hB7.size (fun k hk e => by have := HGE.out; omega)); simp [storeCells, go_sem] at hsr1; refine upon_of hsr1 ?_))
      all_goals
        go_wp2_with fail
        go_meet
        case rel => exact ⟨a6, c6, hqC, hBC, HO7.kept stays_gvr (fun k hk hf => hKC.block k hk (fun e => by have h1 : wc.heap.size ≤ k := hf; have h2 := block_lt HG.out; omega)) hKC.size (fun k hk hf => ⟨Nat.le_trans HB4.out.size hf, fun e => by have h1 : wc.heap.size ≤ k := hf; have h2 := block_lt HG.out; omega⟩)⟩
    case rest =>
      obtain ⟨a6, c6, HG5, HB5, HV5⟩ := hcut
      obtain ⟨w5, hw5⟩ : ∃ x, x = wc := ⟨_, rfl⟩
      subst hw5
      have HKQ : Hid (∀ W, Below w3.heap.size w3 W → W.cell? ⟨q, 1, none⟩ = some (.slice oa ol oc) ∧ W.cell? ⟨q, 17, none⟩ = some (.slice ea el ec) ∧ W.cell? ⟨q, 21, none⟩ = some (.slice aa al ac)) := by
        intro W hW
        obtain ⟨p0, p1, p2, p3, p4, p5, p6, p7, p8, p9, p10, p11, p12, p13, p14, p15, p16, p17, p18, p19, p20, p21⟩ := req_cells ((hW.block q (block_lt HQ3.out)).trans HQ3.out)
        exact ⟨p1, p17, p21⟩
      have HLO : Hid (os.length = ol ∧ ol ≤ 1048576) := by
        have h1 : os.length = ol := HR3.out.opts.1
        exact ⟨h1, by rw [← h1]; exact HS.out.lens.1⟩
      have HLE : Hid (es.length = el ∧ el ≤ 1048576) := by
        have h1 : es.length = el := HR3.out.evs.1
        exact ⟨h1, by rw [← h1]; exact HS.out.lens.2.2.2.1⟩
      have HLA : Hid (ss.length = al ∧ al ≤ 1048576) := by
        have h1 : ss.length = al := HR3.out.all.1
        exact ⟨h1, by rw [← h1]; exact HS.out.lens.2.2.2.2⟩
      clear HP3 HKV hlp3 HKP
      obtain ⟨n1, hn1⟩ : ∃ n, n = w5.heap.size := ⟨_, rfl⟩
      have Hn1 : Hid (w5.heap.size = n1) := hn1.symm
      have HL1 : Hid (g < n1 ∧ w3.heap.size ≤ n1) := by
        have h1 := block_lt HG5.out
        have h2 := HB5.out.size
        exact ⟨by omega, by omega⟩
      clear hn1
      go_wp2_with fail
      go_loopw [6] (fun i wr => ∃ (k : Nat) (v : Value), k ≤ ol ∧ i = .int .i64 k ∧ Hid (wr.heap[g]? = some (.cells #[.int .u8 op, v, .string tx, .string id, .int .u16 co, .slice a6 vs.length c6, .slice na3 ns.length nc3, .bool sk, .bool pg, .int .i32 pn, .bool rs, .int .i64 sk1, .string sb, .bool se, .int .u16 sr, .bool ti, .int .i64 tm, .slice none 0 0, .int .i64 tk, .string tb, .int .u8 kd, .slice none 0 0] 48 (0, 0))) ∧ Hid (OwnG 89 5 GI wr (fun z => n1 ≤ z) v ((os.take k).map pairIt)) ∧ Hid (Below w3.heap.size w3 wr) ∧ Hid (Kept (fun z => z = g) w5 wr)) (fun i _ => ol - (intOf i).toNat)
      case atStart => exact ⟨0, _, by omega, rfl, HG5, ownG_nil _ _ _ _ _, HB5, Kept.refl _ _⟩
      case round =>
        obtain ⟨k, v, hk, rfl, HGk, HOk, HBk, HKk⟩ := hrel
        have hcq := (HKQ.out wr HBk.out).1
        by_cases hlt : k < ol
        · obtain ⟨b, off, haa, hrow⟩ := View.vp_row (show View 2 VP w3 oa ol oc os from HR3.out.opts) hlt
          obtain ⟨x, hx⟩ : ∃ x, x = os.getD k default := ⟨_, rfl⟩
          rw [← hx] at hrow
          have HTK : Hid ((os.take (k + 1)).map pairIt = (os.take k).map pairIt ++ [pairIt x]) := by show _ = _; rw [map_take_succ pairIt os k (by have := HLO.out.1; omega), hx]
          obtain ⟨x1, x2⟩ := x
          clear hx
          subst haa
          simp only at hrow
          have HKW : Hid (∀ W, Below w3.heap.size w3 W → W.cell? ⟨q, 1, none⟩ = some (.slice (some ⟨b, off, none⟩) ol oc) ∧ W.cell? ⟨b, off + k * 2, none⟩ = some (.string x1) ∧ W.cell? ⟨b, off + k * 2 + 1, none⟩ = some (.string x2) ∧ Below w3.heap.size w3 W) := fun W hW => ⟨(HKQ.out W hW).1, (hrow W hW).1, (hrow W hW).2, hW⟩
          obtain ⟨hw1, hw2, hw3, hw4⟩ := HKW.out wr HBk.out
          have hlg := block_lt HGk.out
          have hcg := blk_cell HGk.out (j := 1) rfl
          have hvk : ∀ z, v.ownBlock = some z → n1 ≤ z := fun z hz => (HOk.out.lt z hz).1
          have hkx : ((os.take k).map pairIt).length = k := by simp; have := HLO.out.1; omega
          have hsx := HKk.out.size
          have hn1 := HL1.out.1
          have hn2 := HL1.out.2
          have hn3 := Hn1.out
          have hl1 := HLO.out.2
          have i0 : (0 : Int) ≤ (k : Int) := Int.natCast_nonneg _
          have i1 : (k : Int) < (ol : Int) := by omega
          have hB0 := HBk.out
          go_upto_region 9 with fail
          refine wp_region_noPanic ?_
          refine wp_region_held_drew (S := fun W => W.cell? ⟨q, 1, none⟩ = some (.slice (some ⟨b, off, none⟩) ol oc) ∧ W.cell? ⟨b, off + k * 2, none⟩ = some (.string x1) ∧ W.cell? ⟨b, off + k * 2 + 1, none⟩ = some (.string x2) ∧ Below w3.heap.size w3 W) (by kernel_rfl) ?hS200 (fun hHeld => ?hR200)
          case hS200 => exact HKW.out _ (by repeat' (first | assumption | exact Below.refl _ _ | exact Below.size (by assumption) | exact Nat.le_refl _ | refine Below.drew ?_ | refine Below.setCell ?_ (by first | exact HGE.out | omega) _ | refine Below.alloc ?_ ?_ _))
          case hR200 =>
            refine wpAnyH_take (i := 0) (oi := _) (v := ?v1) rfl (by kernel_rfl) (by kernel_rfl) (by kernel_rfl) (fun _ _ _ h => h) (Or.inl ⟨by rfl, ?h1⟩) (by assumption) ?r1
            case h1 =>
              intro w hSw
              try dsimp only at hSw
              go_simp
              all_goals with_reducible rfl
            (try simp only [Act.put, List.getElem_toArray, List.getElem_cons_zero, List.getElem_cons_succ, List.setIfInBounds_toArray, List.set_cons_zero, List.set_cons_succ])
            refine wpAnyH_take (i := 2) (oi := _) (v := ?v2) rfl (by kernel_rfl) (by kernel_rfl) (by kernel_rfl) (fun _ _ _ h => h) (Or.inl ⟨by rfl, ?h2⟩) (by assumption) ?r2
            case h2 =>
              intro w hSw
              try dsimp only at hSw
              go_simp
              all_goals with_reducible rfl
            (try simp only [Act.put, List.getElem_toArray, List.getElem_cons_zero, List.getElem_cons_succ, List.setIfInBounds_toArray, List.set_cons_zero, List.set_cons_succ])
            refine wpAnyH_take (i := 3) (oi := _) (v := ?v3) rfl (by kernel_rfl) (by kernel_rfl) (by kernel_rfl) (fun _ _ _ h => h) (Or.inl ⟨by rfl, ?h3⟩) (by assumption) ?r3
            case h3 =>
              intro w hSw
              try dsimp only at hSw
              go_simp
              all_goals with_reducible rfl
            (try simp only [Act.put, List.getElem_toArray, List.getElem_cons_zero, List.getElem_cons_succ, List.setIfInBounds_toArray, List.set_cons_zero, List.set_cons_succ])
            refine wpAnyH_take (i := 4) (oi := _) (v := ?v4) rfl (by kernel_rfl) (by kernel_rfl) (by kernel_rfl) (fun _ _ _ h => h) (Or.inl ⟨by rfl, ?h4⟩) (by assumption) ?r4
            case h4 =>
              intro w hSw
              try dsimp only at hSw
              go_simp
              all_goals with_reducible rfl
            (try simp only [Act.put, List.getElem_toArray, List.getElem_cons_zero, List.getElem_cons_succ, List.setIfInBounds_toArray, List.set_cons_zero, List.set_cons_succ])
            refine wpAnyH_take (i := 5) (oi := _) (v := ?v5) rfl (by kernel_rfl) (by kernel_rfl) (by kernel_rfl) (fun _ _ _ h => h) (Or.inl ⟨by rfl, ?h5⟩) (by assumption) ?r5
            case h5 =>
              intro w hSw
              try dsimp only at hSw
              go_simp
              all_goals with_reducible rfl
            (try simp only [Act.put, List.getElem_toArray, List.getElem_cons_zero, List.getElem_cons_succ, List.setIfInBounds_toArray, List.set_cons_zero, List.set_cons_succ])
            refine wpAnyH_take (i := 6) (oi := _) (v := ?v6) rfl (by kernel_rfl) (by kernel_rfl) (by kernel_rfl) (fun _ _ _ h => h) (Or.inl ⟨by rfl, ?h6⟩) (by assumption) ?r6
            case h6 =>
              intro w hSw
              try dsimp only at hSw
              go_simp
              all_goals with_reducible rfl
            (try simp only [Act.put, List.getElem_toArray, List.getElem_cons_zero, List.getElem_cons_succ, List.setIfInBounds_toArray, List.set_cons_zero, List.set_cons_succ])
            refine wpAnyH_take (i := 7) (oi := _) (v := ?v7) rfl (by kernel_rfl) (by kernel_rfl) (by kernel_rfl) (fun _ _ _ h => h) (Or.inl ⟨by rfl, ?h7⟩) (by assumption) ?r7
            case h7 =>
              intro w hSw
              try dsimp only at hSw
              go_simp
              all_goals with_reducible rfl
            (try simp only [Act.put, List.getElem_toArray, List.getElem_cons_zero, List.getElem_cons_succ, List.setIfInBounds_toArray, List.set_cons_zero, List.set_cons_succ])
            refine wpAnyH_take (i := 8) (oi := _) (v := ?v8) rfl (by kernel_rfl) (by kernel_rfl) (by kernel_rfl) (fun _ _ _ h => h) (Or.inl ⟨by rfl, ?h8⟩) (by assumption) ?r8
            case h8 =>
              intro w hSw
              try dsimp only at hSw
              go_simp
              all_goals with_reducible rfl
            (try simp only [Act.put, List.getElem_toArray, List.getElem_cons_zero, List.getElem_cons_succ, List.setIfInBounds_toArray, List.set_cons_zero, List.set_cons_succ])
            refine wpAnyH_take (i := 9) (oi := _) (v := ?v9) rfl (by kernel_rfl) (by kernel_rfl) (by kernel_rfl) (fun _ _ _ h => h) (Or.inl ⟨by rfl, ?h9⟩) (by assumption) ?r9
            case h9 =>
              intro w hSw
              try dsimp only at hSw
              go_simp
              all_goals with_reducible rfl
            (try simp only [Act.put, List.getElem_toArray, List.getElem_cons_zero, List.getElem_cons_succ, List.setIfInBounds_toArray, List.set_cons_zero, List.set_cons_succ])
            refine wpAnyH_take (i := 10) (oi := _) (v := ?v10) rfl (by kernel_rfl) (by kernel_rfl) (by kernel_rfl) (fun _ _ _ h => h) (Or.inl ⟨by rfl, ?h10⟩) (by assumption) ?r10
            case h10 =>
              intro w hSw
              try dsimp only at hSw
              go_simp
              all_goals with_reducible rfl
            (try simp only [Act.put, List.getElem_toArray, List.getElem_cons_zero, List.getElem_cons_succ, List.setIfInBounds_toArray, List.set_cons_zero, List.set_cons_succ])
            refine wpAnyH_take (i := 11) (oi := _) (v := ?v11) rfl (by kernel_rfl) (by kernel_rfl) (by kernel_rfl) (fun _ _ _ h => h) (Or.inl ⟨by rfl, ?h11⟩) (by assumption) ?r11
            case h11 =>
              intro w hSw
              try dsimp only at hSw
              go_simp
              all_goals with_reducible rfl
            (try simp only [Act.put, List.getElem_toArray, List.getElem_cons_zero, List.getElem_cons_succ, List.setIfInBounds_toArray, List.set_cons_zero, List.set_cons_succ])
            refine wpAnyH_take (i := 12) (oi := _) (v := ?v12) rfl (by kernel_rfl) (by kernel_rfl) (by kernel_rfl) (fun _ _ _ h => h) (Or.inl ⟨by rfl, ?h12⟩) (by assumption) ?r12
            case h12 =>
              intro w hSw
              try dsimp only at hSw
              go_simp
              all_goals with_reducible rfl
            (try simp only [Act.put, List.getElem_toArray, List.getElem_cons_zero, List.getElem_cons_succ, List.setIfInBounds_toArray, List.set_cons_zero, List.set_cons_succ])
            refine wpAnyH_take (i := 13) (oi := _) (v := ?v13) rfl (by kernel_rfl) (by kernel_rfl) (by kernel_rfl) (fun _ _ _ h => h) (Or.inl ⟨by rfl, ?h13⟩) (by assumption) ?r13
            case h13 =>
              intro w hSw
              try dsimp only at hSw
              go_simp
              all_goals with_reducible rfl
            (try simp only [Act.put, List.getElem_toArray, List.getElem_cons_zero, List.getElem_cons_succ, List.setIfInBounds_toArray, List.set_cons_zero, List.set_cons_succ])
            refine wpAnyH_take (i := 14) (oi := _) (v := ?v14) rfl (by kernel_rfl) (by kernel_rfl) (by kernel_rfl) (fun _ _ _ h => h) (Or.inl ⟨by rfl, ?h14⟩) (by assumption) ?r14
            case h14 =>
              intro w hSw
              try dsimp only at hSw
              go_simp
              all_goals with_reducible rfl
            (try simp only [Act.put, List.getElem_toArray, List.getElem_cons_zero, List.getElem_cons_succ, List.setIfInBounds_toArray, List.set_cons_zero, List.set_cons_succ])
            refine wpAnyH_ready (rs := [1, 15]) (by kernel_rfl) (by simp) ?_
            refine AllReadyH.cons (o := _) rfl (fun K hK => ?_) (AllReadyH.cons (o := _) rfl (fun K hK => ?_) AllReadyH.nil)
            · go_simp
              refine hK.out _ _ (HKW.out _ (by repeat' (first | assumption | exact Below.refl _ _ | exact Below.size (by assumption) | exact Nat.le_refl _ | refine Below.drew ?_ | refine Below.setCell ?_ (by first | exact HGE.out | omega) _ | refine Below.alloc ?_ ?_ _))) (fun hHeld => ?_)
              clear hK K
              (try simp only [Act.put, List.getElem_toArray, List.getElem_cons_zero, List.getElem_cons_succ, List.setIfInBounds_toArray, List.set_cons_zero, List.set_cons_succ])
              refine wpAnyH_ready (rs := [15]) (by kernel_rfl) (by simp) ?_
              refine AllReadyH.cons (o := _) rfl (fun K hK => ?_) AllReadyH.nil
              go_simp
              refine hK.out _ _ (HKW.out _ (by repeat' (first | assumption | exact Below.refl _ _ | exact Below.size (by assumption) | exact Nat.le_refl _ | refine Below.drew ?_ | refine Below.setCell ?_ (by first | exact HGE.out | omega) _ | refine Below.alloc ?_ ?_ _))) (fun hHeld => ?_)
              clear hK K
              (try simp only [Act.put, List.getElem_toArray, List.getElem_cons_zero, List.getElem_cons_succ, List.setIfInBounds_toArray, List.set_cons_zero, List.set_cons_succ])
              refine wpAnyH_ready (rs := [16]) (by kernel_rfl) (by simp) ?_
              refine AllReadyH.cons (o := _) rfl (fun K hK => ?_) AllReadyH.nil
              (refine step_appendG (by rfl) _ _ _ (by rfl) stays_gi elem_i (F := fun z => n1 ≤ z) (v := v) (xs := (os.take k).map pairIt) (by rfl) (HOk.out.old stays_gi (by repeat' (first | exact Below.refl _ _ | exact below_one _ _ | refine Below.drew ?_))) (news := [.string x1, .string x2, .slice none 0 0, .int .i64 0, .string ⟨#[]⟩]) (by rfl) (heap_alloc_new wr _) (by rfl) (by simp [Value.oneCell']) (pairIt (x1, x2)) (⟨rfl, rfl, ⟨rfl, rfl⟩, rfl, rfl⟩) (by show n1 ≤ _; simp; omega) (by rw [hkx]; unfold maxLen; omega) (by rw [hkx]; omega) ?_; intro v4 w9 ho4 hK4 hv4; have hB9 : Below w3.heap.size w3 w9 := Below.trans (by repeat' (first | assumption | exact Below.refl _ _ | exact Below.size (by assumption) | exact Nat.le_refl _ | refine Below.drew ?_ | refine Below.setCell ?_ (by first | exact HGE.out | omega) _ | refine Below.alloc ?_ ?_ _)) (hK4.below (by have := hB0.size; simp; omega) (fun z hz e => by have := hvk z e; omega)); have HG9 : Hid (w9.heap[g]? = some (.cells #[.int .u8 op, v, .string tx, .string id, .int .u16 co, .slice a6 vs.length c6, .slice na3 ns.length nc3, .bool sk, .bool pg, .int .i32 pn, .bool rs, .int .i64 sk1, .string sb, .bool se, .int .u16 sr, .bool ti, .int .i64 tm, .slice none 0 0, .int .i64 tk, .string tb, .int .u8 kd, .slice none 0 0] 48 (0, 0))) := (hK4.block g (by simp; omega) (fun e => absurd (hvk g e) (by omega))).trans ((Below.block (by first | exact Below.drew (below_one wr _) | exact below_one wr _) g hlg).trans HGk.out); have hc9 := blk_cell HG9.out (j := 1) rfl; have hf9 := blk_free HG9.out 1; have hl9 := block_lt HG9.out; have HK9 : Hid (Kept (fun z => z = g) w5 w9) := (HKk.out.new (by repeat' (first | exact below_one _ _ | refine Below.drew ?_))).trans hK4 (fun i hi e => absurd (hvk i e) (by omega)); obtain ⟨xa4, n4, xc4, rfl⟩ : ∃ xa n xc, v4 = .slice xa n xc := (by obtain ⟨xa, xc, e⟩ := ho4.shape; exact ⟨xa, _, xc, e⟩); have HO9 : Hid (OwnG 89 5 GI w9 (fun z => n1 ≤ z) (.slice xa4 n4 xc4) ((os.take (k + 1)).map pairIt)) := (by rw [HTK.out]; exact ho4); clear ho4)
              refine hK.out _ _ (HKW.out _ (by repeat' (first | assumption | exact Below.refl _ _ | exact Below.size (by assumption) | exact Nat.le_refl _ | refine Below.drew ?_ | refine Below.setCell ?_ (by first | exact HGE.out | omega) _ | refine Below.alloc ?_ ?_ _))) (fun hHeld => ?_)
              clear hK K
              (try simp only [Act.put, List.getElem_toArray, List.getElem_cons_zero, List.getElem_cons_succ, List.setIfInBounds_toArray, List.set_cons_zero, List.set_cons_succ])
              refine wpAnyH_ready (rs := [17]) (by kernel_rfl) (by simp) ?_
              refine AllReadyH.cons (o := _) rfl (fun K hK => ?_) AllReadyH.nil
              go_simp
              refine hK.out _ _ (HKW.out _ (by repeat' (first | assumption | exact Below.refl _ _ | exact Below.size (by assumption) | exact Nat.le_refl _ | refine Below.drew ?_ | refine Below.setCell ?_ (by first | exact HGE.out | omega) _ | refine Below.alloc ?_ ?_ _))) (fun hHeld => ?_)
              clear hK K
              (try simp only [Act.put, List.getElem_toArray, List.getElem_cons_zero, List.getElem_cons_succ, List.setIfInBounds_toArray, List.set_cons_zero, List.set_cons_succ])
              refine wpAnyH_ready (rs := [18]) (by kernel_rfl) (by simp) ?_
              refine AllReadyH.cons (o := _) rfl (fun K hK => ?_) AllReadyH.nil
              go_simp
              refine hK.out _ _ (HKW.out _ (by repeat' (first | assumption | exact Below.refl _ _ | exact Below.size (by assumption) | exact Nat.le_refl _ | refine Below.drew ?_ | refine Below.setCell ?_ (by first | exact HGE.out | omega) _ | refine Below.alloc ?_ ?_ _))) (fun hHeld => ?_)
              clear hK K
              (try simp only [Act.put, List.getElem_toArray, List.getElem_cons_zero, List.getElem_cons_succ, List.setIfInBounds_toArray, List.set_cons_zero, List.set_cons_succ])
              refine wpAnyH_done (by kernel_rfl) ?_ _
              refine NoPanic.normal ?_
              have HG6 : Hid ((w9.setCell ⟨g, 1, none⟩ (.slice xa4 n4 xc4)).heap[g]? = some (.cells #[.int .u8 op, .slice xa4 n4 xc4, .string tx, .string id, .int .u16 co, .slice a6 vs.length c6, .slice na3 ns.length nc3, .bool sk, .bool pg, .int .i32 pn, .bool rs, .int .i64 sk1, .string sb, .bool se, .int .u16 sr, .bool ti, .int .i64 tm, .slice none 0 0, .int .i64 tk, .string tb, .int .u8 kd, .slice none 0 0] 48 (0, 0))) := blk_set HG9.out 1 _
              have HO6 : Hid (OwnG 89 5 GI (w9.setCell ⟨g, 1, none⟩ (.slice xa4 n4 xc4)) (fun z => n1 ≤ z) (.slice xa4 n4 xc4) ((os.take (k + 1)).map pairIt)) := HO9.out.kept stays_gi (fun z hz hf => (one_kept w9 g 1 _).block z hz (fun e => by subst e; exact absurd (Nat.lt_of_lt_of_le hn1 hf) (Nat.lt_irrefl _))) (one_kept w9 g 1 _).size (fun z hz hf => hf)
              have HB6 : Hid (Below w3.heap.size w3 (w9.setCell ⟨g, 1, none⟩ (.slice xa4 n4 xc4))) := hB9.setCell HGE.out _
              have HK6 : Hid (Kept (fun z => z = g) w5 (w9.setCell ⟨g, 1, none⟩ (.slice xa4 n4 xc4))) := HK9.out.trans (one_kept w9 g 1 _) (fun _ _ e => e)
              clear hc9 hf9 hK4 hv4 HG9 HO9 HK9
              go_wp2_with fail
              go_roundw
              case rel => exact ⟨k + 1, _, by omega, by go_num, HG6, HO6, HB6, HK6⟩
              case measure => simp [intOf]; omega
            · go_simp
              refine hK.out _ _ (HKW.out _ (by repeat' (first | assumption | exact Below.refl _ _ | exact Below.size (by assumption) | exact Nat.le_refl _ | refine Below.drew ?_ | refine Below.setCell ?_ (by first | exact HGE.out | omega) _ | refine Below.alloc ?_ ?_ _))) (fun hHeld => ?_)
              clear hK K
              (try simp only [Act.put, List.getElem_toArray, List.getElem_cons_zero, List.getElem_cons_succ, List.setIfInBounds_toArray, List.set_cons_zero, List.set_cons_succ])
              refine wpAnyH_ready (rs := [1]) (by kernel_rfl) (by simp) ?_
              refine AllReadyH.cons (o := _) rfl (fun K hK => ?_) AllReadyH.nil
              go_simp
              refine hK.out _ _ (HKW.out _ (by repeat' (first | assumption | exact Below.refl _ _ | exact Below.size (by assumption) | exact Nat.le_refl _ | refine Below.drew ?_ | refine Below.setCell ?_ (by first | exact HGE.out | omega) _ | refine Below.alloc ?_ ?_ _))) (fun hHeld => ?_)
              clear hK K
              (try simp only [Act.put, List.getElem_toArray, List.getElem_cons_zero, List.getElem_cons_succ, List.setIfInBounds_toArray, List.set_cons_zero, List.set_cons_succ])
              refine wpAnyH_ready (rs := [16]) (by kernel_rfl) (by simp) ?_
              refine AllReadyH.cons (o := _) rfl (fun K hK => ?_) AllReadyH.nil
              (refine step_appendG (by rfl) _ _ _ (by rfl) stays_gi elem_i (F := fun z => n1 ≤ z) (v := v) (xs := (os.take k).map pairIt) (by rfl) (HOk.out.old stays_gi (by repeat' (first | exact Below.refl _ _ | exact below_one _ _ | refine Below.drew ?_))) (news := [.string x1, .string x2, .slice none 0 0, .int .i64 0, .string ⟨#[]⟩]) (by rfl) (heap_alloc_new wr _) (by rfl) (by simp [Value.oneCell']) (pairIt (x1, x2)) (⟨rfl, rfl, ⟨rfl, rfl⟩, rfl, rfl⟩) (by show n1 ≤ _; simp; omega) (by rw [hkx]; unfold maxLen; omega) (by rw [hkx]; omega) ?_; intro v4 w9 ho4 hK4 hv4; have hB9 : Below w3.heap.size w3 w9 := Below.trans (by repeat' (first | assumption | exact Below.refl _ _ | exact Below.size (by assumption) | exact Nat.le_refl _ | refine Below.drew ?_ | refine Below.setCell ?_ (by first | exact HGE.out | omega) _ | refine Below.alloc ?_ ?_ _)) (hK4.below (by have := hB0.size; simp; omega) (fun z hz e => by have := hvk z e; omega)); have HG9 : Hid (w9.heap[g]? = some (.cells #[.int .u8 op, v, .string tx, .string id, .int .u16 co, .slice a6 vs.length c6, .slice na3 ns.length nc3, .bool sk, .bool pg, .int .i32 pn, .bool rs, .int .i64 sk1, .string sb, .bool se, .int .u16 sr, .bool ti, .int .i64 tm, .slice none 0 0, .int .i64 tk, .string tb, .int .u8 kd, .slice none 0 0] 48 (0, 0))) := (hK4.block g (by simp; omega) (fun e => absurd (hvk g e) (by omega))).trans ((Below.block (by first | exact Below.drew (below_one wr _) | exact below_one wr _) g hlg).trans HGk.out); have hc9 := blk_cell HG9.out (j := 1) rfl; have hf9 := blk_free HG9.out 1; have hl9 := block_lt HG9.out; have HK9 : Hid (Kept (fun z => z = g) w5 w9) := (HKk.out.new (by repeat' (first | exact below_one _ _ | refine Below.drew ?_))).trans hK4 (fun i hi e => absurd (hvk i e) (by omega)); obtain ⟨xa4, n4, xc4, rfl⟩ : ∃ xa n xc, v4 = .slice xa n xc := (by obtain ⟨xa, xc, e⟩ := ho4.shape; exact ⟨xa, _, xc, e⟩); have HO9 : Hid (OwnG 89 5 GI w9 (fun z => n1 ≤ z) (.slice xa4 n4 xc4) ((os.take (k + 1)).map pairIt)) := (by rw [HTK.out]; exact ho4); clear ho4)
              refine hK.out _ _ (HKW.out _ (by repeat' (first | assumption | exact Below.refl _ _ | exact Below.size (by assumption) | exact Nat.le_refl _ | refine Below.drew ?_ | refine Below.setCell ?_ (by first | exact HGE.out | omega) _ | refine Below.alloc ?_ ?_ _))) (fun hHeld => ?_)
              clear hK K
              (try simp only [Act.put, List.getElem_toArray, List.getElem_cons_zero, List.getElem_cons_succ, List.setIfInBounds_toArray, List.set_cons_zero, List.set_cons_succ])
              refine wpAnyH_ready (rs := [17]) (by kernel_rfl) (by simp) ?_
              refine AllReadyH.cons (o := _) rfl (fun K hK => ?_) AllReadyH.nil
              go_simp
              refine hK.out _ _ (HKW.out _ (by repeat' (first | assumption | exact Below.refl _ _ | exact Below.size (by assumption) | exact Nat.le_refl _ | refine Below.drew ?_ | refine Below.setCell ?_ (by first | exact HGE.out | omega) _ | refine Below.alloc ?_ ?_ _))) (fun hHeld => ?_)
              clear hK K
              (try simp only [Act.put, List.getElem_toArray, List.getElem_cons_zero, List.getElem_cons_succ, List.setIfInBounds_toArray, List.set_cons_zero, List.set_cons_succ])
              refine wpAnyH_ready (rs := [18]) (by kernel_rfl) (by simp) ?_
              refine AllReadyH.cons (o := _) rfl (fun K hK => ?_) AllReadyH.nil
              go_simp
              refine hK.out _ _ (HKW.out _ (by repeat' (first | assumption | exact Below.refl _ _ | exact Below.size (by assumption) | exact Nat.le_refl _ | refine Below.drew ?_ | refine Below.setCell ?_ (by first | exact HGE.out | omega) _ | refine Below.alloc ?_ ?_ _))) (fun hHeld => ?_)
              clear hK K
              (try simp only [Act.put, List.getElem_toArray, List.getElem_cons_zero, List.getElem_cons_succ, List.setIfInBounds_toArray, List.set_cons_zero, List.set_cons_succ])
              refine wpAnyH_done (by kernel_rfl) ?_ _
              refine NoPanic.normal ?_
              have HG6 : Hid ((w9.setCell ⟨g, 1, none⟩ (.slice xa4 n4 xc4)).heap[g]? = some (.cells #[.int .u8 op, .slice xa4 n4 xc4, .string tx, .string id, .int .u16 co, .slice a6 vs.length c6, .slice na3 ns.length nc3, .bool sk, .bool pg, .int .i32 pn, .bool rs, .int .i64 sk1, .string sb, .bool se, .int .u16 sr, .bool ti, .int .i64 tm, .slice none 0 0, .int .i64 tk, .string tb, .int .u8 kd, .slice none 0 0] 48 (0, 0))) := blk_set HG9.out 1 _
              have HO6 : Hid (OwnG 89 5 GI (w9.setCell ⟨g, 1, none⟩ (.slice xa4 n4 xc4)) (fun z => n1 ≤ z) (.slice xa4 n4 xc4) ((os.take (k + 1)).map pairIt)) := HO9.out.kept stays_gi (fun z hz hf => (one_kept w9 g 1 _).block z hz (fun e => by subst e; exact absurd (Nat.lt_of_lt_of_le hn1 hf) (Nat.lt_irrefl _))) (one_kept w9 g 1 _).size (fun z hz hf => hf)
              have HB6 : Hid (Below w3.heap.size w3 (w9.setCell ⟨g, 1, none⟩ (.slice xa4 n4 xc4))) := hB9.setCell HGE.out _
              have HK6 : Hid (Kept (fun z => z = g) w5 (w9.setCell ⟨g, 1, none⟩ (.slice xa4 n4 xc4))) := HK9.out.trans (one_kept w9 g 1 _) (fun _ _ e => e)
              clear hc9 hf9 hK4 hv4 HG9 HO9 HK9
              go_wp2_with fail
              go_roundw
              case rel => exact ⟨k + 1, _, by omega, by go_num, HG6, HO6, HB6, HK6⟩
              case measure => simp [intOf]; omega
        · obtain ⟨w6, hw1⟩ : ∃ x, x = wr := ⟨_, rfl⟩
          subst hw1
          have HOe1 : Hid (OwnG 89 5 GI w6 (fun z => n1 ≤ z) v (os.map pairIt)) := by
            have h := HOk.out
            rw [List.take_of_length_le (by have := HLO.out.1; omega)] at h
            exact h
          clear HOk
          obtain ⟨oa9, ol9, oc9, rfl⟩ : ∃ xa n xc, v = .slice xa n xc := by obtain ⟨xa, xc, e⟩ := HOe1.out.shape; exact ⟨xa, _, xc, e⟩
          have HGe1 : Hid (w6.heap[g]? = some (.cells #[.int .u8 op, .slice oa9 ol9 oc9, .string tx, .string id, .int .u16 co, .slice a6 vs.length c6, .slice na3 ns.length nc3, .bool sk, .bool pg, .int .i32 pn, .bool rs, .int .i64 sk1, .string sb, .bool se, .int .u16 sr, .bool ti, .int .i64 tm, .slice none 0 0, .int .i64 tk, .string tb, .int .u8 kd, .slice none 0 0] 48 (0, 0))) := HGk
          have HBe1 : Hid (Below w3.heap.size w3 w6) := HBk
          have HKe1 : Hid (Kept (fun z => z = g) w5 w6) := HKk
          clear HGk HBk HKk
          obtain ⟨n2, hn2⟩ : ∃ n, n = w6.heap.size := ⟨_, rfl⟩
          have Hn2 : Hid (w6.heap.size = n2) := hn2.symm
          have HL2 : Hid (g < n2 ∧ w3.heap.size ≤ n2) := by
            have h1 := block_lt HGe1.out
            have h2 := HBe1.out.size
            exact ⟨by omega, by omega⟩
          clear hn2
          go_wp2_with fail
          go_loopw [7] (fun i wr => ∃ (k : Nat) (v : Value), k ≤ el ∧ i = .int .i64 k ∧ Hid (wr.heap[g]? = some (.cells #[.int .u8 op, .slice oa9 ol9 oc9, .string tx, .string id, .int .u16 co, .slice a6 vs.length c6, .slice na3 ns.length nc3, .bool sk, .bool pg, .int .i32 pn, .bool rs, .int .i64 sk1, .string sb, .bool se, .int .u16 sr, .bool ti, .int .i64 tm, v, .int .i64 tk, .string tb, .int .u8 kd, .slice none 0 0] 48 (0, 0))) ∧ Hid (OwnG 89 5 GI wr (fun z => n2 ≤ z) v ((es.take k).map keyIt)) ∧ Hid (Below w3.heap.size w3 wr) ∧ Hid (Kept (fun z => z = g) w6 wr)) (fun i _ => el - (intOf i).toNat)
          case atStart => exact ⟨0, _, by omega, rfl, HGe1, ownG_nil _ _ _ _ _, HBe1, Kept.refl _ _⟩
          case round =>
            obtain ⟨k, v, hk, rfl, HGk, HOk, HBk, HKk⟩ := hrel
            have hcq := (HKQ.out wr HBk.out).2.1
            by_cases hlt : k < el
            · obtain ⟨b, off, haa, hrow⟩ := View.vs_row (show View 1 VS w3 ea el ec es from HR3.out.evs) hlt
              obtain ⟨x, hx⟩ : ∃ x, x = es.getD k default := ⟨_, rfl⟩
              rw [← hx] at hrow
              have HTK : Hid ((es.take (k + 1)).map keyIt = (es.take k).map keyIt ++ [keyIt x]) := by show _ = _; rw [map_take_succ keyIt es k (by have := HLE.out.1; omega), hx]
              clear hx
              subst haa
              have HKW : Hid (∀ W, Below w3.heap.size w3 W → W.cell? ⟨q, 17, none⟩ = some (.slice (some ⟨b, off, none⟩) el ec) ∧ W.cell? ⟨b, off + k, none⟩ = some (.string x) ∧ Below w3.heap.size w3 W) := fun W hW => ⟨(HKQ.out W hW).2.1, hrow W hW, hW⟩
              obtain ⟨hw1, hw2, hw3⟩ := HKW.out wr HBk.out
              have hlg := block_lt HGk.out
              have hcg := blk_cell HGk.out (j := 17) rfl
              have hvk : ∀ z, v.ownBlock = some z → n2 ≤ z := fun z hz => (HOk.out.lt z hz).1
              have hkx : ((es.take k).map keyIt).length = k := by simp; have := HLE.out.1; omega
              have hsx := HKk.out.size
              have hn1 := HL2.out.1
              have hn2 := HL2.out.2
              have hn3 := Hn2.out
              have hl1 := HLE.out.2
              have i0 : (0 : Int) ≤ (k : Int) := Int.natCast_nonneg _
              have i1 : (k : Int) < (el : Int) := by omega
              have hB0 := HBk.out
              go_upto_region 13 with fail
              refine wp_region_noPanic ?_
              refine wp_region_held_drew (S := fun W => W.cell? ⟨q, 17, none⟩ = some (.slice (some ⟨b, off, none⟩) el ec) ∧ W.cell? ⟨b, off + k, none⟩ = some (.string x) ∧ Below w3.heap.size w3 W) (by kernel_rfl) ?hS139 (fun hHeld => ?hR139)
              case hS139 => exact HKW.out _ (by repeat' (first | assumption | exact Below.refl _ _ | exact Below.size (by assumption) | exact Nat.le_refl _ | refine Below.drew ?_ | refine Below.setCell ?_ (by first | exact HGE.out | omega) _ | refine Below.alloc ?_ ?_ _))
              case hR139 =>
                refine wpAnyH_take (i := 0) (oi := _) (v := ?v15) rfl (by kernel_rfl) (by kernel_rfl) (by kernel_rfl) (fun _ _ _ h => h) (Or.inl ⟨by rfl, ?h15⟩) (by assumption) ?r15
                case h15 =>
                  intro w hSw
                  try dsimp only at hSw
                  go_simp
                  all_goals with_reducible rfl
                (try simp only [Act.put, List.getElem_toArray, List.getElem_cons_zero, List.getElem_cons_succ, List.setIfInBounds_toArray, List.set_cons_zero, List.set_cons_succ])
                refine wpAnyH_take (i := 2) (oi := _) (v := ?v16) rfl (by kernel_rfl) (by kernel_rfl) (by kernel_rfl) (fun _ _ _ h => h) (Or.inl ⟨by rfl, ?h16⟩) (by assumption) ?r16
                case h16 =>
                  intro w hSw
                  try dsimp only at hSw
                  go_simp
                  all_goals with_reducible rfl
                (try simp only [Act.put, List.getElem_toArray, List.getElem_cons_zero, List.getElem_cons_succ, List.setIfInBounds_toArray, List.set_cons_zero, List.set_cons_succ])
                refine wpAnyH_take (i := 3) (oi := _) (v := ?v17) rfl (by kernel_rfl) (by kernel_rfl) (by kernel_rfl) (fun _ _ _ h => h) (Or.inl ⟨by rfl, ?h17⟩) (by assumption) ?r17
                case h17 =>
                  intro w hSw
                  try dsimp only at hSw
                  go_simp
                  all_goals with_reducible rfl
                (try simp only [Act.put, List.getElem_toArray, List.getElem_cons_zero, List.getElem_cons_succ, List.setIfInBounds_toArray, List.set_cons_zero, List.set_cons_succ])
                refine wpAnyH_take (i := 4) (oi := _) (v := ?v18) rfl (by kernel_rfl) (by kernel_rfl) (by kernel_rfl) (fun _ _ _ h => h) (Or.inl ⟨by rfl, ?h18⟩) (by assumption) ?r18
                case h18 =>
                  intro w hSw
                  try dsimp only at hSw
                  go_simp
                  all_goals with_reducible rfl
                (try simp only [Act.put, List.getElem_toArray, List.getElem_cons_zero, List.getElem_cons_succ, List.setIfInBounds_toArray, List.set_cons_zero, List.set_cons_succ])
                refine wpAnyH_take (i := 5) (oi := _) (v := ?v19) rfl (by kernel_rfl) (by kernel_rfl) (by kernel_rfl) (fun _ _ _ h => h) (Or.inl ⟨by rfl, ?h19⟩) (by assumption) ?r19
                case h19 =>
                  intro w hSw
                  try dsimp only at hSw
                  go_simp
                  all_goals with_reducible rfl
                (try simp only [Act.put, List.getElem_toArray, List.getElem_cons_zero, List.getElem_cons_succ, List.setIfInBounds_toArray, List.set_cons_zero, List.set_cons_succ])
                refine wpAnyH_take (i := 6) (oi := _) (v := ?v20) rfl (by kernel_rfl) (by kernel_rfl) (by kernel_rfl) (fun _ _ _ h => h) (Or.inl ⟨by rfl, ?h20⟩) (by assumption) ?r20
                case h20 =>
                  intro w hSw
                  try dsimp only at hSw
                  go_simp
                  all_goals with_reducible rfl
                (try simp only [Act.put, List.getElem_toArray, List.getElem_cons_zero, List.getElem_cons_succ, List.setIfInBounds_toArray, List.set_cons_zero, List.set_cons_succ])
                refine wpAnyH_take (i := 7) (oi := _) (v := ?v21) rfl (by kernel_rfl) (by kernel_rfl) (by kernel_rfl) (fun _ _ _ h => h) (Or.inl ⟨by rfl, ?h21⟩) (by assumption) ?r21
                case h21 =>
                  intro w hSw
                  try dsimp only at hSw
                  go_simp
                  all_goals with_reducible rfl
                (try simp only [Act.put, List.getElem_toArray, List.getElem_cons_zero, List.getElem_cons_succ, List.setIfInBounds_toArray, List.set_cons_zero, List.set_cons_succ])
                refine wpAnyH_ready (rs := [1, 8]) (by kernel_rfl) (by simp) ?_
                refine AllReadyH.cons (o := _) rfl (fun K hK => ?_) (AllReadyH.cons (o := _) rfl (fun K hK => ?_) AllReadyH.nil)
                · go_simp
                  refine hK.out _ _ (HKW.out _ (by repeat' (first | assumption | exact Below.refl _ _ | exact Below.size (by assumption) | exact Nat.le_refl _ | refine Below.drew ?_ | refine Below.setCell ?_ (by first | exact HGE.out | omega) _ | refine Below.alloc ?_ ?_ _))) (fun hHeld => ?_)
                  clear hK K
                  (try simp only [Act.put, List.getElem_toArray, List.getElem_cons_zero, List.getElem_cons_succ, List.setIfInBounds_toArray, List.set_cons_zero, List.set_cons_succ])
                  refine wpAnyH_ready (rs := [8]) (by kernel_rfl) (by simp) ?_
                  refine AllReadyH.cons (o := _) rfl (fun K hK => ?_) AllReadyH.nil
                  go_simp
                  refine hK.out _ _ (HKW.out _ (by repeat' (first | assumption | exact Below.refl _ _ | exact Below.size (by assumption) | exact Nat.le_refl _ | refine Below.drew ?_ | refine Below.setCell ?_ (by first | exact HGE.out | omega) _ | refine Below.alloc ?_ ?_ _))) (fun hHeld => ?_)
                  clear hK K
                  (try simp only [Act.put, List.getElem_toArray, List.getElem_cons_zero, List.getElem_cons_succ, List.setIfInBounds_toArray, List.set_cons_zero, List.set_cons_succ])
                  refine wpAnyH_ready (rs := [9]) (by kernel_rfl) (by simp) ?_
                  refine AllReadyH.cons (o := _) rfl (fun K hK => ?_) AllReadyH.nil
                  (refine step_appendG (by rfl) _ _ _ (by rfl) stays_gi elem_i (F := fun z => n2 ≤ z) (v := v) (xs := (es.take k).map keyIt) (by rfl) (HOk.out.old stays_gi (by repeat' (first | exact Below.refl _ _ | exact below_one _ _ | refine Below.drew ?_))) (news := [.string x, .string ⟨#[]⟩, .slice none 0 0, .int .i64 0, .string ⟨#[]⟩]) (by rfl) (heap_alloc_new wr _) (by rfl) (by simp [Value.oneCell']) (keyIt x) (⟨rfl, rfl, ⟨rfl, rfl⟩, rfl, rfl⟩) (by show n2 ≤ _; simp; omega) (by rw [hkx]; unfold maxLen; omega) (by rw [hkx]; omega) ?_; intro v4 w9 ho4 hK4 hv4; have hB9 : Below w3.heap.size w3 w9 := Below.trans (by repeat' (first | assumption | exact Below.refl _ _ | exact Below.size (by assumption) | exact Nat.le_refl _ | refine Below.drew ?_ | refine Below.setCell ?_ (by first | exact HGE.out | omega) _ | refine Below.alloc ?_ ?_ _)) (hK4.below (by have := hB0.size; simp; omega) (fun z hz e => by have := hvk z e; omega)); have HG9 : Hid (w9.heap[g]? = some (.cells #[.int .u8 op, .slice oa9 ol9 oc9, .string tx, .string id, .int .u16 co, .slice a6 vs.length c6, .slice na3 ns.length nc3, .bool sk, .bool pg, .int .i32 pn, .bool rs, .int .i64 sk1, .string sb, .bool se, .int .u16 sr, .bool ti, .int .i64 tm, v, .int .i64 tk, .string tb, .int .u8 kd, .slice none 0 0] 48 (0, 0))) := (hK4.block g (by simp; omega) (fun e => absurd (hvk g e) (by omega))).trans ((Below.block (by first | exact Below.drew (below_one wr _) | exact below_one wr _) g hlg).trans HGk.out); have hc9 := blk_cell HG9.out (j := 17) rfl; have hf9 := blk_free HG9.out 17; have hl9 := block_lt HG9.out; have HK9 : Hid (Kept (fun z => z = g) w6 w9) := (HKk.out.new (by repeat' (first | exact below_one _ _ | refine Below.drew ?_))).trans hK4 (fun i hi e => absurd (hvk i e) (by omega)); obtain ⟨xa4, n4, xc4, rfl⟩ : ∃ xa n xc, v4 = .slice xa n xc := (by obtain ⟨xa, xc, e⟩ := ho4.shape; exact ⟨xa, _, xc, e⟩); have HO9 : Hid (OwnG 89 5 GI w9 (fun z => n2 ≤ z) (.slice xa4 n4 xc4) ((es.take (k + 1)).map keyIt)) := (by rw [HTK.out]; exact ho4); clear ho4)
                  refine hK.out _ _ (HKW.out _ (by repeat' (first | assumption | exact Below.refl _ _ | exact Below.size (by assumption) | exact Nat.le_refl _ | refine Below.drew ?_ | refine Below.setCell ?_ (by first | exact HGE.out | omega) _ | refine Below.alloc ?_ ?_ _))) (fun hHeld => ?_)
                  clear hK K
                  (try simp only [Act.put, List.getElem_toArray, List.getElem_cons_zero, List.getElem_cons_succ, List.setIfInBounds_toArray, List.set_cons_zero, List.set_cons_succ])
                  refine wpAnyH_ready (rs := [10]) (by kernel_rfl) (by simp) ?_
                  refine AllReadyH.cons (o := _) rfl (fun K hK => ?_) AllReadyH.nil
                  go_simp
                  refine hK.out _ _ (HKW.out _ (by repeat' (first | assumption | exact Below.refl _ _ | exact Below.size (by assumption) | exact Nat.le_refl _ | refine Below.drew ?_ | refine Below.setCell ?_ (by first | exact HGE.out | omega) _ | refine Below.alloc ?_ ?_ _))) (fun hHeld => ?_)
                  clear hK K
                  (try simp only [Act.put, List.getElem_toArray, List.getElem_cons_zero, List.getElem_cons_succ, List.setIfInBounds_toArray, List.set_cons_zero, List.set_cons_succ])
                  refine wpAnyH_ready (rs := [11]) (by kernel_rfl) (by simp) ?_
                  refine AllReadyH.cons (o := _) rfl (fun K hK => ?_) AllReadyH.nil
                  go_simp
                  refine hK.out _ _ (HKW.out _ (by repeat' (first | assumption | exact Below.refl _ _ | exact Below.size (by assumption) | exact Nat.le_refl _ | refine Below.drew ?_ | refine Below.setCell ?_ (by first | exact HGE.out | omega) _ | refine Below.alloc ?_ ?_ _))) (fun hHeld => ?_)
                  clear hK K
                  (try simp only [Act.put, List.getElem_toArray, List.getElem_cons_zero, List.getElem_cons_succ, List.setIfInBounds_toArray, List.set_cons_zero, List.set_cons_succ])
                  refine wpAnyH_done (by kernel_rfl) ?_ _
                  refine NoPanic.normal ?_
                  have HG6 : Hid ((w9.setCell ⟨g, 17, none⟩ (.slice xa4 n4 xc4)).heap[g]? = some (.cells #[.int .u8 op, .slice oa9 ol9 oc9, .string tx, .string id, .int .u16 co, .slice a6 vs.length c6, .slice na3 ns.length nc3, .bool sk, .bool pg, .int .i32 pn, .bool rs, .int .i64 sk1, .string sb, .bool se, .int .u16 sr, .bool ti, .int .i64 tm, .slice xa4 n4 xc4, .int .i64 tk, .string tb, .int .u8 kd, .slice none 0 0] 48 (0, 0))) := blk_set HG9.out 17 _
                  have HO6 : Hid (OwnG 89 5 GI (w9.setCell ⟨g, 17, none⟩ (.slice xa4 n4 xc4)) (fun z => n2 ≤ z) (.slice xa4 n4 xc4) ((es.take (k + 1)).map keyIt)) := HO9.out.kept stays_gi (fun z hz hf => (one_kept w9 g 17 _).block z hz (fun e => by subst e; exact absurd (Nat.lt_of_lt_of_le hn1 hf) (Nat.lt_irrefl _))) (one_kept w9 g 17 _).size (fun z hz hf => hf)
                  have HB6 : Hid (Below w3.heap.size w3 (w9.setCell ⟨g, 17, none⟩ (.slice xa4 n4 xc4))) := hB9.setCell HGE.out _
                  have HK6 : Hid (Kept (fun z => z = g) w6 (w9.setCell ⟨g, 17, none⟩ (.slice xa4 n4 xc4))) := HK9.out.trans (one_kept w9 g 17 _) (fun _ _ e => e)
                  clear hc9 hf9 hK4 hv4 HG9 HO9 HK9
                  go_wp2_with fail
                  go_roundw
                  case rel => exact ⟨k + 1, _, by omega, by go_num, HG6, HO6, HB6, HK6⟩
                  case measure => simp [intOf]; omega
                · go_simp
                  refine hK.out _ _ (HKW.out _ (by repeat' (first | assumption | exact Below.refl _ _ | exact Below.size (by assumption) | exact Nat.le_refl _ | refine Below.drew ?_ | refine Below.setCell ?_ (by first | exact HGE.out | omega) _ | refine Below.alloc ?_ ?_ _))) (fun hHeld => ?_)
                  clear hK K
                  (try simp only [Act.put, List.getElem_toArray, List.getElem_cons_zero, List.getElem_cons_succ, List.setIfInBounds_toArray, List.set_cons_zero, List.set_cons_succ])
                  refine wpAnyH_ready (rs := [1]) (by kernel_rfl) (by simp) ?_
                  refine AllReadyH.cons (o := _) rfl (fun K hK => ?_) AllReadyH.nil
                  go_simp
                  refine hK.out _ _ (HKW.out _ (by repeat' (first | assumption | exact Below.refl _ _ | exact Below.size (by assumption) | exact Nat.le_refl _ | refine Below.drew ?_ | refine Below.setCell ?_ (by first | exact HGE.out | omega) _ | refine Below.alloc ?_ ?_ _))) (fun hHeld => ?_)
                  clear hK K
                  (try simp only [Act.put, List.getElem_toArray, List.getElem_cons_zero, List.getElem_cons_succ, List.setIfInBounds_toArray, List.set_cons_zero, List.set_cons_succ])
                  refine wpAnyH_ready (rs := [9]) (by kernel_rfl) (by simp) ?_
                  refine AllReadyH.cons (o := _) rfl (fun K hK => ?_) AllReadyH.nil
                  (refine step_appendG (by rfl) _ _ _ (by rfl) stays_gi elem_i (F := fun z => n2 ≤ z) (v := v) (xs := (es.take k).map keyIt) (by rfl) (HOk.out.old stays_gi (by repeat' (first | exact Below.refl _ _ | exact below_one _ _ | refine Below.drew ?_))) (news := [.string x, .string ⟨#[]⟩, .slice none 0 0, .int .i64 0, .string ⟨#[]⟩]) (by rfl) (heap_alloc_new wr _) (by rfl) (by simp [Value.oneCell']) (keyIt x) (⟨rfl, rfl, ⟨rfl, rfl⟩, rfl, rfl⟩) (by show n2 ≤ _; simp; omega) (by rw [hkx]; unfold maxLen; omega) (by rw [hkx]; omega) ?_; intro v4 w9 ho4 hK4 hv4; have hB9 : Below w3.heap.size w3 w9 := Below.trans (by repeat' (first | assumption | exact Below.refl _ _ | exact Below.size (by assumption) | exact Nat.le_refl _ | refine Below.drew ?_ | refine Below.setCell ?_ (by first | exact HGE.out | omega) _ | refine Below.alloc ?_ ?_ _)) (hK4.below (by have := hB0.size; simp; omega) (fun z hz e => by have := hvk z e; omega)); have HG9 : Hid (w9.heap[g]? = some (.cells #[.int .u8 op, .slice oa9 ol9 oc9, .string tx, .string id, .int .u16 co, .slice a6 vs.length c6, .slice na3 ns.length nc3, .bool sk, .bool pg, .int .i32 pn, .bool rs, .int .i64 sk1, .string sb, .bool se, .int .u16 sr, .bool ti, .int .i64 tm, v, .int .i64 tk, .string tb, .int .u8 kd, .slice none 0 0] 48 (0, 0))) := (hK4.block g (by simp; omega) (fun e => absurd (hvk g e) (by omega))).trans ((Below.block (by first | exact Below.drew (below_one wr _) | exact below_one wr _) g hlg).trans HGk.out); have hc9 := blk_cell HG9.out (j := 17) rfl; have hf9 := blk_free HG9.out 17; have hl9 := block_lt HG9.out; have HK9 : Hid (Kept (fun z => z = g) w6 w9) := (HKk.out.new (by repeat' (first | exact below_one _ _ | refine Below.drew ?_))).trans hK4 (fun i hi e => absurd (hvk i e) (by omega)); obtain ⟨xa4, n4, xc4, rfl⟩ : ∃ xa n xc, v4 = .slice xa n xc := (by obtain ⟨xa, xc, e⟩ := ho4.shape; exact ⟨xa, _, xc, e⟩); have HO9 : Hid (OwnG 89 5 GI w9 (fun z => n2 ≤ z) (.slice xa4 n4 xc4) ((es.take (k + 1)).map keyIt)) := (by rw [HTK.out]; exact ho4); clear ho4)
                  refine hK.out _ _ (HKW.out _ (by repeat' (first | assumption | exact Below.refl _ _ | exact Below.size (by assumption) | exact Nat.le_refl _ | refine Below.drew ?_ | refine Below.setCell ?_ (by first | exact HGE.out | omega) _ | refine Below.alloc ?_ ?_ _))) (fun hHeld => ?_)
                  clear hK K
                  (try simp only [Act.put, List.getElem_toArray, List.getElem_cons_zero, List.getElem_cons_succ, List.setIfInBounds_toArray, List.set_cons_zero, List.set_cons_succ])
                  refine wpAnyH_ready (rs := [10]) (by kernel_rfl) (by simp) ?_
                  refine AllReadyH.cons (o := _) rfl (fun K hK => ?_) AllReadyH.nil
                  go_simp
                  refine hK.out _ _ (HKW.out _ (by repeat' (first | assumption | exact Below.refl _ _ | exact Below.size (by assumption) | exact Nat.le_refl _ | refine Below.drew ?_ | refine Below.setCell ?_ (by first | exact HGE.out | omega) _ | refine Below.alloc ?_ ?_ _))) (fun hHeld => ?_)
                  clear hK K
                  (try simp only [Act.put, List.getElem_toArray, List.getElem_cons_zero, List.getElem_cons_succ, List.setIfInBounds_toArray, List.set_cons_zero, List.set_cons_succ])
                  refine wpAnyH_ready (rs := [11]) (by kernel_rfl) (by simp) ?_
                  refine AllReadyH.cons (o := _) rfl (fun K hK => ?_) AllReadyH.nil
                  go_simp
                  refine hK.out _ _ (HKW.out _ (by repeat' (first | assumption | exact Below.refl _ _ | exact Below.size (by assumption) | exact Nat.le_refl _ | refine Below.drew ?_ | refine Below.setCell ?_ (by first | exact HGE.out | omega) _ | refine Below.alloc ?_ ?_ _))) (fun hHeld => ?_)
                  clear hK K
                  (try simp only [Act.put, List.getElem_toArray, List.getElem_cons_zero, List.getElem_cons_succ, List.setIfInBounds_toArray, List.set_cons_zero, List.set_cons_succ])
                  refine wpAnyH_done (by kernel_rfl) ?_ _
                  refine NoPanic.normal ?_
                  have HG6 : Hid ((w9.setCell ⟨g, 17, none⟩ (.slice xa4 n4 xc4)).heap[g]? = some (.cells #[.int .u8 op, .slice oa9 ol9 oc9, .string tx, .string id, .int .u16 co, .slice a6 vs.length c6, .slice na3 ns.length nc3, .bool sk, .bool pg, .int .i32 pn, .bool rs, .int .i64 sk1, .string sb, .bool se, .int .u16 sr, .bool ti, .int .i64 tm, .slice xa4 n4 xc4, .int .i64 tk, .string tb, .int .u8 kd, .slice none 0 0] 48 (0, 0))) := blk_set HG9.out 17 _
                  have HO6 : Hid (OwnG 89 5 GI (w9.setCell ⟨g, 17, none⟩ (.slice xa4 n4 xc4)) (fun z => n2 ≤ z) (.slice xa4 n4 xc4) ((es.take (k + 1)).map keyIt)) := HO9.out.kept stays_gi (fun z hz hf => (one_kept w9 g 17 _).block z hz (fun e => by subst e; exact absurd (Nat.lt_of_lt_of_le hn1 hf) (Nat.lt_irrefl _))) (one_kept w9 g 17 _).size (fun z hz hf => hf)
                  have HB6 : Hid (Below w3.heap.size w3 (w9.setCell ⟨g, 17, none⟩ (.slice xa4 n4 xc4))) := hB9.setCell HGE.out _
                  have HK6 : Hid (Kept (fun z => z = g) w6 (w9.setCell ⟨g, 17, none⟩ (.slice xa4 n4 xc4))) := HK9.out.trans (one_kept w9 g 17 _) (fun _ _ e => e)
                  clear hc9 hf9 hK4 hv4 HG9 HO9 HK9
                  go_wp2_with fail
                  go_roundw
                  case rel => exact ⟨k + 1, _, by omega, by go_num, HG6, HO6, HB6, HK6⟩
                  case measure => simp [intOf]; omega
            · obtain ⟨w7, hw2⟩ : ∃ x, x = wr := ⟨_, rfl⟩
              subst hw2
              have HOe2 : Hid (OwnG 89 5 GI w7 (fun z => n2 ≤ z) v (es.map keyIt)) := by
                have h := HOk.out
                rw [List.take_of_length_le (by have := HLE.out.1; omega)] at h
                exact h
              clear HOk
              obtain ⟨ea9, el9, ec9, rfl⟩ : ∃ xa n xc, v = .slice xa n xc := by obtain ⟨xa, xc, e⟩ := HOe2.out.shape; exact ⟨xa, _, xc, e⟩
              have HGe2 : Hid (w7.heap[g]? = some (.cells #[.int .u8 op, .slice oa9 ol9 oc9, .string tx, .string id, .int .u16 co, .slice a6 vs.length c6, .slice na3 ns.length nc3, .bool sk, .bool pg, .int .i32 pn, .bool rs, .int .i64 sk1, .string sb, .bool se, .int .u16 sr, .bool ti, .int .i64 tm, .slice ea9 el9 ec9, .int .i64 tk, .string tb, .int .u8 kd, .slice none 0 0] 48 (0, 0))) := HGk
              have HBe2 : Hid (Below w3.heap.size w3 w7) := HBk
              have HKe2 : Hid (Kept (fun z => z = g) w6 w7) := HKk
              clear HGk HBk HKk
              obtain ⟨n3, hn3⟩ : ∃ n, n = w7.heap.size := ⟨_, rfl⟩
              have Hn3 : Hid (w7.heap.size = n3) := hn3.symm
              have HL3 : Hid (g < n3 ∧ w3.heap.size ≤ n3) := by
                have h1 := block_lt HGe2.out
                have h2 := HBe2.out.size
                exact ⟨by omega, by omega⟩
              clear hn3
              go_wp2_with fail
              go_loopw [8] (fun i wr => ∃ (k : Nat) (v : Value), k ≤ al ∧ i = .int .i64 k ∧ Hid (wr.heap[g]? = some (.cells #[.int .u8 op, .slice oa9 ol9 oc9, .string tx, .string id, .int .u16 co, .slice a6 vs.length c6, .slice na3 ns.length nc3, .bool sk, .bool pg, .int .i32 pn, .bool rs, .int .i64 sk1, .string sb, .bool se, .int .u16 sr, .bool ti, .int .i64 tm, .slice ea9 el9 ec9, .int .i64 tk, .string tb, .int .u8 kd, v] 48 (0, 0))) ∧ Hid (OwnG 82 4 GM wr (fun z => n3 ≤ z) v ((ss.take k))) ∧ Hid (Below w3.heap.size w3 wr) ∧ Hid (Kept (fun z => z = g) w7 wr)) (fun i _ => al - (intOf i).toNat)
              case atStart => exact ⟨0, _, by omega, rfl, HGe2, ownG_nil _ _ _ _ _, HBe2, Kept.refl _ _⟩
              case round =>
                obtain ⟨k, v, hk, rfl, HGk, HOk, HBk, HKk⟩ := hrel
                have hcq := (HKQ.out wr HBk.out).2.2
                by_cases hlt : k < al
                · obtain ⟨b, off, ya, yl, yc, za, zl, zc, haa, hrow, hyI, hzV⟩ := View.st_row (show View 4 VSt w3 aa al ac ss from HR3.out.all) hlt
                  have hzl : zl ≤ 1048576 := by rw [← hzV.1]; exact (HS.out.all _ (by rw [List.getD_eq_getElem?_getD, List.getElem?_eq_getElem (by have := HLA.out.1; omega), Option.getD_some]; exact List.getElem_mem _)).2.2.1
                  obtain ⟨x, hx⟩ : ∃ x, x = ss.getD k default := ⟨_, rfl⟩
                  rw [← hx] at hrow hyI hzV
                  have HTK : Hid (ss.take (k + 1) = ss.take k ++ [x]) := by
                    show _ = _
                    rw [List.take_succ_eq_append_getElem (by have := HLA.out.1; omega), hx, List.getD_eq_getElem?_getD, List.getElem?_eq_getElem (by have := HLA.out.1; omega), Option.getD_some]
                  obtain ⟨x1, x2, x3, x4⟩ := x
                  clear hx
                  subst haa
                  simp only [St.prep, St.text, St.id, St.vals] at hrow hyI hzV
                  have HYI : Hid (IsB w3 ya yl yc (sNums x3)) := hyI
                  have HZV : Hid (View 2 VV w3 za zl zc x4) := hzV
                  have HKW : Hid (∀ W, Below w3.heap.size w3 W → W.cell? ⟨q, 21, none⟩ = some (.slice (some ⟨b, off, none⟩) al ac) ∧ W.cell? ⟨b, off + k * 4, none⟩ = some (.bool x1) ∧ W.cell? ⟨b, off + k * 4 + 1, none⟩ = some (.string x2) ∧ W.cell? ⟨b, off + k * 4 + 2, none⟩ = some (.slice ya yl yc) ∧ W.cell? ⟨b, off + k * 4 + 3, none⟩ = some (.slice za zl zc) ∧ (convert 23 9 (.slice ya yl yc)).run Try.prog W = .ok (.string x3) W ∧ Below w3.heap.size w3 W) := by
                    intro W hW
                    have hcv := (HYI.out.old hW).conv
                    rw [strOfNums_sNums] at hcv
                    exact ⟨(HKQ.out W hW).2.2, (hrow W hW).1, (hrow W hW).2.1, (hrow W hW).2.2.1, (hrow W hW).2.2.2, hcv, hW⟩
                  clear hyI hzV
                  obtain ⟨hw1, hw2, hw3, hw4, hw5, hw6, hw7⟩ := HKW.out wr HBk.out
                  have hlg := block_lt HGk.out
                  have hcg := blk_cell HGk.out (j := 21) rfl
                  have hvk : ∀ z, v.ownBlock = some z → n3 ≤ z := fun z hz => (HOk.out.lt z hz).1
                  have hkx : ((ss.take k)).length = k := by simp; have := HLA.out.1; omega
                  have hsx := HKk.out.size
                  have hn1 := HL3.out.1
                  have hn2 := HL3.out.2
                  have hn3 := Hn3.out
                  have hl1 := HLA.out.2
                  have i0 : (0 : Int) ≤ (k : Int) := Int.natCast_nonneg _
                  have i1 : (k : Int) < (al : Int) := by omega
                  have hB0 := HBk.out
                  go_upto_region 17 with fail
                  refine wp_region_noPanic ?_
                  refine wp_region_held_drew (S := fun W => W.cell? ⟨q, 21, none⟩ = some (.slice (some ⟨b, off, none⟩) al ac) ∧ W.cell? ⟨b, off + k * 4, none⟩ = some (.bool x1) ∧ W.cell? ⟨b, off + k * 4 + 1, none⟩ = some (.string x2) ∧ W.cell? ⟨b, off + k * 4 + 2, none⟩ = some (.slice ya yl yc) ∧ W.cell? ⟨b, off + k * 4 + 3, none⟩ = some (.slice za zl zc) ∧ (convert 23 9 (.slice ya yl yc)).run Try.prog W = .ok (.string x3) W ∧ Below w3.heap.size w3 W) (by kernel_rfl) ?hS394 (fun hHeld => ?hR394)
                  case hS394 => exact HKW.out _ (by repeat' (first | assumption | exact Below.refl _ _ | exact Below.size (by assumption) | exact Nat.le_refl _ | refine Below.drew ?_ | refine Below.setCell ?_ (by first | exact HGE.out | omega) _ | refine Below.alloc ?_ ?_ _))
                  case hR394 =>
                    refine wpAnyH_take (i := 0) (oi := _) (v := ?v22) rfl (by kernel_rfl) (by kernel_rfl) (by kernel_rfl) (fun _ _ _ h => h) (Or.inl ⟨by rfl, ?h22⟩) (by assumption) ?r22
                    case h22 =>
                      intro w hSw
                      try dsimp only at hSw
                      go_simp
                      all_goals with_reducible rfl
                    (try simp only [Act.put, List.getElem_toArray, List.getElem_cons_zero, List.getElem_cons_succ, List.setIfInBounds_toArray, List.set_cons_zero, List.set_cons_succ])
                    refine wpAnyH_take (i := 2) (oi := _) (v := ?v23) rfl (by kernel_rfl) (by kernel_rfl) (by kernel_rfl) (fun _ _ _ h => h) (Or.inl ⟨by rfl, ?h23⟩) (by assumption) ?r23
                    case h23 =>
                      intro w hSw
                      try dsimp only at hSw
                      go_simp
                      all_goals with_reducible rfl
                    (try simp only [Act.put, List.getElem_toArray, List.getElem_cons_zero, List.getElem_cons_succ, List.setIfInBounds_toArray, List.set_cons_zero, List.set_cons_succ])
                    refine wpAnyH_take (i := 3) (oi := _) (v := ?v24) rfl (by kernel_rfl) (by kernel_rfl) (by kernel_rfl) (fun _ _ _ h => h) (Or.inl ⟨by rfl, ?h24⟩) (by assumption) ?r24
                    case h24 =>
                      intro w hSw
                      try dsimp only at hSw
                      go_simp
                      all_goals with_reducible rfl
                    (try simp only [Act.put, List.getElem_toArray, List.getElem_cons_zero, List.getElem_cons_succ, List.setIfInBounds_toArray, List.set_cons_zero, List.set_cons_succ])
                    refine wpAnyH_take (i := 4) (oi := _) (v := ?v25) rfl (by kernel_rfl) (by kernel_rfl) (by kernel_rfl) (fun _ _ _ h => h) (Or.inl ⟨by rfl, ?h25⟩) (by assumption) ?r25
                    case h25 =>
                      intro w hSw
                      try dsimp only at hSw
                      go_simp
                      all_goals with_reducible rfl
                    (try simp only [Act.put, List.getElem_toArray, List.getElem_cons_zero, List.getElem_cons_succ, List.setIfInBounds_toArray, List.set_cons_zero, List.set_cons_succ])
                    refine wpAnyH_take (i := 5) (oi := _) (v := ?v26) rfl (by kernel_rfl) (by kernel_rfl) (by kernel_rfl) (fun _ _ _ h => h) (Or.inl ⟨by rfl, ?h26⟩) (by assumption) ?r26
                    case h26 =>
                      intro w hSw
                      try dsimp only at hSw
                      go_simp
                      all_goals with_reducible rfl
                    (try simp only [Act.put, List.getElem_toArray, List.getElem_cons_zero, List.getElem_cons_succ, List.setIfInBounds_toArray, List.set_cons_zero, List.set_cons_succ])
                    refine wpAnyH_take (i := 6) (oi := _) (v := ?v27) rfl (by kernel_rfl) (by kernel_rfl) (by kernel_rfl) (fun _ _ _ h => h) (Or.inl ⟨by rfl, ?h27⟩) (by assumption) ?r27
                    case h27 =>
                      intro w hSw
                      try dsimp only at hSw
                      go_simp
                      all_goals with_reducible rfl
                    (try simp only [Act.put, List.getElem_toArray, List.getElem_cons_zero, List.getElem_cons_succ, List.setIfInBounds_toArray, List.set_cons_zero, List.set_cons_succ])
                    refine wpAnyH_take (i := 7) (oi := _) (v := ?v28) rfl (by kernel_rfl) (by kernel_rfl) (by kernel_rfl) (fun _ _ _ h => h) (Or.inl ⟨by rfl, ?h28⟩) (by assumption) ?r28
                    case h28 =>
                      intro w hSw
                      try dsimp only at hSw
                      go_simp
                      all_goals with_reducible rfl
                    (try simp only [Act.put, List.getElem_toArray, List.getElem_cons_zero, List.getElem_cons_succ, List.setIfInBounds_toArray, List.set_cons_zero, List.set_cons_succ])
                    refine wpAnyH_take (i := 8) (oi := _) (v := ?v29) rfl (by kernel_rfl) (by kernel_rfl) (by kernel_rfl) (fun _ _ _ h => h) (Or.inl ⟨by rfl, ?h29⟩) (by assumption) ?r29
                    case h29 =>
                      intro w hSw
                      try dsimp only at hSw
                      go_simp
                      all_goals with_reducible rfl
                    (try simp only [Act.put, List.getElem_toArray, List.getElem_cons_zero, List.getElem_cons_succ, List.setIfInBounds_toArray, List.set_cons_zero, List.set_cons_succ])
                    refine wpAnyH_take (i := 9) (oi := _) (v := ?v30) rfl (by kernel_rfl) (by kernel_rfl) (by kernel_rfl) (fun _ _ _ h => h) (Or.inl ⟨by rfl, ?h30⟩) (by assumption) ?r30
                    case h30 =>
                      intro w hSw
                      try dsimp only at hSw
                      go_simp
                      all_goals with_reducible rfl
                    (try simp only [Act.put, List.getElem_toArray, List.getElem_cons_zero, List.getElem_cons_succ, List.setIfInBounds_toArray, List.set_cons_zero, List.set_cons_succ])
                    refine wpAnyH_take (i := 10) (oi := _) (v := ?v31) rfl (by kernel_rfl) (by kernel_rfl) (by kernel_rfl) (fun _ _ _ h => h) (Or.inl ⟨by rfl, ?h31⟩) (by assumption) ?r31
                    case h31 =>
                      intro w hSw
                      try dsimp only at hSw
                      go_simp
                      all_goals with_reducible rfl
                    (try simp only [Act.put, List.getElem_toArray, List.getElem_cons_zero, List.getElem_cons_succ, List.setIfInBounds_toArray, List.set_cons_zero, List.set_cons_succ])
                    refine wpAnyH_take (i := 11) (oi := _) (v := ?v32) rfl (by kernel_rfl) (by kernel_rfl) (by kernel_rfl) (fun _ _ _ h => h) (Or.inl ⟨by rfl, ?h32⟩) (by assumption) ?r32
                    case h32 =>
                      intro w hSw
                      try dsimp only at hSw
                      go_simp
                      all_goals with_reducible rfl
                    (try simp only [Act.put, List.getElem_toArray, List.getElem_cons_zero, List.getElem_cons_succ, List.setIfInBounds_toArray, List.set_cons_zero, List.set_cons_succ])
                    refine wpAnyH_take (i := 12) (oi := _) (v := ?v33) rfl (by kernel_rfl) (by kernel_rfl) (by kernel_rfl) (fun _ _ _ h => h) (Or.inl ⟨by rfl, ?h33⟩) (by assumption) ?r33
                    case h33 =>
                      intro w hSw
                      try dsimp only at hSw
                      go_simp
                      all_goals with_reducible rfl
                    (try simp only [Act.put, List.getElem_toArray, List.getElem_cons_zero, List.getElem_cons_succ, List.setIfInBounds_toArray, List.set_cons_zero, List.set_cons_succ])
                    refine wpAnyH_take (i := 13) (oi := _) (v := ?v34) rfl (by kernel_rfl) (by kernel_rfl) (by kernel_rfl) (fun _ _ _ h => h) (Or.inl ⟨by rfl, ?h34⟩) (by assumption) ?r34
                    case h34 =>
                      intro w hSw
                      try dsimp only at hSw
                      go_simp
                      all_goals with_reducible rfl
                    (try simp only [Act.put, List.getElem_toArray, List.getElem_cons_zero, List.getElem_cons_succ, List.setIfInBounds_toArray, List.set_cons_zero, List.set_cons_succ])
                    refine wpAnyH_take (i := 14) (oi := _) (v := ?v35) rfl (by kernel_rfl) (by kernel_rfl) (by kernel_rfl) (fun _ _ _ h => h) (Or.inl ⟨by rfl, ?h35⟩) (by assumption) ?r35
                    case h35 =>
                      intro w hSw
                      try dsimp only at hSw
                      go_simp
                      all_goals with_reducible rfl
                    (try simp only [Act.put, List.getElem_toArray, List.getElem_cons_zero, List.getElem_cons_succ, List.setIfInBounds_toArray, List.set_cons_zero, List.set_cons_succ])
                    refine wpAnyH_take (i := 15) (oi := _) (v := ?v36) rfl (by kernel_rfl) (by kernel_rfl) (by kernel_rfl) (fun _ _ _ h => h) (Or.inl ⟨by rfl, ?h36⟩) (by assumption) ?r36
                    case h36 =>
                      intro w hSw
                      try dsimp only at hSw
                      go_simp
                      all_goals with_reducible rfl
                    (try simp only [Act.put, List.getElem_toArray, List.getElem_cons_zero, List.getElem_cons_succ, List.setIfInBounds_toArray, List.set_cons_zero, List.set_cons_succ])
                    refine wpAnyH_take (i := 16) (oi := _) (v := ?v37) rfl (by kernel_rfl) (by kernel_rfl) (by kernel_rfl) (fun _ _ _ h => h) (Or.inl ⟨by rfl, ?h37⟩) (by assumption) ?r37
                    case h37 =>
                      intro w hSw
                      try dsimp only at hSw
                      go_simp
                      all_goals with_reducible rfl
                    (try simp only [Act.put, List.getElem_toArray, List.getElem_cons_zero, List.getElem_cons_succ, List.setIfInBounds_toArray, List.set_cons_zero, List.set_cons_succ])
                    refine wpAnyH_take (i := 17) (oi := _) (v := ?v38) rfl (by kernel_rfl) (by kernel_rfl) (by kernel_rfl) (fun _ _ _ h => h) (Or.inl ⟨by rfl, ?h38⟩) (by assumption) ?r38
                    case h38 =>
                      intro w hSw
                      try dsimp only at hSw
                      go_simp
                      all_goals with_reducible rfl
                    (try simp only [Act.put, List.getElem_toArray, List.getElem_cons_zero, List.getElem_cons_succ, List.setIfInBounds_toArray, List.set_cons_zero, List.set_cons_succ])
                    refine wpAnyH_take (i := 18) (oi := _) (v := ?v39) rfl (by kernel_rfl) (by kernel_rfl) (by kernel_rfl) (fun _ _ _ h => h) (Or.inl ⟨by rfl, ?h39⟩) (by assumption) ?r39
                    case h39 =>
                      intro w hSw
                      try dsimp only at hSw
                      go_simp
                      all_goals with_reducible rfl
                    (try simp only [Act.put, List.getElem_toArray, List.getElem_cons_zero, List.getElem_cons_succ, List.setIfInBounds_toArray, List.set_cons_zero, List.set_cons_succ])
                    refine wpAnyH_take (i := 19) (oi := _) (v := ?v40) rfl (by kernel_rfl) (by kernel_rfl) (by kernel_rfl) (fun _ _ _ h => h) (Or.inl ⟨by rfl, ?h40⟩) (by assumption) ?r40
                    case h40 =>
                      intro w hSw
                      try dsimp only at hSw
                      go_simp
                      all_goals with_reducible rfl
                    (try simp only [Act.put, List.getElem_toArray, List.getElem_cons_zero, List.getElem_cons_succ, List.setIfInBounds_toArray, List.set_cons_zero, List.set_cons_succ])
                    refine wpAnyH_take (i := 20) (oi := _) (v := ?v41) rfl (by kernel_rfl) (by kernel_rfl) (by kernel_rfl) (fun _ _ _ h => h) (Or.inl ⟨by rfl, ?h41⟩) (by assumption) ?r41
                    case h41 =>
                      intro w hSw
                      try dsimp only at hSw
                      go_simp
                      all_goals with_reducible rfl
                    (try simp only [Act.put, List.getElem_toArray, List.getElem_cons_zero, List.getElem_cons_succ, List.setIfInBounds_toArray, List.set_cons_zero, List.set_cons_succ])
                    refine wpAnyH_take (i := 21) (oi := _) (v := ?v42) rfl (by kernel_rfl) (by kernel_rfl) (by kernel_rfl) (fun _ _ _ h => h) (Or.inl ⟨by rfl, ?h42⟩) (by assumption) ?r42
                    case h42 =>
                      intro w hSw
                      try dsimp only at hSw
                      go_simp
                      all_goals with_reducible rfl
                    (try simp only [Act.put, List.getElem_toArray, List.getElem_cons_zero, List.getElem_cons_succ, List.setIfInBounds_toArray, List.set_cons_zero, List.set_cons_succ])
                    refine wpAnyH_take (i := 22) (oi := _) (v := ?v43) rfl (by kernel_rfl) (by kernel_rfl) (by kernel_rfl) (fun _ _ _ h => h) (Or.inl ⟨by rfl, ?h43⟩) (by assumption) ?r43
                    case h43 =>
                      intro w hSw
                      try dsimp only at hSw
                      go_simp
                      all_goals with_reducible rfl
                    (try simp only [Act.put, List.getElem_toArray, List.getElem_cons_zero, List.getElem_cons_succ, List.setIfInBounds_toArray, List.set_cons_zero, List.set_cons_succ])
                    refine wpAnyH_take (i := 23) (oi := _) (v := ?v44) rfl (by kernel_rfl) (by kernel_rfl) (by kernel_rfl) (fun _ _ _ h => h) (Or.inl ⟨by rfl, ?h44⟩) (by assumption) ?r44
                    case h44 =>
                      intro w hSw
                      try dsimp only at hSw
                      go_simp
                      all_goals with_reducible rfl
                    (try simp only [Act.put, List.getElem_toArray, List.getElem_cons_zero, List.getElem_cons_succ, List.setIfInBounds_toArray, List.set_cons_zero, List.set_cons_succ])
                    refine wpAnyH_take (i := 24) (oi := _) (v := ?v45) rfl (by kernel_rfl) (by kernel_rfl) (by kernel_rfl) (fun _ _ _ h => h) (Or.inl ⟨by rfl, ?h45⟩) (by assumption) ?r45
                    case h45 =>
                      intro w hSw
                      try dsimp only at hSw
                      go_simp
                      all_goals with_reducible rfl
                    (try simp only [Act.put, List.getElem_toArray, List.getElem_cons_zero, List.getElem_cons_succ, List.setIfInBounds_toArray, List.set_cons_zero, List.set_cons_succ])
                    refine wpAnyH_take (i := 25) (oi := _) (v := ?v46) rfl (by kernel_rfl) (by kernel_rfl) (by kernel_rfl) (fun _ _ _ h => h) (Or.inl ⟨by rfl, ?h46⟩) (by assumption) ?r46
                    case h46 =>
                      intro w hSw
                      try dsimp only at hSw
                      go_simp
                      all_goals with_reducible rfl
                    (try simp only [Act.put, List.getElem_toArray, List.getElem_cons_zero, List.getElem_cons_succ, List.setIfInBounds_toArray, List.set_cons_zero, List.set_cons_succ])
                    refine wpAnyH_take (i := 26) (oi := _) (v := ?v47) rfl (by kernel_rfl) (by kernel_rfl) (by kernel_rfl) (fun _ _ _ h => h) (Or.inl ⟨by rfl, ?h47⟩) (by assumption) ?r47
                    case h47 =>
                      intro w hSw
                      try dsimp only at hSw
                      go_simp
                      all_goals with_reducible rfl
                    (try simp only [Act.put, List.getElem_toArray, List.getElem_cons_zero, List.getElem_cons_succ, List.setIfInBounds_toArray, List.set_cons_zero, List.set_cons_succ])
                    refine wpAnyH_ready (rs := [1, 27]) (by kernel_rfl) (by simp) ?_
                    refine AllReadyH.cons (o := _) rfl (fun K hK => ?_) (AllReadyH.cons (o := _) rfl (fun K hK => ?_) AllReadyH.nil)
                    · go_simp
                      refine hK.out _ _ (HKW.out _ (by repeat' (first | assumption | exact Below.refl _ _ | exact Below.size (by assumption) | exact Nat.le_refl _ | refine Below.drew ?_ | refine Below.setCell ?_ (by first | exact HGE.out | omega) _ | refine Below.alloc ?_ ?_ _))) (fun hHeld => ?_)
                      clear hK K
                      (try simp only [Act.put, List.getElem_toArray, List.getElem_cons_zero, List.getElem_cons_succ, List.setIfInBounds_toArray, List.set_cons_zero, List.set_cons_succ])
                      refine wpAnyH_ready (rs := [27]) (by kernel_rfl) (by simp) ?_
                      refine AllReadyH.cons (o := _) rfl (fun K hK => ?_) AllReadyH.nil
                      go_simp
                      (go_at_call 35; refine (valuesOf_any (View.old stays_v HZV.out (by repeat' (first | assumption | exact Below.refl _ _ | exact Below.size (by assumption) | exact Nat.le_refl _ | refine Below.drew ?_ | refine Below.alloc ?_ ?_ _))) hzl).mono ?_; rintro e w8 ⟨v8, rfl, HO8, HB8⟩; obtain ⟨a8, n8, c8, rfl⟩ : ∃ xa n xc, v8 = .slice xa n xc := (by obtain ⟨xa, xc, e⟩ := HO8.out.shape; exact ⟨xa, _, xc, e⟩); have hBr8 : Below wr.heap.size wr w8 := (by first | exact (Below.drew (Below.refl _ _)).trans HB8.out | exact HB8.out); have hB8 : Below w3.heap.size w3 w8 := hB0.trans (hBr8.mono hB0.size); have hg8 := (hBr8.block g hlg).trans HGk.out; have hc8 := blk_cell hg8 (j := 21) rfl; have hlg8 := block_lt hg8; have hs8 := hBr8.size; have HK8 : Hid (Kept (fun z => z = g) w7 w8) := HKk.out.new hBr8)
                      (try go_wp2_with fail)
                      refine hK.out _ _ (HKW.out _ (by repeat' (first | assumption | exact Below.refl _ _ | exact Below.size (by assumption) | exact Nat.le_refl _ | refine Below.drew ?_ | refine Below.setCell ?_ (by first | exact HGE.out | omega) _ | refine Below.alloc ?_ ?_ _))) (fun hHeld => ?_)
                      clear hK K
                      (try simp only [Act.put, List.getElem_toArray, List.getElem_cons_zero, List.getElem_cons_succ, List.setIfInBounds_toArray, List.set_cons_zero, List.set_cons_succ])
                      refine wpAnyH_ready (rs := [28]) (by kernel_rfl) (by simp) ?_
                      refine AllReadyH.cons (o := _) rfl (fun K hK => ?_) AllReadyH.nil
                      go_simp
                      refine hK.out _ _ (HKW.out _ (by repeat' (first | assumption | exact Below.refl _ _ | exact Below.size (by assumption) | exact Nat.le_refl _ | refine Below.drew ?_ | refine Below.setCell ?_ (by first | exact HGE.out | omega) _ | refine Below.alloc ?_ ?_ _))) (fun hHeld => ?_)
                      clear hK K
                      (try simp only [Act.put, List.getElem_toArray, List.getElem_cons_zero, List.getElem_cons_succ, List.setIfInBounds_toArray, List.set_cons_zero, List.set_cons_succ])
                      refine wpAnyH_ready (rs := [29]) (by kernel_rfl) (by simp) ?_
                      refine AllReadyH.cons (o := _) rfl (fun K hK => ?_) AllReadyH.nil
                      go_simp
                      refine hK.out _ _ (HKW.out _ (by repeat' (first | assumption | exact Below.refl _ _ | exact Below.size (by assumption) | exact Nat.le_refl _ | refine Below.drew ?_ | refine Below.setCell ?_ (by first | exact HGE.out | omega) _ | refine Below.alloc ?_ ?_ _))) (fun hHeld => ?_)
                      clear hK K
                      (try simp only [Act.put, List.getElem_toArray, List.getElem_cons_zero, List.getElem_cons_succ, List.setIfInBounds_toArray, List.set_cons_zero, List.set_cons_succ])
                      refine wpAnyH_ready (rs := [30]) (by kernel_rfl) (by simp) ?_
                      refine AllReadyH.cons (o := _) rfl (fun K hK => ?_) AllReadyH.nil
                      (refine step_appendG (by rfl) _ _ _ (by rfl) stays_gm elem_rs (F := fun z => n3 ≤ z) (v := v) (xs := (ss.take k)) (by rfl) ((HOk.out.old stays_gm hBr8).old stays_gm (by repeat' (first | exact Below.refl _ _ | exact below_one _ _ | refine Below.drew ?_))) (news := [.bool x1, .string x2, .string x3, .slice a8 n8 c8]) (by rfl) (heap_alloc_new w8 _) (by rfl) (by simp [Value.oneCell']) ((x1, x2, x3, x4)) (⟨rfl, rfl, rfl, (HO8.out.kept stays_gvr (fun z hz hf => (below_one w8 _).block z hz) (below_one w8 _).size (fun z hz hf => ⟨by simp; omega, fun e => absurd (HOk.out.lt z e).2 (Nat.not_lt.2 hf), Nat.le_trans (by show n3 ≤ wr.heap.size; omega) hf⟩))⟩) (by show n3 ≤ _; simp; omega) (by rw [hkx]; unfold maxLen; omega) (by rw [hkx]; omega) ?_; intro v4 w9 ho4 hK4 hv4; have hB9 : Below w3.heap.size w3 w9 := Below.trans (by repeat' (first | assumption | exact Below.refl _ _ | exact Below.size (by assumption) | exact Nat.le_refl _ | refine Below.drew ?_ | refine Below.setCell ?_ (by first | exact HGE.out | omega) _ | refine Below.alloc ?_ ?_ _)) (hK4.below (by have := hB8.size; simp; omega) (fun z hz e => by have := hvk z e; omega)); have HG9 : Hid (w9.heap[g]? = some (.cells #[.int .u8 op, .slice oa9 ol9 oc9, .string tx, .string id, .int .u16 co, .slice a6 vs.length c6, .slice na3 ns.length nc3, .bool sk, .bool pg, .int .i32 pn, .bool rs, .int .i64 sk1, .string sb, .bool se, .int .u16 sr, .bool ti, .int .i64 tm, .slice ea9 el9 ec9, .int .i64 tk, .string tb, .int .u8 kd, v] 48 (0, 0))) := (hK4.block g (by simp; omega) (fun e => absurd (hvk g e) (by omega))).trans ((Below.block (by first | exact Below.drew (below_one w8 _) | exact below_one w8 _) g hlg8).trans hg8); have hc9 := blk_cell HG9.out (j := 21) rfl; have hf9 := blk_free HG9.out 21; have hl9 := block_lt HG9.out; have HK9 : Hid (Kept (fun z => z = g) w7 w9) := (HK8.out.new (by repeat' (first | exact below_one _ _ | refine Below.drew ?_))).trans hK4 (fun i hi e => absurd (hvk i e) (by omega)); obtain ⟨xa4, n4, xc4, rfl⟩ : ∃ xa n xc, v4 = .slice xa n xc := (by obtain ⟨xa, xc, e⟩ := ho4.shape; exact ⟨xa, _, xc, e⟩); have HO9 : Hid (OwnG 82 4 GM w9 (fun z => n3 ≤ z) (.slice xa4 n4 xc4) ((ss.take (k + 1)))) := (by rw [HTK.out]; exact ho4); clear ho4)
                      refine hK.out _ _ (HKW.out _ (by repeat' (first | assumption | exact Below.refl _ _ | exact Below.size (by assumption) | exact Nat.le_refl _ | refine Below.drew ?_ | refine Below.setCell ?_ (by first | exact HGE.out | omega) _ | refine Below.alloc ?_ ?_ _))) (fun hHeld => ?_)
                      clear hK K
                      (try simp only [Act.put, List.getElem_toArray, List.getElem_cons_zero, List.getElem_cons_succ, List.setIfInBounds_toArray, List.set_cons_zero, List.set_cons_succ])
                      refine wpAnyH_ready (rs := [31]) (by kernel_rfl) (by simp) ?_
                      refine AllReadyH.cons (o := _) rfl (fun K hK => ?_) AllReadyH.nil
                      go_simp
                      refine hK.out _ _ (HKW.out _ (by repeat' (first | assumption | exact Below.refl _ _ | exact Below.size (by assumption) | exact Nat.le_refl _ | refine Below.drew ?_ | refine Below.setCell ?_ (by first | exact HGE.out | omega) _ | refine Below.alloc ?_ ?_ _))) (fun hHeld => ?_)
                      clear hK K
                      (try simp only [Act.put, List.getElem_toArray, List.getElem_cons_zero, List.getElem_cons_succ, List.setIfInBounds_toArray, List.set_cons_zero, List.set_cons_succ])
                      refine wpAnyH_ready (rs := [32]) (by kernel_rfl) (by simp) ?_
                      refine AllReadyH.cons (o := _) rfl (fun K hK => ?_) AllReadyH.nil
                      go_simp
                      refine hK.out _ _ (HKW.out _ (by repeat' (first | assumption | exact Below.refl _ _ | exact Below.size (by assumption) | exact Nat.le_refl _ | refine Below.drew ?_ | refine Below.setCell ?_ (by first | exact HGE.out | omega) _ | refine Below.alloc ?_ ?_ _))) (fun hHeld => ?_)
                      clear hK K
                      (try simp only [Act.put, List.getElem_toArray, List.getElem_cons_zero, List.getElem_cons_succ, List.setIfInBounds_toArray, List.set_cons_zero, List.set_cons_succ])
                      refine wpAnyH_done (by kernel_rfl) ?_ _
                      refine NoPanic.normal ?_
                      have HG6 : Hid ((w9.setCell ⟨g, 21, none⟩ (.slice xa4 n4 xc4)).heap[g]? = some (.cells #[.int .u8 op, .slice oa9 ol9 oc9, .string tx, .string id, .int .u16 co, .slice a6 vs.length c6, .slice na3 ns.length nc3, .bool sk, .bool pg, .int .i32 pn, .bool rs, .int .i64 sk1, .string sb, .bool se, .int .u16 sr, .bool ti, .int .i64 tm, .slice ea9 el9 ec9, .int .i64 tk, .string tb, .int .u8 kd, .slice xa4 n4 xc4] 48 (0, 0))) := blk_set HG9.out 21 _
                      have HO6 : Hid (OwnG 82 4 GM (w9.setCell ⟨g, 21, none⟩ (.slice xa4 n4 xc4)) (fun z => n3 ≤ z) (.slice xa4 n4 xc4) ((ss.take (k + 1)))) := HO9.out.kept stays_gm (fun z hz hf => (one_kept w9 g 21 _).block z hz (fun e => by subst e; exact absurd (Nat.lt_of_lt_of_le hn1 hf) (Nat.lt_irrefl _))) (one_kept w9 g 21 _).size (fun z hz hf => hf)
                      have HB6 : Hid (Below w3.heap.size w3 (w9.setCell ⟨g, 21, none⟩ (.slice xa4 n4 xc4))) := hB9.setCell HGE.out _
                      have HK6 : Hid (Kept (fun z => z = g) w7 (w9.setCell ⟨g, 21, none⟩ (.slice xa4 n4 xc4))) := HK9.out.trans (one_kept w9 g 21 _) (fun _ _ e => e)
                      clear hc9 hf9 hK4 hv4 HG9 HO9 HK9
                      go_wp2_with fail
                      go_roundw
                      case rel => exact ⟨k + 1, _, by omega, by go_num, HG6, HO6, HB6, HK6⟩
                      case measure => simp [intOf]; omega
                    · go_simp
                      (go_at_call 35; refine (valuesOf_any (View.old stays_v HZV.out (by repeat' (first | assumption | exact Below.refl _ _ | exact Below.size (by assumption) | exact Nat.le_refl _ | refine Below.drew ?_ | refine Below.alloc ?_ ?_ _))) hzl).mono ?_; rintro e w8 ⟨v8, rfl, HO8, HB8⟩; obtain ⟨a8, n8, c8, rfl⟩ : ∃ xa n xc, v8 = .slice xa n xc := (by obtain ⟨xa, xc, e⟩ := HO8.out.shape; exact ⟨xa, _, xc, e⟩); have hBr8 : Below wr.heap.size wr w8 := (by first | exact (Below.drew (Below.refl _ _)).trans HB8.out | exact HB8.out); have hB8 : Below w3.heap.size w3 w8 := hB0.trans (hBr8.mono hB0.size); have hg8 := (hBr8.block g hlg).trans HGk.out; have hc8 := blk_cell hg8 (j := 21) rfl; have hlg8 := block_lt hg8; have hs8 := hBr8.size; have HK8 : Hid (Kept (fun z => z = g) w7 w8) := HKk.out.new hBr8)
                      (try go_wp2_with fail)
                      refine hK.out _ _ (HKW.out _ (by repeat' (first | assumption | exact Below.refl _ _ | exact Below.size (by assumption) | exact Nat.le_refl _ | refine Below.drew ?_ | refine Below.setCell ?_ (by first | exact HGE.out | omega) _ | refine Below.alloc ?_ ?_ _))) (fun hHeld => ?_)
                      clear hK K
                      (try simp only [Act.put, List.getElem_toArray, List.getElem_cons_zero, List.getElem_cons_succ, List.setIfInBounds_toArray, List.set_cons_zero, List.set_cons_succ])
                      refine wpAnyH_take (i := 28) (oi := _) (v := ?v48) rfl (by kernel_rfl) (by kernel_rfl) (by kernel_rfl) (fun _ _ _ h => h) (Or.inl ⟨by rfl, ?h48⟩) (by assumption) ?r48
                      case h48 =>
                        intro w hSw
                        try dsimp only at hSw
                        go_simp
                        all_goals with_reducible rfl
                      (try simp only [Act.put, List.getElem_toArray, List.getElem_cons_zero, List.getElem_cons_succ, List.setIfInBounds_toArray, List.set_cons_zero, List.set_cons_succ])
                      refine wpAnyH_ready (rs := [1, 29]) (by kernel_rfl) (by simp) ?_
                      refine AllReadyH.cons (o := _) rfl (fun K hK => ?_) (AllReadyH.cons (o := _) rfl (fun K hK => ?_) AllReadyH.nil)
                      · go_simp
                        refine hK.out _ _ (HKW.out _ (by repeat' (first | assumption | exact Below.refl _ _ | exact Below.size (by assumption) | exact Nat.le_refl _ | refine Below.drew ?_ | refine Below.setCell ?_ (by first | exact HGE.out | omega) _ | refine Below.alloc ?_ ?_ _))) (fun hHeld => ?_)
                        clear hK K
                        (try simp only [Act.put, List.getElem_toArray, List.getElem_cons_zero, List.getElem_cons_succ, List.setIfInBounds_toArray, List.set_cons_zero, List.set_cons_succ])
                        refine wpAnyH_ready (rs := [29]) (by kernel_rfl) (by simp) ?_
                        refine AllReadyH.cons (o := _) rfl (fun K hK => ?_) AllReadyH.nil
                        go_simp
                        refine hK.out _ _ (HKW.out _ (by repeat' (first | assumption | exact Below.refl _ _ | exact Below.size (by assumption) | exact Nat.le_refl _ | refine Below.drew ?_ | refine Below.setCell ?_ (by first | exact HGE.out | omega) _ | refine Below.alloc ?_ ?_ _))) (fun hHeld => ?_)
                        clear hK K
                        (try simp only [Act.put, List.getElem_toArray, List.getElem_cons_zero, List.getElem_cons_succ, List.setIfInBounds_toArray, List.set_cons_zero, List.set_cons_succ])
                        refine wpAnyH_ready (rs := [30]) (by kernel_rfl) (by simp) ?_
                        refine AllReadyH.cons (o := _) rfl (fun K hK => ?_) AllReadyH.nil
                        (refine step_appendG (by rfl) _ _ _ (by rfl) stays_gm elem_rs (F := fun z => n3 ≤ z) (v := v) (xs := (ss.take k)) (by rfl) ((HOk.out.old stays_gm hBr8).old stays_gm (by repeat' (first | exact Below.refl _ _ | exact below_one _ _ | refine Below.drew ?_))) (news := [.bool x1, .string x2, .string x3, .slice a8 n8 c8]) (by rfl) (heap_alloc_new w8 _) (by rfl) (by simp [Value.oneCell']) ((x1, x2, x3, x4)) (⟨rfl, rfl, rfl, (HO8.out.kept stays_gvr (fun z hz hf => (below_one w8 _).block z hz) (below_one w8 _).size (fun z hz hf => ⟨by simp; omega, fun e => absurd (HOk.out.lt z e).2 (Nat.not_lt.2 hf), Nat.le_trans (by show n3 ≤ wr.heap.size; omega) hf⟩))⟩) (by show n3 ≤ _; simp; omega) (by rw [hkx]; unfold maxLen; omega) (by rw [hkx]; omega) ?_; intro v4 w9 ho4 hK4 hv4; have hB9 : Below w3.heap.size w3 w9 := Below.trans (by repeat' (first | assumption | exact Below.refl _ _ | exact Below.size (by assumption) | exact Nat.le_refl _ | refine Below.drew ?_ | refine Below.setCell ?_ (by first | exact HGE.out | omega) _ | refine Below.alloc ?_ ?_ _)) (hK4.below (by have := hB8.size; simp; omega) (fun z hz e => by have := hvk z e; omega)); have HG9 : Hid (w9.heap[g]? = some (.cells #[.int .u8 op, .slice oa9 ol9 oc9, .string tx, .string id, .int .u16 co, .slice a6 vs.length c6, .slice na3 ns.length nc3, .bool sk, .bool pg, .int .i32 pn, .bool rs, .int .i64 sk1, .string sb, .bool se, .int .u16 sr, .bool ti, .int .i64 tm, .slice ea9 el9 ec9, .int .i64 tk, .string tb, .int .u8 kd, v] 48 (0, 0))) := (hK4.block g (by simp; omega) (fun e => absurd (hvk g e) (by omega))).trans ((Below.block (by first | exact Below.drew (below_one w8 _) | exact below_one w8 _) g hlg8).trans hg8); have hc9 := blk_cell HG9.out (j := 21) rfl; have hf9 := blk_free HG9.out 21; have hl9 := block_lt HG9.out; have HK9 : Hid (Kept (fun z => z = g) w7 w9) := (HK8.out.new (by repeat' (first | exact below_one _ _ | refine Below.drew ?_))).trans hK4 (fun i hi e => absurd (hvk i e) (by omega)); obtain ⟨xa4, n4, xc4, rfl⟩ : ∃ xa n xc, v4 = .slice xa n xc := (by obtain ⟨xa, xc, e⟩ := ho4.shape; exact ⟨xa, _, xc, e⟩); have HO9 : Hid (OwnG 82 4 GM w9 (fun z => n3 ≤ z) (.slice xa4 n4 xc4) ((ss.take (k + 1)))) := (by rw [HTK.out]; exact ho4); clear ho4)
                        refine hK.out _ _ (HKW.out _ (by repeat' (first | assumption | exact Below.refl _ _ | exact Below.size (by assumption) | exact Nat.le_refl _ | refine Below.drew ?_ | refine Below.setCell ?_ (by first | exact HGE.out | omega) _ | refine Below.alloc ?_ ?_ _))) (fun hHeld => ?_)
                        clear hK K
                        (try simp only [Act.put, List.getElem_toArray, List.getElem_cons_zero, List.getElem_cons_succ, List.setIfInBounds_toArray, List.set_cons_zero, List.set_cons_succ])
                        refine wpAnyH_ready (rs := [31]) (by kernel_rfl) (by simp) ?_
                        refine AllReadyH.cons (o := _) rfl (fun K hK => ?_) AllReadyH.nil
                        go_simp
                        refine hK.out _ _ (HKW.out _ (by repeat' (first | assumption | exact Below.refl _ _ | exact Below.size (by assumption) | exact Nat.le_refl _ | refine Below.drew ?_ | refine Below.setCell ?_ (by first | exact HGE.out | omega) _ | refine Below.alloc ?_ ?_ _))) (fun hHeld => ?_)
                        clear hK K
                        (try simp only [Act.put, List.getElem_toArray, List.getElem_cons_zero, List.getElem_cons_succ, List.setIfInBounds_toArray, List.set_cons_zero, List.set_cons_succ])
                        refine wpAnyH_ready (rs := [32]) (by kernel_rfl) (by simp) ?_
                        refine AllReadyH.cons (o := _) rfl (fun K hK => ?_) AllReadyH.nil
                        go_simp
                        refine hK.out _ _ (HKW.out _ (by repeat' (first | assumption | exact Below.refl _ _ | exact Below.size (by assumption) | exact Nat.le_refl _ | refine Below.drew ?_ | refine Below.setCell ?_ (by first | exact HGE.out | omega) _ | refine Below.alloc ?_ ?_ _))) (fun hHeld => ?_)
                        clear hK K
                        (try simp only [Act.put, List.getElem_toArray, List.getElem_cons_zero, List.getElem_cons_succ, List.setIfInBounds_toArray, List.set_cons_zero, List.set_cons_succ])
                        refine wpAnyH_done (by kernel_rfl) ?_ _
                        refine NoPanic.normal ?_
                        have HG6 : Hid ((w9.setCell ⟨g, 21, none⟩ (.slice xa4 n4 xc4)).heap[g]? = some (.cells #[.int .u8 op, .slice oa9 ol9 oc9, .string tx, .string id, .int .u16 co, .slice a6 vs.length c6, .slice na3 ns.length nc3, .bool sk, .bool pg, .int .i32 pn, .bool rs, .int .i64 sk1, .string sb, .bool se, .int .u16 sr, .bool ti, .int .i64 tm, .slice ea9 el9 ec9, .int .i64 tk, .string tb, .int .u8 kd, .slice xa4 n4 xc4] 48 (0, 0))) := blk_set HG9.out 21 _
                        have HO6 : Hid (OwnG 82 4 GM (w9.setCell ⟨g, 21, none⟩ (.slice xa4 n4 xc4)) (fun z => n3 ≤ z) (.slice xa4 n4 xc4) ((ss.take (k + 1)))) := HO9.out.kept stays_gm (fun z hz hf => (one_kept w9 g 21 _).block z hz (fun e => by subst e; exact absurd (Nat.lt_of_lt_of_le hn1 hf) (Nat.lt_irrefl _))) (one_kept w9 g 21 _).size (fun z hz hf => hf)
                        have HB6 : Hid (Below w3.heap.size w3 (w9.setCell ⟨g, 21, none⟩ (.slice xa4 n4 xc4))) := hB9.setCell HGE.out _
                        have HK6 : Hid (Kept (fun z => z = g) w7 (w9.setCell ⟨g, 21, none⟩ (.slice xa4 n4 xc4))) := HK9.out.trans (one_kept w9 g 21 _) (fun _ _ e => e)
                        clear hc9 hf9 hK4 hv4 HG9 HO9 HK9
                        go_wp2_with fail
                        go_roundw
                        case rel => exact ⟨k + 1, _, by omega, by go_num, HG6, HO6, HB6, HK6⟩
                        case measure => simp [intOf]; omega
                      · go_simp
                        refine hK.out _ _ (HKW.out _ (by repeat' (first | assumption | exact Below.refl _ _ | exact Below.size (by assumption) | exact Nat.le_refl _ | refine Below.drew ?_ | refine Below.setCell ?_ (by first | exact HGE.out | omega) _ | refine Below.alloc ?_ ?_ _))) (fun hHeld => ?_)
                        clear hK K
                        (try simp only [Act.put, List.getElem_toArray, List.getElem_cons_zero, List.getElem_cons_succ, List.setIfInBounds_toArray, List.set_cons_zero, List.set_cons_succ])
                        refine wpAnyH_ready (rs := [1]) (by kernel_rfl) (by simp) ?_
                        refine AllReadyH.cons (o := _) rfl (fun K hK => ?_) AllReadyH.nil
                        go_simp
                        refine hK.out _ _ (HKW.out _ (by repeat' (first | assumption | exact Below.refl _ _ | exact Below.size (by assumption) | exact Nat.le_refl _ | refine Below.drew ?_ | refine Below.setCell ?_ (by first | exact HGE.out | omega) _ | refine Below.alloc ?_ ?_ _))) (fun hHeld => ?_)
                        clear hK K
                        (try simp only [Act.put, List.getElem_toArray, List.getElem_cons_zero, List.getElem_cons_succ, List.setIfInBounds_toArray, List.set_cons_zero, List.set_cons_succ])
                        refine wpAnyH_ready (rs := [30]) (by kernel_rfl) (by simp) ?_
                        refine AllReadyH.cons (o := _) rfl (fun K hK => ?_) AllReadyH.nil
                        (refine step_appendG (by rfl) _ _ _ (by rfl) stays_gm elem_rs (F := fun z => n3 ≤ z) (v := v) (xs := (ss.take k)) (by rfl) ((HOk.out.old stays_gm hBr8).old stays_gm (by repeat' (first | exact Below.refl _ _ | exact below_one _ _ | refine Below.drew ?_))) (news := [.bool x1, .string x2, .string x3, .slice a8 n8 c8]) (by rfl) (heap_alloc_new w8 _) (by rfl) (by simp [Value.oneCell']) ((x1, x2, x3, x4)) (⟨rfl, rfl, rfl, (HO8.out.kept stays_gvr (fun z hz hf => (below_one w8 _).block z hz) (below_one w8 _).size (fun z hz hf => ⟨by simp; omega, fun e => absurd (HOk.out.lt z e).2 (Nat.not_lt.2 hf), Nat.le_trans (by show n3 ≤ wr.heap.size; omega) hf⟩))⟩) (by show n3 ≤ _; simp; omega) (by rw [hkx]; unfold maxLen; omega) (by rw [hkx]; omega) ?_; intro v4 w9 ho4 hK4 hv4; have hB9 : Below w3.heap.size w3 w9 := Below.trans (by repeat' (first | assumption | exact Below.refl _ _ | exact Below.size (by assumption) | exact Nat.le_refl _ | refine Below.drew ?_ | refine Below.setCell ?_ (by first | exact HGE.out | omega) _ | refine Below.alloc ?_ ?_ _)) (hK4.below (by have := hB8.size; simp; omega) (fun z hz e => by have := hvk z e; omega)); have HG9 : Hid (w9.heap[g]? = some (.cells #[.int .u8 op, .slice oa9 ol9 oc9, .string tx, .string id, .int .u16 co, .slice a6 vs.length c6, .slice na3 ns.length nc3, .bool sk, .bool pg, .int .i32 pn, .bool rs, .int .i64 sk1, .string sb, .bool se, .int .u16 sr, .bool ti, .int .i64 tm, .slice ea9 el9 ec9, .int .i64 tk, .string tb, .int .u8 kd, v] 48 (0, 0))) := (hK4.block g (by simp; omega) (fun e => absurd (hvk g e) (by omega))).trans ((Below.block (by first | exact Below.drew (below_one w8 _) | exact below_one w8 _) g hlg8).trans hg8); have hc9 := blk_cell HG9.out (j := 21) rfl; have hf9 := blk_free HG9.out 21; have hl9 := block_lt HG9.out; have HK9 : Hid (Kept (fun z => z = g) w7 w9) := (HK8.out.new (by repeat' (first | exact below_one _ _ | refine Below.drew ?_))).trans hK4 (fun i hi e => absurd (hvk i e) (by omega)); obtain ⟨xa4, n4, xc4, rfl⟩ : ∃ xa n xc, v4 = .slice xa n xc := (by obtain ⟨xa, xc, e⟩ := ho4.shape; exact ⟨xa, _, xc, e⟩); have HO9 : Hid (OwnG 82 4 GM w9 (fun z => n3 ≤ z) (.slice xa4 n4 xc4) ((ss.take (k + 1)))) := (by rw [HTK.out]; exact ho4); clear ho4)
                        refine hK.out _ _ (HKW.out _ (by repeat' (first | assumption | exact Below.refl _ _ | exact Below.size (by assumption) | exact Nat.le_refl _ | refine Below.drew ?_ | refine Below.setCell ?_ (by first | exact HGE.out | omega) _ | refine Below.alloc ?_ ?_ _))) (fun hHeld => ?_)
                        clear hK K
                        (try simp only [Act.put, List.getElem_toArray, List.getElem_cons_zero, List.getElem_cons_succ, List.setIfInBounds_toArray, List.set_cons_zero, List.set_cons_succ])
                        refine wpAnyH_ready (rs := [31]) (by kernel_rfl) (by simp) ?_
                        refine AllReadyH.cons (o := _) rfl (fun K hK => ?_) AllReadyH.nil
                        go_simp
                        refine hK.out _ _ (HKW.out _ (by repeat' (first | assumption | exact Below.refl _ _ | exact Below.size (by assumption) | exact Nat.le_refl _ | refine Below.drew ?_ | refine Below.setCell ?_ (by first | exact HGE.out | omega) _ | refine Below.alloc ?_ ?_ _))) (fun hHeld => ?_)
                        clear hK K
                        (try simp only [Act.put, List.getElem_toArray, List.getElem_cons_zero, List.getElem_cons_succ, List.setIfInBounds_toArray, List.set_cons_zero, List.set_cons_succ])
                        refine wpAnyH_ready (rs := [32]) (by kernel_rfl) (by simp) ?_
                        refine AllReadyH.cons (o := _) rfl (fun K hK => ?_) AllReadyH.nil
                        go_simp
                        refine hK.out _ _ (HKW.out _ (by repeat' (first | assumption | exact Below.refl _ _ | exact Below.size (by assumption) | exact Nat.le_refl _ | refine Below.drew ?_ | refine Below.setCell ?_ (by first | exact HGE.out | omega) _ | refine Below.alloc ?_ ?_ _))) (fun hHeld => ?_)
                        clear hK K
                        (try simp only [Act.put, List.getElem_toArray, List.getElem_cons_zero, List.getElem_cons_succ, List.setIfInBounds_toArray, List.set_cons_zero, List.set_cons_succ])
                        refine wpAnyH_done (by kernel_rfl) ?_ _
                        refine NoPanic.normal ?_
                        have HG6 : Hid ((w9.setCell ⟨g, 21, none⟩ (.slice xa4 n4 xc4)).heap[g]? = some (.cells #[.int .u8 op, .slice oa9 ol9 oc9, .string tx, .string id, .int .u16 co, .slice a6 vs.length c6, .slice na3 ns.length nc3, .bool sk, .bool pg, .int .i32 pn, .bool rs, .int .i64 sk1, .string sb, .bool se, .int .u16 sr, .bool ti, .int .i64 tm, .slice ea9 el9 ec9, .int .i64 tk, .string tb, .int .u8 kd, .slice xa4 n4 xc4] 48 (0, 0))) := blk_set HG9.out 21 _
                        have HO6 : Hid (OwnG 82 4 GM (w9.setCell ⟨g, 21, none⟩ (.slice xa4 n4 xc4)) (fun z => n3 ≤ z) (.slice xa4 n4 xc4) ((ss.take (k + 1)))) := HO9.out.kept stays_gm (fun z hz hf => (one_kept w9 g 21 _).block z hz (fun e => by subst e; exact absurd (Nat.lt_of_lt_of_le hn1 hf) (Nat.lt_irrefl _))) (one_kept w9 g 21 _).size (fun z hz hf => hf)
                        have HB6 : Hid (Below w3.heap.size w3 (w9.setCell ⟨g, 21, none⟩ (.slice xa4 n4 xc4))) := hB9.setCell HGE.out _
                        have HK6 : Hid (Kept (fun z => z = g) w7 (w9.setCell ⟨g, 21, none⟩ (.slice xa4 n4 xc4))) := HK9.out.trans (one_kept w9 g 21 _) (fun _ _ e => e)
                        clear hc9 hf9 hK4 hv4 HG9 HO9 HK9
                        go_wp2_with fail
                        go_roundw
                        case rel => exact ⟨k + 1, _, by omega, by go_num, HG6, HO6, HB6, HK6⟩
                        case measure => simp [intOf]; omega
                · obtain ⟨w8, hw3⟩ : ∃ x, x = wr := ⟨_, rfl⟩
                  subst hw3
                  have HOe3 : Hid (OwnG 82 4 GM w8 (fun z => n3 ≤ z) v (ss)) := by
                    have h := HOk.out
                    rw [List.take_of_length_le (by have := HLA.out.1; omega)] at h
                    exact h
                  clear HOk
                  obtain ⟨aa9, al9, ac9, rfl⟩ : ∃ xa n xc, v = .slice xa n xc := by obtain ⟨xa, xc, e⟩ := HOe3.out.shape; exact ⟨xa, _, xc, e⟩
                  have HGe3 : Hid (w8.heap[g]? = some (.cells #[.int .u8 op, .slice oa9 ol9 oc9, .string tx, .string id, .int .u16 co, .slice a6 vs.length c6, .slice na3 ns.length nc3, .bool sk, .bool pg, .int .i32 pn, .bool rs, .int .i64 sk1, .string sb, .bool se, .int .u16 sr, .bool ti, .int .i64 tm, .slice ea9 el9 ec9, .int .i64 tk, .string tb, .int .u8 kd, .slice aa9 al9 ac9] 48 (0, 0))) := HGk
                  have HBe3 : Hid (Below w3.heap.size w3 w8) := HBk
                  have HKe3 : Hid (Kept (fun z => z = g) w7 w8) := HKk
                  clear HGk HBk HKk
                  have HXE : Hid (w8.heap[q + 1]? = some (.cells #[.int .u8 0, .slice none 0 0, .string ⟨#[]⟩, .string ⟨#[]⟩, .int .u16 0, .slice none 0 0, .slice none 0 0, .bool false, .bool false, .int .i32 0, .bool false, .int .i64 0, .string ⟨#[]⟩, .bool false, .int .u16 0, .bool false, .int .i64 0, .slice none 0 0, .int .i64 0, .string ⟨#[]⟩, .int .u8 0, .slice none 0 0] 48 (0, 0))) := (HBe3.out.block (q + 1) (block_lt HX3.out)).trans HX3.out
                  go_wp2_with (first | (refine wpList_load_row rfl 48 (.tmp 5) rfl rfl HGe3.out Try.isz48 Try.agg48 ?_) | (refine wpList_store_row rfl 48 (.tmp 2) (.tmp 137) rfl rfl rfl Try.isz48 (by simp [Value.oneCell']) HXE.out rfl ?_; intro wF hqF hKF hsF))
                  have hq3 := block_lt HX3.out
                  have hwq := HQ.out
                  have hB3 := HB3.out.size
                  have hBe1 := HBe1.out.size
                  have hBe2 := HBe2.out.size
                  have hBe3 := HBe3.out.size
                  have hg3 := HGE.out
                  have hL1 := HL1.out
                  have hL2 := HL2.out
                  have hL3 := HL3.out
                  have hN1 := Hn1.out
                  have hN2 := Hn2.out
                  have hN3 := Hn3.out
                  have KC : Kept (fun z => z = g ∨ z = q + 1) w8 wF := (Kept.refl (fun z => z = g ∨ z = q + 1) w8).trans hKF (fun z hz e => Or.inr e)
                  have KB : Kept (fun z => z = g ∨ z = q + 1) w7 wF := ((Kept.refl (fun z => z = g ∨ z = q + 1) w7).trans HKe3.out (fun z hz e => Or.inl e)).trans KC (fun _ _ e => e)
                  have KA : Kept (fun z => z = g ∨ z = q + 1) w6 wF := ((Kept.refl (fun z => z = g ∨ z = q + 1) w6).trans HKe2.out (fun z hz e => Or.inl e)).trans KB (fun _ _ e => e)
                  have K5 : Kept (fun z => z = g ∨ z = q + 1) w5 wF := ((Kept.refl (fun z => z = g ∨ z = q + 1) w5).trans HKe1.out (fun z hz e => Or.inl e)).trans KA (fun _ _ e => e)
                  have K3 : Kept (fun z => z = g ∨ z = q + 1) w3 wF := (kept_of HB5.out).trans K5 (fun _ _ e => e)
                  obtain ⟨_, _, he1, HVo⟩ := ownG_i (HOe1.out.kept stays_gi (fun z hz hf => KA.block z hz (fun e => by rcases e with rfl | rfl <;> omega)) KA.size (fun _ _ hf => hf))
                  obtain ⟨_, _, he2, HVe⟩ := ownG_i (HOe2.out.kept stays_gi (fun z hz hf => KB.block z hz (fun e => by rcases e with rfl | rfl <;> omega)) KB.size (fun _ _ hf => hf))
                  obtain ⟨_, _, he3, HVa⟩ := ownG_m (HOe3.out.kept stays_gm (fun z hz hf => KC.block z hz (fun e => by rcases e with rfl | rfl <;> omega)) KC.size (fun _ _ hf => hf))
                  obtain ⟨_, _, he4, HVv⟩ := ownG_vr (HV5.out.kept stays_gvr (fun z hz hf => K5.block z hz (fun e => by rcases e with rfl | rfl; exact hf.2 rfl; have := hf.1; omega)) K5.size (fun _ _ hf => hf))
                  obtain ⟨_, _, he5, HVn⟩ := ownG_names (HON3.out.kept stays_gs (fun z hz hf => K3.block z hz (fun e => by rcases e with rfl | rfl <;> omega)) K3.size (fun _ _ hf => hf))
                  refine bodyPost_ret (v := .agg #[.int .u8 op, .slice oa9 ol9 oc9, .string tx, .string id, .int .u16 co, .slice a6 vs.length c6, .slice na3 ns.length nc3, .bool sk, .bool pg, .int .i32 pn, .bool rs, .int .i64 sk1, .string sb, .bool se, .int .u16 sr, .bool ti, .int .i64 tm, .slice ea9 el9 ec9, .int .i64 tk, .string tb, .int .u8 kd, .slice aa9 al9 ac9]) (results_cell Try.results12 rfl hqF Try.isz48 Try.agg48) rfl ?_
                  cases he1
                  cases he2
                  cases he3
                  cases he4
                  cases he5
                  exact ⟨_, _, _, _, _, _, _, _, _, _, _, _, _, _, _, rfl, ⟨HR3.out.op, HVo, HVv, HVn, HR3.out.run.cons, HR3.out.run.serial, HR3.out.run.page, HR3.out.run.time, HVe, HR3.out.kind, HVa⟩, (HB3.out.trans (HBe3.out.mono hB3)).trans (hKF.below (B := w.heap.size) (by omega) (fun z hz e => by omega))⟩
end Go.Proofs.Ytcecdklgiocbaaa
