/-
  The contract of request.Get: queries, what was prepared, batches, other opcodes; all of them.
-/
import Derived.Test.YtcecdklgiocbaaaGetB
namespace Go.Proofs.Ytcecdklgiocbaaa
open Go.RowKit
set_option maxRecDepth 100000
set_option linter.unusedVariables false
set_option linter.unusedSimpArgs false

set_option maxHeartbeats 4000000 in
theorem get_7 {w : World} {ba : Option Addr} {bl bc : Nat} {zs : List Int} (h : IsB w ba bl bc zs) (hsm : bl ≤ 140737488351232) {E : Int} (hE : E = getE 7 zs) :
    Calls Try.prog 13 #[.int .u8 7, .slice ba bl bc] w fun e w' => ∃ (opr : Int) (oa : Option Addr) (ol oc : Nat) (os : List (ByteArray × ByteArray)) (tx : ByteArray) (ia : Option Addr) (il ic : Nat) (id : ByteArray) (co : Int) (a : Option Addr) (l c : Nat) (vs : List Vl) (na : Option Addr) (nl nc : Nat) (ns : List ByteArray) (b2 b4 : Bool) (pn : Int) (b8 : Bool) (sk1 : Int) (sb : ByteArray) (sa : Option Addr) (sl sc : Nat) (b16 : Bool) (sr : Int) (b32 : Bool) (tm : Int) (ea : Option Addr) (el ec : Nat) (es : List ByteArray) (tk : Int) (tb : ByteArray) (ta : Option Addr) (tl tc : Nat) (kd : Int) (aa : Option Addr) (al ac : Nat) (ss : List St), e = .returned (.tuple #[.agg #[.int .u8 opr, .slice oa ol oc, .string tx, .slice ia il ic, .int .u16 co, .slice a l c, .slice na nl nc, .bool b2, .bool b4, .int .i32 pn, .bool b8, .int .i64 sk1, .slice sa sl sc, .bool b16, .int .u16 sr, .bool b32, .int .i64 tm, .slice ea el ec, .int .i64 tk, .slice ta tl tc, .int .u8 kd, .slice aa al ac], .int .i64 E]) ∧ Hid (RqAt w' oa ol oc ia il ic a l c na nl nc sa sl sc ea el ec ta tl tc aa al ac (opr, os, tx, id, (co, vs, ns, b2, b4, pn, b8, (sk1, sb), b16, sr, b32, tm), es, (tk, tb), kd, ss)) ∧ Hid (E = 0 → (opr, os, tx, id, (co, vs, ns, b2, b4, pn, b8, (sk1, sb), b16, sr, b32, tm), es, (tk, tb), kd, ss) = (getR 7 zs).val) ∧ Hid (E ≠ 0 → (opr, os, tx, id, (co, vs, ns, b2, b4, pn, b8, (sk1, sb), b16, sr, b32, tm), es, (tk, tb), kd, ss) = rq0 0) ∧ Hid (Below w.heap.size w w') := by
  have HE : Hid (E = if (stepR (runR false) (stepR longR (zs, 0))).2 = 0 then (if 0 < (stepR (runR false) (stepR longR (zs, 0))).1.length then 23 else 0) else (stepR (runR false) (stepR longR (zs, 0))).2) := by
    show _ = _
    rw [hE, getE_last, (g7 (zs, 0)).1]
    rfl
  clear hE
  obtain ⟨q, hq⟩ : ∃ q, q = w.heap.size := ⟨_, rfl⟩
  obtain ⟨wR, hwR⟩ : ∃ wR, wR = ((w.alloc (.cells #[.int .u8 0, .slice none 0 0, .string ⟨#[]⟩, .slice none 0 0, .int .u16 0, .slice none 0 0, .slice none 0 0, .bool false, .bool false, .int .i32 0, .bool false, .int .i64 0, .slice none 0 0, .bool false, .int .u16 0, .bool false, .int .i64 0, .slice none 0 0, .int .i64 0, .slice none 0 0, .int .u8 0, .slice none 0 0] 33)).alloc (.cells #[.slice ba bl bc, .int .i64 0] 91)) := ⟨_, rfl⟩
  have HWR : Hid (((w.alloc (.cells #[.int .u8 0, .slice none 0 0, .string ⟨#[]⟩, .slice none 0 0, .int .u16 0, .slice none 0 0, .slice none 0 0, .bool false, .bool false, .int .i32 0, .bool false, .int .i64 0, .slice none 0 0, .bool false, .int .u16 0, .bool false, .int .i64 0, .slice none 0 0, .int .i64 0, .slice none 0 0, .int .u8 0, .slice none 0 0] 33)).alloc (.cells #[.slice ba bl bc, .int .i64 0] 91)) = wR) := hwR.symm
  have hszR : wR.heap.size = q + 2 := by rw [hwR, hq]; simp
  have hB0 : Below w.heap.size w wR := by rw [hwR]; exact (below_one _ _).alloc (by simp) _
  have hq0 : wR.heap[q]? = some (.cells #[.int .u8 0, .slice none 0 0, .string ⟨#[]⟩, .slice none 0 0, .int .u16 0, .slice none 0 0, .slice none 0 0, .bool false, .bool false, .int .i32 0, .bool false, .int .i64 0, .slice none 0 0, .bool false, .int .u16 0, .bool false, .int .i64 0, .slice none 0 0, .int .i64 0, .slice none 0 0, .int .u8 0, .slice none 0 0] 33 (0, 0)) := by
    rw [hwR, hq]
    exact ((below_one (w.alloc (.cells #[.int .u8 0, .slice none 0 0, .string ⟨#[]⟩, .slice none 0 0, .int .u16 0, .slice none 0 0, .slice none 0 0, .bool false, .bool false, .int .i32 0, .bool false, .int .i64 0, .slice none 0 0, .bool false, .int .u16 0, .bool false, .int .i64 0, .slice none 0 0, .int .i64 0, .slice none 0 0, .int .u8 0, .slice none 0 0] 33)) _).block w.heap.size (by simp)).trans (heap_alloc_new w _)
  have hqp : wR.heap[q + 1]? = some (.cells #[.slice ba bl bc, .int .i64 0] 91 (0, 0)) := by
    rw [hwR, hq]
    have := heap_alloc_new (w.alloc (.cells #[.int .u8 0, .slice none 0 0, .string ⟨#[]⟩, .slice none 0 0, .int .u16 0, .slice none 0 0, .slice none 0 0, .bool false, .bool false, .int .i32 0, .bool false, .int .i64 0, .slice none 0 0, .bool false, .int .u16 0, .bool false, .int .i64 0, .slice none 0 0, .int .i64 0, .slice none 0 0, .int .u8 0, .slice none 0 0] 33)) (.cells #[.slice ba bl bc, .int .i64 0] 91)
    simpa using this
  have H1 : Hid (Rd wR (q + 1) (zs, 0)) := ⟨⟨ba, bl, bc, hqp, fun _ => ⟨h.old hB0, fun z hz hl => by have := h.low z hz hl; omega⟩⟩, fun h => absurd rfl h, by show zs.length ≤ _; rw [h.1]; exact hsm, h.range⟩
  have HBR : Hid (Below w.heap.size w wR) := hB0
  have HQE : Hid (q = w.heap.size) := hq
  have HQW : Hid (w.heap.size = q) := hq.symm
  have HQR : Hid (wR.heap[q]? = some (.cells #[.int .u8 0, .slice none 0 0, .string ⟨#[]⟩, .slice none 0 0, .int .u16 0, .slice none 0 0, .slice none 0 0, .bool false, .bool false, .int .i32 0, .bool false, .int .i64 0, .slice none 0 0, .bool false, .int .u16 0, .bool false, .int .i64 0, .slice none 0 0, .int .i64 0, .slice none 0 0, .int .u8 0, .slice none 0 0] 33 (0, 0))) := hq0
  clear h hB0 hwR hq hq0 hqp hsm
  go_enter Try.func13, Try.ntmps13
  go_upto_region 2 with fail
  rw [HWR.out]
  clear HWR
  (try rw [HQW.out])
  go_wp2_with (refine wpList_store_hid (old := #[.int .u8 0, .slice none 0 0, .string ⟨#[]⟩, .slice none 0 0, .int .u16 0, .slice none 0 0, .slice none 0 0, .bool false, .bool false, .int .i32 0, .bool false, .int .i64 0, .slice none 0 0, .bool false, .int .u16 0, .bool false, .int .i64 0, .slice none 0 0, .int .i64 0, .slice none 0 0, .int .u8 0, .slice none 0 0]) (T := 33) rfl 33 (.tmp 7) (.tmp 11) rfl rfl rfl Try.isz33 (by simp [Value.oneCell']) (by rw [← hszR]; exact heap_alloc_new wR _) rfl ?_)
  intro w0 hqr hKr hsr
  have hKr2 : Kept (fun k => k = q + 2) wR w0 := (kept_of (below_one wR _)).trans hKr (fun _ _ e => e)
  have H : Hid (Rd w0 (q + 1) (zs, 0)) := H1.out.kept hKr2 (fun k hk e => by omega)
  have HB0 : Hid (Below w.heap.size w w0) := HBR.out.trans (hKr2.below (by have := HQE.out; omega) (fun k hk e => by have := HQE.out; omega))
  have HQ0 : Hid (w0.heap[q]? = some (.cells #[.int .u8 0, .slice none 0 0, .string ⟨#[]⟩, .slice none 0 0, .int .u16 0, .slice none 0 0, .slice none 0 0, .bool false, .bool false, .int .i32 0, .bool false, .int .i64 0, .slice none 0 0, .bool false, .int .u16 0, .bool false, .int .i64 0, .slice none 0 0, .int .i64 0, .slice none 0 0, .int .u8 0, .slice none 0 0] 33 (0, 0))) := (hKr2.block q (by omega) (by omega)).trans HQR.out
  have HR0 : Hid (w0.heap[q + 2]? = some (.cells #[.int .u8 7, .slice none 0 0, .string ⟨#[]⟩, .slice none 0 0, .int .u16 0, .slice none 0 0, .slice none 0 0, .bool false, .bool false, .int .i32 0, .bool false, .int .i64 0, .slice none 0 0, .bool false, .int .u16 0, .bool false, .int .i64 0, .slice none 0 0, .int .i64 0, .slice none 0 0, .int .u8 0, .slice none 0 0] 33 (0, 0))) := hqr
  have hl0 := block_lt hqr
  clear hqr hKr hKr2 hsr HQR H1 HBR hszR
  have HRw0 : Hid (w0.heap[q + 2]? = some (.cells #[.int .u8 7, .slice none 0 0, .string ⟨#[]⟩, .slice none 0 0, .int .u16 0, .slice none 0 0, .slice none 0 0, .bool false, .bool false, .int .i32 0, .bool false, .int .i64 0, .slice none 0 0, .bool false, .int .u16 0, .bool false, .int .i64 0, .slice none 0 0, .int .i64 0, .slice none 0 0, .int .u8 0, .slice none 0 0] 33 (0, 0))) := HR0
  have HQw0 : Hid (w0.heap[q]? = some (.cells #[.int .u8 0, .slice none 0 0, .string ⟨#[]⟩, .slice none 0 0, .int .u16 0, .slice none 0 0, .slice none 0 0, .bool false, .bool false, .int .i32 0, .bool false, .int .i64 0, .slice none 0 0, .bool false, .int .u16 0, .bool false, .int .i64 0, .slice none 0 0, .int .i64 0, .slice none 0 0, .int .u8 0, .slice none 0 0] 33 (0, 0))) := HQ0
  have HBw0 : Hid (Below w.heap.size w w0) := HB0
  have HDw0 : Hid (Rd w0 (q + 1) (zs, 0)) := H
  go_wp2_with fail
  refine (read_long HDw0.out).mono ?_
  rintro e w1 ⟨tx, rfl, HR1, HV1, HK1⟩
  have hr1 : w1.heap[q + 2]? = some (.cells #[.int .u8 7, .slice none 0 0, .string ⟨#[]⟩, .slice none 0 0, .int .u16 0, .slice none 0 0, .slice none 0 0, .bool false, .bool false, .int .i32 0, .bool false, .int .i64 0, .slice none 0 0, .bool false, .int .u16 0, .bool false, .int .i64 0, .slice none 0 0, .int .i64 0, .slice none 0 0, .int .u8 0, .slice none 0 0] 33 (0, 0)) := (HK1.out.block _ (block_lt HRw0.out) (by omega)).trans HRw0.out
  have hq1 : w1.heap[q]? = some (.cells #[.int .u8 0, .slice none 0 0, .string ⟨#[]⟩, .slice none 0 0, .int .u16 0, .slice none 0 0, .slice none 0 0, .bool false, .bool false, .int .i32 0, .bool false, .int .i64 0, .slice none 0 0, .bool false, .int .u16 0, .bool false, .int .i64 0, .slice none 0 0, .int .i64 0, .slice none 0 0, .int .u8 0, .slice none 0 0] 33 (0, 0)) := (HK1.out.block _ (block_lt HQw0.out) (by omega)).trans HQw0.out
  have hl1 := block_lt hr1
  obtain ⟨d0, d1, d2, d3, d4, d5, d6, d7, d8, d9, d10, d11, d12, d13, d14, d15, d16, d17, d18, d19, d20, d21⟩ := req_cells hr1
  obtain ⟨f0, f1, f2, f3, f4, f5, f6, f7, f8, f9, f10, f11, f12, f13, f14, f15, f16, f17, f18, f19, f20, f21⟩ := req_frozen hr1
  go_upto_region 10 with fail
  have hKb : Kept (fun k => k = q + 2) w1 (w1.setCell ⟨q + 2, 2, none⟩ (.string tx)) := one_kept _ _ _ _
  have hb2 := req_set2 hr1 (.string tx)
  generalize w1.setCell ⟨q + 2, 2, none⟩ (.string tx) = w2 at hKb hb2 ⊢
  have HDw2 : Hid (Rd w2 (q + 1) (stepR longR (zs, 0))) := HR1.out.kept hKb (fun k hk e => by omega)
  have HBw2 : Hid (Below w.heap.size w w2) := (HBw0.out.trans (HK1.out.below (by have := HQE.out; have := HBw0.out.size; omega) (fun k hk e => by have := HQE.out; omega))).trans (hKb.below (by have := HQE.out; have := HK1.out.size; have := HBw0.out.size; omega) (fun k hk e => by have := HQE.out; omega))
  have HQw2 : Hid (w2.heap[q]? = some (.cells #[.int .u8 0, .slice none 0 0, .string ⟨#[]⟩, .slice none 0 0, .int .u16 0, .slice none 0 0, .slice none 0 0, .bool false, .bool false, .int .i32 0, .bool false, .int .i64 0, .slice none 0 0, .bool false, .int .u16 0, .bool false, .int .i64 0, .slice none 0 0, .int .i64 0, .slice none 0 0, .int .u8 0, .slice none 0 0] 33 (0, 0))) := (hKb.block q (block_lt hq1) (by omega)).trans hq1
  have HRw2 : Hid (w2.heap[q + 2]? = some (.cells #[.int .u8 7, .slice none 0 0, .string tx, .slice none 0 0, .int .u16 0, .slice none 0 0, .slice none 0 0, .bool false, .bool false, .int .i32 0, .bool false, .int .i64 0, .slice none 0 0, .bool false, .int .u16 0, .bool false, .int .i64 0, .slice none 0 0, .int .i64 0, .slice none 0 0, .int .u8 0, .slice none 0 0] 33 (0, 0))) := hb2
  have HSTw2 : Hid ((∀ k, k < w0.heap.size → q + 3 ≤ k → w2.heap[k]? = w0.heap[k]?) ∧ w0.heap.size ≤ w2.heap.size ∧ (∀ k, k < w1.heap.size → q + 3 ≤ k → w2.heap[k]? = w1.heap[k]?) ∧ w1.heap.size ≤ w2.heap.size) := ⟨fun k hk hk3 => (hKb.block k (by have := HK1.out.size; omega) (by omega)).trans (HK1.out.block k hk (by omega)), Nat.le_trans HK1.out.size hKb.size, fun k hk hk3 => hKb.block k hk (by omega), hKb.size⟩
  clear hKb hb2 hr1 hq1 hl1 d0 d1 d2 d3 d4 d5 d6 d7 d8 d9 d10 d11 d12 d13 d14 d15 d16 d17 d18 d19 d20 d21 f0 f1 f2 f3 f4 f5 f6 f7 f8 f9 f10 f11 f12 f13 f14 f15 f16 f17 f18 f19 f20 f21
  have hq3 : q + 3 ≤ w2.heap.size := block_lt HRw2.out
  go_wp2_with fail
  refine (rrun HDw2.out false 127 rfl).mono ?_
  rintro e w3 ⟨co, a, l, c, vs, na, nl, nc, ns, b2, b4, pn, b8, sk1, sb, sa, sl, sc, b16, sr, b32, tm, rfl, HRr, HGr, HRG, HVr, HKr⟩
  have HRB : Hid (w3.heap[q + 2]? = some (.cells #[.int .u8 7, .slice none 0 0, .string tx, .slice none 0 0, .int .u16 0, .slice none 0 0, .slice none 0 0, .bool false, .bool false, .int .i32 0, .bool false, .int .i64 0, .slice none 0 0, .bool false, .int .u16 0, .bool false, .int .i64 0, .slice none 0 0, .int .i64 0, .slice none 0 0, .int .u8 0, .slice none 0 0] 33 (0, 0))) := (HKr.out.block _ (block_lt HRw2.out) (by omega)).trans HRw2.out
  have hq1 : w3.heap[q]? = some (.cells #[.int .u8 0, .slice none 0 0, .string ⟨#[]⟩, .slice none 0 0, .int .u16 0, .slice none 0 0, .slice none 0 0, .bool false, .bool false, .int .i32 0, .bool false, .int .i64 0, .slice none 0 0, .bool false, .int .u16 0, .bool false, .int .i64 0, .slice none 0 0, .int .i64 0, .slice none 0 0, .int .u8 0, .slice none 0 0] 33 (0, 0)) := (HKr.out.block _ (block_lt HQw2.out) (by omega)).trans HQw2.out
  have HQB : Hid (w3.heap[q]? = some (.cells #[.int .u8 0, .slice none 0 0, .string ⟨#[]⟩, .slice none 0 0, .int .u16 0, .slice none 0 0, .slice none 0 0, .bool false, .bool false, .int .i32 0, .bool false, .int .i64 0, .slice none 0 0, .bool false, .int .u16 0, .bool false, .int .i64 0, .slice none 0 0, .int .i64 0, .slice none 0 0, .int .u8 0, .slice none 0 0] 33 (0, 0))) := hq1
  clear hq1
  go_wp2_with (refine wpList_store_part rfl 30 (.tmp 25) (.tmp 24) rfl rfl rfl Try.isz30 (by simp [Value.oneCell']) HRB.out (show 4 + 13 ≤ 22 by omega) #[.int .u8 7, .slice none 0 0, .string tx, .slice none 0 0, .int .u16 co, .slice a l c, .slice na nl nc, .bool b2, .bool b4, .int .i32 pn, .bool b8, .int .i64 sk1, .slice sa sl sc, .bool b16, .int .u16 sr, .bool b32, .int .i64 tm, .slice none 0 0, .int .i64 0, .slice none 0 0, .int .u8 0, .slice none 0 0] rfl ?_)
  intro w4 hb4 hK4 hs4
  have HDw4 : Hid (Rd w4 (q + 1) (stepR (runR false) (stepR longR (zs, 0)))) := HRr.out.kept hK4 (fun k hk e => by omega)
  have HBw4 : Hid (Below w.heap.size w w4) := (HBw2.out.trans (HKr.out.below (by have := HQE.out; have := HBw2.out.size; omega) (fun k hk e => by have := HQE.out; omega))).trans (hK4.below (by have := HQE.out; have := HKr.out.size; have := HBw2.out.size; omega) (fun k hk e => by have := HQE.out; omega))
  have HQw4 : Hid (w4.heap[q]? = some (.cells #[.int .u8 0, .slice none 0 0, .string ⟨#[]⟩, .slice none 0 0, .int .u16 0, .slice none 0 0, .slice none 0 0, .bool false, .bool false, .int .i32 0, .bool false, .int .i64 0, .slice none 0 0, .bool false, .int .u16 0, .bool false, .int .i64 0, .slice none 0 0, .int .i64 0, .slice none 0 0, .int .u8 0, .slice none 0 0] 33 (0, 0))) := (hK4.block q (block_lt HQB.out) (by omega)).trans HQB.out
  have HRw4 : Hid (w4.heap[q + 2]? = some (.cells #[.int .u8 7, .slice none 0 0, .string tx, .slice none 0 0, .int .u16 co, .slice a l c, .slice na nl nc, .bool b2, .bool b4, .int .i32 pn, .bool b8, .int .i64 sk1, .slice sa sl sc, .bool b16, .int .u16 sr, .bool b32, .int .i64 tm, .slice none 0 0, .int .i64 0, .slice none 0 0, .int .u8 0, .slice none 0 0] 33 (0, 0))) := hb4
  have HSTw4 : Hid ((∀ k, k < w2.heap.size → q + 3 ≤ k → w4.heap[k]? = w2.heap[k]?) ∧ w2.heap.size ≤ w4.heap.size ∧ (∀ k, k < w3.heap.size → q + 3 ≤ k → w4.heap[k]? = w3.heap[k]?) ∧ w3.heap.size ≤ w4.heap.size) := ⟨fun k hk hk3 => (hK4.block k (by have := HKr.out.size; omega) (by omega)).trans (HKr.out.block k hk (by omega)), Nat.le_trans HKr.out.size hK4.size, fun k hk hk3 => hK4.block k hk (by omega), hK4.size⟩
  have HGw4 : Hid (RunG (fun k => q + 3 ≤ k) w4 a l c vs na nl nc ns sa sl sc sb) := HGr.out.stay (fun k hk hf => hK4.block k hk (by omega)) hK4.size (fun k hk hf => by omega)
  clear hb4 hK4 hs4
  go_wp2_with fail
  refine (rend HDw4.out HE.out).mono ?_
  rintro e w9 ⟨rfl, x9, hp9, HK9⟩
  have hl9 := block_lt HRw4.out
  have hr9 : w9.heap[q + 2]? = some (.cells #[.int .u8 7, .slice none 0 0, .string tx, .slice none 0 0, .int .u16 co, .slice a l c, .slice na nl nc, .bool b2, .bool b4, .int .i32 pn, .bool b8, .int .i64 sk1, .slice sa sl sc, .bool b16, .int .u16 sr, .bool b32, .int .i64 tm, .slice none 0 0, .int .i64 0, .slice none 0 0, .int .u8 0, .slice none 0 0] 33 (0, 0)) := (HK9.out.block _ hl9 (by omega)).trans HRw4.out
  have hq9 : w9.heap[q]? = some (.cells #[.int .u8 0, .slice none 0 0, .string ⟨#[]⟩, .slice none 0 0, .int .u16 0, .slice none 0 0, .slice none 0 0, .bool false, .bool false, .int .i32 0, .bool false, .int .i64 0, .slice none 0 0, .bool false, .int .u16 0, .bool false, .int .i64 0, .slice none 0 0, .int .i64 0, .slice none 0 0, .int .u8 0, .slice none 0 0] 33 (0, 0)) := (HK9.out.block _ (by omega) (by omega)).trans HQw4.out
  have HB9 : Hid (Below w.heap.size w w9) := HBw4.out.trans (HK9.out.below (by have := HQE.out; omega) (fun k hk e => by have := HQE.out; omega))
  obtain ⟨p0, p1, p2, p3⟩ := two_cells hp9
  have hlr := block_lt hr9
  have hlq := block_lt hq9
  have hlp := block_lt hp9
  have HQ9 : Hid (w9.heap[q]? = some (.cells #[.int .u8 0, .slice none 0 0, .string ⟨#[]⟩, .slice none 0 0, .int .u16 0, .slice none 0 0, .slice none 0 0, .bool false, .bool false, .int .i32 0, .bool false, .int .i64 0, .slice none 0 0, .bool false, .int .u16 0, .bool false, .int .i64 0, .slice none 0 0, .int .i64 0, .slice none 0 0, .int .u8 0, .slice none 0 0] 33 (0, 0))) := hq9
  have HR9 : Hid (w9.heap[q + 2]? = some (.cells #[.int .u8 7, .slice none 0 0, .string tx, .slice none 0 0, .int .u16 co, .slice a l c, .slice na nl nc, .bool b2, .bool b4, .int .i32 pn, .bool b8, .int .i64 sk1, .slice sa sl sc, .bool b16, .int .u16 sr, .bool b32, .int .i64 tm, .slice none 0 0, .int .i64 0, .slice none 0 0, .int .u8 0, .slice none 0 0] 33 (0, 0))) := hr9
  clear hq9 hr9 hp9
  by_cases he : E = 0
  · rw [he] at p1
    have HEZ : Hid (E = 0) := he
    clear he
    go_wp2_with (first | (refine wpList_load_row rfl 33 (.tmp 7) rfl rfl HR9.out Try.isz33 Try.agg33 ?_) | (refine wpList_store_row rfl 33 (.tmp 4) (.tmp 59) rfl rfl rfl Try.isz33 (by simp [Value.oneCell']) HQ9.out rfl ?_; intro wC hqC hKC hsC))
    have hwq := HQE.out
    refine bodyPost_ret (v := .tuple #[.agg #[.int .u8 7, .slice none 0 0, .string tx, .slice none 0 0, .int .u16 co, .slice a l c, .slice na nl nc, .bool b2, .bool b4, .int .i32 pn, .bool b8, .int .i64 sk1, .slice sa sl sc, .bool b16, .int .u16 sr, .bool b32, .int .i64 tm, .slice none 0 0, .int .i64 0, .slice none 0 0, .int .u8 0, .slice none 0 0], .int .i64 0]) (results_cell_tmp rfl rfl hqC Try.isz33 Try.agg33 rfl) rfl ?_
    refine ⟨7, none, 0, 0, [], tx, none, 0, 0, ByteArray.empty, co, a, l, c, vs, na, nl, nc, ns, b2, b4, pn, b8, sk1, sb, sa, sl, sc, b16, sr, b32, tm, none, 0, 0, [], 0, ByteArray.empty, none, 0, 0, 0, none, 0, 0, [], by rw [HEZ.out] <;> rfl, ?_, fun h0 => ?_, fun h0 => absurd HEZ.out h0, HB9.out.trans (hKC.below (by have := HB9.out.size; omega) (fun k hk e => by omega))⟩
    · have hst : ∀ k, k < w4.heap.size → q + 3 ≤ k → wC.heap[k]? = w4.heap[k]? := fun k hk hk3 => (hKC.block k (by have := HK9.out.size; omega) (by omega)).trans (HK9.out.block k hk (by omega))
      have hss : w4.heap.size ≤ wC.heap.size := Nat.le_trans HK9.out.size hKC.size
      have hg := HGw4.out.stay (F' := fun _ => True) hst hss (fun _ _ _ => trivial)
      exact ⟨⟨(show (0 : Int) ≤ 7 by decide), (show (7 : Int) ≤ 255 by decide)⟩, view_nil _ _ _, isB_nil _, hg.at HRG.out _ _ _ _ _ _, view_nil _ _ _, isB_nil _, ⟨Int.le_refl 0, show (0 : Int) ≤ 255 by decide⟩, view_nil _ _ _⟩
    · have h1 : (stepR (getR 7) (zs, 0)).2 = 0 := lastE_ok (by rw [(g7 (zs, 0)).1]; exact HE.out.symm.trans HEZ.out)
      rw [(g7 (zs, 0)).2 h1]
      rw [(g7 (zs, 0)).1] at h1
      rw [← HVr.out h1, HV1.out (step_ok h1).1]
  · have t : (E == 0) = false := by simpa using he
    have t' : (E != 0) = true := by simpa using he
    have HEN : Hid (E ≠ 0) := he
    clear he
    go_wp2_with fail
    obtain ⟨hsr1, hqC, hKC⟩ := store_cells (w := w9.drew) (cells := #[.int .u8 0, .slice none 0 0, .string ⟨#[]⟩, .slice none 0 0, .int .u16 0, .slice none 0 0, .slice none 0 0, .bool false, .bool false, .int .i32 0, .bool false, .int .i64 0, .slice none 0 0, .bool false, .int .u16 0, .bool false, .int .i64 0, .slice none 0 0, .int .i64 0, .slice none 0 0, .int .u8 0, .slice none 0 0]) (by simp [Value.oneCell']) HQ9.out ((Below.refl _ _).drew) rfl
    generalize w9.drew.setRow q #[.int .u8 0, .slice none 0 0, .string ⟨#[]⟩, .slice none 0 0, .int .u16 0, .slice none 0 0, .slice none 0 0, .bool false, .bool false, .int .i32 0, .bool false, .int .i64 0, .slice none 0 0, .bool false, .int .u16 0, .bool false, .int .i64 0, .slice none 0 0, .int .i64 0, .slice none 0 0, .int .u8 0, .slice none 0 0] = wC at hsr1 hqC hKC
    simp [storeCells, go_sem] at hsr1
    have HSR : Hid _ := hsr1
    have hc2 : wC.cell? ⟨q + 1, 1, none⟩ = some (.int .i64 E) := (hKC.cell (p := ⟨q + 1, 1, none⟩) hlp (by simp only; omega)).trans p1
    clear hsr1
    go_region_held3 (fun w' => w'.cell? ⟨q + 1, 1, none⟩ = some (.int .i64 E)) (assumption) (first | (refine upon_of HSR.out ?_))
    all_goals (
      go_wp2_with fail
      have hwq := HQE.out
      refine bodyPost_ret (v := .tuple #[.agg #[.int .u8 0, .slice none 0 0, .string ⟨#[]⟩, .slice none 0 0, .int .u16 0, .slice none 0 0, .slice none 0 0, .bool false, .bool false, .int .i32 0, .bool false, .int .i64 0, .slice none 0 0, .bool false, .int .u16 0, .bool false, .int .i64 0, .slice none 0 0, .int .i64 0, .slice none 0 0, .int .u8 0, .slice none 0 0], .int .i64 E]) (results_cell_tmp rfl rfl (by first | exact hqC | (rw [World.heap_drewN]; exact hqC) | (simp only [World.heap_drewN]; exact hqC)) Try.isz33 Try.agg33 rfl) rfl ?_
      exact ⟨0, none, 0, 0, [], ByteArray.empty, none, 0, 0, ByteArray.empty, 0, none, 0, 0, [], none, 0, 0, [], false, false, 0, false, 0, ByteArray.empty, none, 0, 0, false, 0, false, 0, none, 0, 0, [], 0, ByteArray.empty, none, 0, 0, 0, none, 0, 0, [], rfl, rq_zero _ 0 ⟨by decide, by decide⟩, fun h0 => absurd h0 HEN.out, fun _ => rfl, HB9.out.trans (hKC.below (by have := HB9.out.size; omega) (fun k hk e => by omega))⟩)


set_option maxHeartbeats 4000000 in
theorem get_10 {w : World} {ba : Option Addr} {bl bc : Nat} {zs : List Int} (h : IsB w ba bl bc zs) (hsm : bl ≤ 140737488351232) {E : Int} (hE : E = getE 10 zs) :
    Calls Try.prog 13 #[.int .u8 10, .slice ba bl bc] w fun e w' => ∃ (opr : Int) (oa : Option Addr) (ol oc : Nat) (os : List (ByteArray × ByteArray)) (tx : ByteArray) (ia : Option Addr) (il ic : Nat) (id : ByteArray) (co : Int) (a : Option Addr) (l c : Nat) (vs : List Vl) (na : Option Addr) (nl nc : Nat) (ns : List ByteArray) (b2 b4 : Bool) (pn : Int) (b8 : Bool) (sk1 : Int) (sb : ByteArray) (sa : Option Addr) (sl sc : Nat) (b16 : Bool) (sr : Int) (b32 : Bool) (tm : Int) (ea : Option Addr) (el ec : Nat) (es : List ByteArray) (tk : Int) (tb : ByteArray) (ta : Option Addr) (tl tc : Nat) (kd : Int) (aa : Option Addr) (al ac : Nat) (ss : List St), e = .returned (.tuple #[.agg #[.int .u8 opr, .slice oa ol oc, .string tx, .slice ia il ic, .int .u16 co, .slice a l c, .slice na nl nc, .bool b2, .bool b4, .int .i32 pn, .bool b8, .int .i64 sk1, .slice sa sl sc, .bool b16, .int .u16 sr, .bool b32, .int .i64 tm, .slice ea el ec, .int .i64 tk, .slice ta tl tc, .int .u8 kd, .slice aa al ac], .int .i64 E]) ∧ Hid (RqAt w' oa ol oc ia il ic a l c na nl nc sa sl sc ea el ec ta tl tc aa al ac (opr, os, tx, id, (co, vs, ns, b2, b4, pn, b8, (sk1, sb), b16, sr, b32, tm), es, (tk, tb), kd, ss)) ∧ Hid (E = 0 → (opr, os, tx, id, (co, vs, ns, b2, b4, pn, b8, (sk1, sb), b16, sr, b32, tm), es, (tk, tb), kd, ss) = (getR 10 zs).val) ∧ Hid (E ≠ 0 → (opr, os, tx, id, (co, vs, ns, b2, b4, pn, b8, (sk1, sb), b16, sr, b32, tm), es, (tk, tb), kd, ss) = rq0 0) ∧ Hid (Below w.heap.size w w') := by
  have HE : Hid (E = if (stepR (runR false) (stepR textR (zs, 0))).2 = 0 then (if 0 < (stepR (runR false) (stepR textR (zs, 0))).1.length then 23 else 0) else (stepR (runR false) (stepR textR (zs, 0))).2) := by
    show _ = _
    rw [hE, getE_last, (g10 (zs, 0)).1]
    rfl
  clear hE
  obtain ⟨q, hq⟩ : ∃ q, q = w.heap.size := ⟨_, rfl⟩
  obtain ⟨wR, hwR⟩ : ∃ wR, wR = ((w.alloc (.cells #[.int .u8 0, .slice none 0 0, .string ⟨#[]⟩, .slice none 0 0, .int .u16 0, .slice none 0 0, .slice none 0 0, .bool false, .bool false, .int .i32 0, .bool false, .int .i64 0, .slice none 0 0, .bool false, .int .u16 0, .bool false, .int .i64 0, .slice none 0 0, .int .i64 0, .slice none 0 0, .int .u8 0, .slice none 0 0] 33)).alloc (.cells #[.slice ba bl bc, .int .i64 0] 91)) := ⟨_, rfl⟩
  have HWR : Hid (((w.alloc (.cells #[.int .u8 0, .slice none 0 0, .string ⟨#[]⟩, .slice none 0 0, .int .u16 0, .slice none 0 0, .slice none 0 0, .bool false, .bool false, .int .i32 0, .bool false, .int .i64 0, .slice none 0 0, .bool false, .int .u16 0, .bool false, .int .i64 0, .slice none 0 0, .int .i64 0, .slice none 0 0, .int .u8 0, .slice none 0 0] 33)).alloc (.cells #[.slice ba bl bc, .int .i64 0] 91)) = wR) := hwR.symm
  have hszR : wR.heap.size = q + 2 := by rw [hwR, hq]; simp
  have hB0 : Below w.heap.size w wR := by rw [hwR]; exact (below_one _ _).alloc (by simp) _
  have hq0 : wR.heap[q]? = some (.cells #[.int .u8 0, .slice none 0 0, .string ⟨#[]⟩, .slice none 0 0, .int .u16 0, .slice none 0 0, .slice none 0 0, .bool false, .bool false, .int .i32 0, .bool false, .int .i64 0, .slice none 0 0, .bool false, .int .u16 0, .bool false, .int .i64 0, .slice none 0 0, .int .i64 0, .slice none 0 0, .int .u8 0, .slice none 0 0] 33 (0, 0)) := by
    rw [hwR, hq]
    exact ((below_one (w.alloc (.cells #[.int .u8 0, .slice none 0 0, .string ⟨#[]⟩, .slice none 0 0, .int .u16 0, .slice none 0 0, .slice none 0 0, .bool false, .bool false, .int .i32 0, .bool false, .int .i64 0, .slice none 0 0, .bool false, .int .u16 0, .bool false, .int .i64 0, .slice none 0 0, .int .i64 0, .slice none 0 0, .int .u8 0, .slice none 0 0] 33)) _).block w.heap.size (by simp)).trans (heap_alloc_new w _)
  have hqp : wR.heap[q + 1]? = some (.cells #[.slice ba bl bc, .int .i64 0] 91 (0, 0)) := by
    rw [hwR, hq]
    have := heap_alloc_new (w.alloc (.cells #[.int .u8 0, .slice none 0 0, .string ⟨#[]⟩, .slice none 0 0, .int .u16 0, .slice none 0 0, .slice none 0 0, .bool false, .bool false, .int .i32 0, .bool false, .int .i64 0, .slice none 0 0, .bool false, .int .u16 0, .bool false, .int .i64 0, .slice none 0 0, .int .i64 0, .slice none 0 0, .int .u8 0, .slice none 0 0] 33)) (.cells #[.slice ba bl bc, .int .i64 0] 91)
    simpa using this
  have H1 : Hid (Rd wR (q + 1) (zs, 0)) := ⟨⟨ba, bl, bc, hqp, fun _ => ⟨h.old hB0, fun z hz hl => by have := h.low z hz hl; omega⟩⟩, fun h => absurd rfl h, by show zs.length ≤ _; rw [h.1]; exact hsm, h.range⟩
  have HBR : Hid (Below w.heap.size w wR) := hB0
  have HQE : Hid (q = w.heap.size) := hq
  have HQW : Hid (w.heap.size = q) := hq.symm
  have HQR : Hid (wR.heap[q]? = some (.cells #[.int .u8 0, .slice none 0 0, .string ⟨#[]⟩, .slice none 0 0, .int .u16 0, .slice none 0 0, .slice none 0 0, .bool false, .bool false, .int .i32 0, .bool false, .int .i64 0, .slice none 0 0, .bool false, .int .u16 0, .bool false, .int .i64 0, .slice none 0 0, .int .i64 0, .slice none 0 0, .int .u8 0, .slice none 0 0] 33 (0, 0))) := hq0
  clear h hB0 hwR hq hq0 hqp hsm
  go_enter Try.func13, Try.ntmps13
  go_upto_region 2 with fail
  rw [HWR.out]
  clear HWR
  (try rw [HQW.out])
  go_wp2_with (refine wpList_store_hid (old := #[.int .u8 0, .slice none 0 0, .string ⟨#[]⟩, .slice none 0 0, .int .u16 0, .slice none 0 0, .slice none 0 0, .bool false, .bool false, .int .i32 0, .bool false, .int .i64 0, .slice none 0 0, .bool false, .int .u16 0, .bool false, .int .i64 0, .slice none 0 0, .int .i64 0, .slice none 0 0, .int .u8 0, .slice none 0 0]) (T := 33) rfl 33 (.tmp 7) (.tmp 11) rfl rfl rfl Try.isz33 (by simp [Value.oneCell']) (by rw [← hszR]; exact heap_alloc_new wR _) rfl ?_)
  intro w0 hqr hKr hsr
  have hKr2 : Kept (fun k => k = q + 2) wR w0 := (kept_of (below_one wR _)).trans hKr (fun _ _ e => e)
  have H : Hid (Rd w0 (q + 1) (zs, 0)) := H1.out.kept hKr2 (fun k hk e => by omega)
  have HB0 : Hid (Below w.heap.size w w0) := HBR.out.trans (hKr2.below (by have := HQE.out; omega) (fun k hk e => by have := HQE.out; omega))
  have HQ0 : Hid (w0.heap[q]? = some (.cells #[.int .u8 0, .slice none 0 0, .string ⟨#[]⟩, .slice none 0 0, .int .u16 0, .slice none 0 0, .slice none 0 0, .bool false, .bool false, .int .i32 0, .bool false, .int .i64 0, .slice none 0 0, .bool false, .int .u16 0, .bool false, .int .i64 0, .slice none 0 0, .int .i64 0, .slice none 0 0, .int .u8 0, .slice none 0 0] 33 (0, 0))) := (hKr2.block q (by omega) (by omega)).trans HQR.out
  have HR0 : Hid (w0.heap[q + 2]? = some (.cells #[.int .u8 10, .slice none 0 0, .string ⟨#[]⟩, .slice none 0 0, .int .u16 0, .slice none 0 0, .slice none 0 0, .bool false, .bool false, .int .i32 0, .bool false, .int .i64 0, .slice none 0 0, .bool false, .int .u16 0, .bool false, .int .i64 0, .slice none 0 0, .int .i64 0, .slice none 0 0, .int .u8 0, .slice none 0 0] 33 (0, 0))) := hqr
  have hl0 := block_lt hqr
  clear hqr hKr hKr2 hsr HQR H1 HBR hszR
  have HRw0 : Hid (w0.heap[q + 2]? = some (.cells #[.int .u8 10, .slice none 0 0, .string ⟨#[]⟩, .slice none 0 0, .int .u16 0, .slice none 0 0, .slice none 0 0, .bool false, .bool false, .int .i32 0, .bool false, .int .i64 0, .slice none 0 0, .bool false, .int .u16 0, .bool false, .int .i64 0, .slice none 0 0, .int .i64 0, .slice none 0 0, .int .u8 0, .slice none 0 0] 33 (0, 0))) := HR0
  have HQw0 : Hid (w0.heap[q]? = some (.cells #[.int .u8 0, .slice none 0 0, .string ⟨#[]⟩, .slice none 0 0, .int .u16 0, .slice none 0 0, .slice none 0 0, .bool false, .bool false, .int .i32 0, .bool false, .int .i64 0, .slice none 0 0, .bool false, .int .u16 0, .bool false, .int .i64 0, .slice none 0 0, .int .i64 0, .slice none 0 0, .int .u8 0, .slice none 0 0] 33 (0, 0))) := HQ0
  have HBw0 : Hid (Below w.heap.size w w0) := HB0
  have HDw0 : Hid (Rd w0 (q + 1) (zs, 0)) := H
  go_wp2_with fail
  refine (rid HDw0.out).mono ?_
  rintro e w1 ⟨ia, il, ic, id, rfl, HR1, HI1, hF1, HV1, HK1⟩
  have HIF : Hid (IsBF (fun k => q + 3 ≤ k) w1 ia il ic (sNums id)) := ⟨HI1.out, fun z hz _ => by have := hF1 z hz; exact ⟨by omega, by omega⟩⟩
  have hr1 : w1.heap[q + 2]? = some (.cells #[.int .u8 10, .slice none 0 0, .string ⟨#[]⟩, .slice none 0 0, .int .u16 0, .slice none 0 0, .slice none 0 0, .bool false, .bool false, .int .i32 0, .bool false, .int .i64 0, .slice none 0 0, .bool false, .int .u16 0, .bool false, .int .i64 0, .slice none 0 0, .int .i64 0, .slice none 0 0, .int .u8 0, .slice none 0 0] 33 (0, 0)) := (HK1.out.block _ (block_lt HRw0.out) (by omega)).trans HRw0.out
  have hq1 : w1.heap[q]? = some (.cells #[.int .u8 0, .slice none 0 0, .string ⟨#[]⟩, .slice none 0 0, .int .u16 0, .slice none 0 0, .slice none 0 0, .bool false, .bool false, .int .i32 0, .bool false, .int .i64 0, .slice none 0 0, .bool false, .int .u16 0, .bool false, .int .i64 0, .slice none 0 0, .int .i64 0, .slice none 0 0, .int .u8 0, .slice none 0 0] 33 (0, 0)) := (HK1.out.block _ (block_lt HQw0.out) (by omega)).trans HQw0.out
  have hl1 := block_lt hr1
  obtain ⟨d0, d1, d2, d3, d4, d5, d6, d7, d8, d9, d10, d11, d12, d13, d14, d15, d16, d17, d18, d19, d20, d21⟩ := req_cells hr1
  obtain ⟨f0, f1, f2, f3, f4, f5, f6, f7, f8, f9, f10, f11, f12, f13, f14, f15, f16, f17, f18, f19, f20, f21⟩ := req_frozen hr1
  go_upto_region 15 with fail
  have hKb : Kept (fun k => k = q + 2) w1 (w1.setCell ⟨q + 2, 3, none⟩ (.slice ia il ic)) := one_kept _ _ _ _
  have hb2 := req_set3 hr1 (.slice ia il ic)
  generalize w1.setCell ⟨q + 2, 3, none⟩ (.slice ia il ic) = w2 at hKb hb2 ⊢
  have HDw2 : Hid (Rd w2 (q + 1) (stepR textR (zs, 0))) := HR1.out.kept hKb (fun k hk e => by omega)
  have HBw2 : Hid (Below w.heap.size w w2) := (HBw0.out.trans (HK1.out.below (by have := HQE.out; have := HBw0.out.size; omega) (fun k hk e => by have := HQE.out; omega))).trans (hKb.below (by have := HQE.out; have := HK1.out.size; have := HBw0.out.size; omega) (fun k hk e => by have := HQE.out; omega))
  have HQw2 : Hid (w2.heap[q]? = some (.cells #[.int .u8 0, .slice none 0 0, .string ⟨#[]⟩, .slice none 0 0, .int .u16 0, .slice none 0 0, .slice none 0 0, .bool false, .bool false, .int .i32 0, .bool false, .int .i64 0, .slice none 0 0, .bool false, .int .u16 0, .bool false, .int .i64 0, .slice none 0 0, .int .i64 0, .slice none 0 0, .int .u8 0, .slice none 0 0] 33 (0, 0))) := (hKb.block q (block_lt hq1) (by omega)).trans hq1
  have HRw2 : Hid (w2.heap[q + 2]? = some (.cells #[.int .u8 10, .slice none 0 0, .string ⟨#[]⟩, .slice ia il ic, .int .u16 0, .slice none 0 0, .slice none 0 0, .bool false, .bool false, .int .i32 0, .bool false, .int .i64 0, .slice none 0 0, .bool false, .int .u16 0, .bool false, .int .i64 0, .slice none 0 0, .int .i64 0, .slice none 0 0, .int .u8 0, .slice none 0 0] 33 (0, 0))) := hb2
  have HSTw2 : Hid ((∀ k, k < w0.heap.size → q + 3 ≤ k → w2.heap[k]? = w0.heap[k]?) ∧ w0.heap.size ≤ w2.heap.size ∧ (∀ k, k < w1.heap.size → q + 3 ≤ k → w2.heap[k]? = w1.heap[k]?) ∧ w1.heap.size ≤ w2.heap.size) := ⟨fun k hk hk3 => (hKb.block k (by have := HK1.out.size; omega) (by omega)).trans (HK1.out.block k hk (by omega)), Nat.le_trans HK1.out.size hKb.size, fun k hk hk3 => hKb.block k hk (by omega), hKb.size⟩
  clear hKb hb2 hr1 hq1 hl1 d0 d1 d2 d3 d4 d5 d6 d7 d8 d9 d10 d11 d12 d13 d14 d15 d16 d17 d18 d19 d20 d21 f0 f1 f2 f3 f4 f5 f6 f7 f8 f9 f10 f11 f12 f13 f14 f15 f16 f17 f18 f19 f20 f21
  have hq3 : q + 3 ≤ w2.heap.size := block_lt HRw2.out
  go_wp2_with fail
  refine (rrun HDw2.out false 127 rfl).mono ?_
  rintro e w3 ⟨co, a, l, c, vs, na, nl, nc, ns, b2, b4, pn, b8, sk1, sb, sa, sl, sc, b16, sr, b32, tm, rfl, HRr, HGr, HRG, HVr, HKr⟩
  have HRB : Hid (w3.heap[q + 2]? = some (.cells #[.int .u8 10, .slice none 0 0, .string ⟨#[]⟩, .slice ia il ic, .int .u16 0, .slice none 0 0, .slice none 0 0, .bool false, .bool false, .int .i32 0, .bool false, .int .i64 0, .slice none 0 0, .bool false, .int .u16 0, .bool false, .int .i64 0, .slice none 0 0, .int .i64 0, .slice none 0 0, .int .u8 0, .slice none 0 0] 33 (0, 0))) := (HKr.out.block _ (block_lt HRw2.out) (by omega)).trans HRw2.out
  have hq1 : w3.heap[q]? = some (.cells #[.int .u8 0, .slice none 0 0, .string ⟨#[]⟩, .slice none 0 0, .int .u16 0, .slice none 0 0, .slice none 0 0, .bool false, .bool false, .int .i32 0, .bool false, .int .i64 0, .slice none 0 0, .bool false, .int .u16 0, .bool false, .int .i64 0, .slice none 0 0, .int .i64 0, .slice none 0 0, .int .u8 0, .slice none 0 0] 33 (0, 0)) := (HKr.out.block _ (block_lt HQw2.out) (by omega)).trans HQw2.out
  have HQB : Hid (w3.heap[q]? = some (.cells #[.int .u8 0, .slice none 0 0, .string ⟨#[]⟩, .slice none 0 0, .int .u16 0, .slice none 0 0, .slice none 0 0, .bool false, .bool false, .int .i32 0, .bool false, .int .i64 0, .slice none 0 0, .bool false, .int .u16 0, .bool false, .int .i64 0, .slice none 0 0, .int .i64 0, .slice none 0 0, .int .u8 0, .slice none 0 0] 33 (0, 0))) := hq1
  clear hq1
  go_wp2_with (refine wpList_store_part rfl 30 (.tmp 35) (.tmp 34) rfl rfl rfl Try.isz30 (by simp [Value.oneCell']) HRB.out (show 4 + 13 ≤ 22 by omega) #[.int .u8 10, .slice none 0 0, .string ⟨#[]⟩, .slice ia il ic, .int .u16 co, .slice a l c, .slice na nl nc, .bool b2, .bool b4, .int .i32 pn, .bool b8, .int .i64 sk1, .slice sa sl sc, .bool b16, .int .u16 sr, .bool b32, .int .i64 tm, .slice none 0 0, .int .i64 0, .slice none 0 0, .int .u8 0, .slice none 0 0] rfl ?_)
  intro w4 hb4 hK4 hs4
  have HDw4 : Hid (Rd w4 (q + 1) (stepR (runR false) (stepR textR (zs, 0)))) := HRr.out.kept hK4 (fun k hk e => by omega)
  have HBw4 : Hid (Below w.heap.size w w4) := (HBw2.out.trans (HKr.out.below (by have := HQE.out; have := HBw2.out.size; omega) (fun k hk e => by have := HQE.out; omega))).trans (hK4.below (by have := HQE.out; have := HKr.out.size; have := HBw2.out.size; omega) (fun k hk e => by have := HQE.out; omega))
  have HQw4 : Hid (w4.heap[q]? = some (.cells #[.int .u8 0, .slice none 0 0, .string ⟨#[]⟩, .slice none 0 0, .int .u16 0, .slice none 0 0, .slice none 0 0, .bool false, .bool false, .int .i32 0, .bool false, .int .i64 0, .slice none 0 0, .bool false, .int .u16 0, .bool false, .int .i64 0, .slice none 0 0, .int .i64 0, .slice none 0 0, .int .u8 0, .slice none 0 0] 33 (0, 0))) := (hK4.block q (block_lt HQB.out) (by omega)).trans HQB.out
  have HRw4 : Hid (w4.heap[q + 2]? = some (.cells #[.int .u8 10, .slice none 0 0, .string ⟨#[]⟩, .slice ia il ic, .int .u16 co, .slice a l c, .slice na nl nc, .bool b2, .bool b4, .int .i32 pn, .bool b8, .int .i64 sk1, .slice sa sl sc, .bool b16, .int .u16 sr, .bool b32, .int .i64 tm, .slice none 0 0, .int .i64 0, .slice none 0 0, .int .u8 0, .slice none 0 0] 33 (0, 0))) := hb4
  have HSTw4 : Hid ((∀ k, k < w2.heap.size → q + 3 ≤ k → w4.heap[k]? = w2.heap[k]?) ∧ w2.heap.size ≤ w4.heap.size ∧ (∀ k, k < w3.heap.size → q + 3 ≤ k → w4.heap[k]? = w3.heap[k]?) ∧ w3.heap.size ≤ w4.heap.size) := ⟨fun k hk hk3 => (hK4.block k (by have := HKr.out.size; omega) (by omega)).trans (HKr.out.block k hk (by omega)), Nat.le_trans HKr.out.size hK4.size, fun k hk hk3 => hK4.block k hk (by omega), hK4.size⟩
  have HGw4 : Hid (RunG (fun k => q + 3 ≤ k) w4 a l c vs na nl nc ns sa sl sc sb) := HGr.out.stay (fun k hk hf => hK4.block k hk (by omega)) hK4.size (fun k hk hf => by omega)
  clear hb4 hK4 hs4
  go_wp2_with fail
  refine (rend HDw4.out HE.out).mono ?_
  rintro e w9 ⟨rfl, x9, hp9, HK9⟩
  have hl9 := block_lt HRw4.out
  have hr9 : w9.heap[q + 2]? = some (.cells #[.int .u8 10, .slice none 0 0, .string ⟨#[]⟩, .slice ia il ic, .int .u16 co, .slice a l c, .slice na nl nc, .bool b2, .bool b4, .int .i32 pn, .bool b8, .int .i64 sk1, .slice sa sl sc, .bool b16, .int .u16 sr, .bool b32, .int .i64 tm, .slice none 0 0, .int .i64 0, .slice none 0 0, .int .u8 0, .slice none 0 0] 33 (0, 0)) := (HK9.out.block _ hl9 (by omega)).trans HRw4.out
  have hq9 : w9.heap[q]? = some (.cells #[.int .u8 0, .slice none 0 0, .string ⟨#[]⟩, .slice none 0 0, .int .u16 0, .slice none 0 0, .slice none 0 0, .bool false, .bool false, .int .i32 0, .bool false, .int .i64 0, .slice none 0 0, .bool false, .int .u16 0, .bool false, .int .i64 0, .slice none 0 0, .int .i64 0, .slice none 0 0, .int .u8 0, .slice none 0 0] 33 (0, 0)) := (HK9.out.block _ (by omega) (by omega)).trans HQw4.out
  have HB9 : Hid (Below w.heap.size w w9) := HBw4.out.trans (HK9.out.below (by have := HQE.out; omega) (fun k hk e => by have := HQE.out; omega))
  obtain ⟨p0, p1, p2, p3⟩ := two_cells hp9
  have hlr := block_lt hr9
  have hlq := block_lt hq9
  have hlp := block_lt hp9
  have HQ9 : Hid (w9.heap[q]? = some (.cells #[.int .u8 0, .slice none 0 0, .string ⟨#[]⟩, .slice none 0 0, .int .u16 0, .slice none 0 0, .slice none 0 0, .bool false, .bool false, .int .i32 0, .bool false, .int .i64 0, .slice none 0 0, .bool false, .int .u16 0, .bool false, .int .i64 0, .slice none 0 0, .int .i64 0, .slice none 0 0, .int .u8 0, .slice none 0 0] 33 (0, 0))) := hq9
  have HR9 : Hid (w9.heap[q + 2]? = some (.cells #[.int .u8 10, .slice none 0 0, .string ⟨#[]⟩, .slice ia il ic, .int .u16 co, .slice a l c, .slice na nl nc, .bool b2, .bool b4, .int .i32 pn, .bool b8, .int .i64 sk1, .slice sa sl sc, .bool b16, .int .u16 sr, .bool b32, .int .i64 tm, .slice none 0 0, .int .i64 0, .slice none 0 0, .int .u8 0, .slice none 0 0] 33 (0, 0))) := hr9
  clear hq9 hr9 hp9
  by_cases he : E = 0
  · rw [he] at p1
    have HEZ : Hid (E = 0) := he
    clear he
    go_wp2_with (first | (refine wpList_load_row rfl 33 (.tmp 7) rfl rfl HR9.out Try.isz33 Try.agg33 ?_) | (refine wpList_store_row rfl 33 (.tmp 4) (.tmp 59) rfl rfl rfl Try.isz33 (by simp [Value.oneCell']) HQ9.out rfl ?_; intro wC hqC hKC hsC))
    have hwq := HQE.out
    refine bodyPost_ret (v := .tuple #[.agg #[.int .u8 10, .slice none 0 0, .string ⟨#[]⟩, .slice ia il ic, .int .u16 co, .slice a l c, .slice na nl nc, .bool b2, .bool b4, .int .i32 pn, .bool b8, .int .i64 sk1, .slice sa sl sc, .bool b16, .int .u16 sr, .bool b32, .int .i64 tm, .slice none 0 0, .int .i64 0, .slice none 0 0, .int .u8 0, .slice none 0 0], .int .i64 0]) (results_cell_tmp rfl rfl hqC Try.isz33 Try.agg33 rfl) rfl ?_
    refine ⟨10, none, 0, 0, [], ByteArray.empty, ia, il, ic, id, co, a, l, c, vs, na, nl, nc, ns, b2, b4, pn, b8, sk1, sb, sa, sl, sc, b16, sr, b32, tm, none, 0, 0, [], 0, ByteArray.empty, none, 0, 0, 0, none, 0, 0, [], by rw [HEZ.out] <;> rfl, ?_, fun h0 => ?_, fun h0 => absurd HEZ.out h0, HB9.out.trans (hKC.below (by have := HB9.out.size; omega) (fun k hk e => by omega))⟩
    · have hst : ∀ k, k < w4.heap.size → q + 3 ≤ k → wC.heap[k]? = w4.heap[k]? := fun k hk hk3 => (hKC.block k (by have := HK9.out.size; omega) (by omega)).trans (HK9.out.block k hk (by omega))
      have hss : w4.heap.size ≤ wC.heap.size := Nat.le_trans HK9.out.size hKC.size
      have hg := HGw4.out.stay (F' := fun _ => True) hst hss (fun _ _ _ => trivial)
      have hv := ((HIF.out.stay (F' := fun k => q + 3 ≤ k) (fun k hk hf => HSTw2.out.2.2.1 k hk hf) HSTw2.out.2.2.2 (fun _ _ hf => hf)).stay (F' := fun k => q + 3 ≤ k) (fun k hk hf => HSTw4.out.1 k hk hf) HSTw4.out.2.1 (fun _ _ hf => hf)).stay (F' := fun _ => True) hst hss (fun _ _ _ => trivial)
      exact ⟨⟨(show (0 : Int) ≤ 10 by decide), (show (10 : Int) ≤ 255 by decide)⟩, view_nil _ _ _, hv.1, hg.at HRG.out _ _ _ _ _ _, view_nil _ _ _, isB_nil _, ⟨Int.le_refl 0, show (0 : Int) ≤ 255 by decide⟩, view_nil _ _ _⟩
    · have h1 : (stepR (getR 10) (zs, 0)).2 = 0 := lastE_ok (by rw [(g10 (zs, 0)).1]; exact HE.out.symm.trans HEZ.out)
      rw [(g10 (zs, 0)).2 h1]
      rw [(g10 (zs, 0)).1] at h1
      rw [← HVr.out h1, HV1.out (step_ok h1).1]
  · have t : (E == 0) = false := by simpa using he
    have t' : (E != 0) = true := by simpa using he
    have HEN : Hid (E ≠ 0) := he
    clear he
    go_wp2_with fail
    obtain ⟨hsr1, hqC, hKC⟩ := store_cells (w := w9.drew) (cells := #[.int .u8 0, .slice none 0 0, .string ⟨#[]⟩, .slice none 0 0, .int .u16 0, .slice none 0 0, .slice none 0 0, .bool false, .bool false, .int .i32 0, .bool false, .int .i64 0, .slice none 0 0, .bool false, .int .u16 0, .bool false, .int .i64 0, .slice none 0 0, .int .i64 0, .slice none 0 0, .int .u8 0, .slice none 0 0]) (by simp [Value.oneCell']) HQ9.out ((Below.refl _ _).drew) rfl
    generalize w9.drew.setRow q #[.int .u8 0, .slice none 0 0, .string ⟨#[]⟩, .slice none 0 0, .int .u16 0, .slice none 0 0, .slice none 0 0, .bool false, .bool false, .int .i32 0, .bool false, .int .i64 0, .slice none 0 0, .bool false, .int .u16 0, .bool false, .int .i64 0, .slice none 0 0, .int .i64 0, .slice none 0 0, .int .u8 0, .slice none 0 0] = wC at hsr1 hqC hKC
    simp [storeCells, go_sem] at hsr1
    have HSR : Hid _ := hsr1
    have hc2 : wC.cell? ⟨q + 1, 1, none⟩ = some (.int .i64 E) := (hKC.cell (p := ⟨q + 1, 1, none⟩) hlp (by simp only; omega)).trans p1
    clear hsr1
    go_region_held3 (fun w' => w'.cell? ⟨q + 1, 1, none⟩ = some (.int .i64 E)) (assumption) (first | (refine upon_of HSR.out ?_))
    all_goals (
      go_wp2_with fail
      have hwq := HQE.out
      refine bodyPost_ret (v := .tuple #[.agg #[.int .u8 0, .slice none 0 0, .string ⟨#[]⟩, .slice none 0 0, .int .u16 0, .slice none 0 0, .slice none 0 0, .bool false, .bool false, .int .i32 0, .bool false, .int .i64 0, .slice none 0 0, .bool false, .int .u16 0, .bool false, .int .i64 0, .slice none 0 0, .int .i64 0, .slice none 0 0, .int .u8 0, .slice none 0 0], .int .i64 E]) (results_cell_tmp rfl rfl (by first | exact hqC | (rw [World.heap_drewN]; exact hqC) | (simp only [World.heap_drewN]; exact hqC)) Try.isz33 Try.agg33 rfl) rfl ?_
      exact ⟨0, none, 0, 0, [], ByteArray.empty, none, 0, 0, ByteArray.empty, 0, none, 0, 0, [], none, 0, 0, [], false, false, 0, false, 0, ByteArray.empty, none, 0, 0, false, 0, false, 0, none, 0, 0, [], 0, ByteArray.empty, none, 0, 0, 0, none, 0, 0, [], rfl, rq_zero _ 0 ⟨by decide, by decide⟩, fun h0 => absurd h0 HEN.out, fun _ => rfl, HB9.out.trans (hKC.below (by have := HB9.out.size; omega) (fun k hk e => by omega))⟩)


set_option maxHeartbeats 4000000 in
theorem get_13 {w : World} {ba : Option Addr} {bl bc : Nat} {zs : List Int} (h : IsB w ba bl bc zs) (hsm : bl ≤ 140737488351232) {E : Int} (hE : E = getE 13 zs) :
    Calls Try.prog 13 #[.int .u8 13, .slice ba bl bc] w fun e w' => ∃ (opr : Int) (oa : Option Addr) (ol oc : Nat) (os : List (ByteArray × ByteArray)) (tx : ByteArray) (ia : Option Addr) (il ic : Nat) (id : ByteArray) (co : Int) (a : Option Addr) (l c : Nat) (vs : List Vl) (na : Option Addr) (nl nc : Nat) (ns : List ByteArray) (b2 b4 : Bool) (pn : Int) (b8 : Bool) (sk1 : Int) (sb : ByteArray) (sa : Option Addr) (sl sc : Nat) (b16 : Bool) (sr : Int) (b32 : Bool) (tm : Int) (ea : Option Addr) (el ec : Nat) (es : List ByteArray) (tk : Int) (tb : ByteArray) (ta : Option Addr) (tl tc : Nat) (kd : Int) (aa : Option Addr) (al ac : Nat) (ss : List St), e = .returned (.tuple #[.agg #[.int .u8 opr, .slice oa ol oc, .string tx, .slice ia il ic, .int .u16 co, .slice a l c, .slice na nl nc, .bool b2, .bool b4, .int .i32 pn, .bool b8, .int .i64 sk1, .slice sa sl sc, .bool b16, .int .u16 sr, .bool b32, .int .i64 tm, .slice ea el ec, .int .i64 tk, .slice ta tl tc, .int .u8 kd, .slice aa al ac], .int .i64 E]) ∧ Hid (RqAt w' oa ol oc ia il ic a l c na nl nc sa sl sc ea el ec ta tl tc aa al ac (opr, os, tx, id, (co, vs, ns, b2, b4, pn, b8, (sk1, sb), b16, sr, b32, tm), es, (tk, tb), kd, ss)) ∧ Hid (E = 0 → (opr, os, tx, id, (co, vs, ns, b2, b4, pn, b8, (sk1, sb), b16, sr, b32, tm), es, (tk, tb), kd, ss) = (getR 13 zs).val) ∧ Hid (E ≠ 0 → (opr, os, tx, id, (co, vs, ns, b2, b4, pn, b8, (sk1, sb), b16, sr, b32, tm), es, (tk, tb), kd, ss) = rq0 0) ∧ Hid (Below w.heap.size w w') := by
  have HE : Hid (E = if (stepR (runR true) (stepR (listR stR) (stepR kindR (zs, 0)))).2 = 0 then (if 0 < (stepR (runR true) (stepR (listR stR) (stepR kindR (zs, 0)))).1.length then 23 else 0) else (stepR (runR true) (stepR (listR stR) (stepR kindR (zs, 0)))).2) := by
    show _ = _
    rw [hE, getE_last, (g13 (zs, 0)).1]
    rfl
  clear hE
  obtain ⟨q, hq⟩ : ∃ q, q = w.heap.size := ⟨_, rfl⟩
  obtain ⟨wR, hwR⟩ : ∃ wR, wR = ((w.alloc (.cells #[.int .u8 0, .slice none 0 0, .string ⟨#[]⟩, .slice none 0 0, .int .u16 0, .slice none 0 0, .slice none 0 0, .bool false, .bool false, .int .i32 0, .bool false, .int .i64 0, .slice none 0 0, .bool false, .int .u16 0, .bool false, .int .i64 0, .slice none 0 0, .int .i64 0, .slice none 0 0, .int .u8 0, .slice none 0 0] 33)).alloc (.cells #[.slice ba bl bc, .int .i64 0] 91)) := ⟨_, rfl⟩
  have HWR : Hid (((w.alloc (.cells #[.int .u8 0, .slice none 0 0, .string ⟨#[]⟩, .slice none 0 0, .int .u16 0, .slice none 0 0, .slice none 0 0, .bool false, .bool false, .int .i32 0, .bool false, .int .i64 0, .slice none 0 0, .bool false, .int .u16 0, .bool false, .int .i64 0, .slice none 0 0, .int .i64 0, .slice none 0 0, .int .u8 0, .slice none 0 0] 33)).alloc (.cells #[.slice ba bl bc, .int .i64 0] 91)) = wR) := hwR.symm
  have hszR : wR.heap.size = q + 2 := by rw [hwR, hq]; simp
  have hB0 : Below w.heap.size w wR := by rw [hwR]; exact (below_one _ _).alloc (by simp) _
  have hq0 : wR.heap[q]? = some (.cells #[.int .u8 0, .slice none 0 0, .string ⟨#[]⟩, .slice none 0 0, .int .u16 0, .slice none 0 0, .slice none 0 0, .bool false, .bool false, .int .i32 0, .bool false, .int .i64 0, .slice none 0 0, .bool false, .int .u16 0, .bool false, .int .i64 0, .slice none 0 0, .int .i64 0, .slice none 0 0, .int .u8 0, .slice none 0 0] 33 (0, 0)) := by
    rw [hwR, hq]
    exact ((below_one (w.alloc (.cells #[.int .u8 0, .slice none 0 0, .string ⟨#[]⟩, .slice none 0 0, .int .u16 0, .slice none 0 0, .slice none 0 0, .bool false, .bool false, .int .i32 0, .bool false, .int .i64 0, .slice none 0 0, .bool false, .int .u16 0, .bool false, .int .i64 0, .slice none 0 0, .int .i64 0, .slice none 0 0, .int .u8 0, .slice none 0 0] 33)) _).block w.heap.size (by simp)).trans (heap_alloc_new w _)
  have hqp : wR.heap[q + 1]? = some (.cells #[.slice ba bl bc, .int .i64 0] 91 (0, 0)) := by
    rw [hwR, hq]
    have := heap_alloc_new (w.alloc (.cells #[.int .u8 0, .slice none 0 0, .string ⟨#[]⟩, .slice none 0 0, .int .u16 0, .slice none 0 0, .slice none 0 0, .bool false, .bool false, .int .i32 0, .bool false, .int .i64 0, .slice none 0 0, .bool false, .int .u16 0, .bool false, .int .i64 0, .slice none 0 0, .int .i64 0, .slice none 0 0, .int .u8 0, .slice none 0 0] 33)) (.cells #[.slice ba bl bc, .int .i64 0] 91)
    simpa using this
  have H1 : Hid (Rd wR (q + 1) (zs, 0)) := ⟨⟨ba, bl, bc, hqp, fun _ => ⟨h.old hB0, fun z hz hl => by have := h.low z hz hl; omega⟩⟩, fun h => absurd rfl h, by show zs.length ≤ _; rw [h.1]; exact hsm, h.range⟩
  have HBR : Hid (Below w.heap.size w wR) := hB0
  have HQE : Hid (q = w.heap.size) := hq
  have HQW : Hid (w.heap.size = q) := hq.symm
  have HQR : Hid (wR.heap[q]? = some (.cells #[.int .u8 0, .slice none 0 0, .string ⟨#[]⟩, .slice none 0 0, .int .u16 0, .slice none 0 0, .slice none 0 0, .bool false, .bool false, .int .i32 0, .bool false, .int .i64 0, .slice none 0 0, .bool false, .int .u16 0, .bool false, .int .i64 0, .slice none 0 0, .int .i64 0, .slice none 0 0, .int .u8 0, .slice none 0 0] 33 (0, 0))) := hq0
  clear h hB0 hwR hq hq0 hqp hsm
  go_enter Try.func13, Try.ntmps13
  go_upto_region 2 with fail
  rw [HWR.out]
  clear HWR
  (try rw [HQW.out])
  go_wp2_with (refine wpList_store_hid (old := #[.int .u8 0, .slice none 0 0, .string ⟨#[]⟩, .slice none 0 0, .int .u16 0, .slice none 0 0, .slice none 0 0, .bool false, .bool false, .int .i32 0, .bool false, .int .i64 0, .slice none 0 0, .bool false, .int .u16 0, .bool false, .int .i64 0, .slice none 0 0, .int .i64 0, .slice none 0 0, .int .u8 0, .slice none 0 0]) (T := 33) rfl 33 (.tmp 7) (.tmp 11) rfl rfl rfl Try.isz33 (by simp [Value.oneCell']) (by rw [← hszR]; exact heap_alloc_new wR _) rfl ?_)
  intro w0 hqr hKr hsr
  have hKr2 : Kept (fun k => k = q + 2) wR w0 := (kept_of (below_one wR _)).trans hKr (fun _ _ e => e)
  have H : Hid (Rd w0 (q + 1) (zs, 0)) := H1.out.kept hKr2 (fun k hk e => by omega)
  have HB0 : Hid (Below w.heap.size w w0) := HBR.out.trans (hKr2.below (by have := HQE.out; omega) (fun k hk e => by have := HQE.out; omega))
  have HQ0 : Hid (w0.heap[q]? = some (.cells #[.int .u8 0, .slice none 0 0, .string ⟨#[]⟩, .slice none 0 0, .int .u16 0, .slice none 0 0, .slice none 0 0, .bool false, .bool false, .int .i32 0, .bool false, .int .i64 0, .slice none 0 0, .bool false, .int .u16 0, .bool false, .int .i64 0, .slice none 0 0, .int .i64 0, .slice none 0 0, .int .u8 0, .slice none 0 0] 33 (0, 0))) := (hKr2.block q (by omega) (by omega)).trans HQR.out
  have HR0 : Hid (w0.heap[q + 2]? = some (.cells #[.int .u8 13, .slice none 0 0, .string ⟨#[]⟩, .slice none 0 0, .int .u16 0, .slice none 0 0, .slice none 0 0, .bool false, .bool false, .int .i32 0, .bool false, .int .i64 0, .slice none 0 0, .bool false, .int .u16 0, .bool false, .int .i64 0, .slice none 0 0, .int .i64 0, .slice none 0 0, .int .u8 0, .slice none 0 0] 33 (0, 0))) := hqr
  have hl0 := block_lt hqr
  clear hqr hKr hKr2 hsr HQR H1 HBR hszR
  have HRw0 : Hid (w0.heap[q + 2]? = some (.cells #[.int .u8 13, .slice none 0 0, .string ⟨#[]⟩, .slice none 0 0, .int .u16 0, .slice none 0 0, .slice none 0 0, .bool false, .bool false, .int .i32 0, .bool false, .int .i64 0, .slice none 0 0, .bool false, .int .u16 0, .bool false, .int .i64 0, .slice none 0 0, .int .i64 0, .slice none 0 0, .int .u8 0, .slice none 0 0] 33 (0, 0))) := HR0
  have HQw0 : Hid (w0.heap[q]? = some (.cells #[.int .u8 0, .slice none 0 0, .string ⟨#[]⟩, .slice none 0 0, .int .u16 0, .slice none 0 0, .slice none 0 0, .bool false, .bool false, .int .i32 0, .bool false, .int .i64 0, .slice none 0 0, .bool false, .int .u16 0, .bool false, .int .i64 0, .slice none 0 0, .int .i64 0, .slice none 0 0, .int .u8 0, .slice none 0 0] 33 (0, 0))) := HQ0
  have HBw0 : Hid (Below w.heap.size w w0) := HB0
  have HDw0 : Hid (Rd w0 (q + 1) (zs, 0)) := H
  go_wp2_with fail
  refine (rkind HDw0.out).mono ?_
  rintro e w1 ⟨kd, rfl, HR1, HKD, HV1, HK1⟩
  have hr1 : w1.heap[q + 2]? = some (.cells #[.int .u8 13, .slice none 0 0, .string ⟨#[]⟩, .slice none 0 0, .int .u16 0, .slice none 0 0, .slice none 0 0, .bool false, .bool false, .int .i32 0, .bool false, .int .i64 0, .slice none 0 0, .bool false, .int .u16 0, .bool false, .int .i64 0, .slice none 0 0, .int .i64 0, .slice none 0 0, .int .u8 0, .slice none 0 0] 33 (0, 0)) := (HK1.out.block _ (block_lt HRw0.out) (by omega)).trans HRw0.out
  have hq1 : w1.heap[q]? = some (.cells #[.int .u8 0, .slice none 0 0, .string ⟨#[]⟩, .slice none 0 0, .int .u16 0, .slice none 0 0, .slice none 0 0, .bool false, .bool false, .int .i32 0, .bool false, .int .i64 0, .slice none 0 0, .bool false, .int .u16 0, .bool false, .int .i64 0, .slice none 0 0, .int .i64 0, .slice none 0 0, .int .u8 0, .slice none 0 0] 33 (0, 0)) := (HK1.out.block _ (block_lt HQw0.out) (by omega)).trans HQw0.out
  have hl1 := block_lt hr1
  obtain ⟨d0, d1, d2, d3, d4, d5, d6, d7, d8, d9, d10, d11, d12, d13, d14, d15, d16, d17, d18, d19, d20, d21⟩ := req_cells hr1
  obtain ⟨f0, f1, f2, f3, f4, f5, f6, f7, f8, f9, f10, f11, f12, f13, f14, f15, f16, f17, f18, f19, f20, f21⟩ := req_frozen hr1
  go_upto_region 22 with fail
  have hKb : Kept (fun k => k = q + 2) w1 (w1.setCell ⟨q + 2, 20, none⟩ (.int .u8 kd)) := one_kept _ _ _ _
  have hb2 := req_set20 hr1 (.int .u8 kd)
  generalize w1.setCell ⟨q + 2, 20, none⟩ (.int .u8 kd) = w2 at hKb hb2 ⊢
  have HDw2 : Hid (Rd w2 (q + 1) (stepR kindR (zs, 0))) := HR1.out.kept hKb (fun k hk e => by omega)
  have HBw2 : Hid (Below w.heap.size w w2) := (HBw0.out.trans (HK1.out.below (by have := HQE.out; have := HBw0.out.size; omega) (fun k hk e => by have := HQE.out; omega))).trans (hKb.below (by have := HQE.out; have := HK1.out.size; have := HBw0.out.size; omega) (fun k hk e => by have := HQE.out; omega))
  have HQw2 : Hid (w2.heap[q]? = some (.cells #[.int .u8 0, .slice none 0 0, .string ⟨#[]⟩, .slice none 0 0, .int .u16 0, .slice none 0 0, .slice none 0 0, .bool false, .bool false, .int .i32 0, .bool false, .int .i64 0, .slice none 0 0, .bool false, .int .u16 0, .bool false, .int .i64 0, .slice none 0 0, .int .i64 0, .slice none 0 0, .int .u8 0, .slice none 0 0] 33 (0, 0))) := (hKb.block q (block_lt hq1) (by omega)).trans hq1
  have HRw2 : Hid (w2.heap[q + 2]? = some (.cells #[.int .u8 13, .slice none 0 0, .string ⟨#[]⟩, .slice none 0 0, .int .u16 0, .slice none 0 0, .slice none 0 0, .bool false, .bool false, .int .i32 0, .bool false, .int .i64 0, .slice none 0 0, .bool false, .int .u16 0, .bool false, .int .i64 0, .slice none 0 0, .int .i64 0, .slice none 0 0, .int .u8 kd, .slice none 0 0] 33 (0, 0))) := hb2
  have HSTw2 : Hid ((∀ k, k < w0.heap.size → q + 3 ≤ k → w2.heap[k]? = w0.heap[k]?) ∧ w0.heap.size ≤ w2.heap.size ∧ (∀ k, k < w1.heap.size → q + 3 ≤ k → w2.heap[k]? = w1.heap[k]?) ∧ w1.heap.size ≤ w2.heap.size) := ⟨fun k hk hk3 => (hKb.block k (by have := HK1.out.size; omega) (by omega)).trans (HK1.out.block k hk (by omega)), Nat.le_trans HK1.out.size hKb.size, fun k hk hk3 => hKb.block k hk (by omega), hKb.size⟩
  clear hKb hb2 hr1 hq1 hl1 d0 d1 d2 d3 d4 d5 d6 d7 d8 d9 d10 d11 d12 d13 d14 d15 d16 d17 d18 d19 d20 d21 f0 f1 f2 f3 f4 f5 f6 f7 f8 f9 f10 f11 f12 f13 f14 f15 f16 f17 f18 f19 f20 f21
  go_wp2_with fail
  refine (rstatements HDw2.out).mono ?_
  rintro e w3 ⟨v, L, rfl, HR3, HO3, HV3, HK3⟩
  obtain ⟨aa, ac, rfl⟩ := HO3.out.shape
  obtain ⟨al, hal⟩ : ∃ al, al = L.length := ⟨_, rfl⟩
  rw [← hal] at HO3 ⊢
  clear hal
  have hq2 : q + 3 ≤ w2.heap.size := block_lt HRw2.out
  have hr1 : w3.heap[q + 2]? = some (.cells #[.int .u8 13, .slice none 0 0, .string ⟨#[]⟩, .slice none 0 0, .int .u16 0, .slice none 0 0, .slice none 0 0, .bool false, .bool false, .int .i32 0, .bool false, .int .i64 0, .slice none 0 0, .bool false, .int .u16 0, .bool false, .int .i64 0, .slice none 0 0, .int .i64 0, .slice none 0 0, .int .u8 kd, .slice none 0 0] 33 (0, 0)) := (HK3.out.block _ (block_lt HRw2.out) (by omega)).trans HRw2.out
  have hq1 : w3.heap[q]? = some (.cells #[.int .u8 0, .slice none 0 0, .string ⟨#[]⟩, .slice none 0 0, .int .u16 0, .slice none 0 0, .slice none 0 0, .bool false, .bool false, .int .i32 0, .bool false, .int .i64 0, .slice none 0 0, .bool false, .int .u16 0, .bool false, .int .i64 0, .slice none 0 0, .int .i64 0, .slice none 0 0, .int .u8 0, .slice none 0 0] 33 (0, 0)) := (HK3.out.block _ (block_lt HQw2.out) (by omega)).trans HQw2.out
  have hl1 := block_lt hr1
  obtain ⟨d0, d1, d2, d3, d4, d5, d6, d7, d8, d9, d10, d11, d12, d13, d14, d15, d16, d17, d18, d19, d20, d21⟩ := req_cells hr1
  obtain ⟨f0, f1, f2, f3, f4, f5, f6, f7, f8, f9, f10, f11, f12, f13, f14, f15, f16, f17, f18, f19, f20, f21⟩ := req_frozen hr1
  go_upto_region 23 with fail
  have hKb : Kept (fun k => k = q + 2) w3 (w3.setCell ⟨q + 2, 21, none⟩ (.slice aa al ac)) := one_kept _ _ _ _
  have hb2 := req_set21 hr1 (.slice aa al ac)
  generalize w3.setCell ⟨q + 2, 21, none⟩ (.slice aa al ac) = w4 at hKb hb2 ⊢
  have HDw4 : Hid (Rd w4 (q + 1) (stepR (listR stR) (stepR kindR (zs, 0)))) := HR3.out.kept hKb (fun k hk e => by omega)
  have HBw4 : Hid (Below w.heap.size w w4) := (HBw2.out.trans (HK3.out.below (by have := HQE.out; have := HBw2.out.size; omega) (fun k hk e => by have := HQE.out; omega))).trans (hKb.below (by have := HQE.out; have := HK3.out.size; have := HBw2.out.size; omega) (fun k hk e => by have := HQE.out; omega))
  have HQw4 : Hid (w4.heap[q]? = some (.cells #[.int .u8 0, .slice none 0 0, .string ⟨#[]⟩, .slice none 0 0, .int .u16 0, .slice none 0 0, .slice none 0 0, .bool false, .bool false, .int .i32 0, .bool false, .int .i64 0, .slice none 0 0, .bool false, .int .u16 0, .bool false, .int .i64 0, .slice none 0 0, .int .i64 0, .slice none 0 0, .int .u8 0, .slice none 0 0] 33 (0, 0))) := (hKb.block q (block_lt hq1) (by omega)).trans hq1
  have HRw4 : Hid (w4.heap[q + 2]? = some (.cells #[.int .u8 13, .slice none 0 0, .string ⟨#[]⟩, .slice none 0 0, .int .u16 0, .slice none 0 0, .slice none 0 0, .bool false, .bool false, .int .i32 0, .bool false, .int .i64 0, .slice none 0 0, .bool false, .int .u16 0, .bool false, .int .i64 0, .slice none 0 0, .int .i64 0, .slice none 0 0, .int .u8 kd, .slice aa al ac] 33 (0, 0))) := hb2
  have HSTw4 : Hid ((∀ k, k < w2.heap.size → q + 3 ≤ k → w4.heap[k]? = w2.heap[k]?) ∧ w2.heap.size ≤ w4.heap.size ∧ (∀ k, k < w3.heap.size → q + 3 ≤ k → w4.heap[k]? = w3.heap[k]?) ∧ w3.heap.size ≤ w4.heap.size) := ⟨fun k hk hk3 => (hKb.block k (by have := HK3.out.size; omega) (by omega)).trans (HK3.out.block k hk (by omega)), Nat.le_trans HK3.out.size hKb.size, fun k hk hk3 => hKb.block k hk (by omega), hKb.size⟩
  clear hKb hb2 hr1 hq1 hl1 d0 d1 d2 d3 d4 d5 d6 d7 d8 d9 d10 d11 d12 d13 d14 d15 d16 d17 d18 d19 d20 d21 f0 f1 f2 f3 f4 f5 f6 f7 f8 f9 f10 f11 f12 f13 f14 f15 f16 f17 f18 f19 f20 f21
  have HOA : Hid (OwnG 60 4 GT w4 (fun k => q + 3 ≤ k) (.slice aa al ac) L) := HO3.out.kept stays_gt (fun k hk hf => HSTw4.out.2.2.1 k hk (by omega)) HSTw4.out.2.2.2 (fun k hk hf => by omega)
  have hq3 : q + 3 ≤ w4.heap.size := block_lt HRw4.out
  go_wp2_with fail
  refine (rrun HDw4.out true 48 rfl).mono ?_
  rintro e w5 ⟨co, a, l, c, vs, na, nl, nc, ns, b2, b4, pn, b8, sk1, sb, sa, sl, sc, b16, sr, b32, tm, rfl, HRr, HGr, HRG, HVr, HKr⟩
  have HRB : Hid (w5.heap[q + 2]? = some (.cells #[.int .u8 13, .slice none 0 0, .string ⟨#[]⟩, .slice none 0 0, .int .u16 0, .slice none 0 0, .slice none 0 0, .bool false, .bool false, .int .i32 0, .bool false, .int .i64 0, .slice none 0 0, .bool false, .int .u16 0, .bool false, .int .i64 0, .slice none 0 0, .int .i64 0, .slice none 0 0, .int .u8 kd, .slice aa al ac] 33 (0, 0))) := (HKr.out.block _ (block_lt HRw4.out) (by omega)).trans HRw4.out
  have hq1 : w5.heap[q]? = some (.cells #[.int .u8 0, .slice none 0 0, .string ⟨#[]⟩, .slice none 0 0, .int .u16 0, .slice none 0 0, .slice none 0 0, .bool false, .bool false, .int .i32 0, .bool false, .int .i64 0, .slice none 0 0, .bool false, .int .u16 0, .bool false, .int .i64 0, .slice none 0 0, .int .i64 0, .slice none 0 0, .int .u8 0, .slice none 0 0] 33 (0, 0)) := (HKr.out.block _ (block_lt HQw4.out) (by omega)).trans HQw4.out
  have HQB : Hid (w5.heap[q]? = some (.cells #[.int .u8 0, .slice none 0 0, .string ⟨#[]⟩, .slice none 0 0, .int .u16 0, .slice none 0 0, .slice none 0 0, .bool false, .bool false, .int .i32 0, .bool false, .int .i64 0, .slice none 0 0, .bool false, .int .u16 0, .bool false, .int .i64 0, .slice none 0 0, .int .i64 0, .slice none 0 0, .int .u8 0, .slice none 0 0] 33 (0, 0))) := hq1
  clear hq1
  go_wp2_with (refine wpList_store_part rfl 30 (.tmp 51) (.tmp 50) rfl rfl rfl Try.isz30 (by simp [Value.oneCell']) HRB.out (show 4 + 13 ≤ 22 by omega) #[.int .u8 13, .slice none 0 0, .string ⟨#[]⟩, .slice none 0 0, .int .u16 co, .slice a l c, .slice na nl nc, .bool b2, .bool b4, .int .i32 pn, .bool b8, .int .i64 sk1, .slice sa sl sc, .bool b16, .int .u16 sr, .bool b32, .int .i64 tm, .slice none 0 0, .int .i64 0, .slice none 0 0, .int .u8 kd, .slice aa al ac] rfl ?_)
  intro w6 hb4 hK4 hs4
  have HDw6 : Hid (Rd w6 (q + 1) (stepR (runR true) (stepR (listR stR) (stepR kindR (zs, 0))))) := HRr.out.kept hK4 (fun k hk e => by omega)
  have HBw6 : Hid (Below w.heap.size w w6) := (HBw4.out.trans (HKr.out.below (by have := HQE.out; have := HBw4.out.size; omega) (fun k hk e => by have := HQE.out; omega))).trans (hK4.below (by have := HQE.out; have := HKr.out.size; have := HBw4.out.size; omega) (fun k hk e => by have := HQE.out; omega))
  have HQw6 : Hid (w6.heap[q]? = some (.cells #[.int .u8 0, .slice none 0 0, .string ⟨#[]⟩, .slice none 0 0, .int .u16 0, .slice none 0 0, .slice none 0 0, .bool false, .bool false, .int .i32 0, .bool false, .int .i64 0, .slice none 0 0, .bool false, .int .u16 0, .bool false, .int .i64 0, .slice none 0 0, .int .i64 0, .slice none 0 0, .int .u8 0, .slice none 0 0] 33 (0, 0))) := (hK4.block q (block_lt HQB.out) (by omega)).trans HQB.out
  have HRw6 : Hid (w6.heap[q + 2]? = some (.cells #[.int .u8 13, .slice none 0 0, .string ⟨#[]⟩, .slice none 0 0, .int .u16 co, .slice a l c, .slice na nl nc, .bool b2, .bool b4, .int .i32 pn, .bool b8, .int .i64 sk1, .slice sa sl sc, .bool b16, .int .u16 sr, .bool b32, .int .i64 tm, .slice none 0 0, .int .i64 0, .slice none 0 0, .int .u8 kd, .slice aa al ac] 33 (0, 0))) := hb4
  have HSTw6 : Hid ((∀ k, k < w4.heap.size → q + 3 ≤ k → w6.heap[k]? = w4.heap[k]?) ∧ w4.heap.size ≤ w6.heap.size ∧ (∀ k, k < w5.heap.size → q + 3 ≤ k → w6.heap[k]? = w5.heap[k]?) ∧ w5.heap.size ≤ w6.heap.size) := ⟨fun k hk hk3 => (hK4.block k (by have := HKr.out.size; omega) (by omega)).trans (HKr.out.block k hk (by omega)), Nat.le_trans HKr.out.size hK4.size, fun k hk hk3 => hK4.block k hk (by omega), hK4.size⟩
  have HGw6 : Hid (RunG (fun k => q + 3 ≤ k) w6 a l c vs na nl nc ns sa sl sc sb) := HGr.out.stay (fun k hk hf => hK4.block k hk (by omega)) hK4.size (fun k hk hf => by omega)
  clear hb4 hK4 hs4
  go_wp2_with fail
  refine (rend HDw6.out HE.out).mono ?_
  rintro e w9 ⟨rfl, x9, hp9, HK9⟩
  have hl9 := block_lt HRw6.out
  have hr9 : w9.heap[q + 2]? = some (.cells #[.int .u8 13, .slice none 0 0, .string ⟨#[]⟩, .slice none 0 0, .int .u16 co, .slice a l c, .slice na nl nc, .bool b2, .bool b4, .int .i32 pn, .bool b8, .int .i64 sk1, .slice sa sl sc, .bool b16, .int .u16 sr, .bool b32, .int .i64 tm, .slice none 0 0, .int .i64 0, .slice none 0 0, .int .u8 kd, .slice aa al ac] 33 (0, 0)) := (HK9.out.block _ hl9 (by omega)).trans HRw6.out
  have hq9 : w9.heap[q]? = some (.cells #[.int .u8 0, .slice none 0 0, .string ⟨#[]⟩, .slice none 0 0, .int .u16 0, .slice none 0 0, .slice none 0 0, .bool false, .bool false, .int .i32 0, .bool false, .int .i64 0, .slice none 0 0, .bool false, .int .u16 0, .bool false, .int .i64 0, .slice none 0 0, .int .i64 0, .slice none 0 0, .int .u8 0, .slice none 0 0] 33 (0, 0)) := (HK9.out.block _ (by omega) (by omega)).trans HQw6.out
  have HB9 : Hid (Below w.heap.size w w9) := HBw6.out.trans (HK9.out.below (by have := HQE.out; omega) (fun k hk e => by have := HQE.out; omega))
  obtain ⟨p0, p1, p2, p3⟩ := two_cells hp9
  have hlr := block_lt hr9
  have hlq := block_lt hq9
  have hlp := block_lt hp9
  have HQ9 : Hid (w9.heap[q]? = some (.cells #[.int .u8 0, .slice none 0 0, .string ⟨#[]⟩, .slice none 0 0, .int .u16 0, .slice none 0 0, .slice none 0 0, .bool false, .bool false, .int .i32 0, .bool false, .int .i64 0, .slice none 0 0, .bool false, .int .u16 0, .bool false, .int .i64 0, .slice none 0 0, .int .i64 0, .slice none 0 0, .int .u8 0, .slice none 0 0] 33 (0, 0))) := hq9
  have HR9 : Hid (w9.heap[q + 2]? = some (.cells #[.int .u8 13, .slice none 0 0, .string ⟨#[]⟩, .slice none 0 0, .int .u16 co, .slice a l c, .slice na nl nc, .bool b2, .bool b4, .int .i32 pn, .bool b8, .int .i64 sk1, .slice sa sl sc, .bool b16, .int .u16 sr, .bool b32, .int .i64 tm, .slice none 0 0, .int .i64 0, .slice none 0 0, .int .u8 kd, .slice aa al ac] 33 (0, 0))) := hr9
  clear hq9 hr9 hp9
  by_cases he : E = 0
  · rw [he] at p1
    have HEZ : Hid (E = 0) := he
    clear he
    go_wp2_with (first | (refine wpList_load_row rfl 33 (.tmp 7) rfl rfl HR9.out Try.isz33 Try.agg33 ?_) | (refine wpList_store_row rfl 33 (.tmp 4) (.tmp 59) rfl rfl rfl Try.isz33 (by simp [Value.oneCell']) HQ9.out rfl ?_; intro wC hqC hKC hsC))
    have hwq := HQE.out
    refine bodyPost_ret (v := .tuple #[.agg #[.int .u8 13, .slice none 0 0, .string ⟨#[]⟩, .slice none 0 0, .int .u16 co, .slice a l c, .slice na nl nc, .bool b2, .bool b4, .int .i32 pn, .bool b8, .int .i64 sk1, .slice sa sl sc, .bool b16, .int .u16 sr, .bool b32, .int .i64 tm, .slice none 0 0, .int .i64 0, .slice none 0 0, .int .u8 kd, .slice aa al ac], .int .i64 0]) (results_cell_tmp rfl rfl hqC Try.isz33 Try.agg33 rfl) rfl ?_
    refine ⟨13, none, 0, 0, [], ByteArray.empty, none, 0, 0, ByteArray.empty, co, a, l, c, vs, na, nl, nc, ns, b2, b4, pn, b8, sk1, sb, sa, sl, sc, b16, sr, b32, tm, none, 0, 0, [], 0, ByteArray.empty, none, 0, 0, kd, aa, al, ac, L, by rw [HEZ.out] <;> rfl, ?_, fun h0 => ?_, fun h0 => absurd HEZ.out h0, HB9.out.trans (hKC.below (by have := HB9.out.size; omega) (fun k hk e => by omega))⟩
    · have hst : ∀ k, k < w6.heap.size → q + 3 ≤ k → wC.heap[k]? = w6.heap[k]? := fun k hk hk3 => (hKC.block k (by have := HK9.out.size; omega) (by omega)).trans (HK9.out.block k hk (by omega))
      have hss : w6.heap.size ≤ wC.heap.size := Nat.le_trans HK9.out.size hKC.size
      have hg := HGw6.out.stay (F' := fun _ => True) hst hss (fun _ _ _ => trivial)
      have ho := (HOA.out.kept stays_gt (F' := fun k => q + 3 ≤ k) (fun k hk hf => HSTw6.out.1 k hk hf) HSTw6.out.2.1 (fun _ _ hf => hf)).kept stays_gt (F' := fun _ => True) hst hss (fun _ _ _ => trivial)
      obtain ⟨aa', ac', e1, hV⟩ := ho.view gt_t
      cases e1
      exact ⟨⟨(show (0 : Int) ≤ 13 by decide), (show (13 : Int) ≤ 255 by decide)⟩, view_nil _ _ _, isB_nil _, hg.at HRG.out _ _ _ _ _ _, view_nil _ _ _, isB_nil _, HKD.out, hV⟩
    · have h1 : (stepR (getR 13) (zs, 0)).2 = 0 := lastE_ok (by rw [(g13 (zs, 0)).1]; exact HE.out.symm.trans HEZ.out)
      rw [(g13 (zs, 0)).2 h1]
      rw [(g13 (zs, 0)).1] at h1
      rw [← HVr.out h1, HV3.out (step_ok h1).1, HV1.out (step_ok (step_ok h1).1).1]
  · have t : (E == 0) = false := by simpa using he
    have t' : (E != 0) = true := by simpa using he
    have HEN : Hid (E ≠ 0) := he
    clear he
    go_wp2_with fail
    obtain ⟨hsr1, hqC, hKC⟩ := store_cells (w := w9.drew) (cells := #[.int .u8 0, .slice none 0 0, .string ⟨#[]⟩, .slice none 0 0, .int .u16 0, .slice none 0 0, .slice none 0 0, .bool false, .bool false, .int .i32 0, .bool false, .int .i64 0, .slice none 0 0, .bool false, .int .u16 0, .bool false, .int .i64 0, .slice none 0 0, .int .i64 0, .slice none 0 0, .int .u8 0, .slice none 0 0]) (by simp [Value.oneCell']) HQ9.out ((Below.refl _ _).drew) rfl
    generalize w9.drew.setRow q #[.int .u8 0, .slice none 0 0, .string ⟨#[]⟩, .slice none 0 0, .int .u16 0, .slice none 0 0, .slice none 0 0, .bool false, .bool false, .int .i32 0, .bool false, .int .i64 0, .slice none 0 0, .bool false, .int .u16 0, .bool false, .int .i64 0, .slice none 0 0, .int .i64 0, .slice none 0 0, .int .u8 0, .slice none 0 0] = wC at hsr1 hqC hKC
    simp [storeCells, go_sem] at hsr1
    have HSR : Hid _ := hsr1
    have hc2 : wC.cell? ⟨q + 1, 1, none⟩ = some (.int .i64 E) := (hKC.cell (p := ⟨q + 1, 1, none⟩) hlp (by simp only; omega)).trans p1
    clear hsr1
    go_region_held3 (fun w' => w'.cell? ⟨q + 1, 1, none⟩ = some (.int .i64 E)) (assumption) (first | (refine upon_of HSR.out ?_))
    all_goals (
      go_wp2_with fail
      have hwq := HQE.out
      refine bodyPost_ret (v := .tuple #[.agg #[.int .u8 0, .slice none 0 0, .string ⟨#[]⟩, .slice none 0 0, .int .u16 0, .slice none 0 0, .slice none 0 0, .bool false, .bool false, .int .i32 0, .bool false, .int .i64 0, .slice none 0 0, .bool false, .int .u16 0, .bool false, .int .i64 0, .slice none 0 0, .int .i64 0, .slice none 0 0, .int .u8 0, .slice none 0 0], .int .i64 E]) (results_cell_tmp rfl rfl (by first | exact hqC | (rw [World.heap_drewN]; exact hqC) | (simp only [World.heap_drewN]; exact hqC)) Try.isz33 Try.agg33 rfl) rfl ?_
      exact ⟨0, none, 0, 0, [], ByteArray.empty, none, 0, 0, ByteArray.empty, 0, none, 0, 0, [], none, 0, 0, [], false, false, 0, false, 0, ByteArray.empty, none, 0, 0, false, 0, false, 0, none, 0, 0, [], 0, ByteArray.empty, none, 0, 0, 0, none, 0, 0, [], rfl, rq_zero _ 0 ⟨by decide, by decide⟩, fun h0 => absurd h0 HEN.out, fun _ => rfl, HB9.out.trans (hKC.below (by have := HB9.out.size; omega) (fun k hk e => by omega))⟩)


set_option maxHeartbeats 4000000 in
theorem get_other {w : World} {ba : Option Addr} {bl bc : Nat} {zs : List Int} (h : IsB w ba bl bc zs) (hsm : bl ≤ 140737488351232) {op : Int} (hop : 0 ≤ op ∧ op ≤ 255) (h1 : op ≠ 1) (h5 : op ≠ 5) (h7 : op ≠ 7) (h9 : op ≠ 9) (h10 : op ≠ 10) (h11 : op ≠ 11) (h13 : op ≠ 13) (h15 : op ≠ 15) {E : Int} (hE : E = getE op zs) :
    Calls Try.prog 13 #[.int .u8 op, .slice ba bl bc] w fun e w' => ∃ (opr : Int) (oa : Option Addr) (ol oc : Nat) (os : List (ByteArray × ByteArray)) (tx : ByteArray) (ia : Option Addr) (il ic : Nat) (id : ByteArray) (co : Int) (a : Option Addr) (l c : Nat) (vs : List Vl) (na : Option Addr) (nl nc : Nat) (ns : List ByteArray) (b2 b4 : Bool) (pn : Int) (b8 : Bool) (sk1 : Int) (sb : ByteArray) (sa : Option Addr) (sl sc : Nat) (b16 : Bool) (sr : Int) (b32 : Bool) (tm : Int) (ea : Option Addr) (el ec : Nat) (es : List ByteArray) (tk : Int) (tb : ByteArray) (ta : Option Addr) (tl tc : Nat) (kd : Int) (aa : Option Addr) (al ac : Nat) (ss : List St), e = .returned (.tuple #[.agg #[.int .u8 opr, .slice oa ol oc, .string tx, .slice ia il ic, .int .u16 co, .slice a l c, .slice na nl nc, .bool b2, .bool b4, .int .i32 pn, .bool b8, .int .i64 sk1, .slice sa sl sc, .bool b16, .int .u16 sr, .bool b32, .int .i64 tm, .slice ea el ec, .int .i64 tk, .slice ta tl tc, .int .u8 kd, .slice aa al ac], .int .i64 E]) ∧ Hid (RqAt w' oa ol oc ia il ic a l c na nl nc sa sl sc ea el ec ta tl tc aa al ac (opr, os, tx, id, (co, vs, ns, b2, b4, pn, b8, (sk1, sb), b16, sr, b32, tm), es, (tk, tb), kd, ss)) ∧ Hid (E = 0 → (opr, os, tx, id, (co, vs, ns, b2, b4, pn, b8, (sk1, sb), b16, sr, b32, tm), es, (tk, tb), kd, ss) = (getR op zs).val) ∧ Hid (E ≠ 0 → (opr, os, tx, id, (co, vs, ns, b2, b4, pn, b8, (sk1, sb), b16, sr, b32, tm), es, (tk, tb), kd, ss) = rq0 0) ∧ Hid (Below w.heap.size w w') := by
  have t1 : (op == 1) = false := by simpa using h1
  have t5 : (op == 5) = false := by simpa using h5
  have t7 : (op == 7) = false := by simpa using h7
  have t9 : (op == 9) = false := by simpa using h9
  have t10 : (op == 10) = false := by simpa using h10
  have t11 : (op == 11) = false := by simpa using h11
  have t13 : (op == 13) = false := by simpa using h13
  have t15 : (op == 15) = false := by simpa using h15
  have hg := g_no h1 h5 h7 h9 h10 h11 h13 h15
  have HE : Hid (E = if (stepR (failR 22 : Ps Int) (zs, 0)).2 = 0 then (if 0 < (stepR (failR 22 : Ps Int) (zs, 0)).1.length then 23 else 0) else (stepR (failR 22 : Ps Int) (zs, 0)).2) := by
    show _ = _
    rw [hE, getE_last, hg]
    rfl
  have HEN0 : Hid (E = 22) := by
    show _ = _
    rw [hE, getE, hg]
    rfl
  clear hE hg h1 h5 h7 h9 h10 h11 h13 h15
  obtain ⟨q, hq⟩ : ∃ q, q = w.heap.size := ⟨_, rfl⟩
  obtain ⟨wR, hwR⟩ : ∃ wR, wR = ((w.alloc (.cells #[.int .u8 0, .slice none 0 0, .string ⟨#[]⟩, .slice none 0 0, .int .u16 0, .slice none 0 0, .slice none 0 0, .bool false, .bool false, .int .i32 0, .bool false, .int .i64 0, .slice none 0 0, .bool false, .int .u16 0, .bool false, .int .i64 0, .slice none 0 0, .int .i64 0, .slice none 0 0, .int .u8 0, .slice none 0 0] 33)).alloc (.cells #[.slice ba bl bc, .int .i64 0] 91)) := ⟨_, rfl⟩
  have HWR : Hid (((w.alloc (.cells #[.int .u8 0, .slice none 0 0, .string ⟨#[]⟩, .slice none 0 0, .int .u16 0, .slice none 0 0, .slice none 0 0, .bool false, .bool false, .int .i32 0, .bool false, .int .i64 0, .slice none 0 0, .bool false, .int .u16 0, .bool false, .int .i64 0, .slice none 0 0, .int .i64 0, .slice none 0 0, .int .u8 0, .slice none 0 0] 33)).alloc (.cells #[.slice ba bl bc, .int .i64 0] 91)) = wR) := hwR.symm
  have hszR : wR.heap.size = q + 2 := by rw [hwR, hq]; simp
  have hB0 : Below w.heap.size w wR := by rw [hwR]; exact (below_one _ _).alloc (by simp) _
  have hq0 : wR.heap[q]? = some (.cells #[.int .u8 0, .slice none 0 0, .string ⟨#[]⟩, .slice none 0 0, .int .u16 0, .slice none 0 0, .slice none 0 0, .bool false, .bool false, .int .i32 0, .bool false, .int .i64 0, .slice none 0 0, .bool false, .int .u16 0, .bool false, .int .i64 0, .slice none 0 0, .int .i64 0, .slice none 0 0, .int .u8 0, .slice none 0 0] 33 (0, 0)) := by
    rw [hwR, hq]
    exact ((below_one (w.alloc (.cells #[.int .u8 0, .slice none 0 0, .string ⟨#[]⟩, .slice none 0 0, .int .u16 0, .slice none 0 0, .slice none 0 0, .bool false, .bool false, .int .i32 0, .bool false, .int .i64 0, .slice none 0 0, .bool false, .int .u16 0, .bool false, .int .i64 0, .slice none 0 0, .int .i64 0, .slice none 0 0, .int .u8 0, .slice none 0 0] 33)) _).block w.heap.size (by simp)).trans (heap_alloc_new w _)
  have hqp : wR.heap[q + 1]? = some (.cells #[.slice ba bl bc, .int .i64 0] 91 (0, 0)) := by
    rw [hwR, hq]
    have := heap_alloc_new (w.alloc (.cells #[.int .u8 0, .slice none 0 0, .string ⟨#[]⟩, .slice none 0 0, .int .u16 0, .slice none 0 0, .slice none 0 0, .bool false, .bool false, .int .i32 0, .bool false, .int .i64 0, .slice none 0 0, .bool false, .int .u16 0, .bool false, .int .i64 0, .slice none 0 0, .int .i64 0, .slice none 0 0, .int .u8 0, .slice none 0 0] 33)) (.cells #[.slice ba bl bc, .int .i64 0] 91)
    simpa using this
  have H1 : Hid (Rd wR (q + 1) (zs, 0)) := ⟨⟨ba, bl, bc, hqp, fun _ => ⟨h.old hB0, fun z hz hl => by have := h.low z hz hl; omega⟩⟩, fun h => absurd rfl h, by show zs.length ≤ _; rw [h.1]; exact hsm, h.range⟩
  have HBR : Hid (Below w.heap.size w wR) := hB0
  have HQE : Hid (q = w.heap.size) := hq
  have HQW : Hid (w.heap.size = q) := hq.symm
  have HQR : Hid (wR.heap[q]? = some (.cells #[.int .u8 0, .slice none 0 0, .string ⟨#[]⟩, .slice none 0 0, .int .u16 0, .slice none 0 0, .slice none 0 0, .bool false, .bool false, .int .i32 0, .bool false, .int .i64 0, .slice none 0 0, .bool false, .int .u16 0, .bool false, .int .i64 0, .slice none 0 0, .int .i64 0, .slice none 0 0, .int .u8 0, .slice none 0 0] 33 (0, 0))) := hq0
  clear h hB0 hwR hq hq0 hqp hsm
  go_enter Try.func13, Try.ntmps13
  go_upto_region 2 with fail
  rw [HWR.out]
  clear HWR
  (try rw [HQW.out])
  go_wp2_with (refine wpList_store_hid (old := #[.int .u8 0, .slice none 0 0, .string ⟨#[]⟩, .slice none 0 0, .int .u16 0, .slice none 0 0, .slice none 0 0, .bool false, .bool false, .int .i32 0, .bool false, .int .i64 0, .slice none 0 0, .bool false, .int .u16 0, .bool false, .int .i64 0, .slice none 0 0, .int .i64 0, .slice none 0 0, .int .u8 0, .slice none 0 0]) (T := 33) rfl 33 (.tmp 7) (.tmp 11) rfl rfl rfl Try.isz33 (by simp [Value.oneCell']) (by rw [← hszR]; exact heap_alloc_new wR _) rfl ?_)
  intro w0 hqr hKr hsr
  have hKr2 : Kept (fun k => k = q + 2) wR w0 := (kept_of (below_one wR _)).trans hKr (fun _ _ e => e)
  have H : Hid (Rd w0 (q + 1) (zs, 0)) := H1.out.kept hKr2 (fun k hk e => by omega)
  have HB0 : Hid (Below w.heap.size w w0) := HBR.out.trans (hKr2.below (by have := HQE.out; omega) (fun k hk e => by have := HQE.out; omega))
  have HQ0 : Hid (w0.heap[q]? = some (.cells #[.int .u8 0, .slice none 0 0, .string ⟨#[]⟩, .slice none 0 0, .int .u16 0, .slice none 0 0, .slice none 0 0, .bool false, .bool false, .int .i32 0, .bool false, .int .i64 0, .slice none 0 0, .bool false, .int .u16 0, .bool false, .int .i64 0, .slice none 0 0, .int .i64 0, .slice none 0 0, .int .u8 0, .slice none 0 0] 33 (0, 0))) := (hKr2.block q (by omega) (by omega)).trans HQR.out
  have HR0 : Hid (w0.heap[q + 2]? = some (.cells #[.int .u8 op, .slice none 0 0, .string ⟨#[]⟩, .slice none 0 0, .int .u16 0, .slice none 0 0, .slice none 0 0, .bool false, .bool false, .int .i32 0, .bool false, .int .i64 0, .slice none 0 0, .bool false, .int .u16 0, .bool false, .int .i64 0, .slice none 0 0, .int .i64 0, .slice none 0 0, .int .u8 0, .slice none 0 0] 33 (0, 0))) := hqr
  have hl0 := block_lt hqr
  clear hqr hKr hKr2 hsr HQR H1 HBR hszR
  have HRw0 : Hid (w0.heap[q + 2]? = some (.cells #[.int .u8 op, .slice none 0 0, .string ⟨#[]⟩, .slice none 0 0, .int .u16 0, .slice none 0 0, .slice none 0 0, .bool false, .bool false, .int .i32 0, .bool false, .int .i64 0, .slice none 0 0, .bool false, .int .u16 0, .bool false, .int .i64 0, .slice none 0 0, .int .i64 0, .slice none 0 0, .int .u8 0, .slice none 0 0] 33 (0, 0))) := HR0
  have HQw0 : Hid (w0.heap[q]? = some (.cells #[.int .u8 0, .slice none 0 0, .string ⟨#[]⟩, .slice none 0 0, .int .u16 0, .slice none 0 0, .slice none 0 0, .bool false, .bool false, .int .i32 0, .bool false, .int .i64 0, .slice none 0 0, .bool false, .int .u16 0, .bool false, .int .i64 0, .slice none 0 0, .int .i64 0, .slice none 0 0, .int .u8 0, .slice none 0 0] 33 (0, 0))) := HQ0
  have HBw0 : Hid (Below w.heap.size w w0) := HB0
  have HDw0 : Hid (Rd w0 (q + 1) (zs, 0)) := H
  go_wp2_with fail
  refine (rfail HDw0.out 22 (by decide)).mono ?_
  rintro e w2 ⟨rfl, HDw2, HK1⟩
  have HRw2 : Hid (w2.heap[q + 2]? = some (.cells #[.int .u8 op, .slice none 0 0, .string ⟨#[]⟩, .slice none 0 0, .int .u16 0, .slice none 0 0, .slice none 0 0, .bool false, .bool false, .int .i32 0, .bool false, .int .i64 0, .slice none 0 0, .bool false, .int .u16 0, .bool false, .int .i64 0, .slice none 0 0, .int .i64 0, .slice none 0 0, .int .u8 0, .slice none 0 0] 33 (0, 0))) := (HK1.out.block _ (block_lt HRw0.out) (by omega)).trans HRw0.out
  have HQw2 : Hid (w2.heap[q]? = some (.cells #[.int .u8 0, .slice none 0 0, .string ⟨#[]⟩, .slice none 0 0, .int .u16 0, .slice none 0 0, .slice none 0 0, .bool false, .bool false, .int .i32 0, .bool false, .int .i64 0, .slice none 0 0, .bool false, .int .u16 0, .bool false, .int .i64 0, .slice none 0 0, .int .i64 0, .slice none 0 0, .int .u8 0, .slice none 0 0] 33 (0, 0))) := (HK1.out.block _ (block_lt HQw0.out) (by omega)).trans HQw0.out
  have HBw2 : Hid (Below w.heap.size w w2) := HBw0.out.trans (HK1.out.below (by have := HQE.out; have := HBw0.out.size; omega) (fun k hk e => by have := HQE.out; omega))
  go_wp2_with fail
  refine (rend HDw2.out HE.out).mono ?_
  rintro e w9 ⟨rfl, x9, hp9, HK9⟩
  have hl9 := block_lt HRw2.out
  have hr9 : w9.heap[q + 2]? = some (.cells #[.int .u8 op, .slice none 0 0, .string ⟨#[]⟩, .slice none 0 0, .int .u16 0, .slice none 0 0, .slice none 0 0, .bool false, .bool false, .int .i32 0, .bool false, .int .i64 0, .slice none 0 0, .bool false, .int .u16 0, .bool false, .int .i64 0, .slice none 0 0, .int .i64 0, .slice none 0 0, .int .u8 0, .slice none 0 0] 33 (0, 0)) := (HK9.out.block _ hl9 (by omega)).trans HRw2.out
  have hq9 : w9.heap[q]? = some (.cells #[.int .u8 0, .slice none 0 0, .string ⟨#[]⟩, .slice none 0 0, .int .u16 0, .slice none 0 0, .slice none 0 0, .bool false, .bool false, .int .i32 0, .bool false, .int .i64 0, .slice none 0 0, .bool false, .int .u16 0, .bool false, .int .i64 0, .slice none 0 0, .int .i64 0, .slice none 0 0, .int .u8 0, .slice none 0 0] 33 (0, 0)) := (HK9.out.block _ (by omega) (by omega)).trans HQw2.out
  have HB9 : Hid (Below w.heap.size w w9) := HBw2.out.trans (HK9.out.below (by have := HQE.out; omega) (fun k hk e => by have := HQE.out; omega))
  obtain ⟨p0, p1, p2, p3⟩ := two_cells hp9
  have hlr := block_lt hr9
  have hlq := block_lt hq9
  have hlp := block_lt hp9
  have HQ9 : Hid (w9.heap[q]? = some (.cells #[.int .u8 0, .slice none 0 0, .string ⟨#[]⟩, .slice none 0 0, .int .u16 0, .slice none 0 0, .slice none 0 0, .bool false, .bool false, .int .i32 0, .bool false, .int .i64 0, .slice none 0 0, .bool false, .int .u16 0, .bool false, .int .i64 0, .slice none 0 0, .int .i64 0, .slice none 0 0, .int .u8 0, .slice none 0 0] 33 (0, 0))) := hq9
  have HR9 : Hid (w9.heap[q + 2]? = some (.cells #[.int .u8 op, .slice none 0 0, .string ⟨#[]⟩, .slice none 0 0, .int .u16 0, .slice none 0 0, .slice none 0 0, .bool false, .bool false, .int .i32 0, .bool false, .int .i64 0, .slice none 0 0, .bool false, .int .u16 0, .bool false, .int .i64 0, .slice none 0 0, .int .i64 0, .slice none 0 0, .int .u8 0, .slice none 0 0] 33 (0, 0))) := hr9
  clear hq9 hr9 hp9
  by_cases he : E = 0
  · rw [he] at p1
    have HEZ : Hid (E = 0) := he
    clear he
    go_wp2_with (first | (refine wpList_load_row rfl 33 (.tmp 7) rfl rfl HR9.out Try.isz33 Try.agg33 ?_) | (refine wpList_store_row rfl 33 (.tmp 4) (.tmp 59) rfl rfl rfl Try.isz33 (by simp [Value.oneCell']) HQ9.out rfl ?_; intro wC hqC hKC hsC))
    have hwq := HQE.out
    refine bodyPost_ret (v := .tuple #[.agg #[.int .u8 op, .slice none 0 0, .string ⟨#[]⟩, .slice none 0 0, .int .u16 0, .slice none 0 0, .slice none 0 0, .bool false, .bool false, .int .i32 0, .bool false, .int .i64 0, .slice none 0 0, .bool false, .int .u16 0, .bool false, .int .i64 0, .slice none 0 0, .int .i64 0, .slice none 0 0, .int .u8 0, .slice none 0 0], .int .i64 0]) (results_cell_tmp rfl rfl hqC Try.isz33 Try.agg33 rfl) rfl ?_
    refine ⟨op, none, 0, 0, [], ByteArray.empty, none, 0, 0, ByteArray.empty, 0, none, 0, 0, [], none, 0, 0, [], false, false, 0, false, 0, ByteArray.empty, none, 0, 0, false, 0, false, 0, none, 0, 0, [], 0, ByteArray.empty, none, 0, 0, 0, none, 0, 0, [], by rw [HEZ.out] <;> rfl, ?_, fun h0 => ?_, fun h0 => absurd HEZ.out h0, HB9.out.trans (hKC.below (by have := HB9.out.size; omega) (fun k hk e => by omega))⟩
    · have hst : ∀ k, k < w2.heap.size → q + 3 ≤ k → wC.heap[k]? = w2.heap[k]? := fun k hk hk3 => (hKC.block k (by have := HK9.out.size; omega) (by omega)).trans (HK9.out.block k hk (by omega))
      have hss : w2.heap.size ≤ wC.heap.size := Nat.le_trans HK9.out.size hKC.size
      exact rq_zero _ op hop
    · exact absurd (HEZ.out.symm.trans HEN0.out) (by decide)
  · have t : (E == 0) = false := by simpa using he
    have t' : (E != 0) = true := by simpa using he
    have HEN : Hid (E ≠ 0) := he
    clear he
    go_wp2_with fail
    obtain ⟨hsr1, hqC, hKC⟩ := store_cells (w := w9.drew) (cells := #[.int .u8 0, .slice none 0 0, .string ⟨#[]⟩, .slice none 0 0, .int .u16 0, .slice none 0 0, .slice none 0 0, .bool false, .bool false, .int .i32 0, .bool false, .int .i64 0, .slice none 0 0, .bool false, .int .u16 0, .bool false, .int .i64 0, .slice none 0 0, .int .i64 0, .slice none 0 0, .int .u8 0, .slice none 0 0]) (by simp [Value.oneCell']) HQ9.out ((Below.refl _ _).drew) rfl
    generalize w9.drew.setRow q #[.int .u8 0, .slice none 0 0, .string ⟨#[]⟩, .slice none 0 0, .int .u16 0, .slice none 0 0, .slice none 0 0, .bool false, .bool false, .int .i32 0, .bool false, .int .i64 0, .slice none 0 0, .bool false, .int .u16 0, .bool false, .int .i64 0, .slice none 0 0, .int .i64 0, .slice none 0 0, .int .u8 0, .slice none 0 0] = wC at hsr1 hqC hKC
    simp [storeCells, go_sem] at hsr1
    have HSR : Hid _ := hsr1
    have hc2 : wC.cell? ⟨q + 1, 1, none⟩ = some (.int .i64 E) := (hKC.cell (p := ⟨q + 1, 1, none⟩) hlp (by simp only; omega)).trans p1
    clear hsr1
    go_region_held3 (fun w' => w'.cell? ⟨q + 1, 1, none⟩ = some (.int .i64 E)) (assumption) (first | (refine upon_of HSR.out ?_))
    all_goals (
      go_wp2_with fail
      have hwq := HQE.out
      refine bodyPost_ret (v := .tuple #[.agg #[.int .u8 0, .slice none 0 0, .string ⟨#[]⟩, .slice none 0 0, .int .u16 0, .slice none 0 0, .slice none 0 0, .bool false, .bool false, .int .i32 0, .bool false, .int .i64 0, .slice none 0 0, .bool false, .int .u16 0, .bool false, .int .i64 0, .slice none 0 0, .int .i64 0, .slice none 0 0, .int .u8 0, .slice none 0 0], .int .i64 E]) (results_cell_tmp rfl rfl (by first | exact hqC | (rw [World.heap_drewN]; exact hqC) | (simp only [World.heap_drewN]; exact hqC)) Try.isz33 Try.agg33 rfl) rfl ?_
      exact ⟨0, none, 0, 0, [], ByteArray.empty, none, 0, 0, ByteArray.empty, 0, none, 0, 0, [], none, 0, 0, [], false, false, 0, false, 0, ByteArray.empty, none, 0, 0, false, 0, false, 0, none, 0, 0, [], 0, ByteArray.empty, none, 0, 0, 0, none, 0, 0, [], rfl, rq_zero _ 0 ⟨by decide, by decide⟩, fun h0 => absurd h0 HEN.out, fun _ => rfl, HB9.out.trans (hKC.below (by have := HB9.out.size; omega) (fun k hk e => by omega))⟩)


theorem get_any {w : World} {ba : Option Addr} {bl bc : Nat} {zs : List Int} (h : IsB w ba bl bc zs) (hsm : bl ≤ 140737488351232) {op : Int} (hop : 0 ≤ op ∧ op ≤ 255) {E : Int} (hE : E = getE op zs) :
    Calls Try.prog 13 #[.int .u8 op, .slice ba bl bc] w fun e w' => ∃ (opr : Int) (oa : Option Addr) (ol oc : Nat) (os : List (ByteArray × ByteArray)) (tx : ByteArray) (ia : Option Addr) (il ic : Nat) (id : ByteArray) (co : Int) (a : Option Addr) (l c : Nat) (vs : List Vl) (na : Option Addr) (nl nc : Nat) (ns : List ByteArray) (b2 b4 : Bool) (pn : Int) (b8 : Bool) (sk1 : Int) (sb : ByteArray) (sa : Option Addr) (sl sc : Nat) (b16 : Bool) (sr : Int) (b32 : Bool) (tm : Int) (ea : Option Addr) (el ec : Nat) (es : List ByteArray) (tk : Int) (tb : ByteArray) (ta : Option Addr) (tl tc : Nat) (kd : Int) (aa : Option Addr) (al ac : Nat) (ss : List St), e = .returned (.tuple #[.agg #[.int .u8 opr, .slice oa ol oc, .string tx, .slice ia il ic, .int .u16 co, .slice a l c, .slice na nl nc, .bool b2, .bool b4, .int .i32 pn, .bool b8, .int .i64 sk1, .slice sa sl sc, .bool b16, .int .u16 sr, .bool b32, .int .i64 tm, .slice ea el ec, .int .i64 tk, .slice ta tl tc, .int .u8 kd, .slice aa al ac], .int .i64 E]) ∧ Hid (RqAt w' oa ol oc ia il ic a l c na nl nc sa sl sc ea el ec ta tl tc aa al ac (opr, os, tx, id, (co, vs, ns, b2, b4, pn, b8, (sk1, sb), b16, sr, b32, tm), es, (tk, tb), kd, ss)) ∧ Hid (E = 0 → (opr, os, tx, id, (co, vs, ns, b2, b4, pn, b8, (sk1, sb), b16, sr, b32, tm), es, (tk, tb), kd, ss) = (getR op zs).val) ∧ Hid (E ≠ 0 → (opr, os, tx, id, (co, vs, ns, b2, b4, pn, b8, (sk1, sb), b16, sr, b32, tm), es, (tk, tb), kd, ss) = rq0 0) ∧ Hid (Below w.heap.size w w') := by
  by_cases h1 : op = 1
  · subst h1; exact get_1 h hsm hE
  by_cases h5 : op = 5
  · subst h5; exact get_5 h hsm hE
  by_cases h7 : op = 7
  · subst h7; exact get_7 h hsm hE
  by_cases h9 : op = 9
  · subst h9; exact get_9 h hsm hE
  by_cases h10 : op = 10
  · subst h10; exact get_10 h hsm hE
  by_cases h11 : op = 11
  · subst h11; exact get_11 h hsm hE
  by_cases h13 : op = 13
  · subst h13; exact get_13 h hsm hE
  by_cases h15 : op = 15
  · subst h15; exact get_15 h hsm hE
  exact get_other h hsm hop h1 h5 h7 h9 h10 h11 h13 h15 hE
end Go.Proofs.Ytcecdklgiocbaaa
