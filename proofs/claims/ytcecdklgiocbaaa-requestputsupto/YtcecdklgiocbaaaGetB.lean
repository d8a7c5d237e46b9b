/-
  The contract of request.Get, by opcodes.
-/
import Derived.Test.YtcecdklgiocbaaaRowOps
import Derived.Deep.RegionHeld3
namespace Go.Proofs.Ytcecdklgiocbaaa
open Go.RowKit
set_option maxRecDepth 100000
set_option linter.unusedVariables false
set_option linter.unusedSimpArgs false

theorem view_low_p {w W : World} {n : Nat} {a : Option Addr} {l c : Nat} {xs : List (ByteArray × ByteArray)} (h : View 2 VP w a l c xs) (hf : ∀ z, a = some z → n ≤ z.block) (hst : ∀ k, k < w.heap.size → n ≤ k → W.heap[k]? = w.heap[k]?) (hs : w.heap.size ≤ W.heap.size) : View 2 VP W a l c xs := by
  obtain ⟨h1, h2, h3, h4, h5⟩ := h
  refine ⟨h1, h2, h3, h4, fun hp => ?_⟩
  obtain ⟨b, off, rfl, hb, hc⟩ := h5 hp
  refine ⟨b, off, rfl, Nat.lt_of_lt_of_le hb hs, fun i hi => ?_⟩
  obtain ⟨c, hcell, hv⟩ := hc i hi
  exact ⟨c, fun j hj => (World.cell?_of_block (w := w) (w' := W) (a := ⟨b, off + (i * 2 + j), none⟩) (hst b hb (hf _ rfl))).trans (hcell j hj), hv⟩
theorem view_low_s {w W : World} {n : Nat} {a : Option Addr} {l c : Nat} {xs : List ByteArray} (h : View 1 VS w a l c xs) (hf : ∀ z, a = some z → n ≤ z.block) (hst : ∀ k, k < w.heap.size → n ≤ k → W.heap[k]? = w.heap[k]?) (hs : w.heap.size ≤ W.heap.size) : View 1 VS W a l c xs := by
  obtain ⟨h1, h2, h3, h4, h5⟩ := h
  refine ⟨h1, h2, h3, h4, fun hp => ?_⟩
  obtain ⟨b, off, rfl, hb, hc⟩ := h5 hp
  refine ⟨b, off, rfl, Nat.lt_of_lt_of_le hb hs, fun i hi => ?_⟩
  obtain ⟨c, hcell, hv⟩ := hc i hi
  exact ⟨c, fun j hj => (World.cell?_of_block (w := w) (w' := W) (a := ⟨b, off + (i * 1 + j), none⟩) (hst b hb (hf _ rfl))).trans (hcell j hj), hv⟩

set_option maxHeartbeats 4000000 in
theorem get_5 {w : World} {ba : Option Addr} {bl bc : Nat} {zs : List Int} (h : IsB w ba bl bc zs) (hsm : bl ≤ 140737488351232) {E : Int} (hE : E = getE 5 zs) :
    Calls Try.prog 13 #[.int .u8 5, .slice ba bl bc] w fun e w' => ∃ (opr : Int) (oa : Option Addr) (ol oc : Nat) (os : List (ByteArray × ByteArray)) (tx : ByteArray) (ia : Option Addr) (il ic : Nat) (id : ByteArray) (co : Int) (a : Option Addr) (l c : Nat) (vs : List Vl) (na : Option Addr) (nl nc : Nat) (ns : List ByteArray) (b2 b4 : Bool) (pn : Int) (b8 : Bool) (sk1 : Int) (sb : ByteArray) (sa : Option Addr) (sl sc : Nat) (b16 : Bool) (sr : Int) (b32 : Bool) (tm : Int) (ea : Option Addr) (el ec : Nat) (es : List ByteArray) (tk : Int) (tb : ByteArray) (ta : Option Addr) (tl tc : Nat) (kd : Int) (aa : Option Addr) (al ac : Nat) (ss : List St), e = .returned (.tuple #[.agg #[.int .u8 opr, .slice oa ol oc, .string tx, .slice ia il ic, .int .u16 co, .slice a l c, .slice na nl nc, .bool b2, .bool b4, .int .i32 pn, .bool b8, .int .i64 sk1, .slice sa sl sc, .bool b16, .int .u16 sr, .bool b32, .int .i64 tm, .slice ea el ec, .int .i64 tk, .slice ta tl tc, .int .u8 kd, .slice aa al ac], .int .i64 E]) ∧ Hid (RqAt w' oa ol oc ia il ic a l c na nl nc sa sl sc ea el ec ta tl tc aa al ac (opr, os, tx, id, (co, vs, ns, b2, b4, pn, b8, (sk1, sb), b16, sr, b32, tm), es, (tk, tb), kd, ss)) ∧ Hid (E = 0 → (opr, os, tx, id, (co, vs, ns, b2, b4, pn, b8, (sk1, sb), b16, sr, b32, tm), es, (tk, tb), kd, ss) = (getR 5 zs).val) ∧ Hid (E ≠ 0 → (opr, os, tx, id, (co, vs, ns, b2, b4, pn, b8, (sk1, sb), b16, sr, b32, tm), es, (tk, tb), kd, ss) = rq0 0) ∧ Hid (Below w.heap.size w w') := by
  have HE : Hid (E = if ((zs, 0) : BE).2 = 0 then (if 0 < ((zs, 0) : BE).1.length then 23 else 0) else ((zs, 0) : BE).2) := by
    show _ = _
    rw [hE, getE_last, (g5 (S := (zs, 0)) (fun h => absurd rfl h)).1]
    rfl
  clear hE
  obtain ⟨q, hq⟩ : ∃ q, q = w.heap.size := ⟨_, rfl⟩
  obtain ⟨wR, hwR⟩ : ∃ wR, wR = ((w.alloc (.cells #[.int .u8 0, .slice none 0 0, .string ⟨#[]⟩, .slice none 0 0, .int .u16 0, .slice none 0 0, .slice none 0 0, .bool false, .bool false, .int .i32 0, .bool false, .int .i64 0, .slice none 0 0, .bool false, .int .u16 0, .bool false, .int .i64 0, .slice none 0 0, .int .i64 0, .slice none 0 0, .int .u8 0, .slice none 0 0] 33)).alloc (.cells #[.slice ba bl bc, .int .i64 0] 91)) := ⟨_, rfl⟩
  have HWR : Hid (((w.alloc (.cells #[.int .u8 0, .slice none 0 0, .string ⟨#[]⟩, .slice none 0 0, .int .u16 0, .slice none 0 0, .slice none 0 0, .bool false, .bool false, .int .i32 0, .bool false, .int .i64 0, .slice none 0 0, .bool false, .int .u16 0, .bool false, .int .i64 0, .slice none 0 0, .int .i64 0, .slice none 0 0, .int .u8 0, .slice none 0 0] 33)).alloc (.cells #[.slice ba bl bc, .int .i64 0] 91)) = wR) := hwR.symm
  have hszR : wR.heap.size = q + 2 := by rw [hwR, hq]; simp
  have hB0 : Below w.heap.size w wR := by rw [hwR]; exact (below_one _ _).alloc (by simp) _
  have hq0 : wR.heap[q]? = some (.cells #[.int .u8 0, .slice none 0 0, .string ⟨#[]⟩, .slice none 0 0, .int .u16 0, .slice none 0 0, .slice none 0 0, .bool false, .bool false, .int .i32 0, .bool false, .int .i64 0, .slice none 0 0, .bool false, .int .u16 0, .bool false, .int .i64 0, .slice none 0 0, .int .i64 0, .slice none 0 0, .int .u8 0, .slice none 0 0] 33 (0, 0)) := by
    rw [hwR, hq]
    exact ((below_one (w.alloc (.cells #[.int .u8 0, .slice none 0 0, .string ⟨#[]⟩, .slice none 0 0, .int .u16 0, .slice none 0 0, .slice none 0 0, .bool false, .bool false, .int .i32 0, .bool false, .int .i64 0, .slice none 0 0, .bool false, .int .u16 0, .bool false, .int .i64 0, .slice none 0 0, .int .i64 0, .slice none 0 0, .int .u8 0, .slice none 0 0] 33)) _).block w.heap.size (by simp)).trans (heap_alloc_new w _)
  have hqp : wR.heap[q + 1]? = some (.cells #[.slice ba bl bc, .int .i64 0] 91 (0, 0)) := by
    rw [hwR, hq]
    have := heap_alloc_new (w.alloc (.cells #[.int .u8 0, .slice none 0 0, .string ⟨#[]⟩, .slice none 0 0, .int .u16 0, .slice none 0 0, .slice none 0 0, .bool false, .bool false, .int .i32 0, .bool false, .int .i64 0, .slice none 0 0, .bool false, .int .u16 0, .bool false, .int .i64 0, .slice none 0 0, .int .i64 0, .slice none 0 0, .int .u8 0, .slice none 0 0] 33)) (.cells #[.slice ba bl bc, .int .i64 0] 91)
    simpa using this
  have H1 : Hid (Rd wR (q + 1) (zs, 0)) := ⟨⟨ba, bl, bc, hqp, fun _ => ⟨h.old hB0, fun z hz hl => by have := h.low z hz hl; omega⟩⟩, fun h => absurd rfl h, by show zs.length ≤ _; rw [h.1]; exact hsm, h.range⟩
  have HBR : Hid (Below w.heap.size w wR) := hB0
  have HQE : Hid (q = w.heap.size) := hq
  have HQW : Hid (w.heap.size = q) := hq.symm
  have HQR : Hid (wR.heap[q]? = some (.cells #[.int .u8 0, .slice none 0 0, .string ⟨#[]⟩, .slice none 0 0, .int .u16 0, .slice none 0 0, .slice none 0 0, .bool false, .bool false, .int .i32 0, .bool false, .int .i64 0, .slice none 0 0, .bool false, .int .u16 0, .bool false, .int .i64 0, .slice none 0 0, .int .i64 0, .slice none 0 0, .int .u8 0, .slice none 0 0] 33 (0, 0))) := hq0
  clear h hB0 hwR hq hq0 hqp hsm
  go_enter Try.func13, Try.ntmps13
  go_upto_region 2 with fail
  rw [HWR.out]
  clear HWR
  (try rw [HQW.out])
  go_wp2_with (refine wpList_store_hid (old := #[.int .u8 0, .slice none 0 0, .string ⟨#[]⟩, .slice none 0 0, .int .u16 0, .slice none 0 0, .slice none 0 0, .bool false, .bool false, .int .i32 0, .bool false, .int .i64 0, .slice none 0 0, .bool false, .int .u16 0, .bool false, .int .i64 0, .slice none 0 0, .int .i64 0, .slice none 0 0, .int .u8 0, .slice none 0 0]) (T := 33) rfl 33 (.tmp 7) (.tmp 11) rfl rfl rfl Try.isz33 (by simp [Value.oneCell']) (by rw [← hszR]; exact heap_alloc_new wR _) rfl ?_)
  intro w0 hqr hKr hsr
  have hKr2 : Kept (fun k => k = q + 2) wR w0 := (kept_of (below_one wR _)).trans hKr (fun _ _ e => e)
  have H : Hid (Rd w0 (q + 1) (zs, 0)) := H1.out.kept hKr2 (fun k hk e => by omega)
  have HB0 : Hid (Below w.heap.size w w0) := HBR.out.trans (hKr2.below (by have := HQE.out; omega) (fun k hk e => by have := HQE.out; omega))
  have HQ0 : Hid (w0.heap[q]? = some (.cells #[.int .u8 0, .slice none 0 0, .string ⟨#[]⟩, .slice none 0 0, .int .u16 0, .slice none 0 0, .slice none 0 0, .bool false, .bool false, .int .i32 0, .bool false, .int .i64 0, .slice none 0 0, .bool false, .int .u16 0, .bool false, .int .i64 0, .slice none 0 0, .int .i64 0, .slice none 0 0, .int .u8 0, .slice none 0 0] 33 (0, 0))) := (hKr2.block q (by omega) (by omega)).trans HQR.out
  have HR0 : Hid (w0.heap[q + 2]? = some (.cells #[.int .u8 5, .slice none 0 0, .string ⟨#[]⟩, .slice none 0 0, .int .u16 0, .slice none 0 0, .slice none 0 0, .bool false, .bool false, .int .i32 0, .bool false, .int .i64 0, .slice none 0 0, .bool false, .int .u16 0, .bool false, .int .i64 0, .slice none 0 0, .int .i64 0, .slice none 0 0, .int .u8 0, .slice none 0 0] 33 (0, 0))) := hqr
  have hl0 := block_lt hqr
  clear hqr hKr hKr2 hsr HQR H1 HBR hszR
  go_wp2_with fail
  refine (rend H.out HE.out).mono ?_
  rintro e w9 ⟨rfl, x9, hp9, HK9⟩
  have hl9 := block_lt HR0.out
  have hr9 : w9.heap[q + 2]? = some (.cells #[.int .u8 5, .slice none 0 0, .string ⟨#[]⟩, .slice none 0 0, .int .u16 0, .slice none 0 0, .slice none 0 0, .bool false, .bool false, .int .i32 0, .bool false, .int .i64 0, .slice none 0 0, .bool false, .int .u16 0, .bool false, .int .i64 0, .slice none 0 0, .int .i64 0, .slice none 0 0, .int .u8 0, .slice none 0 0] 33 (0, 0)) := (HK9.out.block _ hl9 (by omega)).trans HR0.out
  have hq9 : w9.heap[q]? = some (.cells #[.int .u8 0, .slice none 0 0, .string ⟨#[]⟩, .slice none 0 0, .int .u16 0, .slice none 0 0, .slice none 0 0, .bool false, .bool false, .int .i32 0, .bool false, .int .i64 0, .slice none 0 0, .bool false, .int .u16 0, .bool false, .int .i64 0, .slice none 0 0, .int .i64 0, .slice none 0 0, .int .u8 0, .slice none 0 0] 33 (0, 0)) := (HK9.out.block _ (by omega) (by omega)).trans HQ0.out
  have HB9 : Hid (Below w.heap.size w w9) := HB0.out.trans (HK9.out.below (by have := HQE.out; omega) (fun k hk e => by have := HQE.out; omega))
  obtain ⟨p0, p1, p2, p3⟩ := two_cells hp9
  have hlr := block_lt hr9
  have hlq := block_lt hq9
  have hlp := block_lt hp9
  have HQ9 : Hid (w9.heap[q]? = some (.cells #[.int .u8 0, .slice none 0 0, .string ⟨#[]⟩, .slice none 0 0, .int .u16 0, .slice none 0 0, .slice none 0 0, .bool false, .bool false, .int .i32 0, .bool false, .int .i64 0, .slice none 0 0, .bool false, .int .u16 0, .bool false, .int .i64 0, .slice none 0 0, .int .i64 0, .slice none 0 0, .int .u8 0, .slice none 0 0] 33 (0, 0))) := hq9
  have HR9 : Hid (w9.heap[q + 2]? = some (.cells #[.int .u8 5, .slice none 0 0, .string ⟨#[]⟩, .slice none 0 0, .int .u16 0, .slice none 0 0, .slice none 0 0, .bool false, .bool false, .int .i32 0, .bool false, .int .i64 0, .slice none 0 0, .bool false, .int .u16 0, .bool false, .int .i64 0, .slice none 0 0, .int .i64 0, .slice none 0 0, .int .u8 0, .slice none 0 0] 33 (0, 0))) := hr9
  clear hq9 hr9 hp9
  by_cases he : E = 0
  · rw [he] at p1
    have HEZ : Hid (E = 0) := he
    clear he
    go_wp2_with (first | (refine wpList_load_row rfl 33 (.tmp 7) rfl rfl HR9.out Try.isz33 Try.agg33 ?_) | (refine wpList_store_row rfl 33 (.tmp 4) (.tmp 59) rfl rfl rfl Try.isz33 (by simp [Value.oneCell']) HQ9.out rfl ?_; intro wC hqC hKC hsC))
    have hwq := HQE.out
    refine bodyPost_ret (v := .tuple #[.agg #[.int .u8 5, .slice none 0 0, .string ⟨#[]⟩, .slice none 0 0, .int .u16 0, .slice none 0 0, .slice none 0 0, .bool false, .bool false, .int .i32 0, .bool false, .int .i64 0, .slice none 0 0, .bool false, .int .u16 0, .bool false, .int .i64 0, .slice none 0 0, .int .i64 0, .slice none 0 0, .int .u8 0, .slice none 0 0], .int .i64 0]) (results_cell_tmp rfl rfl hqC Try.isz33 Try.agg33 rfl) rfl ?_
    refine ⟨5, none, 0, 0, [], ByteArray.empty, none, 0, 0, ByteArray.empty, 0, none, 0, 0, [], none, 0, 0, [], false, false, 0, false, 0, ByteArray.empty, none, 0, 0, false, 0, false, 0, none, 0, 0, [], 0, ByteArray.empty, none, 0, 0, 0, none, 0, 0, [], by rw [HEZ.out] <;> rfl, ?_, fun h0 => ?_, fun h0 => absurd HEZ.out h0, HB9.out.trans (hKC.below (by have := HB9.out.size; omega) (fun k hk e => by omega))⟩
    · have hst : ∀ k, k < w0.heap.size → q + 3 ≤ k → wC.heap[k]? = w0.heap[k]? := fun k hk hk3 => (hKC.block k (by have := HK9.out.size; omega) (by omega)).trans (HK9.out.block k hk (by omega))
      have hss : w0.heap.size ≤ wC.heap.size := Nat.le_trans HK9.out.size hKC.size
      exact rq_zero _ 5 ⟨by decide, by decide⟩
    · exact (g5 (S := (zs, 0)) (fun h => absurd rfl h)).2.symm
  · have t : (E == 0) = false := by simpa using he
    have t' : (E != 0) = true := by simpa using he
    have HEN : Hid (E ≠ 0) := he
    clear he
    go_wp2_with fail
    obtain ⟨hsr1, hqC, hKC⟩ := store_cells (w := w9.drew) (cells := #[.int .u8 0, .slice none 0 0, .string ⟨#[]⟩, .slice none 0 0, .int .u16 0, .slice none 0 0, .slice none 0 0, .bool false, .bool false, .int .i32 0, .bool false, .int .i64 0, .slice none 0 0, .bool false, .int .u16 0, .bool false, .int .i64 0, .slice none 0 0, .int .i64 0, .slice none 0 0, .int .u8 0, .slice none 0 0]) (by simp [Value.oneCell']) HQ9.out ((Below.refl _ _).drew) rfl
    generalize w9.drew.setRow q #[.int .u8 0, .slice none 0 0, .string ⟨#[]⟩, .slice none 0 0, .int .u16 0, .slice none 0 0, .slice none 0 0, .bool false, .bool false, .int .i32 0, .bool false, .int .i64 0, .slice none 0 0, .bool false, .int .u16 0, .bool false, .int .i64 0, .slice none 0 0, .int .i64 0, .slice none 0 0, .int .u8 0, .slice none 0 0] = wC at hsr1 hqC hKC
    simp [storeCells, go_sem] at hsr1
    have HSR : Hid _ := hsr1
    have hc2 : wC.cell? ⟨q + 1, 1, none⟩ = some (.int .i64 E) := (hKC.cell (p := ⟨q + 1, 1, none⟩) hlp (by simp only; omega)).trans p1
    clear hsr1
    go_region_held3 (fun w' => w'.cell? ⟨q + 1, 1, none⟩ = some (.int .i64 E)) (assumption) (first | (refine upon_of HSR.out ?_))
    all_goals (
      go_wp2_with fail
      have hwq := HQE.out
      refine bodyPost_ret (v := .tuple #[.agg #[.int .u8 0, .slice none 0 0, .string ⟨#[]⟩, .slice none 0 0, .int .u16 0, .slice none 0 0, .slice none 0 0, .bool false, .bool false, .int .i32 0, .bool false, .int .i64 0, .slice none 0 0, .bool false, .int .u16 0, .bool false, .int .i64 0, .slice none 0 0, .int .i64 0, .slice none 0 0, .int .u8 0, .slice none 0 0], .int .i64 E]) (results_cell_tmp rfl rfl (by first | exact hqC | (rw [World.heap_drewN]; exact hqC) | (simp only [World.heap_drewN]; exact hqC)) Try.isz33 Try.agg33 rfl) rfl ?_
      exact ⟨0, none, 0, 0, [], ByteArray.empty, none, 0, 0, ByteArray.empty, 0, none, 0, 0, [], none, 0, 0, [], false, false, 0, false, 0, ByteArray.empty, none, 0, 0, false, 0, false, 0, none, 0, 0, [], 0, ByteArray.empty, none, 0, 0, 0, none, 0, 0, [], rfl, rq_zero _ 0 ⟨by decide, by decide⟩, fun h0 => absurd h0 HEN.out, fun _ => rfl, HB9.out.trans (hKC.below (by have := HB9.out.size; omega) (fun k hk e => by omega))⟩)


set_option maxHeartbeats 4000000 in
theorem get_1 {w : World} {ba : Option Addr} {bl bc : Nat} {zs : List Int} (h : IsB w ba bl bc zs) (hsm : bl ≤ 140737488351232) {E : Int} (hE : E = getE 1 zs) :
    Calls Try.prog 13 #[.int .u8 1, .slice ba bl bc] w fun e w' => ∃ (opr : Int) (oa : Option Addr) (ol oc : Nat) (os : List (ByteArray × ByteArray)) (tx : ByteArray) (ia : Option Addr) (il ic : Nat) (id : ByteArray) (co : Int) (a : Option Addr) (l c : Nat) (vs : List Vl) (na : Option Addr) (nl nc : Nat) (ns : List ByteArray) (b2 b4 : Bool) (pn : Int) (b8 : Bool) (sk1 : Int) (sb : ByteArray) (sa : Option Addr) (sl sc : Nat) (b16 : Bool) (sr : Int) (b32 : Bool) (tm : Int) (ea : Option Addr) (el ec : Nat) (es : List ByteArray) (tk : Int) (tb : ByteArray) (ta : Option Addr) (tl tc : Nat) (kd : Int) (aa : Option Addr) (al ac : Nat) (ss : List St), e = .returned (.tuple #[.agg #[.int .u8 opr, .slice oa ol oc, .string tx, .slice ia il ic, .int .u16 co, .slice a l c, .slice na nl nc, .bool b2, .bool b4, .int .i32 pn, .bool b8, .int .i64 sk1, .slice sa sl sc, .bool b16, .int .u16 sr, .bool b32, .int .i64 tm, .slice ea el ec, .int .i64 tk, .slice ta tl tc, .int .u8 kd, .slice aa al ac], .int .i64 E]) ∧ Hid (RqAt w' oa ol oc ia il ic a l c na nl nc sa sl sc ea el ec ta tl tc aa al ac (opr, os, tx, id, (co, vs, ns, b2, b4, pn, b8, (sk1, sb), b16, sr, b32, tm), es, (tk, tb), kd, ss)) ∧ Hid (E = 0 → (opr, os, tx, id, (co, vs, ns, b2, b4, pn, b8, (sk1, sb), b16, sr, b32, tm), es, (tk, tb), kd, ss) = (getR 1 zs).val) ∧ Hid (E ≠ 0 → (opr, os, tx, id, (co, vs, ns, b2, b4, pn, b8, (sk1, sb), b16, sr, b32, tm), es, (tk, tb), kd, ss) = rq0 0) ∧ Hid (Below w.heap.size w w') := by
  have HE : Hid (E = if (stepR (listR (keyR textR)) (zs, 0)).2 = 0 then (if 0 < (stepR (listR (keyR textR)) (zs, 0)).1.length then 23 else 0) else (stepR (listR (keyR textR)) (zs, 0)).2) := by
    show _ = _
    rw [hE, getE_last, (g1 (zs, 0)).1]
    rfl
  clear hE
  obtain ⟨q, hq⟩ : ∃ q, q = w.heap.size := ⟨_, rfl⟩
  obtain ⟨wR, hwR⟩ : ∃ wR, wR = ((w.alloc (.cells #[.int .u8 0, .slice none 0 0, .string ⟨#[]⟩, .slice none 0 0, .int .u16 0, .slice none 0 0, .slice none 0 0, .bool false, .bool false, .int .i32 0, .bool false, .int .i64 0, .slice none 0 0, .bool false, .int .u16 0, .bool false, .int .i64 0, .slice none 0 0, .int .i64 0, .slice none 0 0, .int .u8 0, .slice none 0 0] 33)).alloc (.cells #[.slice ba bl bc, .int .i64 0] 91)) := ⟨_, rfl⟩
  have HWR : Hid (((w.alloc (.cells #[.int .u8 0, .slice none 0 0, .string ⟨#[]⟩, .slice none 0 0, .int .u16 0, .slice none 0 0, .slice none 0 0, .bool false, .bool false, .int .i32 0, .bool false, .int .i64 0, .slice none 0 0, .bool false, .int .u16 0, .bool false, .int .i64 0, .slice none 0 0, .int .i64 0, .slice none 0 0, .int .u8 0, .slice none 0 0] 33)).alloc (.cells #[.slice ba bl bc, .int .i64 0] 91)) = wR) := hwR.symm
  have hszR : wR.heap.size = q + 2 := by rw [hwR, hq]; simp
  have hB0 : Below w.heap.size w wR := by rw [hwR]; exact (below_one _ _).alloc (by simp) _
  have hq0 : wR.heap[q]? = some (.cells #[.int .u8 0, .slice none 0 0, .string ⟨#[]⟩, .slice none 0 0, .int .u16 0, .slice none 0 0, .slice none 0 0, .bool false, .bool false, .int .i32 0, .bool false, .int .i64 0, .slice none 0 0, .bool false, .int .u16 0, .bool false, .int .i64 0, .slice none 0 0, .int .i64 0, .slice none 0 0, .int .u8 0, .slice none 0 0] 33 (0, 0)) := by
    rw [hwR, hq]
    exact ((below_one (w.alloc (.cells #[.int .u8 0, .slice none 0 0, .string ⟨#[]⟩, .slice none 0 0, .int .u16 0, .slice none 0 0, .slice none 0 0, .bool false, .bool false, .int .i32 0, .bool false, .int .i64 0, .slice none 0 0, .bool false, .int .u16 0, .bool false, .int .i64 0, .slice none 0 0, .int .i64 0, .slice none 0 0, .int .u8 0, .slice none 0 0] 33)) _).block w.heap.size (by simp)).trans (heap_alloc_new w _)
  have hqp : wR.heap[q + 1]? = some (.cells #[.slice ba bl bc, .int .i64 0] 91 (0, 0)) := by
    rw [hwR, hq]
    have := heap_alloc_new (w.alloc (.cells #[.int .u8 0, .slice none 0 0, .string ⟨#[]⟩, .slice none 0 0, .int .u16 0, .slice none 0 0, .slice none 0 0, .bool false, .bool false, .int .i32 0, .bool false, .int .i64 0, .slice none 0 0, .bool false, .int .u16 0, .bool false, .int .i64 0, .slice none 0 0, .int .i64 0, .slice none 0 0, .int .u8 0, .slice none 0 0] 33)) (.cells #[.slice ba bl bc, .int .i64 0] 91)
    simpa using this
  have H1 : Hid (Rd wR (q + 1) (zs, 0)) := ⟨⟨ba, bl, bc, hqp, fun _ => ⟨h.old hB0, fun z hz hl => by have := h.low z hz hl; omega⟩⟩, fun h => absurd rfl h, by show zs.length ≤ _; rw [h.1]; exact hsm, h.range⟩
  have HBR : Hid (Below w.heap.size w wR) := hB0
  have HQE : Hid (q = w.heap.size) := hq
  have HQW : Hid (w.heap.size = q) := hq.symm
  have HQR : Hid (wR.heap[q]? = some (.cells #[.int .u8 0, .slice none 0 0, .string ⟨#[]⟩, .slice none 0 0, .int .u16 0, .slice none 0 0, .slice none 0 0, .bool false, .bool false, .int .i32 0, .bool false, .int .i64 0, .slice none 0 0, .bool false, .int .u16 0, .bool false, .int .i64 0, .slice none 0 0, .int .i64 0, .slice none 0 0, .int .u8 0, .slice none 0 0] 33 (0, 0))) := hq0
  clear h hB0 hwR hq hq0 hqp hsm
  go_enter Try.func13, Try.ntmps13
  go_upto_region 2 with fail
  rw [HWR.out]
  clear HWR
  (try rw [HQW.out])
  go_wp2_with (refine wpList_store_hid (old := #[.int .u8 0, .slice none 0 0, .string ⟨#[]⟩, .slice none 0 0, .int .u16 0, .slice none 0 0, .slice none 0 0, .bool false, .bool false, .int .i32 0, .bool false, .int .i64 0, .slice none 0 0, .bool false, .int .u16 0, .bool false, .int .i64 0, .slice none 0 0, .int .i64 0, .slice none 0 0, .int .u8 0, .slice none 0 0]) (T := 33) rfl 33 (.tmp 7) (.tmp 11) rfl rfl rfl Try.isz33 (by simp [Value.oneCell']) (by rw [← hszR]; exact heap_alloc_new wR _) rfl ?_)
  intro w0 hqr hKr hsr
  have hKr2 : Kept (fun k => k = q + 2) wR w0 := (kept_of (below_one wR _)).trans hKr (fun _ _ e => e)
  have H : Hid (Rd w0 (q + 1) (zs, 0)) := H1.out.kept hKr2 (fun k hk e => by omega)
  have HB0 : Hid (Below w.heap.size w w0) := HBR.out.trans (hKr2.below (by have := HQE.out; omega) (fun k hk e => by have := HQE.out; omega))
  have HQ0 : Hid (w0.heap[q]? = some (.cells #[.int .u8 0, .slice none 0 0, .string ⟨#[]⟩, .slice none 0 0, .int .u16 0, .slice none 0 0, .slice none 0 0, .bool false, .bool false, .int .i32 0, .bool false, .int .i64 0, .slice none 0 0, .bool false, .int .u16 0, .bool false, .int .i64 0, .slice none 0 0, .int .i64 0, .slice none 0 0, .int .u8 0, .slice none 0 0] 33 (0, 0))) := (hKr2.block q (by omega) (by omega)).trans HQR.out
  have HR0 : Hid (w0.heap[q + 2]? = some (.cells #[.int .u8 1, .slice none 0 0, .string ⟨#[]⟩, .slice none 0 0, .int .u16 0, .slice none 0 0, .slice none 0 0, .bool false, .bool false, .int .i32 0, .bool false, .int .i64 0, .slice none 0 0, .bool false, .int .u16 0, .bool false, .int .i64 0, .slice none 0 0, .int .i64 0, .slice none 0 0, .int .u8 0, .slice none 0 0] 33 (0, 0))) := hqr
  have hl0 := block_lt hqr
  clear hqr hKr hKr2 hsr HQR H1 HBR hszR
  have HRw0 : Hid (w0.heap[q + 2]? = some (.cells #[.int .u8 1, .slice none 0 0, .string ⟨#[]⟩, .slice none 0 0, .int .u16 0, .slice none 0 0, .slice none 0 0, .bool false, .bool false, .int .i32 0, .bool false, .int .i64 0, .slice none 0 0, .bool false, .int .u16 0, .bool false, .int .i64 0, .slice none 0 0, .int .i64 0, .slice none 0 0, .int .u8 0, .slice none 0 0] 33 (0, 0))) := HR0
  have HQw0 : Hid (w0.heap[q]? = some (.cells #[.int .u8 0, .slice none 0 0, .string ⟨#[]⟩, .slice none 0 0, .int .u16 0, .slice none 0 0, .slice none 0 0, .bool false, .bool false, .int .i32 0, .bool false, .int .i64 0, .slice none 0 0, .bool false, .int .u16 0, .bool false, .int .i64 0, .slice none 0 0, .int .i64 0, .slice none 0 0, .int .u8 0, .slice none 0 0] 33 (0, 0))) := HQ0
  have HBw0 : Hid (Below w.heap.size w w0) := HB0
  go_wp2_with fail
  refine (read_pairs H.out).mono ?_
  rintro e w1 ⟨v, L, rfl, HR1, HO1, HV1, HK1⟩
  obtain ⟨oa, oc, rfl, hview, hfr⟩ := HO1.out.view
  obtain ⟨ol, hol⟩ : ∃ ol, ol = L.length := ⟨_, rfl⟩
  rw [← hol] at HO1 hview ⊢
  have HVW : Hid (View 2 VP w1 oa ol oc L ∧ ∀ z, oa = some z → q + 3 ≤ z.block) := ⟨hview, fun z hz => by have := (hfr z hz).1; omega⟩
  clear hol hview hfr
  have hr1 : w1.heap[q + 2]? = some (.cells #[.int .u8 1, .slice none 0 0, .string ⟨#[]⟩, .slice none 0 0, .int .u16 0, .slice none 0 0, .slice none 0 0, .bool false, .bool false, .int .i32 0, .bool false, .int .i64 0, .slice none 0 0, .bool false, .int .u16 0, .bool false, .int .i64 0, .slice none 0 0, .int .i64 0, .slice none 0 0, .int .u8 0, .slice none 0 0] 33 (0, 0)) := (HK1.out.block _ (block_lt HRw0.out) (by omega)).trans HRw0.out
  have hq1 : w1.heap[q]? = some (.cells #[.int .u8 0, .slice none 0 0, .string ⟨#[]⟩, .slice none 0 0, .int .u16 0, .slice none 0 0, .slice none 0 0, .bool false, .bool false, .int .i32 0, .bool false, .int .i64 0, .slice none 0 0, .bool false, .int .u16 0, .bool false, .int .i64 0, .slice none 0 0, .int .i64 0, .slice none 0 0, .int .u8 0, .slice none 0 0] 33 (0, 0)) := (HK1.out.block _ (block_lt HQw0.out) (by omega)).trans HQw0.out
  have hl1 := block_lt hr1
  obtain ⟨d0, d1, d2, d3, d4, d5, d6, d7, d8, d9, d10, d11, d12, d13, d14, d15, d16, d17, d18, d19, d20, d21⟩ := req_cells hr1
  obtain ⟨f0, f1, f2, f3, f4, f5, f6, f7, f8, f9, f10, f11, f12, f13, f14, f15, f16, f17, f18, f19, f20, f21⟩ := req_frozen hr1
  go_upto_region 24 with fail
  have hKb : Kept (fun k => k = q + 2) w1 (w1.setCell ⟨q + 2, 1, none⟩ (.slice oa ol oc)) := ((Kept.refl (fun k => k = q + 2) w1).setCell (p := ⟨q + 2, 1, none⟩) (fun _ => rfl) _)
  have hb2 := (req_set1 hr1 (.slice oa ol oc))
  generalize (w1.setCell ⟨q + 2, 1, none⟩ (.slice oa ol oc)) = w2 at hKb hb2 ⊢
  have HDw2 : Hid (Rd w2 (q + 1) (stepR (listR (keyR textR)) (zs, 0))) := HR1.out.kept hKb (fun k hk e => by omega)
  have HBw2 : Hid (Below w.heap.size w w2) := (HBw0.out.trans (HK1.out.below (by have := HQE.out; have := HBw0.out.size; omega) (fun k hk e => by have := HQE.out; omega))).trans (hKb.below (by have := HQE.out; have := HK1.out.size; have := HBw0.out.size; omega) (fun k hk e => by have := HQE.out; omega))
  have HQw2 : Hid (w2.heap[q]? = some (.cells #[.int .u8 0, .slice none 0 0, .string ⟨#[]⟩, .slice none 0 0, .int .u16 0, .slice none 0 0, .slice none 0 0, .bool false, .bool false, .int .i32 0, .bool false, .int .i64 0, .slice none 0 0, .bool false, .int .u16 0, .bool false, .int .i64 0, .slice none 0 0, .int .i64 0, .slice none 0 0, .int .u8 0, .slice none 0 0] 33 (0, 0))) := (hKb.block q (block_lt hq1) (by omega)).trans hq1
  have HRw2 : Hid (w2.heap[q + 2]? = some (.cells #[.int .u8 1, .slice oa ol oc, .string ⟨#[]⟩, .slice none 0 0, .int .u16 0, .slice none 0 0, .slice none 0 0, .bool false, .bool false, .int .i32 0, .bool false, .int .i64 0, .slice none 0 0, .bool false, .int .u16 0, .bool false, .int .i64 0, .slice none 0 0, .int .i64 0, .slice none 0 0, .int .u8 0, .slice none 0 0] 33 (0, 0))) := hb2
  have hst2 : ∀ k, k < w1.heap.size → q + 3 ≤ k → w2.heap[k]? = w1.heap[k]? := fun k hk hk3 => hKb.block k hk (by omega)
  have HSTw2 : Hid ((∀ k, k < w1.heap.size → q + 3 ≤ k → w2.heap[k]? = w1.heap[k]?) ∧ w1.heap.size ≤ w2.heap.size) := ⟨hst2, hKb.size⟩
  clear hKb hb2 hst2 hr1 hq1 hl1 d0 d1 d2 d3 d4 d5 d6 d7 d8 d9 d10 d11 d12 d13 d14 d15 d16 d17 d18 d19 d20 d21 f0 f1 f2 f3 f4 f5 f6 f7 f8 f9 f10 f11 f12 f13 f14 f15 f16 f17 f18 f19 f20 f21
  go_wp2_with fail
  refine (rend HDw2.out HE.out).mono ?_
  rintro e w9 ⟨rfl, x9, hp9, HK9⟩
  have hl9 := block_lt HRw2.out
  have hr9 : w9.heap[q + 2]? = some (.cells #[.int .u8 1, .slice oa ol oc, .string ⟨#[]⟩, .slice none 0 0, .int .u16 0, .slice none 0 0, .slice none 0 0, .bool false, .bool false, .int .i32 0, .bool false, .int .i64 0, .slice none 0 0, .bool false, .int .u16 0, .bool false, .int .i64 0, .slice none 0 0, .int .i64 0, .slice none 0 0, .int .u8 0, .slice none 0 0] 33 (0, 0)) := (HK9.out.block _ hl9 (by omega)).trans HRw2.out
  have hq9 : w9.heap[q]? = some (.cells #[.int .u8 0, .slice none 0 0, .string ⟨#[]⟩, .slice none 0 0, .int .u16 0, .slice none 0 0, .slice none 0 0, .bool false, .bool false, .int .i32 0, .bool false, .int .i64 0, .slice none 0 0, .bool false, .int .u16 0, .bool false, .int .i64 0, .slice none 0 0, .int .i64 0, .slice none 0 0, .int .u8 0, .slice none 0 0] 33 (0, 0)) := (HK9.out.block _ (by omega) (by omega)).trans HQw2.out
  have HB9 : Hid (Below w.heap.size w w9) := HBw2.out.trans (HK9.out.below (by have := HQE.out; omega) (fun k hk e => by have := HQE.out; omega))
  obtain ⟨p0, p1, p2, p3⟩ := two_cells hp9
  have hlr := block_lt hr9
  have hlq := block_lt hq9
  have hlp := block_lt hp9
  have HQ9 : Hid (w9.heap[q]? = some (.cells #[.int .u8 0, .slice none 0 0, .string ⟨#[]⟩, .slice none 0 0, .int .u16 0, .slice none 0 0, .slice none 0 0, .bool false, .bool false, .int .i32 0, .bool false, .int .i64 0, .slice none 0 0, .bool false, .int .u16 0, .bool false, .int .i64 0, .slice none 0 0, .int .i64 0, .slice none 0 0, .int .u8 0, .slice none 0 0] 33 (0, 0))) := hq9
  have HR9 : Hid (w9.heap[q + 2]? = some (.cells #[.int .u8 1, .slice oa ol oc, .string ⟨#[]⟩, .slice none 0 0, .int .u16 0, .slice none 0 0, .slice none 0 0, .bool false, .bool false, .int .i32 0, .bool false, .int .i64 0, .slice none 0 0, .bool false, .int .u16 0, .bool false, .int .i64 0, .slice none 0 0, .int .i64 0, .slice none 0 0, .int .u8 0, .slice none 0 0] 33 (0, 0))) := hr9
  clear hq9 hr9 hp9
  by_cases he : E = 0
  · rw [he] at p1
    have HEZ : Hid (E = 0) := he
    clear he
    go_wp2_with (first | (refine wpList_load_row rfl 33 (.tmp 7) rfl rfl HR9.out Try.isz33 Try.agg33 ?_) | (refine wpList_store_row rfl 33 (.tmp 4) (.tmp 59) rfl rfl rfl Try.isz33 (by simp [Value.oneCell']) HQ9.out rfl ?_; intro wC hqC hKC hsC))
    have hwq := HQE.out
    refine bodyPost_ret (v := .tuple #[.agg #[.int .u8 1, .slice oa ol oc, .string ⟨#[]⟩, .slice none 0 0, .int .u16 0, .slice none 0 0, .slice none 0 0, .bool false, .bool false, .int .i32 0, .bool false, .int .i64 0, .slice none 0 0, .bool false, .int .u16 0, .bool false, .int .i64 0, .slice none 0 0, .int .i64 0, .slice none 0 0, .int .u8 0, .slice none 0 0], .int .i64 0]) (results_cell_tmp rfl rfl hqC Try.isz33 Try.agg33 rfl) rfl ?_
    refine ⟨1, oa, ol, oc, L, ByteArray.empty, none, 0, 0, ByteArray.empty, 0, none, 0, 0, [], none, 0, 0, [], false, false, 0, false, 0, ByteArray.empty, none, 0, 0, false, 0, false, 0, none, 0, 0, [], 0, ByteArray.empty, none, 0, 0, 0, none, 0, 0, [], by rw [HEZ.out] <;> rfl, ?_, fun h0 => ?_, fun h0 => absurd HEZ.out h0, HB9.out.trans (hKC.below (by have := HB9.out.size; omega) (fun k hk e => by omega))⟩
    · have hst : ∀ k, k < w2.heap.size → q + 3 ≤ k → wC.heap[k]? = w2.heap[k]? := fun k hk hk3 => (hKC.block k (by have := HK9.out.size; omega) (by omega)).trans (HK9.out.block k hk (by omega))
      have hss : w2.heap.size ≤ wC.heap.size := Nat.le_trans HK9.out.size hKC.size
      have hv := view_low_p HVW.out.1 HVW.out.2 (fun k hk hk3 => (hst k (by have := HSTw2.out.2; omega) hk3).trans (HSTw2.out.1 k hk hk3)) (Nat.le_trans HSTw2.out.2 hss)
      exact ⟨⟨(show (0 : Int) ≤ 1 by decide), (show (1 : Int) ≤ 255 by decide)⟩, hv, isB_nil _, run_zero _, view_nil _ _ _, isB_nil _, ⟨Int.le_refl 0, show (0 : Int) ≤ 255 by decide⟩, view_nil _ _ _⟩
    · have h1 : (stepR (getR 1) (zs, 0)).2 = 0 := lastE_ok (by rw [(g1 (zs, 0)).1]; exact HE.out.symm.trans HEZ.out)
      rw [(g1 (zs, 0)).2 h1]
      rw [(g1 (zs, 0)).1] at h1
      rw [HV1.out h1]
      rfl
  · have t : (E == 0) = false := by simpa using he
    have t' : (E != 0) = true := by simpa using he
    have HEN : Hid (E ≠ 0) := he
    clear he
    go_wp2_with fail
    obtain ⟨hsr1, hqC, hKC⟩ := store_cells (w := w9.drew) (cells := #[.int .u8 0, .slice none 0 0, .string ⟨#[]⟩, .slice none 0 0, .int .u16 0, .slice none 0 0, .slice none 0 0, .bool false, .bool false, .int .i32 0, .bool false, .int .i64 0, .slice none 0 0, .bool false, .int .u16 0, .bool false, .int .i64 0, .slice none 0 0, .int .i64 0, .slice none 0 0, .int .u8 0, .slice none 0 0]) (by simp [Value.oneCell']) HQ9.out ((Below.refl _ _).drew) rfl
    generalize w9.drew.setRow q #[.int .u8 0, .slice none 0 0, .string ⟨#[]⟩, .slice none 0 0, .int .u16 0, .slice none 0 0, .slice none 0 0, .bool false, .bool false, .int .i32 0, .bool false, .int .i64 0, .slice none 0 0, .bool false, .int .u16 0, .bool false, .int .i64 0, .slice none 0 0, .int .i64 0, .slice none 0 0, .int .u8 0, .slice none 0 0] = wC at hsr1 hqC hKC
    simp [storeCells, go_sem] at hsr1
    have HSR : Hid _ := hsr1
    have hc2 : wC.cell? ⟨q + 1, 1, none⟩ = some (.int .i64 E) := (hKC.cell (p := ⟨q + 1, 1, none⟩) hlp (by simp only; omega)).trans p1
    clear hsr1
    go_region_held3 (fun w' => w'.cell? ⟨q + 1, 1, none⟩ = some (.int .i64 E)) (assumption) (first | (refine upon_of HSR.out ?_))
    all_goals (
      go_wp2_with fail
      have hwq := HQE.out
      refine bodyPost_ret (v := .tuple #[.agg #[.int .u8 0, .slice none 0 0, .string ⟨#[]⟩, .slice none 0 0, .int .u16 0, .slice none 0 0, .slice none 0 0, .bool false, .bool false, .int .i32 0, .bool false, .int .i64 0, .slice none 0 0, .bool false, .int .u16 0, .bool false, .int .i64 0, .slice none 0 0, .int .i64 0, .slice none 0 0, .int .u8 0, .slice none 0 0], .int .i64 E]) (results_cell_tmp rfl rfl (by first | exact hqC | (rw [World.heap_drewN]; exact hqC) | (simp only [World.heap_drewN]; exact hqC)) Try.isz33 Try.agg33 rfl) rfl ?_
      exact ⟨0, none, 0, 0, [], ByteArray.empty, none, 0, 0, ByteArray.empty, 0, none, 0, 0, [], none, 0, 0, [], false, false, 0, false, 0, ByteArray.empty, none, 0, 0, false, 0, false, 0, none, 0, 0, [], 0, ByteArray.empty, none, 0, 0, 0, none, 0, 0, [], rfl, rq_zero _ 0 ⟨by decide, by decide⟩, fun h0 => absurd h0 HEN.out, fun _ => rfl, HB9.out.trans (hKC.below (by have := HB9.out.size; omega) (fun k hk e => by omega))⟩)


set_option maxHeartbeats 4000000 in
theorem get_11 {w : World} {ba : Option Addr} {bl bc : Nat} {zs : List Int} (h : IsB w ba bl bc zs) (hsm : bl ≤ 140737488351232) {E : Int} (hE : E = getE 11 zs) :
    Calls Try.prog 13 #[.int .u8 11, .slice ba bl bc] w fun e w' => ∃ (opr : Int) (oa : Option Addr) (ol oc : Nat) (os : List (ByteArray × ByteArray)) (tx : ByteArray) (ia : Option Addr) (il ic : Nat) (id : ByteArray) (co : Int) (a : Option Addr) (l c : Nat) (vs : List Vl) (na : Option Addr) (nl nc : Nat) (ns : List ByteArray) (b2 b4 : Bool) (pn : Int) (b8 : Bool) (sk1 : Int) (sb : ByteArray) (sa : Option Addr) (sl sc : Nat) (b16 : Bool) (sr : Int) (b32 : Bool) (tm : Int) (ea : Option Addr) (el ec : Nat) (es : List ByteArray) (tk : Int) (tb : ByteArray) (ta : Option Addr) (tl tc : Nat) (kd : Int) (aa : Option Addr) (al ac : Nat) (ss : List St), e = .returned (.tuple #[.agg #[.int .u8 opr, .slice oa ol oc, .string tx, .slice ia il ic, .int .u16 co, .slice a l c, .slice na nl nc, .bool b2, .bool b4, .int .i32 pn, .bool b8, .int .i64 sk1, .slice sa sl sc, .bool b16, .int .u16 sr, .bool b32, .int .i64 tm, .slice ea el ec, .int .i64 tk, .slice ta tl tc, .int .u8 kd, .slice aa al ac], .int .i64 E]) ∧ Hid (RqAt w' oa ol oc ia il ic a l c na nl nc sa sl sc ea el ec ta tl tc aa al ac (opr, os, tx, id, (co, vs, ns, b2, b4, pn, b8, (sk1, sb), b16, sr, b32, tm), es, (tk, tb), kd, ss)) ∧ Hid (E = 0 → (opr, os, tx, id, (co, vs, ns, b2, b4, pn, b8, (sk1, sb), b16, sr, b32, tm), es, (tk, tb), kd, ss) = (getR 11 zs).val) ∧ Hid (E ≠ 0 → (opr, os, tx, id, (co, vs, ns, b2, b4, pn, b8, (sk1, sb), b16, sr, b32, tm), es, (tk, tb), kd, ss) = rq0 0) ∧ Hid (Below w.heap.size w w') := by
  have HE : Hid (E = if (stepR (listR textR) (zs, 0)).2 = 0 then (if 0 < (stepR (listR textR) (zs, 0)).1.length then 23 else 0) else (stepR (listR textR) (zs, 0)).2) := by
    show _ = _
    rw [hE, getE_last, (g11 (zs, 0)).1]
    rfl
  clear hE
  obtain ⟨q, hq⟩ : ∃ q, q = w.heap.size := ⟨_, rfl⟩
  obtain ⟨wR, hwR⟩ : ∃ wR, wR = ((w.alloc (.cells #[.int .u8 0, .slice none 0 0, .string ⟨#[]⟩, .slice none 0 0, .int .u16 0, .slice none 0 0, .slice none 0 0, .bool false, .bool false, .int .i32 0, .bool false, .int .i64 0, .slice none 0 0, .bool false, .int .u16 0, .bool false, .int .i64 0, .slice none 0 0, .int .i64 0, .slice none 0 0, .int .u8 0, .slice none 0 0] 33)).alloc (.cells #[.slice ba bl bc, .int .i64 0] 91)) := ⟨_, rfl⟩
  have HWR : Hid (((w.alloc (.cells #[.int .u8 0, .slice none 0 0, .string ⟨#[]⟩, .slice none 0 0, .int .u16 0, .slice none 0 0, .slice none 0 0, .bool false, .bool false, .int .i32 0, .bool false, .int .i64 0, .slice none 0 0, .bool false, .int .u16 0, .bool false, .int .i64 0, .slice none 0 0, .int .i64 0, .slice none 0 0, .int .u8 0, .slice none 0 0] 33)).alloc (.cells #[.slice ba bl bc, .int .i64 0] 91)) = wR) := hwR.symm
  have hszR : wR.heap.size = q + 2 := by rw [hwR, hq]; simp
  have hB0 : Below w.heap.size w wR := by rw [hwR]; exact (below_one _ _).alloc (by simp) _
  have hq0 : wR.heap[q]? = some (.cells #[.int .u8 0, .slice none 0 0, .string ⟨#[]⟩, .slice none 0 0, .int .u16 0, .slice none 0 0, .slice none 0 0, .bool false, .bool false, .int .i32 0, .bool false, .int .i64 0, .slice none 0 0, .bool false, .int .u16 0, .bool false, .int .i64 0, .slice none 0 0, .int .i64 0, .slice none 0 0, .int .u8 0, .slice none 0 0] 33 (0, 0)) := by
    rw [hwR, hq]
    exact ((below_one (w.alloc (.cells #[.int .u8 0, .slice none 0 0, .string ⟨#[]⟩, .slice none 0 0, .int .u16 0, .slice none 0 0, .slice none 0 0, .bool false, .bool false, .int .i32 0, .bool false, .int .i64 0, .slice none 0 0, .bool false, .int .u16 0, .bool false, .int .i64 0, .slice none 0 0, .int .i64 0, .slice none 0 0, .int .u8 0, .slice none 0 0] 33)) _).block w.heap.size (by simp)).trans (heap_alloc_new w _)
  have hqp : wR.heap[q + 1]? = some (.cells #[.slice ba bl bc, .int .i64 0] 91 (0, 0)) := by
    rw [hwR, hq]
    have := heap_alloc_new (w.alloc (.cells #[.int .u8 0, .slice none 0 0, .string ⟨#[]⟩, .slice none 0 0, .int .u16 0, .slice none 0 0, .slice none 0 0, .bool false, .bool false, .int .i32 0, .bool false, .int .i64 0, .slice none 0 0, .bool false, .int .u16 0, .bool false, .int .i64 0, .slice none 0 0, .int .i64 0, .slice none 0 0, .int .u8 0, .slice none 0 0] 33)) (.cells #[.slice ba bl bc, .int .i64 0] 91)
    simpa using this
  have H1 : Hid (Rd wR (q + 1) (zs, 0)) := ⟨⟨ba, bl, bc, hqp, fun _ => ⟨h.old hB0, fun z hz hl => by have := h.low z hz hl; omega⟩⟩, fun h => absurd rfl h, by show zs.length ≤ _; rw [h.1]; exact hsm, h.range⟩
  have HBR : Hid (Below w.heap.size w wR) := hB0
  have HQE : Hid (q = w.heap.size) := hq
  have HQW : Hid (w.heap.size = q) := hq.symm
  have HQR : Hid (wR.heap[q]? = some (.cells #[.int .u8 0, .slice none 0 0, .string ⟨#[]⟩, .slice none 0 0, .int .u16 0, .slice none 0 0, .slice none 0 0, .bool false, .bool false, .int .i32 0, .bool false, .int .i64 0, .slice none 0 0, .bool false, .int .u16 0, .bool false, .int .i64 0, .slice none 0 0, .int .i64 0, .slice none 0 0, .int .u8 0, .slice none 0 0] 33 (0, 0))) := hq0
  clear h hB0 hwR hq hq0 hqp hsm
  go_enter Try.func13, Try.ntmps13
  go_upto_region 2 with fail
  rw [HWR.out]
  clear HWR
  (try rw [HQW.out])
  go_wp2_with (refine wpList_store_hid (old := #[.int .u8 0, .slice none 0 0, .string ⟨#[]⟩, .slice none 0 0, .int .u16 0, .slice none 0 0, .slice none 0 0, .bool false, .bool false, .int .i32 0, .bool false, .int .i64 0, .slice none 0 0, .bool false, .int .u16 0, .bool false, .int .i64 0, .slice none 0 0, .int .i64 0, .slice none 0 0, .int .u8 0, .slice none 0 0]) (T := 33) rfl 33 (.tmp 7) (.tmp 11) rfl rfl rfl Try.isz33 (by simp [Value.oneCell']) (by rw [← hszR]; exact heap_alloc_new wR _) rfl ?_)
  intro w0 hqr hKr hsr
  have hKr2 : Kept (fun k => k = q + 2) wR w0 := (kept_of (below_one wR _)).trans hKr (fun _ _ e => e)
  have H : Hid (Rd w0 (q + 1) (zs, 0)) := H1.out.kept hKr2 (fun k hk e => by omega)
  have HB0 : Hid (Below w.heap.size w w0) := HBR.out.trans (hKr2.below (by have := HQE.out; omega) (fun k hk e => by have := HQE.out; omega))
  have HQ0 : Hid (w0.heap[q]? = some (.cells #[.int .u8 0, .slice none 0 0, .string ⟨#[]⟩, .slice none 0 0, .int .u16 0, .slice none 0 0, .slice none 0 0, .bool false, .bool false, .int .i32 0, .bool false, .int .i64 0, .slice none 0 0, .bool false, .int .u16 0, .bool false, .int .i64 0, .slice none 0 0, .int .i64 0, .slice none 0 0, .int .u8 0, .slice none 0 0] 33 (0, 0))) := (hKr2.block q (by omega) (by omega)).trans HQR.out
  have HR0 : Hid (w0.heap[q + 2]? = some (.cells #[.int .u8 11, .slice none 0 0, .string ⟨#[]⟩, .slice none 0 0, .int .u16 0, .slice none 0 0, .slice none 0 0, .bool false, .bool false, .int .i32 0, .bool false, .int .i64 0, .slice none 0 0, .bool false, .int .u16 0, .bool false, .int .i64 0, .slice none 0 0, .int .i64 0, .slice none 0 0, .int .u8 0, .slice none 0 0] 33 (0, 0))) := hqr
  have hl0 := block_lt hqr
  clear hqr hKr hKr2 hsr HQR H1 HBR hszR
  have HRw0 : Hid (w0.heap[q + 2]? = some (.cells #[.int .u8 11, .slice none 0 0, .string ⟨#[]⟩, .slice none 0 0, .int .u16 0, .slice none 0 0, .slice none 0 0, .bool false, .bool false, .int .i32 0, .bool false, .int .i64 0, .slice none 0 0, .bool false, .int .u16 0, .bool false, .int .i64 0, .slice none 0 0, .int .i64 0, .slice none 0 0, .int .u8 0, .slice none 0 0] 33 (0, 0))) := HR0
  have HQw0 : Hid (w0.heap[q]? = some (.cells #[.int .u8 0, .slice none 0 0, .string ⟨#[]⟩, .slice none 0 0, .int .u16 0, .slice none 0 0, .slice none 0 0, .bool false, .bool false, .int .i32 0, .bool false, .int .i64 0, .slice none 0 0, .bool false, .int .u16 0, .bool false, .int .i64 0, .slice none 0 0, .int .i64 0, .slice none 0 0, .int .u8 0, .slice none 0 0] 33 (0, 0))) := HQ0
  have HBw0 : Hid (Below w.heap.size w w0) := HB0
  go_wp2_with fail
  refine (read_texts H.out).mono ?_
  rintro e w1 ⟨v, L, rfl, HR1, HO1, HV1, HK1⟩
  obtain ⟨ea, ec, rfl, hview, hfr⟩ := HO1.out.view
  obtain ⟨el, hol⟩ : ∃ el, el = L.length := ⟨_, rfl⟩
  rw [← hol] at HO1 hview ⊢
  have HVW : Hid (View 1 VS w1 ea el ec L ∧ ∀ z, ea = some z → q + 3 ≤ z.block) := ⟨hview, fun z hz => by have := (hfr z hz).1; omega⟩
  clear hol hview hfr
  have hr1 : w1.heap[q + 2]? = some (.cells #[.int .u8 11, .slice none 0 0, .string ⟨#[]⟩, .slice none 0 0, .int .u16 0, .slice none 0 0, .slice none 0 0, .bool false, .bool false, .int .i32 0, .bool false, .int .i64 0, .slice none 0 0, .bool false, .int .u16 0, .bool false, .int .i64 0, .slice none 0 0, .int .i64 0, .slice none 0 0, .int .u8 0, .slice none 0 0] 33 (0, 0)) := (HK1.out.block _ (block_lt HRw0.out) (by omega)).trans HRw0.out
  have hq1 : w1.heap[q]? = some (.cells #[.int .u8 0, .slice none 0 0, .string ⟨#[]⟩, .slice none 0 0, .int .u16 0, .slice none 0 0, .slice none 0 0, .bool false, .bool false, .int .i32 0, .bool false, .int .i64 0, .slice none 0 0, .bool false, .int .u16 0, .bool false, .int .i64 0, .slice none 0 0, .int .i64 0, .slice none 0 0, .int .u8 0, .slice none 0 0] 33 (0, 0)) := (HK1.out.block _ (block_lt HQw0.out) (by omega)).trans HQw0.out
  have hl1 := block_lt hr1
  obtain ⟨d0, d1, d2, d3, d4, d5, d6, d7, d8, d9, d10, d11, d12, d13, d14, d15, d16, d17, d18, d19, d20, d21⟩ := req_cells hr1
  obtain ⟨f0, f1, f2, f3, f4, f5, f6, f7, f8, f9, f10, f11, f12, f13, f14, f15, f16, f17, f18, f19, f20, f21⟩ := req_frozen hr1
  go_upto_region 24 with fail
  have hKb : Kept (fun k => k = q + 2) w1 (w1.setCell ⟨q + 2, 17, none⟩ (.slice ea el ec)) := ((Kept.refl (fun k => k = q + 2) w1).setCell (p := ⟨q + 2, 17, none⟩) (fun _ => rfl) _)
  have hb2 := (req_set17 hr1 (.slice ea el ec))
  generalize (w1.setCell ⟨q + 2, 17, none⟩ (.slice ea el ec)) = w2 at hKb hb2 ⊢
  have HDw2 : Hid (Rd w2 (q + 1) (stepR (listR textR) (zs, 0))) := HR1.out.kept hKb (fun k hk e => by omega)
  have HBw2 : Hid (Below w.heap.size w w2) := (HBw0.out.trans (HK1.out.below (by have := HQE.out; have := HBw0.out.size; omega) (fun k hk e => by have := HQE.out; omega))).trans (hKb.below (by have := HQE.out; have := HK1.out.size; have := HBw0.out.size; omega) (fun k hk e => by have := HQE.out; omega))
  have HQw2 : Hid (w2.heap[q]? = some (.cells #[.int .u8 0, .slice none 0 0, .string ⟨#[]⟩, .slice none 0 0, .int .u16 0, .slice none 0 0, .slice none 0 0, .bool false, .bool false, .int .i32 0, .bool false, .int .i64 0, .slice none 0 0, .bool false, .int .u16 0, .bool false, .int .i64 0, .slice none 0 0, .int .i64 0, .slice none 0 0, .int .u8 0, .slice none 0 0] 33 (0, 0))) := (hKb.block q (block_lt hq1) (by omega)).trans hq1
  have HRw2 : Hid (w2.heap[q + 2]? = some (.cells #[.int .u8 11, .slice none 0 0, .string ⟨#[]⟩, .slice none 0 0, .int .u16 0, .slice none 0 0, .slice none 0 0, .bool false, .bool false, .int .i32 0, .bool false, .int .i64 0, .slice none 0 0, .bool false, .int .u16 0, .bool false, .int .i64 0, .slice ea el ec, .int .i64 0, .slice none 0 0, .int .u8 0, .slice none 0 0] 33 (0, 0))) := hb2
  have hst2 : ∀ k, k < w1.heap.size → q + 3 ≤ k → w2.heap[k]? = w1.heap[k]? := fun k hk hk3 => hKb.block k hk (by omega)
  have HSTw2 : Hid ((∀ k, k < w1.heap.size → q + 3 ≤ k → w2.heap[k]? = w1.heap[k]?) ∧ w1.heap.size ≤ w2.heap.size) := ⟨hst2, hKb.size⟩
  clear hKb hb2 hst2 hr1 hq1 hl1 d0 d1 d2 d3 d4 d5 d6 d7 d8 d9 d10 d11 d12 d13 d14 d15 d16 d17 d18 d19 d20 d21 f0 f1 f2 f3 f4 f5 f6 f7 f8 f9 f10 f11 f12 f13 f14 f15 f16 f17 f18 f19 f20 f21
  go_wp2_with fail
  refine (rend HDw2.out HE.out).mono ?_
  rintro e w9 ⟨rfl, x9, hp9, HK9⟩
  have hl9 := block_lt HRw2.out
  have hr9 : w9.heap[q + 2]? = some (.cells #[.int .u8 11, .slice none 0 0, .string ⟨#[]⟩, .slice none 0 0, .int .u16 0, .slice none 0 0, .slice none 0 0, .bool false, .bool false, .int .i32 0, .bool false, .int .i64 0, .slice none 0 0, .bool false, .int .u16 0, .bool false, .int .i64 0, .slice ea el ec, .int .i64 0, .slice none 0 0, .int .u8 0, .slice none 0 0] 33 (0, 0)) := (HK9.out.block _ hl9 (by omega)).trans HRw2.out
  have hq9 : w9.heap[q]? = some (.cells #[.int .u8 0, .slice none 0 0, .string ⟨#[]⟩, .slice none 0 0, .int .u16 0, .slice none 0 0, .slice none 0 0, .bool false, .bool false, .int .i32 0, .bool false, .int .i64 0, .slice none 0 0, .bool false, .int .u16 0, .bool false, .int .i64 0, .slice none 0 0, .int .i64 0, .slice none 0 0, .int .u8 0, .slice none 0 0] 33 (0, 0)) := (HK9.out.block _ (by omega) (by omega)).trans HQw2.out
  have HB9 : Hid (Below w.heap.size w w9) := HBw2.out.trans (HK9.out.below (by have := HQE.out; omega) (fun k hk e => by have := HQE.out; omega))
  obtain ⟨p0, p1, p2, p3⟩ := two_cells hp9
  have hlr := block_lt hr9
  have hlq := block_lt hq9
  have hlp := block_lt hp9
  have HQ9 : Hid (w9.heap[q]? = some (.cells #[.int .u8 0, .slice none 0 0, .string ⟨#[]⟩, .slice none 0 0, .int .u16 0, .slice none 0 0, .slice none 0 0, .bool false, .bool false, .int .i32 0, .bool false, .int .i64 0, .slice none 0 0, .bool false, .int .u16 0, .bool false, .int .i64 0, .slice none 0 0, .int .i64 0, .slice none 0 0, .int .u8 0, .slice none 0 0] 33 (0, 0))) := hq9
  have HR9 : Hid (w9.heap[q + 2]? = some (.cells #[.int .u8 11, .slice none 0 0, .string ⟨#[]⟩, .slice none 0 0, .int .u16 0, .slice none 0 0, .slice none 0 0, .bool false, .bool false, .int .i32 0, .bool false, .int .i64 0, .slice none 0 0, .bool false, .int .u16 0, .bool false, .int .i64 0, .slice ea el ec, .int .i64 0, .slice none 0 0, .int .u8 0, .slice none 0 0] 33 (0, 0))) := hr9
  clear hq9 hr9 hp9
  by_cases he : E = 0
  · rw [he] at p1
    have HEZ : Hid (E = 0) := he
    clear he
    go_wp2_with (first | (refine wpList_load_row rfl 33 (.tmp 7) rfl rfl HR9.out Try.isz33 Try.agg33 ?_) | (refine wpList_store_row rfl 33 (.tmp 4) (.tmp 59) rfl rfl rfl Try.isz33 (by simp [Value.oneCell']) HQ9.out rfl ?_; intro wC hqC hKC hsC))
    have hwq := HQE.out
    refine bodyPost_ret (v := .tuple #[.agg #[.int .u8 11, .slice none 0 0, .string ⟨#[]⟩, .slice none 0 0, .int .u16 0, .slice none 0 0, .slice none 0 0, .bool false, .bool false, .int .i32 0, .bool false, .int .i64 0, .slice none 0 0, .bool false, .int .u16 0, .bool false, .int .i64 0, .slice ea el ec, .int .i64 0, .slice none 0 0, .int .u8 0, .slice none 0 0], .int .i64 0]) (results_cell_tmp rfl rfl hqC Try.isz33 Try.agg33 rfl) rfl ?_
    refine ⟨11, none, 0, 0, [], ByteArray.empty, none, 0, 0, ByteArray.empty, 0, none, 0, 0, [], none, 0, 0, [], false, false, 0, false, 0, ByteArray.empty, none, 0, 0, false, 0, false, 0, ea, el, ec, L, 0, ByteArray.empty, none, 0, 0, 0, none, 0, 0, [], by rw [HEZ.out] <;> rfl, ?_, fun h0 => ?_, fun h0 => absurd HEZ.out h0, HB9.out.trans (hKC.below (by have := HB9.out.size; omega) (fun k hk e => by omega))⟩
    · have hst : ∀ k, k < w2.heap.size → q + 3 ≤ k → wC.heap[k]? = w2.heap[k]? := fun k hk hk3 => (hKC.block k (by have := HK9.out.size; omega) (by omega)).trans (HK9.out.block k hk (by omega))
      have hss : w2.heap.size ≤ wC.heap.size := Nat.le_trans HK9.out.size hKC.size
      have hv := view_low_s HVW.out.1 HVW.out.2 (fun k hk hk3 => (hst k (by have := HSTw2.out.2; omega) hk3).trans (HSTw2.out.1 k hk hk3)) (Nat.le_trans HSTw2.out.2 hss)
      exact ⟨⟨(show (0 : Int) ≤ 11 by decide), (show (11 : Int) ≤ 255 by decide)⟩, view_nil _ _ _, isB_nil _, run_zero _, hv, isB_nil _, ⟨Int.le_refl 0, show (0 : Int) ≤ 255 by decide⟩, view_nil _ _ _⟩
    · have h1 : (stepR (getR 11) (zs, 0)).2 = 0 := lastE_ok (by rw [(g11 (zs, 0)).1]; exact HE.out.symm.trans HEZ.out)
      rw [(g11 (zs, 0)).2 h1]
      rw [(g11 (zs, 0)).1] at h1
      rw [HV1.out h1]
      rfl
  · have t : (E == 0) = false := by simpa using he
    have t' : (E != 0) = true := by simpa using he
    have HEN : Hid (E ≠ 0) := he
    clear he
    go_wp2_with fail
    obtain ⟨hsr1, hqC, hKC⟩ := store_cells (w := w9.drew) (cells := #[.int .u8 0, .slice none 0 0, .string ⟨#[]⟩, .slice none 0 0, .int .u16 0, .slice none 0 0, .slice none 0 0, .bool false, .bool false, .int .i32 0, .bool false, .int .i64 0, .slice none 0 0, .bool false, .int .u16 0, .bool false, .int .i64 0, .slice none 0 0, .int .i64 0, .slice none 0 0, .int .u8 0, .slice none 0 0]) (by simp [Value.oneCell']) HQ9.out ((Below.refl _ _).drew) rfl
    generalize w9.drew.setRow q #[.int .u8 0, .slice none 0 0, .string ⟨#[]⟩, .slice none 0 0, .int .u16 0, .slice none 0 0, .slice none 0 0, .bool false, .bool false, .int .i32 0, .bool false, .int .i64 0, .slice none 0 0, .bool false, .int .u16 0, .bool false, .int .i64 0, .slice none 0 0, .int .i64 0, .slice none 0 0, .int .u8 0, .slice none 0 0] = wC at hsr1 hqC hKC
    simp [storeCells, go_sem] at hsr1
    have HSR : Hid _ := hsr1
    have hc2 : wC.cell? ⟨q + 1, 1, none⟩ = some (.int .i64 E) := (hKC.cell (p := ⟨q + 1, 1, none⟩) hlp (by simp only; omega)).trans p1
    clear hsr1
    go_region_held3 (fun w' => w'.cell? ⟨q + 1, 1, none⟩ = some (.int .i64 E)) (assumption) (first | (refine upon_of HSR.out ?_))
    all_goals (
      go_wp2_with fail
      have hwq := HQE.out
      refine bodyPost_ret (v := .tuple #[.agg #[.int .u8 0, .slice none 0 0, .string ⟨#[]⟩, .slice none 0 0, .int .u16 0, .slice none 0 0, .slice none 0 0, .bool false, .bool false, .int .i32 0, .bool false, .int .i64 0, .slice none 0 0, .bool false, .int .u16 0, .bool false, .int .i64 0, .slice none 0 0, .int .i64 0, .slice none 0 0, .int .u8 0, .slice none 0 0], .int .i64 E]) (results_cell_tmp rfl rfl (by first | exact hqC | (rw [World.heap_drewN]; exact hqC) | (simp only [World.heap_drewN]; exact hqC)) Try.isz33 Try.agg33 rfl) rfl ?_
      exact ⟨0, none, 0, 0, [], ByteArray.empty, none, 0, 0, ByteArray.empty, 0, none, 0, 0, [], none, 0, 0, [], false, false, 0, false, 0, ByteArray.empty, none, 0, 0, false, 0, false, 0, none, 0, 0, [], 0, ByteArray.empty, none, 0, 0, 0, none, 0, 0, [], rfl, rq_zero _ 0 ⟨by decide, by decide⟩, fun h0 => absurd h0 HEN.out, fun _ => rfl, HB9.out.trans (hKC.below (by have := HB9.out.size; omega) (fun k hk e => by omega))⟩)


set_option maxHeartbeats 4000000 in
theorem get_15 {w : World} {ba : Option Addr} {bl bc : Nat} {zs : List Int} (h : IsB w ba bl bc zs) (hsm : bl ≤ 140737488351232) {E : Int} (hE : E = getE 15 zs) :
    Calls Try.prog 13 #[.int .u8 15, .slice ba bl bc] w fun e w' => ∃ (opr : Int) (oa : Option Addr) (ol oc : Nat) (os : List (ByteArray × ByteArray)) (tx : ByteArray) (ia : Option Addr) (il ic : Nat) (id : ByteArray) (co : Int) (a : Option Addr) (l c : Nat) (vs : List Vl) (na : Option Addr) (nl nc : Nat) (ns : List ByteArray) (b2 b4 : Bool) (pn : Int) (b8 : Bool) (sk1 : Int) (sb : ByteArray) (sa : Option Addr) (sl sc : Nat) (b16 : Bool) (sr : Int) (b32 : Bool) (tm : Int) (ea : Option Addr) (el ec : Nat) (es : List ByteArray) (tk : Int) (tb : ByteArray) (ta : Option Addr) (tl tc : Nat) (kd : Int) (aa : Option Addr) (al ac : Nat) (ss : List St), e = .returned (.tuple #[.agg #[.int .u8 opr, .slice oa ol oc, .string tx, .slice ia il ic, .int .u16 co, .slice a l c, .slice na nl nc, .bool b2, .bool b4, .int .i32 pn, .bool b8, .int .i64 sk1, .slice sa sl sc, .bool b16, .int .u16 sr, .bool b32, .int .i64 tm, .slice ea el ec, .int .i64 tk, .slice ta tl tc, .int .u8 kd, .slice aa al ac], .int .i64 E]) ∧ Hid (RqAt w' oa ol oc ia il ic a l c na nl nc sa sl sc ea el ec ta tl tc aa al ac (opr, os, tx, id, (co, vs, ns, b2, b4, pn, b8, (sk1, sb), b16, sr, b32, tm), es, (tk, tb), kd, ss)) ∧ Hid (E = 0 → (opr, os, tx, id, (co, vs, ns, b2, b4, pn, b8, (sk1, sb), b16, sr, b32, tm), es, (tk, tb), kd, ss) = (getR 15 zs).val) ∧ Hid (E ≠ 0 → (opr, os, tx, id, (co, vs, ns, b2, b4, pn, b8, (sk1, sb), b16, sr, b32, tm), es, (tk, tb), kd, ss) = rq0 0) ∧ Hid (Below w.heap.size w w') := by
  have HE : Hid (E = if (stepR (valueR) (zs, 0)).2 = 0 then (if 0 < (stepR (valueR) (zs, 0)).1.length then 23 else 0) else (stepR (valueR) (zs, 0)).2) := by
    show _ = _
    rw [hE, getE_last, (g15 (zs, 0)).1]
    rfl
  clear hE
  obtain ⟨q, hq⟩ : ∃ q, q = w.heap.size := ⟨_, rfl⟩
  obtain ⟨wR, hwR⟩ : ∃ wR, wR = ((w.alloc (.cells #[.int .u8 0, .slice none 0 0, .string ⟨#[]⟩, .slice none 0 0, .int .u16 0, .slice none 0 0, .slice none 0 0, .bool false, .bool false, .int .i32 0, .bool false, .int .i64 0, .slice none 0 0, .bool false, .int .u16 0, .bool false, .int .i64 0, .slice none 0 0, .int .i64 0, .slice none 0 0, .int .u8 0, .slice none 0 0] 33)).alloc (.cells #[.slice ba bl bc, .int .i64 0] 91)) := ⟨_, rfl⟩
  have HWR : Hid (((w.alloc (.cells #[.int .u8 0, .slice none 0 0, .string ⟨#[]⟩, .slice none 0 0, .int .u16 0, .slice none 0 0, .slice none 0 0, .bool false, .bool false, .int .i32 0, .bool false, .int .i64 0, .slice none 0 0, .bool false, .int .u16 0, .bool false, .int .i64 0, .slice none 0 0, .int .i64 0, .slice none 0 0, .int .u8 0, .slice none 0 0] 33)).alloc (.cells #[.slice ba bl bc, .int .i64 0] 91)) = wR) := hwR.symm
  have hszR : wR.heap.size = q + 2 := by rw [hwR, hq]; simp
  have hB0 : Below w.heap.size w wR := by rw [hwR]; exact (below_one _ _).alloc (by simp) _
  have hq0 : wR.heap[q]? = some (.cells #[.int .u8 0, .slice none 0 0, .string ⟨#[]⟩, .slice none 0 0, .int .u16 0, .slice none 0 0, .slice none 0 0, .bool false, .bool false, .int .i32 0, .bool false, .int .i64 0, .slice none 0 0, .bool false, .int .u16 0, .bool false, .int .i64 0, .slice none 0 0, .int .i64 0, .slice none 0 0, .int .u8 0, .slice none 0 0] 33 (0, 0)) := by
    rw [hwR, hq]
    exact ((below_one (w.alloc (.cells #[.int .u8 0, .slice none 0 0, .string ⟨#[]⟩, .slice none 0 0, .int .u16 0, .slice none 0 0, .slice none 0 0, .bool false, .bool false, .int .i32 0, .bool false, .int .i64 0, .slice none 0 0, .bool false, .int .u16 0, .bool false, .int .i64 0, .slice none 0 0, .int .i64 0, .slice none 0 0, .int .u8 0, .slice none 0 0] 33)) _).block w.heap.size (by simp)).trans (heap_alloc_new w _)
  have hqp : wR.heap[q + 1]? = some (.cells #[.slice ba bl bc, .int .i64 0] 91 (0, 0)) := by
    rw [hwR, hq]
    have := heap_alloc_new (w.alloc (.cells #[.int .u8 0, .slice none 0 0, .string ⟨#[]⟩, .slice none 0 0, .int .u16 0, .slice none 0 0, .slice none 0 0, .bool false, .bool false, .int .i32 0, .bool false, .int .i64 0, .slice none 0 0, .bool false, .int .u16 0, .bool false, .int .i64 0, .slice none 0 0, .int .i64 0, .slice none 0 0, .int .u8 0, .slice none 0 0] 33)) (.cells #[.slice ba bl bc, .int .i64 0] 91)
    simpa using this
  have H1 : Hid (Rd wR (q + 1) (zs, 0)) := ⟨⟨ba, bl, bc, hqp, fun _ => ⟨h.old hB0, fun z hz hl => by have := h.low z hz hl; omega⟩⟩, fun h => absurd rfl h, by show zs.length ≤ _; rw [h.1]; exact hsm, h.range⟩
  have HBR : Hid (Below w.heap.size w wR) := hB0
  have HQE : Hid (q = w.heap.size) := hq
  have HQW : Hid (w.heap.size = q) := hq.symm
  have HQR : Hid (wR.heap[q]? = some (.cells #[.int .u8 0, .slice none 0 0, .string ⟨#[]⟩, .slice none 0 0, .int .u16 0, .slice none 0 0, .slice none 0 0, .bool false, .bool false, .int .i32 0, .bool false, .int .i64 0, .slice none 0 0, .bool false, .int .u16 0, .bool false, .int .i64 0, .slice none 0 0, .int .i64 0, .slice none 0 0, .int .u8 0, .slice none 0 0] 33 (0, 0))) := hq0
  clear h hB0 hwR hq hq0 hqp hsm
  go_enter Try.func13, Try.ntmps13
  go_upto_region 2 with fail
  rw [HWR.out]
  clear HWR
  (try rw [HQW.out])
  go_wp2_with (refine wpList_store_hid (old := #[.int .u8 0, .slice none 0 0, .string ⟨#[]⟩, .slice none 0 0, .int .u16 0, .slice none 0 0, .slice none 0 0, .bool false, .bool false, .int .i32 0, .bool false, .int .i64 0, .slice none 0 0, .bool false, .int .u16 0, .bool false, .int .i64 0, .slice none 0 0, .int .i64 0, .slice none 0 0, .int .u8 0, .slice none 0 0]) (T := 33) rfl 33 (.tmp 7) (.tmp 11) rfl rfl rfl Try.isz33 (by simp [Value.oneCell']) (by rw [← hszR]; exact heap_alloc_new wR _) rfl ?_)
  intro w0 hqr hKr hsr
  have hKr2 : Kept (fun k => k = q + 2) wR w0 := (kept_of (below_one wR _)).trans hKr (fun _ _ e => e)
  have H : Hid (Rd w0 (q + 1) (zs, 0)) := H1.out.kept hKr2 (fun k hk e => by omega)
  have HB0 : Hid (Below w.heap.size w w0) := HBR.out.trans (hKr2.below (by have := HQE.out; omega) (fun k hk e => by have := HQE.out; omega))
  have HQ0 : Hid (w0.heap[q]? = some (.cells #[.int .u8 0, .slice none 0 0, .string ⟨#[]⟩, .slice none 0 0, .int .u16 0, .slice none 0 0, .slice none 0 0, .bool false, .bool false, .int .i32 0, .bool false, .int .i64 0, .slice none 0 0, .bool false, .int .u16 0, .bool false, .int .i64 0, .slice none 0 0, .int .i64 0, .slice none 0 0, .int .u8 0, .slice none 0 0] 33 (0, 0))) := (hKr2.block q (by omega) (by omega)).trans HQR.out
  have HR0 : Hid (w0.heap[q + 2]? = some (.cells #[.int .u8 15, .slice none 0 0, .string ⟨#[]⟩, .slice none 0 0, .int .u16 0, .slice none 0 0, .slice none 0 0, .bool false, .bool false, .int .i32 0, .bool false, .int .i64 0, .slice none 0 0, .bool false, .int .u16 0, .bool false, .int .i64 0, .slice none 0 0, .int .i64 0, .slice none 0 0, .int .u8 0, .slice none 0 0] 33 (0, 0))) := hqr
  have hl0 := block_lt hqr
  clear hqr hKr hKr2 hsr HQR H1 HBR hszR
  have HRw0 : Hid (w0.heap[q + 2]? = some (.cells #[.int .u8 15, .slice none 0 0, .string ⟨#[]⟩, .slice none 0 0, .int .u16 0, .slice none 0 0, .slice none 0 0, .bool false, .bool false, .int .i32 0, .bool false, .int .i64 0, .slice none 0 0, .bool false, .int .u16 0, .bool false, .int .i64 0, .slice none 0 0, .int .i64 0, .slice none 0 0, .int .u8 0, .slice none 0 0] 33 (0, 0))) := HR0
  have HQw0 : Hid (w0.heap[q]? = some (.cells #[.int .u8 0, .slice none 0 0, .string ⟨#[]⟩, .slice none 0 0, .int .u16 0, .slice none 0 0, .slice none 0 0, .bool false, .bool false, .int .i32 0, .bool false, .int .i64 0, .slice none 0 0, .bool false, .int .u16 0, .bool false, .int .i64 0, .slice none 0 0, .int .i64 0, .slice none 0 0, .int .u8 0, .slice none 0 0] 33 (0, 0))) := HQ0
  have HBw0 : Hid (Below w.heap.size w w0) := HB0
  go_wp2_with fail
  refine (read_value H.out).mono ?_
  rintro e w1 ⟨V, ta, tl, tc, rfl, HR1, HI1, hF1, HV1, HK1⟩
  have HIF : Hid (IsBF (fun k => q + 3 ≤ k) w1 ta tl tc (sNums V.2)) := ⟨HI1.out, fun z hz _ => by have := hF1 z hz; exact ⟨by omega, by omega⟩⟩
  obtain ⟨tk, tb⟩ := V
  have hr1 : w1.heap[q + 2]? = some (.cells #[.int .u8 15, .slice none 0 0, .string ⟨#[]⟩, .slice none 0 0, .int .u16 0, .slice none 0 0, .slice none 0 0, .bool false, .bool false, .int .i32 0, .bool false, .int .i64 0, .slice none 0 0, .bool false, .int .u16 0, .bool false, .int .i64 0, .slice none 0 0, .int .i64 0, .slice none 0 0, .int .u8 0, .slice none 0 0] 33 (0, 0)) := (HK1.out.block _ (block_lt HRw0.out) (by omega)).trans HRw0.out
  have hq1 : w1.heap[q]? = some (.cells #[.int .u8 0, .slice none 0 0, .string ⟨#[]⟩, .slice none 0 0, .int .u16 0, .slice none 0 0, .slice none 0 0, .bool false, .bool false, .int .i32 0, .bool false, .int .i64 0, .slice none 0 0, .bool false, .int .u16 0, .bool false, .int .i64 0, .slice none 0 0, .int .i64 0, .slice none 0 0, .int .u8 0, .slice none 0 0] 33 (0, 0)) := (HK1.out.block _ (block_lt HQw0.out) (by omega)).trans HQw0.out
  have hl1 := block_lt hr1
  obtain ⟨d0, d1, d2, d3, d4, d5, d6, d7, d8, d9, d10, d11, d12, d13, d14, d15, d16, d17, d18, d19, d20, d21⟩ := req_cells hr1
  obtain ⟨f0, f1, f2, f3, f4, f5, f6, f7, f8, f9, f10, f11, f12, f13, f14, f15, f16, f17, f18, f19, f20, f21⟩ := req_frozen hr1
  go_upto_region 24 with fail
  have hKb : Kept (fun k => k = q + 2) w1 ((w1.setCell ⟨q + 2, 18, none⟩ (.int .i64 tk)).setCell ⟨q + 2, 19, none⟩ (.slice ta tl tc)) := (((Kept.refl (fun k => k = q + 2) w1).setCell (p := ⟨q + 2, 18, none⟩) (fun _ => rfl) _).setCell (p := ⟨q + 2, 19, none⟩) (fun _ => rfl) _)
  have hb2 := (req_set19 (req_set18 hr1 (.int .i64 tk)) (.slice ta tl tc))
  generalize ((w1.setCell ⟨q + 2, 18, none⟩ (.int .i64 tk)).setCell ⟨q + 2, 19, none⟩ (.slice ta tl tc)) = w2 at hKb hb2 ⊢
  have HDw2 : Hid (Rd w2 (q + 1) (stepR (valueR) (zs, 0))) := HR1.out.kept hKb (fun k hk e => by omega)
  have HBw2 : Hid (Below w.heap.size w w2) := (HBw0.out.trans (HK1.out.below (by have := HQE.out; have := HBw0.out.size; omega) (fun k hk e => by have := HQE.out; omega))).trans (hKb.below (by have := HQE.out; have := HK1.out.size; have := HBw0.out.size; omega) (fun k hk e => by have := HQE.out; omega))
  have HQw2 : Hid (w2.heap[q]? = some (.cells #[.int .u8 0, .slice none 0 0, .string ⟨#[]⟩, .slice none 0 0, .int .u16 0, .slice none 0 0, .slice none 0 0, .bool false, .bool false, .int .i32 0, .bool false, .int .i64 0, .slice none 0 0, .bool false, .int .u16 0, .bool false, .int .i64 0, .slice none 0 0, .int .i64 0, .slice none 0 0, .int .u8 0, .slice none 0 0] 33 (0, 0))) := (hKb.block q (block_lt hq1) (by omega)).trans hq1
  have HRw2 : Hid (w2.heap[q + 2]? = some (.cells #[.int .u8 15, .slice none 0 0, .string ⟨#[]⟩, .slice none 0 0, .int .u16 0, .slice none 0 0, .slice none 0 0, .bool false, .bool false, .int .i32 0, .bool false, .int .i64 0, .slice none 0 0, .bool false, .int .u16 0, .bool false, .int .i64 0, .slice none 0 0, .int .i64 tk, .slice ta tl tc, .int .u8 0, .slice none 0 0] 33 (0, 0))) := hb2
  have hst2 : ∀ k, k < w1.heap.size → q + 3 ≤ k → w2.heap[k]? = w1.heap[k]? := fun k hk hk3 => hKb.block k hk (by omega)
  have HSTw2 : Hid ((∀ k, k < w1.heap.size → q + 3 ≤ k → w2.heap[k]? = w1.heap[k]?) ∧ w1.heap.size ≤ w2.heap.size) := ⟨hst2, hKb.size⟩
  clear hKb hb2 hst2 hr1 hq1 hl1 d0 d1 d2 d3 d4 d5 d6 d7 d8 d9 d10 d11 d12 d13 d14 d15 d16 d17 d18 d19 d20 d21 f0 f1 f2 f3 f4 f5 f6 f7 f8 f9 f10 f11 f12 f13 f14 f15 f16 f17 f18 f19 f20 f21
  go_wp2_with fail
  refine (rend HDw2.out HE.out).mono ?_
  rintro e w9 ⟨rfl, x9, hp9, HK9⟩
  have hl9 := block_lt HRw2.out
  have hr9 : w9.heap[q + 2]? = some (.cells #[.int .u8 15, .slice none 0 0, .string ⟨#[]⟩, .slice none 0 0, .int .u16 0, .slice none 0 0, .slice none 0 0, .bool false, .bool false, .int .i32 0, .bool false, .int .i64 0, .slice none 0 0, .bool false, .int .u16 0, .bool false, .int .i64 0, .slice none 0 0, .int .i64 tk, .slice ta tl tc, .int .u8 0, .slice none 0 0] 33 (0, 0)) := (HK9.out.block _ hl9 (by omega)).trans HRw2.out
  have hq9 : w9.heap[q]? = some (.cells #[.int .u8 0, .slice none 0 0, .string ⟨#[]⟩, .slice none 0 0, .int .u16 0, .slice none 0 0, .slice none 0 0, .bool false, .bool false, .int .i32 0, .bool false, .int .i64 0, .slice none 0 0, .bool false, .int .u16 0, .bool false, .int .i64 0, .slice none 0 0, .int .i64 0, .slice none 0 0, .int .u8 0, .slice none 0 0] 33 (0, 0)) := (HK9.out.block _ (by omega) (by omega)).trans HQw2.out
  have HB9 : Hid (Below w.heap.size w w9) := HBw2.out.trans (HK9.out.below (by have := HQE.out; omega) (fun k hk e => by have := HQE.out; omega))
  obtain ⟨p0, p1, p2, p3⟩ := two_cells hp9
  have hlr := block_lt hr9
  have hlq := block_lt hq9
  have hlp := block_lt hp9
  have HQ9 : Hid (w9.heap[q]? = some (.cells #[.int .u8 0, .slice none 0 0, .string ⟨#[]⟩, .slice none 0 0, .int .u16 0, .slice none 0 0, .slice none 0 0, .bool false, .bool false, .int .i32 0, .bool false, .int .i64 0, .slice none 0 0, .bool false, .int .u16 0, .bool false, .int .i64 0, .slice none 0 0, .int .i64 0, .slice none 0 0, .int .u8 0, .slice none 0 0] 33 (0, 0))) := hq9
  have HR9 : Hid (w9.heap[q + 2]? = some (.cells #[.int .u8 15, .slice none 0 0, .string ⟨#[]⟩, .slice none 0 0, .int .u16 0, .slice none 0 0, .slice none 0 0, .bool false, .bool false, .int .i32 0, .bool false, .int .i64 0, .slice none 0 0, .bool false, .int .u16 0, .bool false, .int .i64 0, .slice none 0 0, .int .i64 tk, .slice ta tl tc, .int .u8 0, .slice none 0 0] 33 (0, 0))) := hr9
  clear hq9 hr9 hp9
  by_cases he : E = 0
  · rw [he] at p1
    have HEZ : Hid (E = 0) := he
    clear he
    go_wp2_with (first | (refine wpList_load_row rfl 33 (.tmp 7) rfl rfl HR9.out Try.isz33 Try.agg33 ?_) | (refine wpList_store_row rfl 33 (.tmp 4) (.tmp 59) rfl rfl rfl Try.isz33 (by simp [Value.oneCell']) HQ9.out rfl ?_; intro wC hqC hKC hsC))
    have hwq := HQE.out
    refine bodyPost_ret (v := .tuple #[.agg #[.int .u8 15, .slice none 0 0, .string ⟨#[]⟩, .slice none 0 0, .int .u16 0, .slice none 0 0, .slice none 0 0, .bool false, .bool false, .int .i32 0, .bool false, .int .i64 0, .slice none 0 0, .bool false, .int .u16 0, .bool false, .int .i64 0, .slice none 0 0, .int .i64 tk, .slice ta tl tc, .int .u8 0, .slice none 0 0], .int .i64 0]) (results_cell_tmp rfl rfl hqC Try.isz33 Try.agg33 rfl) rfl ?_
    refine ⟨15, none, 0, 0, [], ByteArray.empty, none, 0, 0, ByteArray.empty, 0, none, 0, 0, [], none, 0, 0, [], false, false, 0, false, 0, ByteArray.empty, none, 0, 0, false, 0, false, 0, none, 0, 0, [], tk, tb, ta, tl, tc, 0, none, 0, 0, [], by rw [HEZ.out] <;> rfl, ?_, fun h0 => ?_, fun h0 => absurd HEZ.out h0, HB9.out.trans (hKC.below (by have := HB9.out.size; omega) (fun k hk e => by omega))⟩
    · have hst : ∀ k, k < w2.heap.size → q + 3 ≤ k → wC.heap[k]? = w2.heap[k]? := fun k hk hk3 => (hKC.block k (by have := HK9.out.size; omega) (by omega)).trans (HK9.out.block k hk (by omega))
      have hss : w2.heap.size ≤ wC.heap.size := Nat.le_trans HK9.out.size hKC.size
      have hv := HIF.out.stay (F' := fun _ => True) (fun k hk hk3 => (hst k (by have := HSTw2.out.2; omega) hk3).trans (HSTw2.out.1 k hk hk3)) (Nat.le_trans HSTw2.out.2 hss) (fun _ _ _ => trivial)
      exact ⟨⟨(show (0 : Int) ≤ 15 by decide), (show (15 : Int) ≤ 255 by decide)⟩, view_nil _ _ _, isB_nil _, run_zero _, view_nil _ _ _, hv.1, ⟨Int.le_refl 0, show (0 : Int) ≤ 255 by decide⟩, view_nil _ _ _⟩
    · have h1 : (stepR (getR 15) (zs, 0)).2 = 0 := lastE_ok (by rw [(g15 (zs, 0)).1]; exact HE.out.symm.trans HEZ.out)
      rw [(g15 (zs, 0)).2 h1]
      rw [(g15 (zs, 0)).1] at h1
      rw [← HV1.out h1]
      rfl
  · have t : (E == 0) = false := by simpa using he
    have t' : (E != 0) = true := by simpa using he
    have HEN : Hid (E ≠ 0) := he
    clear he
    go_wp2_with fail
    obtain ⟨hsr1, hqC, hKC⟩ := store_cells (w := w9.drew) (cells := #[.int .u8 0, .slice none 0 0, .string ⟨#[]⟩, .slice none 0 0, .int .u16 0, .slice none 0 0, .slice none 0 0, .bool false, .bool false, .int .i32 0, .bool false, .int .i64 0, .slice none 0 0, .bool false, .int .u16 0, .bool false, .int .i64 0, .slice none 0 0, .int .i64 0, .slice none 0 0, .int .u8 0, .slice none 0 0]) (by simp [Value.oneCell']) HQ9.out ((Below.refl _ _).drew) rfl
    generalize w9.drew.setRow q #[.int .u8 0, .slice none 0 0, .string ⟨#[]⟩, .slice none 0 0, .int .u16 0, .slice none 0 0, .slice none 0 0, .bool false, .bool false, .int .i32 0, .bool false, .int .i64 0, .slice none 0 0, .bool false, .int .u16 0, .bool false, .int .i64 0, .slice none 0 0, .int .i64 0, .slice none 0 0, .int .u8 0, .slice none 0 0] = wC at hsr1 hqC hKC
    simp [storeCells, go_sem] at hsr1
    have HSR : Hid _ := hsr1
    have hc2 : wC.cell? ⟨q + 1, 1, none⟩ = some (.int .i64 E) := (hKC.cell (p := ⟨q + 1, 1, none⟩) hlp (by simp only; omega)).trans p1
    clear hsr1
    go_region_held3 (fun w' => w'.cell? ⟨q + 1, 1, none⟩ = some (.int .i64 E)) (assumption) (first | (refine upon_of HSR.out ?_))
    all_goals (
      go_wp2_with fail
      have hwq := HQE.out
      refine bodyPost_ret (v := .tuple #[.agg #[.int .u8 0, .slice none 0 0, .string ⟨#[]⟩, .slice none 0 0, .int .u16 0, .slice none 0 0, .slice none 0 0, .bool false, .bool false, .int .i32 0, .bool false, .int .i64 0, .slice none 0 0, .bool false, .int .u16 0, .bool false, .int .i64 0, .slice none 0 0, .int .i64 0, .slice none 0 0, .int .u8 0, .slice none 0 0], .int .i64 E]) (results_cell_tmp rfl rfl (by first | exact hqC | (rw [World.heap_drewN]; exact hqC) | (simp only [World.heap_drewN]; exact hqC)) Try.isz33 Try.agg33 rfl) rfl ?_
      exact ⟨0, none, 0, 0, [], ByteArray.empty, none, 0, 0, ByteArray.empty, 0, none, 0, 0, [], none, 0, 0, [], false, false, 0, false, 0, ByteArray.empty, none, 0, 0, false, 0, false, 0, none, 0, 0, [], 0, ByteArray.empty, none, 0, 0, 0, none, 0, 0, [], rfl, rq_zero _ 0 ⟨by decide, by decide⟩, fun h0 => absurd h0 HEN.out, fun _ => rfl, HB9.out.trans (hKC.below (by have := HB9.out.size; omega) (fun k hk e => by omega))⟩)


set_option maxHeartbeats 4000000 in
theorem get_9 {w : World} {ba : Option Addr} {bl bc : Nat} {zs : List Int} (h : IsB w ba bl bc zs) (hsm : bl ≤ 140737488351232) {E : Int} (hE : E = getE 9 zs) :
    Calls Try.prog 13 #[.int .u8 9, .slice ba bl bc] w fun e w' => ∃ (opr : Int) (oa : Option Addr) (ol oc : Nat) (os : List (ByteArray × ByteArray)) (tx : ByteArray) (ia : Option Addr) (il ic : Nat) (id : ByteArray) (co : Int) (a : Option Addr) (l c : Nat) (vs : List Vl) (na : Option Addr) (nl nc : Nat) (ns : List ByteArray) (b2 b4 : Bool) (pn : Int) (b8 : Bool) (sk1 : Int) (sb : ByteArray) (sa : Option Addr) (sl sc : Nat) (b16 : Bool) (sr : Int) (b32 : Bool) (tm : Int) (ea : Option Addr) (el ec : Nat) (es : List ByteArray) (tk : Int) (tb : ByteArray) (ta : Option Addr) (tl tc : Nat) (kd : Int) (aa : Option Addr) (al ac : Nat) (ss : List St), e = .returned (.tuple #[.agg #[.int .u8 opr, .slice oa ol oc, .string tx, .slice ia il ic, .int .u16 co, .slice a l c, .slice na nl nc, .bool b2, .bool b4, .int .i32 pn, .bool b8, .int .i64 sk1, .slice sa sl sc, .bool b16, .int .u16 sr, .bool b32, .int .i64 tm, .slice ea el ec, .int .i64 tk, .slice ta tl tc, .int .u8 kd, .slice aa al ac], .int .i64 E]) ∧ Hid (RqAt w' oa ol oc ia il ic a l c na nl nc sa sl sc ea el ec ta tl tc aa al ac (opr, os, tx, id, (co, vs, ns, b2, b4, pn, b8, (sk1, sb), b16, sr, b32, tm), es, (tk, tb), kd, ss)) ∧ Hid (E = 0 → (opr, os, tx, id, (co, vs, ns, b2, b4, pn, b8, (sk1, sb), b16, sr, b32, tm), es, (tk, tb), kd, ss) = (getR 9 zs).val) ∧ Hid (E ≠ 0 → (opr, os, tx, id, (co, vs, ns, b2, b4, pn, b8, (sk1, sb), b16, sr, b32, tm), es, (tk, tb), kd, ss) = rq0 0) ∧ Hid (Below w.heap.size w w') := by
  have HE : Hid (E = if (stepR (longR) (zs, 0)).2 = 0 then (if 0 < (stepR (longR) (zs, 0)).1.length then 23 else 0) else (stepR (longR) (zs, 0)).2) := by
    show _ = _
    rw [hE, getE_last, (g9 (zs, 0)).1]
    rfl
  clear hE
  obtain ⟨q, hq⟩ : ∃ q, q = w.heap.size := ⟨_, rfl⟩
  obtain ⟨wR, hwR⟩ : ∃ wR, wR = ((w.alloc (.cells #[.int .u8 0, .slice none 0 0, .string ⟨#[]⟩, .slice none 0 0, .int .u16 0, .slice none 0 0, .slice none 0 0, .bool false, .bool false, .int .i32 0, .bool false, .int .i64 0, .slice none 0 0, .bool false, .int .u16 0, .bool false, .int .i64 0, .slice none 0 0, .int .i64 0, .slice none 0 0, .int .u8 0, .slice none 0 0] 33)).alloc (.cells #[.slice ba bl bc, .int .i64 0] 91)) := ⟨_, rfl⟩
  have HWR : Hid (((w.alloc (.cells #[.int .u8 0, .slice none 0 0, .string ⟨#[]⟩, .slice none 0 0, .int .u16 0, .slice none 0 0, .slice none 0 0, .bool false, .bool false, .int .i32 0, .bool false, .int .i64 0, .slice none 0 0, .bool false, .int .u16 0, .bool false, .int .i64 0, .slice none 0 0, .int .i64 0, .slice none 0 0, .int .u8 0, .slice none 0 0] 33)).alloc (.cells #[.slice ba bl bc, .int .i64 0] 91)) = wR) := hwR.symm
  have hszR : wR.heap.size = q + 2 := by rw [hwR, hq]; simp
  have hB0 : Below w.heap.size w wR := by rw [hwR]; exact (below_one _ _).alloc (by simp) _
  have hq0 : wR.heap[q]? = some (.cells #[.int .u8 0, .slice none 0 0, .string ⟨#[]⟩, .slice none 0 0, .int .u16 0, .slice none 0 0, .slice none 0 0, .bool false, .bool false, .int .i32 0, .bool false, .int .i64 0, .slice none 0 0, .bool false, .int .u16 0, .bool false, .int .i64 0, .slice none 0 0, .int .i64 0, .slice none 0 0, .int .u8 0, .slice none 0 0] 33 (0, 0)) := by
    rw [hwR, hq]
    exact ((below_one (w.alloc (.cells #[.int .u8 0, .slice none 0 0, .string ⟨#[]⟩, .slice none 0 0, .int .u16 0, .slice none 0 0, .slice none 0 0, .bool false, .bool false, .int .i32 0, .bool false, .int .i64 0, .slice none 0 0, .bool false, .int .u16 0, .bool false, .int .i64 0, .slice none 0 0, .int .i64 0, .slice none 0 0, .int .u8 0, .slice none 0 0] 33)) _).block w.heap.size (by simp)).trans (heap_alloc_new w _)
  have hqp : wR.heap[q + 1]? = some (.cells #[.slice ba bl bc, .int .i64 0] 91 (0, 0)) := by
    rw [hwR, hq]
    have := heap_alloc_new (w.alloc (.cells #[.int .u8 0, .slice none 0 0, .string ⟨#[]⟩, .slice none 0 0, .int .u16 0, .slice none 0 0, .slice none 0 0, .bool false, .bool false, .int .i32 0, .bool false, .int .i64 0, .slice none 0 0, .bool false, .int .u16 0, .bool false, .int .i64 0, .slice none 0 0, .int .i64 0, .slice none 0 0, .int .u8 0, .slice none 0 0] 33)) (.cells #[.slice ba bl bc, .int .i64 0] 91)
    simpa using this
  have H1 : Hid (Rd wR (q + 1) (zs, 0)) := ⟨⟨ba, bl, bc, hqp, fun _ => ⟨h.old hB0, fun z hz hl => by have := h.low z hz hl; omega⟩⟩, fun h => absurd rfl h, by show zs.length ≤ _; rw [h.1]; exact hsm, h.range⟩
  have HBR : Hid (Below w.heap.size w wR) := hB0
  have HQE : Hid (q = w.heap.size) := hq
  have HQW : Hid (w.heap.size = q) := hq.symm
  have HQR : Hid (wR.heap[q]? = some (.cells #[.int .u8 0, .slice none 0 0, .string ⟨#[]⟩, .slice none 0 0, .int .u16 0, .slice none 0 0, .slice none 0 0, .bool false, .bool false, .int .i32 0, .bool false, .int .i64 0, .slice none 0 0, .bool false, .int .u16 0, .bool false, .int .i64 0, .slice none 0 0, .int .i64 0, .slice none 0 0, .int .u8 0, .slice none 0 0] 33 (0, 0))) := hq0
  clear h hB0 hwR hq hq0 hqp hsm
  go_enter Try.func13, Try.ntmps13
  go_upto_region 2 with fail
  rw [HWR.out]
  clear HWR
  (try rw [HQW.out])
  go_wp2_with (refine wpList_store_hid (old := #[.int .u8 0, .slice none 0 0, .string ⟨#[]⟩, .slice none 0 0, .int .u16 0, .slice none 0 0, .slice none 0 0, .bool false, .bool false, .int .i32 0, .bool false, .int .i64 0, .slice none 0 0, .bool false, .int .u16 0, .bool false, .int .i64 0, .slice none 0 0, .int .i64 0, .slice none 0 0, .int .u8 0, .slice none 0 0]) (T := 33) rfl 33 (.tmp 7) (.tmp 11) rfl rfl rfl Try.isz33 (by simp [Value.oneCell']) (by rw [← hszR]; exact heap_alloc_new wR _) rfl ?_)
  intro w0 hqr hKr hsr
  have hKr2 : Kept (fun k => k = q + 2) wR w0 := (kept_of (below_one wR _)).trans hKr (fun _ _ e => e)
  have H : Hid (Rd w0 (q + 1) (zs, 0)) := H1.out.kept hKr2 (fun k hk e => by omega)
  have HB0 : Hid (Below w.heap.size w w0) := HBR.out.trans (hKr2.below (by have := HQE.out; omega) (fun k hk e => by have := HQE.out; omega))
  have HQ0 : Hid (w0.heap[q]? = some (.cells #[.int .u8 0, .slice none 0 0, .string ⟨#[]⟩, .slice none 0 0, .int .u16 0, .slice none 0 0, .slice none 0 0, .bool false, .bool false, .int .i32 0, .bool false, .int .i64 0, .slice none 0 0, .bool false, .int .u16 0, .bool false, .int .i64 0, .slice none 0 0, .int .i64 0, .slice none 0 0, .int .u8 0, .slice none 0 0] 33 (0, 0))) := (hKr2.block q (by omega) (by omega)).trans HQR.out
  have HR0 : Hid (w0.heap[q + 2]? = some (.cells #[.int .u8 9, .slice none 0 0, .string ⟨#[]⟩, .slice none 0 0, .int .u16 0, .slice none 0 0, .slice none 0 0, .bool false, .bool false, .int .i32 0, .bool false, .int .i64 0, .slice none 0 0, .bool false, .int .u16 0, .bool false, .int .i64 0, .slice none 0 0, .int .i64 0, .slice none 0 0, .int .u8 0, .slice none 0 0] 33 (0, 0))) := hqr
  have hl0 := block_lt hqr
  clear hqr hKr hKr2 hsr HQR H1 HBR hszR
  have HRw0 : Hid (w0.heap[q + 2]? = some (.cells #[.int .u8 9, .slice none 0 0, .string ⟨#[]⟩, .slice none 0 0, .int .u16 0, .slice none 0 0, .slice none 0 0, .bool false, .bool false, .int .i32 0, .bool false, .int .i64 0, .slice none 0 0, .bool false, .int .u16 0, .bool false, .int .i64 0, .slice none 0 0, .int .i64 0, .slice none 0 0, .int .u8 0, .slice none 0 0] 33 (0, 0))) := HR0
  have HQw0 : Hid (w0.heap[q]? = some (.cells #[.int .u8 0, .slice none 0 0, .string ⟨#[]⟩, .slice none 0 0, .int .u16 0, .slice none 0 0, .slice none 0 0, .bool false, .bool false, .int .i32 0, .bool false, .int .i64 0, .slice none 0 0, .bool false, .int .u16 0, .bool false, .int .i64 0, .slice none 0 0, .int .i64 0, .slice none 0 0, .int .u8 0, .slice none 0 0] 33 (0, 0))) := HQ0
  have HBw0 : Hid (Below w.heap.size w w0) := HB0
  go_wp2_with fail
  refine (read_long H.out).mono ?_
  rintro e w1 ⟨tx, rfl, HR1, HV1, HK1⟩
  have hr1 : w1.heap[q + 2]? = some (.cells #[.int .u8 9, .slice none 0 0, .string ⟨#[]⟩, .slice none 0 0, .int .u16 0, .slice none 0 0, .slice none 0 0, .bool false, .bool false, .int .i32 0, .bool false, .int .i64 0, .slice none 0 0, .bool false, .int .u16 0, .bool false, .int .i64 0, .slice none 0 0, .int .i64 0, .slice none 0 0, .int .u8 0, .slice none 0 0] 33 (0, 0)) := (HK1.out.block _ (block_lt HRw0.out) (by omega)).trans HRw0.out
  have hq1 : w1.heap[q]? = some (.cells #[.int .u8 0, .slice none 0 0, .string ⟨#[]⟩, .slice none 0 0, .int .u16 0, .slice none 0 0, .slice none 0 0, .bool false, .bool false, .int .i32 0, .bool false, .int .i64 0, .slice none 0 0, .bool false, .int .u16 0, .bool false, .int .i64 0, .slice none 0 0, .int .i64 0, .slice none 0 0, .int .u8 0, .slice none 0 0] 33 (0, 0)) := (HK1.out.block _ (block_lt HQw0.out) (by omega)).trans HQw0.out
  have hl1 := block_lt hr1
  obtain ⟨d0, d1, d2, d3, d4, d5, d6, d7, d8, d9, d10, d11, d12, d13, d14, d15, d16, d17, d18, d19, d20, d21⟩ := req_cells hr1
  obtain ⟨f0, f1, f2, f3, f4, f5, f6, f7, f8, f9, f10, f11, f12, f13, f14, f15, f16, f17, f18, f19, f20, f21⟩ := req_frozen hr1
  go_upto_region 24 with fail
  have hKb : Kept (fun k => k = q + 2) w1 (w1.setCell ⟨q + 2, 2, none⟩ (.string tx)) := ((Kept.refl (fun k => k = q + 2) w1).setCell (p := ⟨q + 2, 2, none⟩) (fun _ => rfl) _)
  have hb2 := (req_set2 hr1 (.string tx))
  generalize (w1.setCell ⟨q + 2, 2, none⟩ (.string tx)) = w2 at hKb hb2 ⊢
  have HDw2 : Hid (Rd w2 (q + 1) (stepR (longR) (zs, 0))) := HR1.out.kept hKb (fun k hk e => by omega)
  have HBw2 : Hid (Below w.heap.size w w2) := (HBw0.out.trans (HK1.out.below (by have := HQE.out; have := HBw0.out.size; omega) (fun k hk e => by have := HQE.out; omega))).trans (hKb.below (by have := HQE.out; have := HK1.out.size; have := HBw0.out.size; omega) (fun k hk e => by have := HQE.out; omega))
  have HQw2 : Hid (w2.heap[q]? = some (.cells #[.int .u8 0, .slice none 0 0, .string ⟨#[]⟩, .slice none 0 0, .int .u16 0, .slice none 0 0, .slice none 0 0, .bool false, .bool false, .int .i32 0, .bool false, .int .i64 0, .slice none 0 0, .bool false, .int .u16 0, .bool false, .int .i64 0, .slice none 0 0, .int .i64 0, .slice none 0 0, .int .u8 0, .slice none 0 0] 33 (0, 0))) := (hKb.block q (block_lt hq1) (by omega)).trans hq1
  have HRw2 : Hid (w2.heap[q + 2]? = some (.cells #[.int .u8 9, .slice none 0 0, .string tx, .slice none 0 0, .int .u16 0, .slice none 0 0, .slice none 0 0, .bool false, .bool false, .int .i32 0, .bool false, .int .i64 0, .slice none 0 0, .bool false, .int .u16 0, .bool false, .int .i64 0, .slice none 0 0, .int .i64 0, .slice none 0 0, .int .u8 0, .slice none 0 0] 33 (0, 0))) := hb2
  have hst2 : ∀ k, k < w1.heap.size → q + 3 ≤ k → w2.heap[k]? = w1.heap[k]? := fun k hk hk3 => hKb.block k hk (by omega)
  have HSTw2 : Hid ((∀ k, k < w1.heap.size → q + 3 ≤ k → w2.heap[k]? = w1.heap[k]?) ∧ w1.heap.size ≤ w2.heap.size) := ⟨hst2, hKb.size⟩
  clear hKb hb2 hst2 hr1 hq1 hl1 d0 d1 d2 d3 d4 d5 d6 d7 d8 d9 d10 d11 d12 d13 d14 d15 d16 d17 d18 d19 d20 d21 f0 f1 f2 f3 f4 f5 f6 f7 f8 f9 f10 f11 f12 f13 f14 f15 f16 f17 f18 f19 f20 f21
  go_wp2_with fail
  refine (rend HDw2.out HE.out).mono ?_
  rintro e w9 ⟨rfl, x9, hp9, HK9⟩
  have hl9 := block_lt HRw2.out
  have hr9 : w9.heap[q + 2]? = some (.cells #[.int .u8 9, .slice none 0 0, .string tx, .slice none 0 0, .int .u16 0, .slice none 0 0, .slice none 0 0, .bool false, .bool false, .int .i32 0, .bool false, .int .i64 0, .slice none 0 0, .bool false, .int .u16 0, .bool false, .int .i64 0, .slice none 0 0, .int .i64 0, .slice none 0 0, .int .u8 0, .slice none 0 0] 33 (0, 0)) := (HK9.out.block _ hl9 (by omega)).trans HRw2.out
  have hq9 : w9.heap[q]? = some (.cells #[.int .u8 0, .slice none 0 0, .string ⟨#[]⟩, .slice none 0 0, .int .u16 0, .slice none 0 0, .slice none 0 0, .bool false, .bool false, .int .i32 0, .bool false, .int .i64 0, .slice none 0 0, .bool false, .int .u16 0, .bool false, .int .i64 0, .slice none 0 0, .int .i64 0, .slice none 0 0, .int .u8 0, .slice none 0 0] 33 (0, 0)) := (HK9.out.block _ (by omega) (by omega)).trans HQw2.out
  have HB9 : Hid (Below w.heap.size w w9) := HBw2.out.trans (HK9.out.below (by have := HQE.out; omega) (fun k hk e => by have := HQE.out; omega))
  obtain ⟨p0, p1, p2, p3⟩ := two_cells hp9
  have hlr := block_lt hr9
  have hlq := block_lt hq9
  have hlp := block_lt hp9
  have HQ9 : Hid (w9.heap[q]? = some (.cells #[.int .u8 0, .slice none 0 0, .string ⟨#[]⟩, .slice none 0 0, .int .u16 0, .slice none 0 0, .slice none 0 0, .bool false, .bool false, .int .i32 0, .bool false, .int .i64 0, .slice none 0 0, .bool false, .int .u16 0, .bool false, .int .i64 0, .slice none 0 0, .int .i64 0, .slice none 0 0, .int .u8 0, .slice none 0 0] 33 (0, 0))) := hq9
  have HR9 : Hid (w9.heap[q + 2]? = some (.cells #[.int .u8 9, .slice none 0 0, .string tx, .slice none 0 0, .int .u16 0, .slice none 0 0, .slice none 0 0, .bool false, .bool false, .int .i32 0, .bool false, .int .i64 0, .slice none 0 0, .bool false, .int .u16 0, .bool false, .int .i64 0, .slice none 0 0, .int .i64 0, .slice none 0 0, .int .u8 0, .slice none 0 0] 33 (0, 0))) := hr9
  clear hq9 hr9 hp9
  by_cases he : E = 0
  · rw [he] at p1
    have HEZ : Hid (E = 0) := he
    clear he
    go_wp2_with (first | (refine wpList_load_row rfl 33 (.tmp 7) rfl rfl HR9.out Try.isz33 Try.agg33 ?_) | (refine wpList_store_row rfl 33 (.tmp 4) (.tmp 59) rfl rfl rfl Try.isz33 (by simp [Value.oneCell']) HQ9.out rfl ?_; intro wC hqC hKC hsC))
    have hwq := HQE.out
    refine bodyPost_ret (v := .tuple #[.agg #[.int .u8 9, .slice none 0 0, .string tx, .slice none 0 0, .int .u16 0, .slice none 0 0, .slice none 0 0, .bool false, .bool false, .int .i32 0, .bool false, .int .i64 0, .slice none 0 0, .bool false, .int .u16 0, .bool false, .int .i64 0, .slice none 0 0, .int .i64 0, .slice none 0 0, .int .u8 0, .slice none 0 0], .int .i64 0]) (results_cell_tmp rfl rfl hqC Try.isz33 Try.agg33 rfl) rfl ?_
    refine ⟨9, none, 0, 0, [], tx, none, 0, 0, ByteArray.empty, 0, none, 0, 0, [], none, 0, 0, [], false, false, 0, false, 0, ByteArray.empty, none, 0, 0, false, 0, false, 0, none, 0, 0, [], 0, ByteArray.empty, none, 0, 0, 0, none, 0, 0, [], by rw [HEZ.out] <;> rfl, ?_, fun h0 => ?_, fun h0 => absurd HEZ.out h0, HB9.out.trans (hKC.below (by have := HB9.out.size; omega) (fun k hk e => by omega))⟩
    · have hst : ∀ k, k < w2.heap.size → q + 3 ≤ k → wC.heap[k]? = w2.heap[k]? := fun k hk hk3 => (hKC.block k (by have := HK9.out.size; omega) (by omega)).trans (HK9.out.block k hk (by omega))
      have hss : w2.heap.size ≤ wC.heap.size := Nat.le_trans HK9.out.size hKC.size
      exact ⟨⟨(show (0 : Int) ≤ 9 by decide), (show (9 : Int) ≤ 255 by decide)⟩, view_nil _ _ _, isB_nil _, run_zero _, view_nil _ _ _, isB_nil _, ⟨Int.le_refl 0, show (0 : Int) ≤ 255 by decide⟩, view_nil _ _ _⟩
    · have h1 : (stepR (getR 9) (zs, 0)).2 = 0 := lastE_ok (by rw [(g9 (zs, 0)).1]; exact HE.out.symm.trans HEZ.out)
      rw [(g9 (zs, 0)).2 h1]
      rw [(g9 (zs, 0)).1] at h1
      rw [HV1.out h1]
      rfl
  · have t : (E == 0) = false := by simpa using he
    have t' : (E != 0) = true := by simpa using he
    have HEN : Hid (E ≠ 0) := he
    clear he
    go_wp2_with fail
    obtain ⟨hsr1, hqC, hKC⟩ := store_cells (w := w9.drew) (cells := #[.int .u8 0, .slice none 0 0, .string ⟨#[]⟩, .slice none 0 0, .int .u16 0, .slice none 0 0, .slice none 0 0, .bool false, .bool false, .int .i32 0, .bool false, .int .i64 0, .slice none 0 0, .bool false, .int .u16 0, .bool false, .int .i64 0, .slice none 0 0, .int .i64 0, .slice none 0 0, .int .u8 0, .slice none 0 0]) (by simp [Value.oneCell']) HQ9.out ((Below.refl _ _).drew) rfl
    generalize w9.drew.setRow q #[.int .u8 0, .slice none 0 0, .string ⟨#[]⟩, .slice none 0 0, .int .u16 0, .slice none 0 0, .slice none 0 0, .bool false, .bool false, .int .i32 0, .bool false, .int .i64 0, .slice none 0 0, .bool false, .int .u16 0, .bool false, .int .i64 0, .slice none 0 0, .int .i64 0, .slice none 0 0, .int .u8 0, .slice none 0 0] = wC at hsr1 hqC hKC
    simp [storeCells, go_sem] at hsr1
    have HSR : Hid _ := hsr1
    have hc2 : wC.cell? ⟨q + 1, 1, none⟩ = some (.int .i64 E) := (hKC.cell (p := ⟨q + 1, 1, none⟩) hlp (by simp only; omega)).trans p1
    clear hsr1
    go_region_held3 (fun w' => w'.cell? ⟨q + 1, 1, none⟩ = some (.int .i64 E)) (assumption) (first | (refine upon_of HSR.out ?_))
    all_goals (
      go_wp2_with fail
      have hwq := HQE.out
      refine bodyPost_ret (v := .tuple #[.agg #[.int .u8 0, .slice none 0 0, .string ⟨#[]⟩, .slice none 0 0, .int .u16 0, .slice none 0 0, .slice none 0 0, .bool false, .bool false, .int .i32 0, .bool false, .int .i64 0, .slice none 0 0, .bool false, .int .u16 0, .bool false, .int .i64 0, .slice none 0 0, .int .i64 0, .slice none 0 0, .int .u8 0, .slice none 0 0], .int .i64 E]) (results_cell_tmp rfl rfl (by first | exact hqC | (rw [World.heap_drewN]; exact hqC) | (simp only [World.heap_drewN]; exact hqC)) Try.isz33 Try.agg33 rfl) rfl ?_
      exact ⟨0, none, 0, 0, [], ByteArray.empty, none, 0, 0, ByteArray.empty, 0, none, 0, 0, [], none, 0, 0, [], false, false, 0, false, 0, ByteArray.empty, none, 0, 0, false, 0, false, 0, none, 0, 0, [], 0, ByteArray.empty, none, 0, 0, 0, none, 0, 0, [], rfl, rq_zero _ 0 ⟨by decide, by decide⟩, fun h0 => absurd h0 HEN.out, fun _ => rfl, HB9.out.trans (hKC.below (by have := HB9.out.size; omega) (fun k hk e => by omega))⟩)


end Go.Proofs.Ytcecdklgiocbaaa
