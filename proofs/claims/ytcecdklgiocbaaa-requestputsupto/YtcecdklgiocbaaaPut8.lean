/-
  The contract of request.Put.
-/
import Derived.Test.YtcecdklgiocbaaaWr7
namespace Go.Proofs.Ytcecdklgiocbaaa
open Go.RowKit
set_option maxRecDepth 100000
set_option linter.unusedVariables false
set_option linter.unusedSimpArgs false

/-- What a request leads to in memory, and what may be in it. -/
structure RqAt (w : World) (oa : Option Addr) (ol oc : Nat) (ia : Option Addr) (il ic : Nat) (a : Option Addr) (l c : Nat) (na : Option Addr) (nl nc : Nat) (sa : Option Addr) (sl sc : Nat) (ea : Option Addr) (el ec : Nat) (ta : Option Addr) (tl tc : Nat) (aa : Option Addr) (al ac : Nat) (x : Rq) : Prop where
  op : 0 ≤ x.op ∧ x.op ≤ 255
  opts : View 2 VP w oa ol oc x.opts
  id : IsB w ia il ic (sNums x.id)
  run : RunAt w a l c na nl nc sa sl sc x.run
  evs : View 1 VS w ea el ec x.evs
  tok : IsB w ta tl tc (sNums x.tok.2)
  kind : 0 ≤ x.kind ∧ x.kind ≤ 255
  all : View 4 VSt w aa al ac x.all

/-- A request's bytes are no longer than memory. -/
structure FitQ (x : Rq) : Prop where
  opts : ∀ y ∈ x.opts, y.1.size ≤ maxLen ∧ y.2.size ≤ maxLen
  run : FitR x.run
  evs : ∀ y ∈ x.evs, y.size ≤ maxLen
  tok : x.tok.2.size ≤ 140737488351232
  all : ∀ s ∈ x.all, ∀ y ∈ s.vals, y.2.size ≤ 140737488351232
  cost : 16 + x.text.size + x.id.size + costR x.run + costA x.all ≤ 140737488351232

/-- The cells of a request's block. -/
theorem req_cells {w : World} {q : Nat} {c0 c1 c2 c3 c4 c5 c6 c7 c8 c9 c10 c11 c12 c13 c14 c15 c16 c17 c18 c19 c20 c21 : Value} {t : TypeId} (h : w.heap[q]? = some (.cells #[c0, c1, c2, c3, c4, c5, c6, c7, c8, c9, c10, c11, c12, c13, c14, c15, c16, c17, c18, c19, c20, c21] t (0, 0))) :
    w.cell? ⟨q, 0, none⟩ = some c0 ∧ w.cell? ⟨q, 1, none⟩ = some c1 ∧ w.cell? ⟨q, 2, none⟩ = some c2 ∧ w.cell? ⟨q, 3, none⟩ = some c3 ∧ w.cell? ⟨q, 4, none⟩ = some c4 ∧ w.cell? ⟨q, 5, none⟩ = some c5 ∧ w.cell? ⟨q, 6, none⟩ = some c6 ∧ w.cell? ⟨q, 7, none⟩ = some c7 ∧ w.cell? ⟨q, 8, none⟩ = some c8 ∧ w.cell? ⟨q, 9, none⟩ = some c9 ∧ w.cell? ⟨q, 10, none⟩ = some c10 ∧ w.cell? ⟨q, 11, none⟩ = some c11 ∧ w.cell? ⟨q, 12, none⟩ = some c12 ∧ w.cell? ⟨q, 13, none⟩ = some c13 ∧ w.cell? ⟨q, 14, none⟩ = some c14 ∧ w.cell? ⟨q, 15, none⟩ = some c15 ∧ w.cell? ⟨q, 16, none⟩ = some c16 ∧ w.cell? ⟨q, 17, none⟩ = some c17 ∧ w.cell? ⟨q, 18, none⟩ = some c18 ∧ w.cell? ⟨q, 19, none⟩ = some c19 ∧ w.cell? ⟨q, 20, none⟩ = some c20 ∧ w.cell? ⟨q, 21, none⟩ = some c21 := by
  refine ⟨?_, ?_, ?_, ?_, ?_, ?_, ?_, ?_, ?_, ?_, ?_, ?_, ?_, ?_, ?_, ?_, ?_, ?_, ?_, ?_, ?_, ?_⟩ <;> simp [World.cell?, h]

theorem goB_nrm {α : Type} (f : α → BE) (xs : List α) : ∀ acc, Nrm (goB f xs acc) := by
  induction xs with
  | nil => intro acc h; exact absurd rfl h
  | cons x r ih =>
    intro acc
    rw [goB]
    split
    · exact ih _
    · intro _; rfl

theorem listB_nrm {α : Type} (f : α → BE) (xs : List α) : Nrm (listB f xs) := by
  unfold listB
  split
  · exact goB_nrm _ _ _
  · intro _; rfl

theorem valueB_nrm (x : Vl) : Nrm (valueB x) := by
  unfold valueB
  split
  · intro h; exact absurd rfl h
  · split
    · intro h; exact absurd rfl h
    · split
      · intro h; exact absurd rfl h
      · intro _; rfl

theorem putB_nrm (x : Rq) : Nrm (putB x) := by
  unfold putB
  repeat' split
  · exact listB_nrm _ _
  · intro h; exact absurd rfl h
  · exact nrm_seq _ _
  · intro h; exact absurd rfl h
  · exact nrm_seq _ _
  · exact listB_nrm _ _
  · exact valueB_nrm _
  · exact nrm_seq _ _
  · intro _; rfl

theorem listB_len_const {α : Type} (f : α → BE) (m : Nat) (hf : ∀ x, (f x).1.length ≤ m) (xs : List α) : (listB f xs).1.length ≤ 2 + 65535 * m := by
  unfold listB
  split
  · rename_i hl
    refine Nat.le_trans (listB_len_le f (fun _ => m) hf xs _) ?_
    rw [putL_length, List.map_const', List.sum_replicate_nat]
    exact Nat.add_le_add_left (Nat.mul_le_mul_right _ hl) 2
  · simp

theorem costA_sum : ∀ vs : List St, costA vs = (vs.map costS).sum
  | [] => rfl
  | x :: r => by rw [costA, List.map_cons, List.sum_cons, costA_sum r]

theorem stList_len (ss : List St) : (listB stB ss).1.length ≤ 2 + costA ss := by
  unfold listB
  split
  · refine Nat.le_trans (listB_len_le stB costS stB_len ss _) ?_
    rw [putL_length, costA_sum]
    exact Nat.le_refl _
  · simp

/-- A new writer. -/
theorem wr_new (w : World) (o : Obj) : Wr ((w.alloc o).alloc (.cells #[.slice none 0 0, .int .i64 0] 63)) (w.heap.size + 1) (.slice none 0 0) ([], 0) := by
  have hs : (w.alloc o).heap.size = w.heap.size + 1 := by simp
  refine ⟨by rw [← hs]; exact heap_alloc_new _ _, fun k hk => by simp [Value.ownBlock] at hk, ⟨_, _, _, rfl⟩, fun _ => World.ownsRow_nil _ _ _ _, fun h => absurd rfl h, rng_nil⟩

set_option maxHeartbeats 2000000 in
theorem put_1 {w : World} {op : Int} {oa : Option Addr} {ol oc : Nat} {os : List (ByteArray × ByteArray)} {tx : ByteArray} {ia : Option Addr} {il ic : Nat} {id : ByteArray} {co : Int} {a : Option Addr} {l c : Nat} {vs : List Vl} {na : Option Addr} {nl nc : Nat} {ns : List ByteArray} {sk pg : Bool} {pn : Int} {rs : Bool} {sk1 : Int} {sb : ByteArray} {sa : Option Addr} {sl sc : Nat} {se : Bool} {sr : Int} {ti : Bool} {tm : Int} {ea : Option Addr} {el ec : Nat} {es : List ByteArray} {tk : Int} {tb : ByteArray} {ta : Option Addr} {tl tc : Nat} {kd : Int} {aa : Option Addr} {al ac : Nat} {ss : List St} (hR : RqAt w oa ol oc ia il ic a l c na nl nc sa sl sc ea el ec ta tl tc aa al ac (op, os, tx, id, (co, vs, ns, sk, pg, pn, rs, (sk1, sb), se, sr, ti, tm), es, (tk, tb), kd, ss)) (hF : FitQ (op, os, tx, id, (co, vs, ns, sk, pg, pn, rs, (sk1, sb), se, sr, ti, tm), es, (tk, tb), kd, ss)) (hop : op = 1) {Y : BE} (hY : Y = listB (keyB textB) os) :
    Calls Try.prog 10 #[.agg #[.int .u8 op, .slice oa ol oc, .string tx, .slice ia il ic, .int .u16 co, .slice a l c, .slice na nl nc, .bool sk, .bool pg, .int .i32 pn, .bool rs, .int .i64 sk1, .slice sa sl sc, .bool se, .int .u16 sr, .bool ti, .int .i64 tm, .slice ea el ec, .int .i64 tk, .slice ta tl tc, .int .u8 kd, .slice aa al ac]] w fun e w' => ∃ ya yc, e = .returned (.tuple #[.slice ya Y.1.length yc, .int .i64 Y.2]) ∧ Hid (Put w' w.heap.size ya yc Y.1) ∧ Hid (Below w.heap.size w w') := by
  subst hop
  obtain ⟨B, hB⟩ : ∃ B, B = listB (keyB textB) os := ⟨_, rfl⟩
  have HBt : Hid (B = listB (keyB textB) os) := hB
  have HBL : Hid (B.1.length ≤ 140737488355328) := by
    show _ ≤ _
    rw [hB]
    exact Nat.le_trans (listB_len_const _ 131074 keyB_textB_len os) (by decide)
  have HY : Hid (Y = seqB ([], 0) (B.1, B.2)) := by
    show _ = _
    rw [hY, ← hB]
    exact (unit_seqB (by rw [hB]; exact listB_nrm _ _)).symm
  clear hY hB
  obtain ⟨w1, hw1⟩ : ∃ w1, w1 = (w.alloc (.cells #[.int .u8 1, .slice oa ol oc, .string tx, .slice ia il ic, .int .u16 co, .slice a l c, .slice na nl nc, .bool sk, .bool pg, .int .i32 pn, .bool rs, .int .i64 sk1, .slice sa sl sc, .bool se, .int .u16 sr, .bool ti, .int .i64 tm, .slice ea el ec, .int .i64 tk, .slice ta tl tc, .int .u8 kd, .slice aa al ac] 33)).alloc (.cells #[.slice none 0 0, .int .i64 0] 63) := ⟨_, rfl⟩
  have hB1 : Below w.heap.size w w1 := by rw [hw1]; exact (below_one _ _).alloc (by simp) _
  have HB1 : Hid (Below w.heap.size w w1) := hB1
  have hq : w1.heap[w.heap.size]? = some (.cells #[.int .u8 1, .slice oa ol oc, .string tx, .slice ia il ic, .int .u16 co, .slice a l c, .slice na nl nc, .bool sk, .bool pg, .int .i32 pn, .bool rs, .int .i64 sk1, .slice sa sl sc, .bool se, .int .u16 sr, .bool ti, .int .i64 tm, .slice ea el ec, .int .i64 tk, .slice ta tl tc, .int .u8 kd, .slice aa al ac] 33 (0, 0)) := by
    rw [hw1]
    exact ((below_one (w.alloc (.cells #[.int .u8 1, .slice oa ol oc, .string tx, .slice ia il ic, .int .u16 co, .slice a l c, .slice na nl nc, .bool sk, .bool pg, .int .i32 pn, .bool rs, .int .i64 sk1, .slice sa sl sc, .bool se, .int .u16 sr, .bool ti, .int .i64 tm, .slice ea el ec, .int .i64 tk, .slice ta tl tc, .int .u8 kd, .slice aa al ac] 33)) _).block w.heap.size (by simp)).trans (heap_alloc_new w _)
  have HQ : Hid (w1.heap[w.heap.size]? = some (.cells #[.int .u8 1, .slice oa ol oc, .string tx, .slice ia il ic, .int .u16 co, .slice a l c, .slice na nl nc, .bool sk, .bool pg, .int .i32 pn, .bool rs, .int .i64 sk1, .slice sa sl sc, .bool se, .int .u16 sr, .bool ti, .int .i64 tm, .slice ea el ec, .int .i64 tk, .slice ta tl tc, .int .u8 kd, .slice aa al ac] 33 (0, 0))) := hq
  obtain ⟨p, hp⟩ : ∃ p, p = w.heap.size + 1 := ⟨_, rfl⟩
  have H : Hid (Wr w1 p (.slice none 0 0) ([], 0)) := by rw [hw1, hp]; exact wr_new _ _
  have HP : Hid (w.heap.size ≤ p) := by show _ ≤ _; omega
  have HPE : Hid (w.heap.size + 1 = p) := hp.symm
  have HFAR : Hid (w.heap.size ≠ p ∧ (Value.slice none 0 0).ownBlock ≠ some w.heap.size) := ⟨by omega, fun e => by simp [Value.ownBlock] at e⟩
  have HW1 : Hid ((w.alloc (.cells #[.int .u8 1, .slice oa ol oc, .string tx, .slice ia il ic, .int .u16 co, .slice a l c, .slice na nl nc, .bool sk, .bool pg, .int .i32 pn, .bool rs, .int .i64 sk1, .slice sa sl sc, .bool se, .int .u16 sr, .bool ti, .int .i64 tm, .slice ea el ec, .int .i64 tk, .slice ta tl tc, .int .u8 kd, .slice aa al ac] 33)).alloc (.cells #[.slice none 0 0, .int .i64 0] 63) = w1) := hw1.symm
  have HR : Hid (RqAt w oa ol oc ia il ic a l c na nl nc sa sl sc ea el ec ta tl tc aa al ac (1, os, tx, id, (co, vs, ns, sk, pg, pn, rs, (sk1, sb), se, sr, ti, tm), es, (tk, tb), kd, ss)) := hR
  have HF : Hid (FitQ (1, os, tx, id, (co, vs, ns, sk, pg, pn, rs, (sk1, sb), se, sr, ti, tm), es, (tk, tb), kd, ss)) := hF
  have HC0 : Hid (16 + tx.size + id.size + costR (co, vs, ns, sk, pg, pn, rs, (sk1, sb), se, sr, ti, tm) + costA ss ≤ 140737488351232) := hF.cost
  clear hR hF hw1 hB1 hp
  go_enter Try.func10, Try.ntmps10
  go_upto_region 2 with fail
  rw [HW1.out]
  clear HW1
  try rw [HPE.out]
  obtain ⟨d0, d1, d2, d3, d4, d5, d6, d7, d8, d9, d10, d11, d12, d13, d14, d15, d16, d17, d18, d19, d20, d21⟩ := req_cells hq
  clear hq
  go_wp2_with fail
  refine (pairs_any (HR.out.opts.old stays_p HB1.out) HF.out.opts HBt.out).mono ?_
  rintro e w2 ⟨a2, cp2, rfl, HP2, hB2⟩
  have HB2 : Hid (Below w1.heap.size w1 w2) := hB2
  clear hB2
  go_wp2_with fail
  refine (wpart_new H.out HB2.out HP2.out.2 (by have h1 := HBL.out; simp only [List.length_nil]; omega) B.2).mono ?_
  rintro r w3 ⟨rfl, v3, HW3, HC3⟩
  have HYE : Hid (Wr w3 p v3 Y) := by rw [HY.out]; exact HW3
  obtain ⟨z0, z1, z2, z3⟩ := two_cells HYE.out.blk
  have HBF : Hid (Below w.heap.size w w3) := HB1.out.trans (HC3.out.low H.out HP.out)
  have hpl := HYE.out.lt
  by_cases he : Y.2 = 0
  · obtain ⟨ya, yc, hv, hp⟩ := OwnB.put (HYE.out.own he) HYE.out.rng
    have HPF : Hid (Put w3 w.heap.size ya yc Y.1) := hp.mono (by have := HP.out; omega)
    subst hv
    rw [he] at z1
    clear hp
    go_wp2_with fail
    go_ret2
    exact ⟨ya, yc, by rw [he]; rfl, HPF, HBF⟩
  · have t : (Y.2 == 0) = false := by simpa using he
    have HYN : Hid (Y.1 = []) := HYE.out.nrm he
    clear he
    go_wp2_with fail
    go_quiet (fail)
    go_wp2_with fail
    go_ret2
    exact ⟨none, 0, by rw [HYN.out]; rfl, by rw [HYN.out]; exact (put_nil _ _), below_drewN HBF.out _⟩

set_option maxHeartbeats 2000000 in
theorem put_11 {w : World} {op : Int} {oa : Option Addr} {ol oc : Nat} {os : List (ByteArray × ByteArray)} {tx : ByteArray} {ia : Option Addr} {il ic : Nat} {id : ByteArray} {co : Int} {a : Option Addr} {l c : Nat} {vs : List Vl} {na : Option Addr} {nl nc : Nat} {ns : List ByteArray} {sk pg : Bool} {pn : Int} {rs : Bool} {sk1 : Int} {sb : ByteArray} {sa : Option Addr} {sl sc : Nat} {se : Bool} {sr : Int} {ti : Bool} {tm : Int} {ea : Option Addr} {el ec : Nat} {es : List ByteArray} {tk : Int} {tb : ByteArray} {ta : Option Addr} {tl tc : Nat} {kd : Int} {aa : Option Addr} {al ac : Nat} {ss : List St} (hR : RqAt w oa ol oc ia il ic a l c na nl nc sa sl sc ea el ec ta tl tc aa al ac (op, os, tx, id, (co, vs, ns, sk, pg, pn, rs, (sk1, sb), se, sr, ti, tm), es, (tk, tb), kd, ss)) (hF : FitQ (op, os, tx, id, (co, vs, ns, sk, pg, pn, rs, (sk1, sb), se, sr, ti, tm), es, (tk, tb), kd, ss)) (hop : op = 11) {Y : BE} (hY : Y = listB textB es) :
    Calls Try.prog 10 #[.agg #[.int .u8 op, .slice oa ol oc, .string tx, .slice ia il ic, .int .u16 co, .slice a l c, .slice na nl nc, .bool sk, .bool pg, .int .i32 pn, .bool rs, .int .i64 sk1, .slice sa sl sc, .bool se, .int .u16 sr, .bool ti, .int .i64 tm, .slice ea el ec, .int .i64 tk, .slice ta tl tc, .int .u8 kd, .slice aa al ac]] w fun e w' => ∃ ya yc, e = .returned (.tuple #[.slice ya Y.1.length yc, .int .i64 Y.2]) ∧ Hid (Put w' w.heap.size ya yc Y.1) ∧ Hid (Below w.heap.size w w') := by
  subst hop
  obtain ⟨B, hB⟩ : ∃ B, B = listB textB es := ⟨_, rfl⟩
  have HBt : Hid (B = listB textB es) := hB
  have HBL : Hid (B.1.length ≤ 140737488355328) := by
    show _ ≤ _
    rw [hB]
    exact Nat.le_trans (listB_len_const _ 65537 textB_len es) (by decide)
  have HY : Hid (Y = seqB ([], 0) (B.1, B.2)) := by
    show _ = _
    rw [hY, ← hB]
    exact (unit_seqB (by rw [hB]; exact listB_nrm _ _)).symm
  clear hY hB
  obtain ⟨w1, hw1⟩ : ∃ w1, w1 = (w.alloc (.cells #[.int .u8 11, .slice oa ol oc, .string tx, .slice ia il ic, .int .u16 co, .slice a l c, .slice na nl nc, .bool sk, .bool pg, .int .i32 pn, .bool rs, .int .i64 sk1, .slice sa sl sc, .bool se, .int .u16 sr, .bool ti, .int .i64 tm, .slice ea el ec, .int .i64 tk, .slice ta tl tc, .int .u8 kd, .slice aa al ac] 33)).alloc (.cells #[.slice none 0 0, .int .i64 0] 63) := ⟨_, rfl⟩
  have hB1 : Below w.heap.size w w1 := by rw [hw1]; exact (below_one _ _).alloc (by simp) _
  have HB1 : Hid (Below w.heap.size w w1) := hB1
  have hq : w1.heap[w.heap.size]? = some (.cells #[.int .u8 11, .slice oa ol oc, .string tx, .slice ia il ic, .int .u16 co, .slice a l c, .slice na nl nc, .bool sk, .bool pg, .int .i32 pn, .bool rs, .int .i64 sk1, .slice sa sl sc, .bool se, .int .u16 sr, .bool ti, .int .i64 tm, .slice ea el ec, .int .i64 tk, .slice ta tl tc, .int .u8 kd, .slice aa al ac] 33 (0, 0)) := by
    rw [hw1]
    exact ((below_one (w.alloc (.cells #[.int .u8 11, .slice oa ol oc, .string tx, .slice ia il ic, .int .u16 co, .slice a l c, .slice na nl nc, .bool sk, .bool pg, .int .i32 pn, .bool rs, .int .i64 sk1, .slice sa sl sc, .bool se, .int .u16 sr, .bool ti, .int .i64 tm, .slice ea el ec, .int .i64 tk, .slice ta tl tc, .int .u8 kd, .slice aa al ac] 33)) _).block w.heap.size (by simp)).trans (heap_alloc_new w _)
  have HQ : Hid (w1.heap[w.heap.size]? = some (.cells #[.int .u8 11, .slice oa ol oc, .string tx, .slice ia il ic, .int .u16 co, .slice a l c, .slice na nl nc, .bool sk, .bool pg, .int .i32 pn, .bool rs, .int .i64 sk1, .slice sa sl sc, .bool se, .int .u16 sr, .bool ti, .int .i64 tm, .slice ea el ec, .int .i64 tk, .slice ta tl tc, .int .u8 kd, .slice aa al ac] 33 (0, 0))) := hq
  obtain ⟨p, hp⟩ : ∃ p, p = w.heap.size + 1 := ⟨_, rfl⟩
  have H : Hid (Wr w1 p (.slice none 0 0) ([], 0)) := by rw [hw1, hp]; exact wr_new _ _
  have HP : Hid (w.heap.size ≤ p) := by show _ ≤ _; omega
  have HPE : Hid (w.heap.size + 1 = p) := hp.symm
  have HFAR : Hid (w.heap.size ≠ p ∧ (Value.slice none 0 0).ownBlock ≠ some w.heap.size) := ⟨by omega, fun e => by simp [Value.ownBlock] at e⟩
  have HW1 : Hid ((w.alloc (.cells #[.int .u8 11, .slice oa ol oc, .string tx, .slice ia il ic, .int .u16 co, .slice a l c, .slice na nl nc, .bool sk, .bool pg, .int .i32 pn, .bool rs, .int .i64 sk1, .slice sa sl sc, .bool se, .int .u16 sr, .bool ti, .int .i64 tm, .slice ea el ec, .int .i64 tk, .slice ta tl tc, .int .u8 kd, .slice aa al ac] 33)).alloc (.cells #[.slice none 0 0, .int .i64 0] 63) = w1) := hw1.symm
  have HR : Hid (RqAt w oa ol oc ia il ic a l c na nl nc sa sl sc ea el ec ta tl tc aa al ac (11, os, tx, id, (co, vs, ns, sk, pg, pn, rs, (sk1, sb), se, sr, ti, tm), es, (tk, tb), kd, ss)) := hR
  have HF : Hid (FitQ (11, os, tx, id, (co, vs, ns, sk, pg, pn, rs, (sk1, sb), se, sr, ti, tm), es, (tk, tb), kd, ss)) := hF
  have HC0 : Hid (16 + tx.size + id.size + costR (co, vs, ns, sk, pg, pn, rs, (sk1, sb), se, sr, ti, tm) + costA ss ≤ 140737488351232) := hF.cost
  clear hR hF hw1 hB1 hp
  go_enter Try.func10, Try.ntmps10
  go_upto_region 2 with fail
  rw [HW1.out]
  clear HW1
  try rw [HPE.out]
  obtain ⟨d0, d1, d2, d3, d4, d5, d6, d7, d8, d9, d10, d11, d12, d13, d14, d15, d16, d17, d18, d19, d20, d21⟩ := req_cells hq
  clear hq
  go_wp2_with fail
  refine (texts_any (HR.out.evs.old stays_s HB1.out) HF.out.evs HBt.out).mono ?_
  rintro e w2 ⟨a2, cp2, rfl, HP2, hB2⟩
  have HB2 : Hid (Below w1.heap.size w1 w2) := hB2
  clear hB2
  go_wp2_with fail
  refine (wpart_new H.out HB2.out HP2.out.2 (by have h1 := HBL.out; simp only [List.length_nil]; omega) B.2).mono ?_
  rintro r w3 ⟨rfl, v3, HW3, HC3⟩
  have HYE : Hid (Wr w3 p v3 Y) := by rw [HY.out]; exact HW3
  obtain ⟨z0, z1, z2, z3⟩ := two_cells HYE.out.blk
  have HBF : Hid (Below w.heap.size w w3) := HB1.out.trans (HC3.out.low H.out HP.out)
  have hpl := HYE.out.lt
  by_cases he : Y.2 = 0
  · obtain ⟨ya, yc, hv, hp⟩ := OwnB.put (HYE.out.own he) HYE.out.rng
    have HPF : Hid (Put w3 w.heap.size ya yc Y.1) := hp.mono (by have := HP.out; omega)
    subst hv
    rw [he] at z1
    clear hp
    go_wp2_with fail
    go_ret2
    exact ⟨ya, yc, by rw [he]; rfl, HPF, HBF⟩
  · have t : (Y.2 == 0) = false := by simpa using he
    have HYN : Hid (Y.1 = []) := HYE.out.nrm he
    clear he
    go_wp2_with fail
    go_quiet (fail)
    go_wp2_with fail
    go_ret2
    exact ⟨none, 0, by rw [HYN.out]; rfl, by rw [HYN.out]; exact (put_nil _ _), below_drewN HBF.out _⟩

set_option maxHeartbeats 2000000 in
theorem put_15 {w : World} {op : Int} {oa : Option Addr} {ol oc : Nat} {os : List (ByteArray × ByteArray)} {tx : ByteArray} {ia : Option Addr} {il ic : Nat} {id : ByteArray} {co : Int} {a : Option Addr} {l c : Nat} {vs : List Vl} {na : Option Addr} {nl nc : Nat} {ns : List ByteArray} {sk pg : Bool} {pn : Int} {rs : Bool} {sk1 : Int} {sb : ByteArray} {sa : Option Addr} {sl sc : Nat} {se : Bool} {sr : Int} {ti : Bool} {tm : Int} {ea : Option Addr} {el ec : Nat} {es : List ByteArray} {tk : Int} {tb : ByteArray} {ta : Option Addr} {tl tc : Nat} {kd : Int} {aa : Option Addr} {al ac : Nat} {ss : List St} (hR : RqAt w oa ol oc ia il ic a l c na nl nc sa sl sc ea el ec ta tl tc aa al ac (op, os, tx, id, (co, vs, ns, sk, pg, pn, rs, (sk1, sb), se, sr, ti, tm), es, (tk, tb), kd, ss)) (hF : FitQ (op, os, tx, id, (co, vs, ns, sk, pg, pn, rs, (sk1, sb), se, sr, ti, tm), es, (tk, tb), kd, ss)) (hop : op = 15) {Y : BE} (hY : Y = valueB (tk, tb)) :
    Calls Try.prog 10 #[.agg #[.int .u8 op, .slice oa ol oc, .string tx, .slice ia il ic, .int .u16 co, .slice a l c, .slice na nl nc, .bool sk, .bool pg, .int .i32 pn, .bool rs, .int .i64 sk1, .slice sa sl sc, .bool se, .int .u16 sr, .bool ti, .int .i64 tm, .slice ea el ec, .int .i64 tk, .slice ta tl tc, .int .u8 kd, .slice aa al ac]] w fun e w' => ∃ ya yc, e = .returned (.tuple #[.slice ya Y.1.length yc, .int .i64 Y.2]) ∧ Hid (Put w' w.heap.size ya yc Y.1) ∧ Hid (Below w.heap.size w w') := by
  subst hop
  obtain ⟨B, hB⟩ : ∃ B, B = valueB (tk, tb) := ⟨_, rfl⟩
  have HBt : Hid (B = valueB (tk, tb)) := hB
  have HBL : Hid (B.1.length ≤ 140737488355328) := by
    show _ ≤ _
    rw [hB]
    have h1 := valueB_len (tk, tb); have h2 : tb.size ≤ 140737488351232 := hF.tok; simp only at h1; omega
  have HY : Hid (Y = seqB ([], 0) (B.1, B.2)) := by
    show _ = _
    rw [hY, ← hB]
    exact (unit_seqB (by rw [hB]; exact valueB_nrm _)).symm
  clear hY hB
  obtain ⟨w1, hw1⟩ : ∃ w1, w1 = (w.alloc (.cells #[.int .u8 15, .slice oa ol oc, .string tx, .slice ia il ic, .int .u16 co, .slice a l c, .slice na nl nc, .bool sk, .bool pg, .int .i32 pn, .bool rs, .int .i64 sk1, .slice sa sl sc, .bool se, .int .u16 sr, .bool ti, .int .i64 tm, .slice ea el ec, .int .i64 tk, .slice ta tl tc, .int .u8 kd, .slice aa al ac] 33)).alloc (.cells #[.slice none 0 0, .int .i64 0] 63) := ⟨_, rfl⟩
  have hB1 : Below w.heap.size w w1 := by rw [hw1]; exact (below_one _ _).alloc (by simp) _
  have HB1 : Hid (Below w.heap.size w w1) := hB1
  have hq : w1.heap[w.heap.size]? = some (.cells #[.int .u8 15, .slice oa ol oc, .string tx, .slice ia il ic, .int .u16 co, .slice a l c, .slice na nl nc, .bool sk, .bool pg, .int .i32 pn, .bool rs, .int .i64 sk1, .slice sa sl sc, .bool se, .int .u16 sr, .bool ti, .int .i64 tm, .slice ea el ec, .int .i64 tk, .slice ta tl tc, .int .u8 kd, .slice aa al ac] 33 (0, 0)) := by
    rw [hw1]
    exact ((below_one (w.alloc (.cells #[.int .u8 15, .slice oa ol oc, .string tx, .slice ia il ic, .int .u16 co, .slice a l c, .slice na nl nc, .bool sk, .bool pg, .int .i32 pn, .bool rs, .int .i64 sk1, .slice sa sl sc, .bool se, .int .u16 sr, .bool ti, .int .i64 tm, .slice ea el ec, .int .i64 tk, .slice ta tl tc, .int .u8 kd, .slice aa al ac] 33)) _).block w.heap.size (by simp)).trans (heap_alloc_new w _)
  have HQ : Hid (w1.heap[w.heap.size]? = some (.cells #[.int .u8 15, .slice oa ol oc, .string tx, .slice ia il ic, .int .u16 co, .slice a l c, .slice na nl nc, .bool sk, .bool pg, .int .i32 pn, .bool rs, .int .i64 sk1, .slice sa sl sc, .bool se, .int .u16 sr, .bool ti, .int .i64 tm, .slice ea el ec, .int .i64 tk, .slice ta tl tc, .int .u8 kd, .slice aa al ac] 33 (0, 0))) := hq
  obtain ⟨p, hp⟩ : ∃ p, p = w.heap.size + 1 := ⟨_, rfl⟩
  have H : Hid (Wr w1 p (.slice none 0 0) ([], 0)) := by rw [hw1, hp]; exact wr_new _ _
  have HP : Hid (w.heap.size ≤ p) := by show _ ≤ _; omega
  have HPE : Hid (w.heap.size + 1 = p) := hp.symm
  have HFAR : Hid (w.heap.size ≠ p ∧ (Value.slice none 0 0).ownBlock ≠ some w.heap.size) := ⟨by omega, fun e => by simp [Value.ownBlock] at e⟩
  have HW1 : Hid ((w.alloc (.cells #[.int .u8 15, .slice oa ol oc, .string tx, .slice ia il ic, .int .u16 co, .slice a l c, .slice na nl nc, .bool sk, .bool pg, .int .i32 pn, .bool rs, .int .i64 sk1, .slice sa sl sc, .bool se, .int .u16 sr, .bool ti, .int .i64 tm, .slice ea el ec, .int .i64 tk, .slice ta tl tc, .int .u8 kd, .slice aa al ac] 33)).alloc (.cells #[.slice none 0 0, .int .i64 0] 63) = w1) := hw1.symm
  have HR : Hid (RqAt w oa ol oc ia il ic a l c na nl nc sa sl sc ea el ec ta tl tc aa al ac (15, os, tx, id, (co, vs, ns, sk, pg, pn, rs, (sk1, sb), se, sr, ti, tm), es, (tk, tb), kd, ss)) := hR
  have HF : Hid (FitQ (15, os, tx, id, (co, vs, ns, sk, pg, pn, rs, (sk1, sb), se, sr, ti, tm), es, (tk, tb), kd, ss)) := hF
  have HC0 : Hid (16 + tx.size + id.size + costR (co, vs, ns, sk, pg, pn, rs, (sk1, sb), se, sr, ti, tm) + costA ss ≤ 140737488351232) := hF.cost
  clear hR hF hw1 hB1 hp
  go_enter Try.func10, Try.ntmps10
  go_upto_region 2 with fail
  rw [HW1.out]
  clear HW1
  try rw [HPE.out]
  obtain ⟨d0, d1, d2, d3, d4, d5, d6, d7, d8, d9, d10, d11, d12, d13, d14, d15, d16, d17, d18, d19, d20, d21⟩ := req_cells hq
  clear hq
  go_wp2_with fail
  refine (value_any (tk, tb) _ (HR.out.tok.old HB1.out) HF.out.tok HBt.out).mono ?_
  rintro e w2 ⟨a2, cp2, rfl, HP2, hB2⟩
  have HB2 : Hid (Below w1.heap.size w1 w2) := hB2
  clear hB2
  go_wp2_with fail
  refine (wpart_new H.out HB2.out HP2.out.2 (by have h1 := HBL.out; simp only [List.length_nil]; omega) B.2).mono ?_
  rintro r w3 ⟨rfl, v3, HW3, HC3⟩
  have HYE : Hid (Wr w3 p v3 Y) := by rw [HY.out]; exact HW3
  obtain ⟨z0, z1, z2, z3⟩ := two_cells HYE.out.blk
  have HBF : Hid (Below w.heap.size w w3) := HB1.out.trans (HC3.out.low H.out HP.out)
  have hpl := HYE.out.lt
  by_cases he : Y.2 = 0
  · obtain ⟨ya, yc, hv, hp⟩ := OwnB.put (HYE.out.own he) HYE.out.rng
    have HPF : Hid (Put w3 w.heap.size ya yc Y.1) := hp.mono (by have := HP.out; omega)
    subst hv
    rw [he] at z1
    clear hp
    go_wp2_with fail
    go_ret2
    exact ⟨ya, yc, by rw [he]; rfl, HPF, HBF⟩
  · have t : (Y.2 == 0) = false := by simpa using he
    have HYN : Hid (Y.1 = []) := HYE.out.nrm he
    clear he
    go_wp2_with fail
    go_quiet (fail)
    go_wp2_with fail
    go_ret2
    exact ⟨none, 0, by rw [HYN.out]; rfl, by rw [HYN.out]; exact (put_nil _ _), below_drewN HBF.out _⟩

set_option maxHeartbeats 2000000 in
theorem put_9 {w : World} {op : Int} {oa : Option Addr} {ol oc : Nat} {os : List (ByteArray × ByteArray)} {tx : ByteArray} {ia : Option Addr} {il ic : Nat} {id : ByteArray} {co : Int} {a : Option Addr} {l c : Nat} {vs : List Vl} {na : Option Addr} {nl nc : Nat} {ns : List ByteArray} {sk pg : Bool} {pn : Int} {rs : Bool} {sk1 : Int} {sb : ByteArray} {sa : Option Addr} {sl sc : Nat} {se : Bool} {sr : Int} {ti : Bool} {tm : Int} {ea : Option Addr} {el ec : Nat} {es : List ByteArray} {tk : Int} {tb : ByteArray} {ta : Option Addr} {tl tc : Nat} {kd : Int} {aa : Option Addr} {al ac : Nat} {ss : List St} (hR : RqAt w oa ol oc ia il ic a l c na nl nc sa sl sc ea el ec ta tl tc aa al ac (op, os, tx, id, (co, vs, ns, sk, pg, pn, rs, (sk1, sb), se, sr, ti, tm), es, (tk, tb), kd, ss)) (hF : FitQ (op, os, tx, id, (co, vs, ns, sk, pg, pn, rs, (sk1, sb), se, sr, ti, tm), es, (tk, tb), kd, ss)) (hop : op = 9) {Y : BE} (hY : Y = longB tx) :
    Calls Try.prog 10 #[.agg #[.int .u8 op, .slice oa ol oc, .string tx, .slice ia il ic, .int .u16 co, .slice a l c, .slice na nl nc, .bool sk, .bool pg, .int .i32 pn, .bool rs, .int .i64 sk1, .slice sa sl sc, .bool se, .int .u16 sr, .bool ti, .int .i64 tm, .slice ea el ec, .int .i64 tk, .slice ta tl tc, .int .u8 kd, .slice aa al ac]] w fun e w' => ∃ ya yc, e = .returned (.tuple #[.slice ya Y.1.length yc, .int .i64 Y.2]) ∧ Hid (Put w' w.heap.size ya yc Y.1) ∧ Hid (Below w.heap.size w w') := by
  subst hop
  have HY : Hid (Y = seqB ([], 0) (longB tx)) := by
    show _ = _
    rw [hY]
    exact (unit_seqB (fun h => absurd rfl h)).symm
  clear hY
  obtain ⟨w1, hw1⟩ : ∃ w1, w1 = (w.alloc (.cells #[.int .u8 9, .slice oa ol oc, .string tx, .slice ia il ic, .int .u16 co, .slice a l c, .slice na nl nc, .bool sk, .bool pg, .int .i32 pn, .bool rs, .int .i64 sk1, .slice sa sl sc, .bool se, .int .u16 sr, .bool ti, .int .i64 tm, .slice ea el ec, .int .i64 tk, .slice ta tl tc, .int .u8 kd, .slice aa al ac] 33)).alloc (.cells #[.slice none 0 0, .int .i64 0] 63) := ⟨_, rfl⟩
  have hB1 : Below w.heap.size w w1 := by rw [hw1]; exact (below_one _ _).alloc (by simp) _
  have HB1 : Hid (Below w.heap.size w w1) := hB1
  have hq : w1.heap[w.heap.size]? = some (.cells #[.int .u8 9, .slice oa ol oc, .string tx, .slice ia il ic, .int .u16 co, .slice a l c, .slice na nl nc, .bool sk, .bool pg, .int .i32 pn, .bool rs, .int .i64 sk1, .slice sa sl sc, .bool se, .int .u16 sr, .bool ti, .int .i64 tm, .slice ea el ec, .int .i64 tk, .slice ta tl tc, .int .u8 kd, .slice aa al ac] 33 (0, 0)) := by
    rw [hw1]
    exact ((below_one (w.alloc (.cells #[.int .u8 9, .slice oa ol oc, .string tx, .slice ia il ic, .int .u16 co, .slice a l c, .slice na nl nc, .bool sk, .bool pg, .int .i32 pn, .bool rs, .int .i64 sk1, .slice sa sl sc, .bool se, .int .u16 sr, .bool ti, .int .i64 tm, .slice ea el ec, .int .i64 tk, .slice ta tl tc, .int .u8 kd, .slice aa al ac] 33)) _).block w.heap.size (by simp)).trans (heap_alloc_new w _)
  have HQ : Hid (w1.heap[w.heap.size]? = some (.cells #[.int .u8 9, .slice oa ol oc, .string tx, .slice ia il ic, .int .u16 co, .slice a l c, .slice na nl nc, .bool sk, .bool pg, .int .i32 pn, .bool rs, .int .i64 sk1, .slice sa sl sc, .bool se, .int .u16 sr, .bool ti, .int .i64 tm, .slice ea el ec, .int .i64 tk, .slice ta tl tc, .int .u8 kd, .slice aa al ac] 33 (0, 0))) := hq
  obtain ⟨p, hp⟩ : ∃ p, p = w.heap.size + 1 := ⟨_, rfl⟩
  have H : Hid (Wr w1 p (.slice none 0 0) ([], 0)) := by rw [hw1, hp]; exact wr_new _ _
  have HP : Hid (w.heap.size ≤ p) := by show _ ≤ _; omega
  have HPE : Hid (w.heap.size + 1 = p) := hp.symm
  have HFAR : Hid (w.heap.size ≠ p ∧ (Value.slice none 0 0).ownBlock ≠ some w.heap.size) := ⟨by omega, fun e => by simp [Value.ownBlock] at e⟩
  have HW1 : Hid ((w.alloc (.cells #[.int .u8 9, .slice oa ol oc, .string tx, .slice ia il ic, .int .u16 co, .slice a l c, .slice na nl nc, .bool sk, .bool pg, .int .i32 pn, .bool rs, .int .i64 sk1, .slice sa sl sc, .bool se, .int .u16 sr, .bool ti, .int .i64 tm, .slice ea el ec, .int .i64 tk, .slice ta tl tc, .int .u8 kd, .slice aa al ac] 33)).alloc (.cells #[.slice none 0 0, .int .i64 0] 63) = w1) := hw1.symm
  have HR : Hid (RqAt w oa ol oc ia il ic a l c na nl nc sa sl sc ea el ec ta tl tc aa al ac (9, os, tx, id, (co, vs, ns, sk, pg, pn, rs, (sk1, sb), se, sr, ti, tm), es, (tk, tb), kd, ss)) := hR
  have HF : Hid (FitQ (9, os, tx, id, (co, vs, ns, sk, pg, pn, rs, (sk1, sb), se, sr, ti, tm), es, (tk, tb), kd, ss)) := hF
  have HC0 : Hid (16 + tx.size + id.size + costR (co, vs, ns, sk, pg, pn, rs, (sk1, sb), se, sr, ti, tm) + costA ss ≤ 140737488351232) := hF.cost
  clear hR hF hw1 hB1 hp
  go_enter Try.func10, Try.ntmps10
  go_upto_region 2 with fail
  rw [HW1.out]
  clear HW1
  try rw [HPE.out]
  obtain ⟨d0, d1, d2, d3, d4, d5, d6, d7, d8, d9, d10, d11, d12, d13, d14, d15, d16, d17, d18, d19, d20, d21⟩ := req_cells hq
  clear hq
  go_wp2_with fail
  refine (wlong H.out tx (by have h1 := HC0.out; simp only [List.length_nil]; omega)).mono ?_
  rintro r w2 ⟨rfl, v2, HW2, HC2⟩
  have HYE : Hid (Wr w2 p v2 Y) := by rw [HY.out]; exact HW2
  obtain ⟨z0, z1, z2, z3⟩ := two_cells HYE.out.blk
  have HBF : Hid (Below w.heap.size w w2) := HB1.out.trans (HC2.out.low H.out HP.out)
  have hpl := HYE.out.lt
  by_cases he : Y.2 = 0
  · obtain ⟨ya, yc, hv, hp⟩ := OwnB.put (HYE.out.own he) HYE.out.rng
    have HPF : Hid (Put w2 w.heap.size ya yc Y.1) := hp.mono (by have := HP.out; omega)
    subst hv
    rw [he] at z1
    clear hp
    go_wp2_with fail
    go_ret2
    exact ⟨ya, yc, by rw [he]; rfl, HPF, HBF⟩
  · have t : (Y.2 == 0) = false := by simpa using he
    have HYN : Hid (Y.1 = []) := HYE.out.nrm he
    clear he
    go_wp2_with fail
    go_quiet (fail)
    go_wp2_with fail
    go_ret2
    exact ⟨none, 0, by rw [HYN.out]; rfl, by rw [HYN.out]; exact (put_nil _ _), below_drewN HBF.out _⟩

set_option maxHeartbeats 2000000 in
theorem put_7 {w : World} {op : Int} {oa : Option Addr} {ol oc : Nat} {os : List (ByteArray × ByteArray)} {tx : ByteArray} {ia : Option Addr} {il ic : Nat} {id : ByteArray} {co : Int} {a : Option Addr} {l c : Nat} {vs : List Vl} {na : Option Addr} {nl nc : Nat} {ns : List ByteArray} {sk pg : Bool} {pn : Int} {rs : Bool} {sk1 : Int} {sb : ByteArray} {sa : Option Addr} {sl sc : Nat} {se : Bool} {sr : Int} {ti : Bool} {tm : Int} {ea : Option Addr} {el ec : Nat} {es : List ByteArray} {tk : Int} {tb : ByteArray} {ta : Option Addr} {tl tc : Nat} {kd : Int} {aa : Option Addr} {al ac : Nat} {ss : List St} (hR : RqAt w oa ol oc ia il ic a l c na nl nc sa sl sc ea el ec ta tl tc aa al ac (op, os, tx, id, (co, vs, ns, sk, pg, pn, rs, (sk1, sb), se, sr, ti, tm), es, (tk, tb), kd, ss)) (hF : FitQ (op, os, tx, id, (co, vs, ns, sk, pg, pn, rs, (sk1, sb), se, sr, ti, tm), es, (tk, tb), kd, ss)) (hop : op = 7) {Y : BE} (hY : Y = seqB (longB tx) (runB false (co, vs, ns, sk, pg, pn, rs, (sk1, sb), se, sr, ti, tm))) :
    Calls Try.prog 10 #[.agg #[.int .u8 op, .slice oa ol oc, .string tx, .slice ia il ic, .int .u16 co, .slice a l c, .slice na nl nc, .bool sk, .bool pg, .int .i32 pn, .bool rs, .int .i64 sk1, .slice sa sl sc, .bool se, .int .u16 sr, .bool ti, .int .i64 tm, .slice ea el ec, .int .i64 tk, .slice ta tl tc, .int .u8 kd, .slice aa al ac]] w fun e w' => ∃ ya yc, e = .returned (.tuple #[.slice ya Y.1.length yc, .int .i64 Y.2]) ∧ Hid (Put w' w.heap.size ya yc Y.1) ∧ Hid (Below w.heap.size w w') := by
  subst hop
  have HY : Hid (Y = seqB (seqB ([], 0) (longB tx)) (runB false (co, vs, ns, sk, pg, pn, rs, (sk1, sb), se, sr, ti, tm))) := by
    show _ = _
    rw [hY]
    rw [seqB_assoc]; exact (unit_seqB (nrm_seq _ _)).symm
  clear hY
  obtain ⟨w1, hw1⟩ : ∃ w1, w1 = (w.alloc (.cells #[.int .u8 7, .slice oa ol oc, .string tx, .slice ia il ic, .int .u16 co, .slice a l c, .slice na nl nc, .bool sk, .bool pg, .int .i32 pn, .bool rs, .int .i64 sk1, .slice sa sl sc, .bool se, .int .u16 sr, .bool ti, .int .i64 tm, .slice ea el ec, .int .i64 tk, .slice ta tl tc, .int .u8 kd, .slice aa al ac] 33)).alloc (.cells #[.slice none 0 0, .int .i64 0] 63) := ⟨_, rfl⟩
  have hB1 : Below w.heap.size w w1 := by rw [hw1]; exact (below_one _ _).alloc (by simp) _
  have HB1 : Hid (Below w.heap.size w w1) := hB1
  have hq : w1.heap[w.heap.size]? = some (.cells #[.int .u8 7, .slice oa ol oc, .string tx, .slice ia il ic, .int .u16 co, .slice a l c, .slice na nl nc, .bool sk, .bool pg, .int .i32 pn, .bool rs, .int .i64 sk1, .slice sa sl sc, .bool se, .int .u16 sr, .bool ti, .int .i64 tm, .slice ea el ec, .int .i64 tk, .slice ta tl tc, .int .u8 kd, .slice aa al ac] 33 (0, 0)) := by
    rw [hw1]
    exact ((below_one (w.alloc (.cells #[.int .u8 7, .slice oa ol oc, .string tx, .slice ia il ic, .int .u16 co, .slice a l c, .slice na nl nc, .bool sk, .bool pg, .int .i32 pn, .bool rs, .int .i64 sk1, .slice sa sl sc, .bool se, .int .u16 sr, .bool ti, .int .i64 tm, .slice ea el ec, .int .i64 tk, .slice ta tl tc, .int .u8 kd, .slice aa al ac] 33)) _).block w.heap.size (by simp)).trans (heap_alloc_new w _)
  have HQ : Hid (w1.heap[w.heap.size]? = some (.cells #[.int .u8 7, .slice oa ol oc, .string tx, .slice ia il ic, .int .u16 co, .slice a l c, .slice na nl nc, .bool sk, .bool pg, .int .i32 pn, .bool rs, .int .i64 sk1, .slice sa sl sc, .bool se, .int .u16 sr, .bool ti, .int .i64 tm, .slice ea el ec, .int .i64 tk, .slice ta tl tc, .int .u8 kd, .slice aa al ac] 33 (0, 0))) := hq
  obtain ⟨p, hp⟩ : ∃ p, p = w.heap.size + 1 := ⟨_, rfl⟩
  have H : Hid (Wr w1 p (.slice none 0 0) ([], 0)) := by rw [hw1, hp]; exact wr_new _ _
  have HP : Hid (w.heap.size ≤ p) := by show _ ≤ _; omega
  have HPE : Hid (w.heap.size + 1 = p) := hp.symm
  have HFAR : Hid (w.heap.size ≠ p ∧ (Value.slice none 0 0).ownBlock ≠ some w.heap.size) := ⟨by omega, fun e => by simp [Value.ownBlock] at e⟩
  have HW1 : Hid ((w.alloc (.cells #[.int .u8 7, .slice oa ol oc, .string tx, .slice ia il ic, .int .u16 co, .slice a l c, .slice na nl nc, .bool sk, .bool pg, .int .i32 pn, .bool rs, .int .i64 sk1, .slice sa sl sc, .bool se, .int .u16 sr, .bool ti, .int .i64 tm, .slice ea el ec, .int .i64 tk, .slice ta tl tc, .int .u8 kd, .slice aa al ac] 33)).alloc (.cells #[.slice none 0 0, .int .i64 0] 63) = w1) := hw1.symm
  have HR : Hid (RqAt w oa ol oc ia il ic a l c na nl nc sa sl sc ea el ec ta tl tc aa al ac (7, os, tx, id, (co, vs, ns, sk, pg, pn, rs, (sk1, sb), se, sr, ti, tm), es, (tk, tb), kd, ss)) := hR
  have HF : Hid (FitQ (7, os, tx, id, (co, vs, ns, sk, pg, pn, rs, (sk1, sb), se, sr, ti, tm), es, (tk, tb), kd, ss)) := hF
  have HC0 : Hid (16 + tx.size + id.size + costR (co, vs, ns, sk, pg, pn, rs, (sk1, sb), se, sr, ti, tm) + costA ss ≤ 140737488351232) := hF.cost
  clear hR hF hw1 hB1 hp
  go_enter Try.func10, Try.ntmps10
  go_upto_region 2 with fail
  rw [HW1.out]
  clear HW1
  try rw [HPE.out]
  obtain ⟨d0, d1, d2, d3, d4, d5, d6, d7, d8, d9, d10, d11, d12, d13, d14, d15, d16, d17, d18, d19, d20, d21⟩ := req_cells hq
  clear hq
  go_wp2_with fail
  refine (wlong H.out tx (by have h1 := HC0.out; simp only [List.length_nil]; omega)).mono ?_
  rintro r w2 ⟨rfl, v2, HW2, HC2⟩
  clear d0 d1 d2 d3 d4 d5 d6 d7 d8 d9 d10 d11 d12 d13 d14 d15 d16 d17 d18 d19 d20 d21
  obtain ⟨d0, d1, d2, d3, d4, d5, d6, d7, d8, d9, d10, d11, d12, d13, d14, d15, d16, d17, d18, d19, d20, d21⟩ := req_cells ((HC2.out.block (block_lt HQ.out) HFAR.out.1 HFAR.out.2).trans HQ.out)
  have HL2 : Hid (Below w.heap.size w w2) := below_chg HB1.out H.out HP.out HC2.out
  have HZ : Hid ((seqB ([], 0) (longB tx)).1.length ≤ 4 + tx.size) := by
    have h1 := seqB_len ([], 0) (longB tx)
    have h2 : (longB tx).1.length = 4 + tx.size := by unfold longB; simp only [List.length_append, putL_length, sNums_length]
    show _ ≤ _
    simp only [List.length_nil] at h1
    omega
  go_wp2_with fail
  refine (wrun HW2.out HP.out HL2.out false co vs ns sk pg pn rs sk1 sb se sr ti tm HR.out.run HF.out.run (by have h1 := HC0.out; have h2 := HZ.out; omega) 127 rfl).mono ?_
  rintro r w3 ⟨rfl, v3, HW3, HC3x⟩
  have HC3 : Hid (Chg p (.slice none 0 0) v3 w1 w3) := HC2.out.trans HC3x.out
  have HYE : Hid (Wr w3 p v3 Y) := by rw [HY.out]; exact HW3
  obtain ⟨z0, z1, z2, z3⟩ := two_cells HYE.out.blk
  have HBF : Hid (Below w.heap.size w w3) := HB1.out.trans (HC3.out.low H.out HP.out)
  have hpl := HYE.out.lt
  by_cases he : Y.2 = 0
  · obtain ⟨ya, yc, hv, hp⟩ := OwnB.put (HYE.out.own he) HYE.out.rng
    have HPF : Hid (Put w3 w.heap.size ya yc Y.1) := hp.mono (by have := HP.out; omega)
    subst hv
    rw [he] at z1
    clear hp
    go_wp2_with fail
    go_ret2
    exact ⟨ya, yc, by rw [he]; rfl, HPF, HBF⟩
  · have t : (Y.2 == 0) = false := by simpa using he
    have HYN : Hid (Y.1 = []) := HYE.out.nrm he
    clear he
    go_wp2_with fail
    go_quiet (fail)
    go_wp2_with fail
    go_ret2
    exact ⟨none, 0, by rw [HYN.out]; rfl, by rw [HYN.out]; exact (put_nil _ _), below_drewN HBF.out _⟩

set_option maxHeartbeats 2000000 in
theorem put_10 {w : World} {op : Int} {oa : Option Addr} {ol oc : Nat} {os : List (ByteArray × ByteArray)} {tx : ByteArray} {ia : Option Addr} {il ic : Nat} {id : ByteArray} {co : Int} {a : Option Addr} {l c : Nat} {vs : List Vl} {na : Option Addr} {nl nc : Nat} {ns : List ByteArray} {sk pg : Bool} {pn : Int} {rs : Bool} {sk1 : Int} {sb : ByteArray} {sa : Option Addr} {sl sc : Nat} {se : Bool} {sr : Int} {ti : Bool} {tm : Int} {ea : Option Addr} {el ec : Nat} {es : List ByteArray} {tk : Int} {tb : ByteArray} {ta : Option Addr} {tl tc : Nat} {kd : Int} {aa : Option Addr} {al ac : Nat} {ss : List St} (hR : RqAt w oa ol oc ia il ic a l c na nl nc sa sl sc ea el ec ta tl tc aa al ac (op, os, tx, id, (co, vs, ns, sk, pg, pn, rs, (sk1, sb), se, sr, ti, tm), es, (tk, tb), kd, ss)) (hF : FitQ (op, os, tx, id, (co, vs, ns, sk, pg, pn, rs, (sk1, sb), se, sr, ti, tm), es, (tk, tb), kd, ss)) (hop : op = 10) {Y : BE} (hY : Y = seqB (textB id) (runB false (co, vs, ns, sk, pg, pn, rs, (sk1, sb), se, sr, ti, tm))) :
    Calls Try.prog 10 #[.agg #[.int .u8 op, .slice oa ol oc, .string tx, .slice ia il ic, .int .u16 co, .slice a l c, .slice na nl nc, .bool sk, .bool pg, .int .i32 pn, .bool rs, .int .i64 sk1, .slice sa sl sc, .bool se, .int .u16 sr, .bool ti, .int .i64 tm, .slice ea el ec, .int .i64 tk, .slice ta tl tc, .int .u8 kd, .slice aa al ac]] w fun e w' => ∃ ya yc, e = .returned (.tuple #[.slice ya Y.1.length yc, .int .i64 Y.2]) ∧ Hid (Put w' w.heap.size ya yc Y.1) ∧ Hid (Below w.heap.size w w') := by
  subst hop
  have HY : Hid (Y = seqB (seqB ([], 0) (textB id)) (runB false (co, vs, ns, sk, pg, pn, rs, (sk1, sb), se, sr, ti, tm))) := by
    show _ = _
    rw [hY]
    rw [seqB_assoc]; exact (unit_seqB (nrm_seq _ _)).symm
  clear hY
  obtain ⟨w1, hw1⟩ : ∃ w1, w1 = (w.alloc (.cells #[.int .u8 10, .slice oa ol oc, .string tx, .slice ia il ic, .int .u16 co, .slice a l c, .slice na nl nc, .bool sk, .bool pg, .int .i32 pn, .bool rs, .int .i64 sk1, .slice sa sl sc, .bool se, .int .u16 sr, .bool ti, .int .i64 tm, .slice ea el ec, .int .i64 tk, .slice ta tl tc, .int .u8 kd, .slice aa al ac] 33)).alloc (.cells #[.slice none 0 0, .int .i64 0] 63) := ⟨_, rfl⟩
  have hB1 : Below w.heap.size w w1 := by rw [hw1]; exact (below_one _ _).alloc (by simp) _
  have HB1 : Hid (Below w.heap.size w w1) := hB1
  have hq : w1.heap[w.heap.size]? = some (.cells #[.int .u8 10, .slice oa ol oc, .string tx, .slice ia il ic, .int .u16 co, .slice a l c, .slice na nl nc, .bool sk, .bool pg, .int .i32 pn, .bool rs, .int .i64 sk1, .slice sa sl sc, .bool se, .int .u16 sr, .bool ti, .int .i64 tm, .slice ea el ec, .int .i64 tk, .slice ta tl tc, .int .u8 kd, .slice aa al ac] 33 (0, 0)) := by
    rw [hw1]
    exact ((below_one (w.alloc (.cells #[.int .u8 10, .slice oa ol oc, .string tx, .slice ia il ic, .int .u16 co, .slice a l c, .slice na nl nc, .bool sk, .bool pg, .int .i32 pn, .bool rs, .int .i64 sk1, .slice sa sl sc, .bool se, .int .u16 sr, .bool ti, .int .i64 tm, .slice ea el ec, .int .i64 tk, .slice ta tl tc, .int .u8 kd, .slice aa al ac] 33)) _).block w.heap.size (by simp)).trans (heap_alloc_new w _)
  have HQ : Hid (w1.heap[w.heap.size]? = some (.cells #[.int .u8 10, .slice oa ol oc, .string tx, .slice ia il ic, .int .u16 co, .slice a l c, .slice na nl nc, .bool sk, .bool pg, .int .i32 pn, .bool rs, .int .i64 sk1, .slice sa sl sc, .bool se, .int .u16 sr, .bool ti, .int .i64 tm, .slice ea el ec, .int .i64 tk, .slice ta tl tc, .int .u8 kd, .slice aa al ac] 33 (0, 0))) := hq
  obtain ⟨p, hp⟩ : ∃ p, p = w.heap.size + 1 := ⟨_, rfl⟩
  have H : Hid (Wr w1 p (.slice none 0 0) ([], 0)) := by rw [hw1, hp]; exact wr_new _ _
  have HP : Hid (w.heap.size ≤ p) := by show _ ≤ _; omega
  have HPE : Hid (w.heap.size + 1 = p) := hp.symm
  have HFAR : Hid (w.heap.size ≠ p ∧ (Value.slice none 0 0).ownBlock ≠ some w.heap.size) := ⟨by omega, fun e => by simp [Value.ownBlock] at e⟩
  have HW1 : Hid ((w.alloc (.cells #[.int .u8 10, .slice oa ol oc, .string tx, .slice ia il ic, .int .u16 co, .slice a l c, .slice na nl nc, .bool sk, .bool pg, .int .i32 pn, .bool rs, .int .i64 sk1, .slice sa sl sc, .bool se, .int .u16 sr, .bool ti, .int .i64 tm, .slice ea el ec, .int .i64 tk, .slice ta tl tc, .int .u8 kd, .slice aa al ac] 33)).alloc (.cells #[.slice none 0 0, .int .i64 0] 63) = w1) := hw1.symm
  have HR : Hid (RqAt w oa ol oc ia il ic a l c na nl nc sa sl sc ea el ec ta tl tc aa al ac (10, os, tx, id, (co, vs, ns, sk, pg, pn, rs, (sk1, sb), se, sr, ti, tm), es, (tk, tb), kd, ss)) := hR
  have HF : Hid (FitQ (10, os, tx, id, (co, vs, ns, sk, pg, pn, rs, (sk1, sb), se, sr, ti, tm), es, (tk, tb), kd, ss)) := hF
  have HC0 : Hid (16 + tx.size + id.size + costR (co, vs, ns, sk, pg, pn, rs, (sk1, sb), se, sr, ti, tm) + costA ss ≤ 140737488351232) := hF.cost
  clear hR hF hw1 hB1 hp
  go_enter Try.func10, Try.ntmps10
  go_upto_region 2 with fail
  rw [HW1.out]
  clear HW1
  try rw [HPE.out]
  obtain ⟨d0, d1, d2, d3, d4, d5, d6, d7, d8, d9, d10, d11, d12, d13, d14, d15, d16, d17, d18, d19, d20, d21⟩ := req_cells hq
  clear hq
  go_wp2_with fail
  refine (wid (s := id) H.out (HR.out.id.old HB1.out) (fun q hq hl => Nat.lt_of_lt_of_le (HR.out.id.low q hq hl) HP.out) (by have h1 := HC0.out; simp only [List.length_nil]; omega)).mono ?_
  rintro r w2 ⟨rfl, v2, HW2, HC2⟩
  clear d0 d1 d2 d3 d4 d5 d6 d7 d8 d9 d10 d11 d12 d13 d14 d15 d16 d17 d18 d19 d20 d21
  obtain ⟨d0, d1, d2, d3, d4, d5, d6, d7, d8, d9, d10, d11, d12, d13, d14, d15, d16, d17, d18, d19, d20, d21⟩ := req_cells ((HC2.out.block (block_lt HQ.out) HFAR.out.1 HFAR.out.2).trans HQ.out)
  have HL2 : Hid (Below w.heap.size w w2) := below_chg HB1.out H.out HP.out HC2.out
  have HZ : Hid ((seqB ([], 0) (textB id)).1.length ≤ 2 + id.size) := by
    have h1 := seqB_len ([], 0) (textB id)
    have h2 := textB_len2 id
    show _ ≤ _
    simp only [List.length_nil] at h1
    omega
  go_wp2_with fail
  refine (wrun HW2.out HP.out HL2.out false co vs ns sk pg pn rs sk1 sb se sr ti tm HR.out.run HF.out.run (by have h1 := HC0.out; have h2 := HZ.out; omega) 127 rfl).mono ?_
  rintro r w3 ⟨rfl, v3, HW3, HC3x⟩
  have HC3 : Hid (Chg p (.slice none 0 0) v3 w1 w3) := HC2.out.trans HC3x.out
  have HYE : Hid (Wr w3 p v3 Y) := by rw [HY.out]; exact HW3
  obtain ⟨z0, z1, z2, z3⟩ := two_cells HYE.out.blk
  have HBF : Hid (Below w.heap.size w w3) := HB1.out.trans (HC3.out.low H.out HP.out)
  have hpl := HYE.out.lt
  by_cases he : Y.2 = 0
  · obtain ⟨ya, yc, hv, hp⟩ := OwnB.put (HYE.out.own he) HYE.out.rng
    have HPF : Hid (Put w3 w.heap.size ya yc Y.1) := hp.mono (by have := HP.out; omega)
    subst hv
    rw [he] at z1
    clear hp
    go_wp2_with fail
    go_ret2
    exact ⟨ya, yc, by rw [he]; rfl, HPF, HBF⟩
  · have t : (Y.2 == 0) = false := by simpa using he
    have HYN : Hid (Y.1 = []) := HYE.out.nrm he
    clear he
    go_wp2_with fail
    go_quiet (fail)
    go_wp2_with fail
    go_ret2
    exact ⟨none, 0, by rw [HYN.out]; rfl, by rw [HYN.out]; exact (put_nil _ _), below_drewN HBF.out _⟩

set_option maxHeartbeats 2000000 in
theorem put_13 {w : World} {op : Int} {oa : Option Addr} {ol oc : Nat} {os : List (ByteArray × ByteArray)} {tx : ByteArray} {ia : Option Addr} {il ic : Nat} {id : ByteArray} {co : Int} {a : Option Addr} {l c : Nat} {vs : List Vl} {na : Option Addr} {nl nc : Nat} {ns : List ByteArray} {sk pg : Bool} {pn : Int} {rs : Bool} {sk1 : Int} {sb : ByteArray} {sa : Option Addr} {sl sc : Nat} {se : Bool} {sr : Int} {ti : Bool} {tm : Int} {ea : Option Addr} {el ec : Nat} {es : List ByteArray} {tk : Int} {tb : ByteArray} {ta : Option Addr} {tl tc : Nat} {kd : Int} {aa : Option Addr} {al ac : Nat} {ss : List St} (hR : RqAt w oa ol oc ia il ic a l c na nl nc sa sl sc ea el ec ta tl tc aa al ac (op, os, tx, id, (co, vs, ns, sk, pg, pn, rs, (sk1, sb), se, sr, ti, tm), es, (tk, tb), kd, ss)) (hF : FitQ (op, os, tx, id, (co, vs, ns, sk, pg, pn, rs, (sk1, sb), se, sr, ti, tm), es, (tk, tb), kd, ss)) (hop : op = 13) {Y : BE} (hY : Y = seqB (kindB kd) (seqB (listB stB ss) (runB true (co, vs, ns, sk, pg, pn, rs, (sk1, sb), se, sr, ti, tm)))) :
    Calls Try.prog 10 #[.agg #[.int .u8 op, .slice oa ol oc, .string tx, .slice ia il ic, .int .u16 co, .slice a l c, .slice na nl nc, .bool sk, .bool pg, .int .i32 pn, .bool rs, .int .i64 sk1, .slice sa sl sc, .bool se, .int .u16 sr, .bool ti, .int .i64 tm, .slice ea el ec, .int .i64 tk, .slice ta tl tc, .int .u8 kd, .slice aa al ac]] w fun e w' => ∃ ya yc, e = .returned (.tuple #[.slice ya Y.1.length yc, .int .i64 Y.2]) ∧ Hid (Put w' w.heap.size ya yc Y.1) ∧ Hid (Below w.heap.size w w') := by
  subst hop
  have HY : Hid (Y = seqB (seqB (seqB ([], 0) (kindB kd)) (listB stB ss)) (runB true (co, vs, ns, sk, pg, pn, rs, (sk1, sb), se, sr, ti, tm))) := by
    show _ = _
    rw [hY]
    rw [seqB_assoc, seqB_assoc]; exact (unit_seqB (nrm_seq _ _)).symm
  clear hY
  obtain ⟨w1, hw1⟩ : ∃ w1, w1 = (w.alloc (.cells #[.int .u8 13, .slice oa ol oc, .string tx, .slice ia il ic, .int .u16 co, .slice a l c, .slice na nl nc, .bool sk, .bool pg, .int .i32 pn, .bool rs, .int .i64 sk1, .slice sa sl sc, .bool se, .int .u16 sr, .bool ti, .int .i64 tm, .slice ea el ec, .int .i64 tk, .slice ta tl tc, .int .u8 kd, .slice aa al ac] 33)).alloc (.cells #[.slice none 0 0, .int .i64 0] 63) := ⟨_, rfl⟩
  have hB1 : Below w.heap.size w w1 := by rw [hw1]; exact (below_one _ _).alloc (by simp) _
  have HB1 : Hid (Below w.heap.size w w1) := hB1
  have hq : w1.heap[w.heap.size]? = some (.cells #[.int .u8 13, .slice oa ol oc, .string tx, .slice ia il ic, .int .u16 co, .slice a l c, .slice na nl nc, .bool sk, .bool pg, .int .i32 pn, .bool rs, .int .i64 sk1, .slice sa sl sc, .bool se, .int .u16 sr, .bool ti, .int .i64 tm, .slice ea el ec, .int .i64 tk, .slice ta tl tc, .int .u8 kd, .slice aa al ac] 33 (0, 0)) := by
    rw [hw1]
    exact ((below_one (w.alloc (.cells #[.int .u8 13, .slice oa ol oc, .string tx, .slice ia il ic, .int .u16 co, .slice a l c, .slice na nl nc, .bool sk, .bool pg, .int .i32 pn, .bool rs, .int .i64 sk1, .slice sa sl sc, .bool se, .int .u16 sr, .bool ti, .int .i64 tm, .slice ea el ec, .int .i64 tk, .slice ta tl tc, .int .u8 kd, .slice aa al ac] 33)) _).block w.heap.size (by simp)).trans (heap_alloc_new w _)
  have HQ : Hid (w1.heap[w.heap.size]? = some (.cells #[.int .u8 13, .slice oa ol oc, .string tx, .slice ia il ic, .int .u16 co, .slice a l c, .slice na nl nc, .bool sk, .bool pg, .int .i32 pn, .bool rs, .int .i64 sk1, .slice sa sl sc, .bool se, .int .u16 sr, .bool ti, .int .i64 tm, .slice ea el ec, .int .i64 tk, .slice ta tl tc, .int .u8 kd, .slice aa al ac] 33 (0, 0))) := hq
  obtain ⟨p, hp⟩ : ∃ p, p = w.heap.size + 1 := ⟨_, rfl⟩
  have H : Hid (Wr w1 p (.slice none 0 0) ([], 0)) := by rw [hw1, hp]; exact wr_new _ _
  have HP : Hid (w.heap.size ≤ p) := by show _ ≤ _; omega
  have HPE : Hid (w.heap.size + 1 = p) := hp.symm
  have HFAR : Hid (w.heap.size ≠ p ∧ (Value.slice none 0 0).ownBlock ≠ some w.heap.size) := ⟨by omega, fun e => by simp [Value.ownBlock] at e⟩
  have HW1 : Hid ((w.alloc (.cells #[.int .u8 13, .slice oa ol oc, .string tx, .slice ia il ic, .int .u16 co, .slice a l c, .slice na nl nc, .bool sk, .bool pg, .int .i32 pn, .bool rs, .int .i64 sk1, .slice sa sl sc, .bool se, .int .u16 sr, .bool ti, .int .i64 tm, .slice ea el ec, .int .i64 tk, .slice ta tl tc, .int .u8 kd, .slice aa al ac] 33)).alloc (.cells #[.slice none 0 0, .int .i64 0] 63) = w1) := hw1.symm
  have HR : Hid (RqAt w oa ol oc ia il ic a l c na nl nc sa sl sc ea el ec ta tl tc aa al ac (13, os, tx, id, (co, vs, ns, sk, pg, pn, rs, (sk1, sb), se, sr, ti, tm), es, (tk, tb), kd, ss)) := hR
  have HF : Hid (FitQ (13, os, tx, id, (co, vs, ns, sk, pg, pn, rs, (sk1, sb), se, sr, ti, tm), es, (tk, tb), kd, ss)) := hF
  have HC0 : Hid (16 + tx.size + id.size + costR (co, vs, ns, sk, pg, pn, rs, (sk1, sb), se, sr, ti, tm) + costA ss ≤ 140737488351232) := hF.cost
  clear hR hF hw1 hB1 hp
  go_enter Try.func10, Try.ntmps10
  go_upto_region 2 with fail
  rw [HW1.out]
  clear HW1
  try rw [HPE.out]
  obtain ⟨d0, d1, d2, d3, d4, d5, d6, d7, d8, d9, d10, d11, d12, d13, d14, d15, d16, d17, d18, d19, d20, d21⟩ := req_cells hq
  clear hq
  go_wp2_with fail
  refine (wkind H.out kd HR.out.kind.1 HR.out.kind.2 (by simp only [List.length_nil]; omega)).mono ?_
  rintro r w2 ⟨rfl, v2, HW2, HC2⟩
  clear d0 d1 d2 d3 d4 d5 d6 d7 d8 d9 d10 d11 d12 d13 d14 d15 d16 d17 d18 d19 d20 d21
  obtain ⟨d0, d1, d2, d3, d4, d5, d6, d7, d8, d9, d10, d11, d12, d13, d14, d15, d16, d17, d18, d19, d20, d21⟩ := req_cells ((HC2.out.block (block_lt HQ.out) HFAR.out.1 HFAR.out.2).trans HQ.out)
  have HL2 : Hid (Below w.heap.size w w2) := below_chg HB1.out H.out HP.out HC2.out
  have HZ : Hid ((seqB ([], 0) (kindB kd)).1.length ≤ 1) := by
    have h1 := seqB_len ([], 0) (kindB kd)
    have h2 : (kindB kd).1.length ≤ 1 := by unfold kindB; split <;> simp [putL_length]
    show _ ≤ _
    simp only [List.length_nil] at h1
    omega
  go_wp2_with fail
  refine (wstatements (ss := ss) HW2.out HP.out HL2.out HR.out.all HF.out.all (by have h1 := HC0.out; have h2 := HZ.out; omega)).mono ?_
  rintro r w3 ⟨rfl, v3, HW3, HC3x⟩
  have HC3 : Hid (Chg p (.slice none 0 0) v3 w1 w3) := HC2.out.trans HC3x.out
  clear d0 d1 d2 d3 d4 d5 d6 d7 d8 d9 d10 d11 d12 d13 d14 d15 d16 d17 d18 d19 d20 d21
  obtain ⟨d0, d1, d2, d3, d4, d5, d6, d7, d8, d9, d10, d11, d12, d13, d14, d15, d16, d17, d18, d19, d20, d21⟩ := req_cells ((HC3.out.block (block_lt HQ.out) HFAR.out.1 HFAR.out.2).trans HQ.out)
  have HL3 : Hid (Below w.heap.size w w3) := below_chg HB1.out H.out HP.out HC3.out
  have HZ3 : Hid ((seqB (seqB ([], 0) (kindB kd)) (listB stB ss)).1.length ≤ 3 + costA ss) := by
    have h1 := seqB_len (seqB ([], 0) (kindB kd)) (listB stB ss)
    have h2 := stList_len ss
    have h3 := HZ.out
    show _ ≤ _
    omega
  go_wp2_with fail
  refine (wrun HW3.out HP.out HL3.out true co vs ns sk pg pn rs sk1 sb se sr ti tm HR.out.run HF.out.run (by have h1 := HC0.out; have h2 := HZ3.out; omega) 48 rfl).mono ?_
  rintro r w4 ⟨rfl, v4, HW4, HC4x⟩
  have HC4 : Hid (Chg p (.slice none 0 0) v4 w1 w4) := HC3.out.trans HC4x.out
  have HYE : Hid (Wr w4 p v4 Y) := by rw [HY.out]; exact HW4
  obtain ⟨z0, z1, z2, z3⟩ := two_cells HYE.out.blk
  have HBF : Hid (Below w.heap.size w w4) := HB1.out.trans (HC4.out.low H.out HP.out)
  have hpl := HYE.out.lt
  by_cases he : Y.2 = 0
  · obtain ⟨ya, yc, hv, hp⟩ := OwnB.put (HYE.out.own he) HYE.out.rng
    have HPF : Hid (Put w4 w.heap.size ya yc Y.1) := hp.mono (by have := HP.out; omega)
    subst hv
    rw [he] at z1
    clear hp
    go_wp2_with fail
    go_ret2
    exact ⟨ya, yc, by rw [he]; rfl, HPF, HBF⟩
  · have t : (Y.2 == 0) = false := by simpa using he
    have HYN : Hid (Y.1 = []) := HYE.out.nrm he
    clear he
    go_wp2_with fail
    go_quiet (fail)
    go_wp2_with fail
    go_ret2
    exact ⟨none, 0, by rw [HYN.out]; rfl, by rw [HYN.out]; exact (put_nil _ _), below_drewN HBF.out _⟩

set_option maxHeartbeats 2000000 in
theorem put_5 {w : World} {op : Int} {oa : Option Addr} {ol oc : Nat} {os : List (ByteArray × ByteArray)} {tx : ByteArray} {ia : Option Addr} {il ic : Nat} {id : ByteArray} {co : Int} {a : Option Addr} {l c : Nat} {vs : List Vl} {na : Option Addr} {nl nc : Nat} {ns : List ByteArray} {sk pg : Bool} {pn : Int} {rs : Bool} {sk1 : Int} {sb : ByteArray} {sa : Option Addr} {sl sc : Nat} {se : Bool} {sr : Int} {ti : Bool} {tm : Int} {ea : Option Addr} {el ec : Nat} {es : List ByteArray} {tk : Int} {tb : ByteArray} {ta : Option Addr} {tl tc : Nat} {kd : Int} {aa : Option Addr} {al ac : Nat} {ss : List St} (hR : RqAt w oa ol oc ia il ic a l c na nl nc sa sl sc ea el ec ta tl tc aa al ac (op, os, tx, id, (co, vs, ns, sk, pg, pn, rs, (sk1, sb), se, sr, ti, tm), es, (tk, tb), kd, ss)) (hF : FitQ (op, os, tx, id, (co, vs, ns, sk, pg, pn, rs, (sk1, sb), se, sr, ti, tm), es, (tk, tb), kd, ss)) (hop : op = 5) {Y : BE} (hY : Y = (([], 0) : BE)) :
    Calls Try.prog 10 #[.agg #[.int .u8 op, .slice oa ol oc, .string tx, .slice ia il ic, .int .u16 co, .slice a l c, .slice na nl nc, .bool sk, .bool pg, .int .i32 pn, .bool rs, .int .i64 sk1, .slice sa sl sc, .bool se, .int .u16 sr, .bool ti, .int .i64 tm, .slice ea el ec, .int .i64 tk, .slice ta tl tc, .int .u8 kd, .slice aa al ac]] w fun e w' => ∃ ya yc, e = .returned (.tuple #[.slice ya Y.1.length yc, .int .i64 Y.2]) ∧ Hid (Put w' w.heap.size ya yc Y.1) ∧ Hid (Below w.heap.size w w') := by
  subst hop
  have HY : Hid (Y = ([], 0)) := hY
  clear hY
  obtain ⟨w1, hw1⟩ : ∃ w1, w1 = (w.alloc (.cells #[.int .u8 5, .slice oa ol oc, .string tx, .slice ia il ic, .int .u16 co, .slice a l c, .slice na nl nc, .bool sk, .bool pg, .int .i32 pn, .bool rs, .int .i64 sk1, .slice sa sl sc, .bool se, .int .u16 sr, .bool ti, .int .i64 tm, .slice ea el ec, .int .i64 tk, .slice ta tl tc, .int .u8 kd, .slice aa al ac] 33)).alloc (.cells #[.slice none 0 0, .int .i64 0] 63) := ⟨_, rfl⟩
  have hB1 : Below w.heap.size w w1 := by rw [hw1]; exact (below_one _ _).alloc (by simp) _
  have HB1 : Hid (Below w.heap.size w w1) := hB1
  have hq : w1.heap[w.heap.size]? = some (.cells #[.int .u8 5, .slice oa ol oc, .string tx, .slice ia il ic, .int .u16 co, .slice a l c, .slice na nl nc, .bool sk, .bool pg, .int .i32 pn, .bool rs, .int .i64 sk1, .slice sa sl sc, .bool se, .int .u16 sr, .bool ti, .int .i64 tm, .slice ea el ec, .int .i64 tk, .slice ta tl tc, .int .u8 kd, .slice aa al ac] 33 (0, 0)) := by
    rw [hw1]
    exact ((below_one (w.alloc (.cells #[.int .u8 5, .slice oa ol oc, .string tx, .slice ia il ic, .int .u16 co, .slice a l c, .slice na nl nc, .bool sk, .bool pg, .int .i32 pn, .bool rs, .int .i64 sk1, .slice sa sl sc, .bool se, .int .u16 sr, .bool ti, .int .i64 tm, .slice ea el ec, .int .i64 tk, .slice ta tl tc, .int .u8 kd, .slice aa al ac] 33)) _).block w.heap.size (by simp)).trans (heap_alloc_new w _)
  have HQ : Hid (w1.heap[w.heap.size]? = some (.cells #[.int .u8 5, .slice oa ol oc, .string tx, .slice ia il ic, .int .u16 co, .slice a l c, .slice na nl nc, .bool sk, .bool pg, .int .i32 pn, .bool rs, .int .i64 sk1, .slice sa sl sc, .bool se, .int .u16 sr, .bool ti, .int .i64 tm, .slice ea el ec, .int .i64 tk, .slice ta tl tc, .int .u8 kd, .slice aa al ac] 33 (0, 0))) := hq
  obtain ⟨p, hp⟩ : ∃ p, p = w.heap.size + 1 := ⟨_, rfl⟩
  have H : Hid (Wr w1 p (.slice none 0 0) ([], 0)) := by rw [hw1, hp]; exact wr_new _ _
  have HP : Hid (w.heap.size ≤ p) := by show _ ≤ _; omega
  have HPE : Hid (w.heap.size + 1 = p) := hp.symm
  have HFAR : Hid (w.heap.size ≠ p ∧ (Value.slice none 0 0).ownBlock ≠ some w.heap.size) := ⟨by omega, fun e => by simp [Value.ownBlock] at e⟩
  have HW1 : Hid ((w.alloc (.cells #[.int .u8 5, .slice oa ol oc, .string tx, .slice ia il ic, .int .u16 co, .slice a l c, .slice na nl nc, .bool sk, .bool pg, .int .i32 pn, .bool rs, .int .i64 sk1, .slice sa sl sc, .bool se, .int .u16 sr, .bool ti, .int .i64 tm, .slice ea el ec, .int .i64 tk, .slice ta tl tc, .int .u8 kd, .slice aa al ac] 33)).alloc (.cells #[.slice none 0 0, .int .i64 0] 63) = w1) := hw1.symm
  have HR : Hid (RqAt w oa ol oc ia il ic a l c na nl nc sa sl sc ea el ec ta tl tc aa al ac (5, os, tx, id, (co, vs, ns, sk, pg, pn, rs, (sk1, sb), se, sr, ti, tm), es, (tk, tb), kd, ss)) := hR
  have HF : Hid (FitQ (5, os, tx, id, (co, vs, ns, sk, pg, pn, rs, (sk1, sb), se, sr, ti, tm), es, (tk, tb), kd, ss)) := hF
  have HC0 : Hid (16 + tx.size + id.size + costR (co, vs, ns, sk, pg, pn, rs, (sk1, sb), se, sr, ti, tm) + costA ss ≤ 140737488351232) := hF.cost
  clear hR hF hw1 hB1 hp
  go_enter Try.func10, Try.ntmps10
  go_upto_region 2 with fail
  rw [HW1.out]
  clear HW1
  try rw [HPE.out]
  obtain ⟨d0, d1, d2, d3, d4, d5, d6, d7, d8, d9, d10, d11, d12, d13, d14, d15, d16, d17, d18, d19, d20, d21⟩ := req_cells hq
  clear hq
  obtain ⟨z0, z1, z2, z3⟩ := two_cells H.out.blk
  have hpl := H.out.lt
  go_wp2_with fail
  go_ret2
  exact ⟨none, 0, by rw [HY.out]; rfl, by rw [HY.out]; exact put_nil _ _, HB1⟩

set_option maxHeartbeats 2000000 in
theorem put_other {w : World} {op : Int} {oa : Option Addr} {ol oc : Nat} {os : List (ByteArray × ByteArray)} {tx : ByteArray} {ia : Option Addr} {il ic : Nat} {id : ByteArray} {co : Int} {a : Option Addr} {l c : Nat} {vs : List Vl} {na : Option Addr} {nl nc : Nat} {ns : List ByteArray} {sk pg : Bool} {pn : Int} {rs : Bool} {sk1 : Int} {sb : ByteArray} {sa : Option Addr} {sl sc : Nat} {se : Bool} {sr : Int} {ti : Bool} {tm : Int} {ea : Option Addr} {el ec : Nat} {es : List ByteArray} {tk : Int} {tb : ByteArray} {ta : Option Addr} {tl tc : Nat} {kd : Int} {aa : Option Addr} {al ac : Nat} {ss : List St} (hR : RqAt w oa ol oc ia il ic a l c na nl nc sa sl sc ea el ec ta tl tc aa al ac (op, os, tx, id, (co, vs, ns, sk, pg, pn, rs, (sk1, sb), se, sr, ti, tm), es, (tk, tb), kd, ss)) (hF : FitQ (op, os, tx, id, (co, vs, ns, sk, pg, pn, rs, (sk1, sb), se, sr, ti, tm), es, (tk, tb), kd, ss)) (h1 : op ≠ 1) (h5 : op ≠ 5) (h7 : op ≠ 7) (h9 : op ≠ 9) (h10 : op ≠ 10) (h11 : op ≠ 11) (h13 : op ≠ 13) (h15 : op ≠ 15) {Y : BE} (hY : Y = (([], 22) : BE)) :
    Calls Try.prog 10 #[.agg #[.int .u8 op, .slice oa ol oc, .string tx, .slice ia il ic, .int .u16 co, .slice a l c, .slice na nl nc, .bool sk, .bool pg, .int .i32 pn, .bool rs, .int .i64 sk1, .slice sa sl sc, .bool se, .int .u16 sr, .bool ti, .int .i64 tm, .slice ea el ec, .int .i64 tk, .slice ta tl tc, .int .u8 kd, .slice aa al ac]] w fun e w' => ∃ ya yc, e = .returned (.tuple #[.slice ya Y.1.length yc, .int .i64 Y.2]) ∧ Hid (Put w' w.heap.size ya yc Y.1) ∧ Hid (Below w.heap.size w w') := by
  have t1 : (op == 1) = false := by simpa using h1
  have t5 : (op == 5) = false := by simpa using h5
  have t7 : (op == 7) = false := by simpa using h7
  have t9 : (op == 9) = false := by simpa using h9
  have t10 : (op == 10) = false := by simpa using h10
  have t11 : (op == 11) = false := by simpa using h11
  have t13 : (op == 13) = false := by simpa using h13
  have t15 : (op == 15) = false := by simpa using h15
  have HY : Hid (Y = seqB ([], 0) ([], 22)) := by show _ = _; rw [hY]; rfl
  clear hY h1 h5 h7 h9 h10 h11 h13 h15
  obtain ⟨w1, hw1⟩ : ∃ w1, w1 = (w.alloc (.cells #[.int .u8 op, .slice oa ol oc, .string tx, .slice ia il ic, .int .u16 co, .slice a l c, .slice na nl nc, .bool sk, .bool pg, .int .i32 pn, .bool rs, .int .i64 sk1, .slice sa sl sc, .bool se, .int .u16 sr, .bool ti, .int .i64 tm, .slice ea el ec, .int .i64 tk, .slice ta tl tc, .int .u8 kd, .slice aa al ac] 33)).alloc (.cells #[.slice none 0 0, .int .i64 0] 63) := ⟨_, rfl⟩
  have hB1 : Below w.heap.size w w1 := by rw [hw1]; exact (below_one _ _).alloc (by simp) _
  have HB1 : Hid (Below w.heap.size w w1) := hB1
  have hq : w1.heap[w.heap.size]? = some (.cells #[.int .u8 op, .slice oa ol oc, .string tx, .slice ia il ic, .int .u16 co, .slice a l c, .slice na nl nc, .bool sk, .bool pg, .int .i32 pn, .bool rs, .int .i64 sk1, .slice sa sl sc, .bool se, .int .u16 sr, .bool ti, .int .i64 tm, .slice ea el ec, .int .i64 tk, .slice ta tl tc, .int .u8 kd, .slice aa al ac] 33 (0, 0)) := by
    rw [hw1]
    exact ((below_one (w.alloc (.cells #[.int .u8 op, .slice oa ol oc, .string tx, .slice ia il ic, .int .u16 co, .slice a l c, .slice na nl nc, .bool sk, .bool pg, .int .i32 pn, .bool rs, .int .i64 sk1, .slice sa sl sc, .bool se, .int .u16 sr, .bool ti, .int .i64 tm, .slice ea el ec, .int .i64 tk, .slice ta tl tc, .int .u8 kd, .slice aa al ac] 33)) _).block w.heap.size (by simp)).trans (heap_alloc_new w _)
  have HQ : Hid (w1.heap[w.heap.size]? = some (.cells #[.int .u8 op, .slice oa ol oc, .string tx, .slice ia il ic, .int .u16 co, .slice a l c, .slice na nl nc, .bool sk, .bool pg, .int .i32 pn, .bool rs, .int .i64 sk1, .slice sa sl sc, .bool se, .int .u16 sr, .bool ti, .int .i64 tm, .slice ea el ec, .int .i64 tk, .slice ta tl tc, .int .u8 kd, .slice aa al ac] 33 (0, 0))) := hq
  obtain ⟨p, hp⟩ : ∃ p, p = w.heap.size + 1 := ⟨_, rfl⟩
  have H : Hid (Wr w1 p (.slice none 0 0) ([], 0)) := by rw [hw1, hp]; exact wr_new _ _
  have HP : Hid (w.heap.size ≤ p) := by show _ ≤ _; omega
  have HPE : Hid (w.heap.size + 1 = p) := hp.symm
  have HFAR : Hid (w.heap.size ≠ p ∧ (Value.slice none 0 0).ownBlock ≠ some w.heap.size) := ⟨by omega, fun e => by simp [Value.ownBlock] at e⟩
  have HW1 : Hid ((w.alloc (.cells #[.int .u8 op, .slice oa ol oc, .string tx, .slice ia il ic, .int .u16 co, .slice a l c, .slice na nl nc, .bool sk, .bool pg, .int .i32 pn, .bool rs, .int .i64 sk1, .slice sa sl sc, .bool se, .int .u16 sr, .bool ti, .int .i64 tm, .slice ea el ec, .int .i64 tk, .slice ta tl tc, .int .u8 kd, .slice aa al ac] 33)).alloc (.cells #[.slice none 0 0, .int .i64 0] 63) = w1) := hw1.symm
  have HR : Hid (RqAt w oa ol oc ia il ic a l c na nl nc sa sl sc ea el ec ta tl tc aa al ac (op, os, tx, id, (co, vs, ns, sk, pg, pn, rs, (sk1, sb), se, sr, ti, tm), es, (tk, tb), kd, ss)) := hR
  have HF : Hid (FitQ (op, os, tx, id, (co, vs, ns, sk, pg, pn, rs, (sk1, sb), se, sr, ti, tm), es, (tk, tb), kd, ss)) := hF
  have HC0 : Hid (16 + tx.size + id.size + costR (co, vs, ns, sk, pg, pn, rs, (sk1, sb), se, sr, ti, tm) + costA ss ≤ 140737488351232) := hF.cost
  clear hR hF hw1 hB1 hp
  go_enter Try.func10, Try.ntmps10
  go_upto_region 2 with fail
  rw [HW1.out]
  clear HW1
  try rw [HPE.out]
  obtain ⟨d0, d1, d2, d3, d4, d5, d6, d7, d8, d9, d10, d11, d12, d13, d14, d15, d16, d17, d18, d19, d20, d21⟩ := req_cells hq
  clear hq
  go_wp2_with fail
  refine (wfail H.out 22).mono ?_
  rintro r w2 ⟨rfl, h2, hK2⟩
  have HW2 : Hid (Wr w2 p (.slice none 0 0) (seqB ([], 0) ([], 22))) := h2
  have HC2 : Hid (Chg p (.slice none 0 0) (.slice none 0 0) w1 w2) := ⟨⟨hK2.os, hK2.tape, hK2.output, hK2.size, fun k h1 h2 => hK2.block k h1 (fun e => h2 (.inl e))⟩, fun k hk => .inl hk⟩
  clear h2 hK2
  obtain ⟨z0, z1, z2, z3⟩ := two_cells HW2.out.blk
  have hpl := HW2.out.lt
  have e22 : (seqB ([], 0) ([], 22)).2 = 22 := rfl
  rw [e22] at z1
  have HBF : Hid (Below w.heap.size w w2) := HB1.out.trans (HC2.out.low H.out HP.out)
  go_wp2_with fail
  go_quiet (fail)
  go_wp2_with fail
  go_ret2
  exact ⟨none, 0, by rw [HY.out]; rfl, by rw [HY.out]; exact put_nil _ _, below_drewN HBF.out _⟩

theorem put_any {w : World} {op : Int} {oa : Option Addr} {ol oc : Nat} {os : List (ByteArray × ByteArray)} {tx : ByteArray} {ia : Option Addr} {il ic : Nat} {id : ByteArray} {co : Int} {a : Option Addr} {l c : Nat} {vs : List Vl} {na : Option Addr} {nl nc : Nat} {ns : List ByteArray} {sk pg : Bool} {pn : Int} {rs : Bool} {sk1 : Int} {sb : ByteArray} {sa : Option Addr} {sl sc : Nat} {se : Bool} {sr : Int} {ti : Bool} {tm : Int} {ea : Option Addr} {el ec : Nat} {es : List ByteArray} {tk : Int} {tb : ByteArray} {ta : Option Addr} {tl tc : Nat} {kd : Int} {aa : Option Addr} {al ac : Nat} {ss : List St} (hR : RqAt w oa ol oc ia il ic a l c na nl nc sa sl sc ea el ec ta tl tc aa al ac (op, os, tx, id, (co, vs, ns, sk, pg, pn, rs, (sk1, sb), se, sr, ti, tm), es, (tk, tb), kd, ss)) (hF : FitQ (op, os, tx, id, (co, vs, ns, sk, pg, pn, rs, (sk1, sb), se, sr, ti, tm), es, (tk, tb), kd, ss)) {Y : BE} (hY : Y = putB (op, os, tx, id, (co, vs, ns, sk, pg, pn, rs, (sk1, sb), se, sr, ti, tm), es, (tk, tb), kd, ss)) :
    Calls Try.prog 10 #[.agg #[.int .u8 op, .slice oa ol oc, .string tx, .slice ia il ic, .int .u16 co, .slice a l c, .slice na nl nc, .bool sk, .bool pg, .int .i32 pn, .bool rs, .int .i64 sk1, .slice sa sl sc, .bool se, .int .u16 sr, .bool ti, .int .i64 tm, .slice ea el ec, .int .i64 tk, .slice ta tl tc, .int .u8 kd, .slice aa al ac]] w fun e w' => ∃ ya yc, e = .returned (.tuple #[.slice ya Y.1.length yc, .int .i64 Y.2]) ∧ Hid (Put w' w.heap.size ya yc Y.1) ∧ Hid (Below w.heap.size w w') := by
  have e0 : Rq.op (op, os, tx, id, (co, vs, ns, sk, pg, pn, rs, (sk1, sb), se, sr, ti, tm), es, (tk, tb), kd, ss) = op := rfl
  unfold putB at hY
  rw [e0] at hY
  by_cases h1 : op = 1
  · rw [if_pos h1] at hY; exact put_1 hR hF h1 hY
  rw [if_neg h1] at hY
  by_cases h5 : op = 5
  · rw [if_pos h5] at hY; exact put_5 hR hF h5 hY
  rw [if_neg h5] at hY
  by_cases h7 : op = 7
  · rw [if_pos h7] at hY; exact put_7 hR hF h7 hY
  rw [if_neg h7] at hY
  by_cases h9 : op = 9
  · rw [if_pos h9] at hY; exact put_9 hR hF h9 hY
  rw [if_neg h9] at hY
  by_cases h10 : op = 10
  · rw [if_pos h10] at hY; exact put_10 hR hF h10 hY
  rw [if_neg h10] at hY
  by_cases h11 : op = 11
  · rw [if_pos h11] at hY; exact put_11 hR hF h11 hY
  rw [if_neg h11] at hY
  by_cases h15 : op = 15
  · rw [if_pos h15] at hY; exact put_15 hR hF h15 hY
  rw [if_neg h15] at hY
  by_cases h13 : op = 13
  · rw [if_pos h13] at hY; exact put_13 hR hF h13 hY
  rw [if_neg h13] at hY
  exact put_other hR hF h1 h5 h7 h9 h10 h11 h13 h15 hY
end Go.Proofs.Ytcecdklgiocbaaa
