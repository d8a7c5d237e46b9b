/-
  The document's body of a request.
-/
import Derived.Test.YtcecdklgiocbaaaRefQ8
import Derived.Test.YtcecdklgiocbaaaRefP1
namespace Go.Proofs.Ytcecdklgiocbaaa
open Go.RowKit
set_option maxRecDepth 100000
set_option linter.unusedVariables false
set_option linter.unusedSimpArgs false

/-- A statement as the document has it. -/
def VM4 (w : World) (s : St) (c : Nat → Value) : Prop := c 0 = .bool s.prep ∧ c 1 = .string s.text ∧ c 2 = .string s.id ∧ ∃ a l cp, c 3 = .slice a l cp ∧ View 2 VR w a l cp s.vals

theorem View.sm_at {w0 w : World} {a : Option Addr} {len cap : Nat} {ss : List St} (h : View 4 VM4 w0 a len cap ss) (hB : Below w0.heap.size w0 w) {k : Nat} (hk : k < len) :
    ∃ b off a2 l2 c2, a = some ⟨b, off, none⟩ ∧ w.cell? ⟨b, off + k * 4, none⟩ = some (.bool (ss.getD k default).prep) ∧ w.cell? ⟨b, off + k * 4 + 1, none⟩ = some (.string (ss.getD k default).text) ∧ w.cell? ⟨b, off + k * 4 + 2, none⟩ = some (.string (ss.getD k default).id) ∧ w.cell? ⟨b, off + k * 4 + 3, none⟩ = some (.slice a2 l2 c2) ∧ View 2 VR w0 a2 l2 c2 (ss.getD k default).vals := by
  obtain ⟨h1, h2, h3, h4, h5⟩ := h
  obtain ⟨b, off, ha, hb, hc⟩ := h5 (by omega)
  obtain ⟨c, hcell, hv0, hv1, hv2, a2, l2, c2, hv3, hV⟩ := hc k hk
  have g0 := hcell 0 (by omega)
  have g1 := hcell 1 (by omega)
  have g2 := hcell 2 (by omega)
  have g3 := hcell 3 (by omega)
  rw [hv0] at g0
  rw [hv1] at g1
  rw [hv2] at g2
  rw [hv3] at g3
  refine ⟨b, off, a2, l2, c2, ha, ?_, ?_, ?_, ?_, hV⟩
  · exact (hB.cell (p := ⟨b, off + k * 4, none⟩) hb).trans (by simpa using g0)
  · exact (hB.cell (p := ⟨b, off + k * 4 + 1, none⟩) hb).trans (by rw [Nat.add_assoc]; exact g1)
  · exact (hB.cell (p := ⟨b, off + k * 4 + 2, none⟩) hb).trans (by rw [Nat.add_assoc]; exact g2)
  · exact (hB.cell (p := ⟨b, off + k * 4 + 3, none⟩) hb).trans (by rw [Nat.add_assoc]; exact g3)

/-- What a request of the document's leads to in memory. -/
structure RqM (w : World) (oa : Option Addr) (ol oc : Nat) (a : Option Addr) (l c : Nat) (na : Option Addr) (nl nc : Nat) (ea : Option Addr) (el ec : Nat) (aa : Option Addr) (al ac : Nat) (x : Rq) : Prop where
  op : 0 ≤ x.op ∧ x.op ≤ 255
  opts : View 5 VI w oa ol oc (x.opts.map pairIt)
  vals : View 2 VR w a l c x.run.vals
  names : View 1 VS w na nl nc x.run.names
  cons : 0 ≤ x.run.cons ∧ x.run.cons ≤ 65535
  serial : 0 ≤ x.run.serial ∧ x.run.serial ≤ 65535
  page : -2147483648 ≤ x.run.page ∧ x.run.page ≤ 2147483647
  time : -9223372036854775808 ≤ x.run.time ∧ x.run.time ≤ 9223372036854775807
  evs : View 5 VI w ea el ec (x.evs.map keyIt)
  kind : 0 ≤ x.kind ∧ x.kind ≤ 255
  all : View 4 VM4 w aa al ac x.all

set_option maxHeartbeats 4000000 in
theorem xput_1 {w : World} {op : Int} {oa : Option Addr} {ol oc : Nat} {os : List (ByteArray × ByteArray)} {tx id : ByteArray} {co : Int} {a : Option Addr} {l c : Nat} {vs : List Vl} {na : Option Addr} {nl nc : Nat} {ns : List ByteArray} {sk pg : Bool} {pn : Int} {rs : Bool} {k1 : Int} {sb : ByteArray} {se : Bool} {sr : Int} {ti : Bool} {tm : Int} {ea : Option Addr} {el ec : Nat} {es : List ByteArray} {tk : Int} {tb : ByteArray} {kd : Int} {aa : Option Addr} {al ac : Nat} {ss : List St} (hM : RqM w oa ol oc a l c na nl nc ea el ec aa al ac (op, os, tx, id, (co, vs, ns, sk, pg, pn, rs, (k1, sb), se, sr, ti, tm), es, (tk, tb), kd, ss)) (hF : FitQ (op, os, tx, id, (co, vs, ns, sk, pg, pn, rs, (k1, sb), se, sr, ti, tm), es, (tk, tb), kd, ss)) (hol : ol ≤ 1048576) (hop : op = 1) {Y : BE} (hY : Y = listB (keyB textB) os) :
    Calls Try.prog 11 #[.agg #[.int .u8 op, .slice oa ol oc, .string tx, .string id, .int .u16 co, .slice a l c, .slice na nl nc, .bool sk, .bool pg, .int .i32 pn, .bool rs, .int .i64 k1, .string sb, .bool se, .int .u16 sr, .bool ti, .int .i64 tm, .slice ea el ec, .int .i64 tk, .string tb, .int .u8 kd, .slice aa al ac]] w fun r w' => ∃ ra cp, r = .returned (.tuple #[.slice ra Y.1.length cp, .int .i64 Y.2]) ∧ Hid (Put w' w.heap.size ra cp Y.1) ∧ Hid (Below w.heap.size w w') := by
  subst hop
  have HY : Hid (Y = listB (keyB textB) os) := hY
  have HM : Hid (RqM w oa ol oc a l c na nl nc ea el ec aa al ac (1, os, tx, id, (co, vs, ns, sk, pg, pn, rs, (k1, sb), se, sr, ti, tm), es, (tk, tb), kd, ss)) := hM
  have HF : Hid (FitQ (1, os, tx, id, (co, vs, ns, sk, pg, pn, rs, (k1, sb), se, sr, ti, tm), es, (tk, tb), kd, ss)) := hF
  have HC0 : Hid (16 + tx.size + id.size + costR (co, vs, ns, sk, pg, pn, rs, (k1, sb), se, sr, ti, tm) + costA ss ≤ 140737488351232) := hF.cost
  obtain ⟨w1, hw1⟩ : ∃ w1, w1 = w.alloc (.cells #[.int .u8 1, .slice oa ol oc, .string tx, .string id, .int .u16 co, .slice a l c, .slice na nl nc, .bool sk, .bool pg, .int .i32 pn, .bool rs, .int .i64 k1, .string sb, .bool se, .int .u16 sr, .bool ti, .int .i64 tm, .slice ea el ec, .int .i64 tk, .string tb, .int .u8 kd, .slice aa al ac] 48) := ⟨_, rfl⟩
  have HB1 : Hid (Below w.heap.size w w1) := by rw [hw1]; exact below_one _ _
  have hq : w1.heap[w.heap.size]? = some (.cells #[.int .u8 1, .slice oa ol oc, .string tx, .string id, .int .u16 co, .slice a l c, .slice na nl nc, .bool sk, .bool pg, .int .i32 pn, .bool rs, .int .i64 k1, .string sb, .bool se, .int .u16 sr, .bool ti, .int .i64 tm, .slice ea el ec, .int .i64 tk, .string tb, .int .u8 kd, .slice aa al ac] 48 (0, 0)) := by rw [hw1]; exact heap_alloc_new w _
  have HQ : Hid (w1.heap[w.heap.size]? = some (.cells #[.int .u8 1, .slice oa ol oc, .string tx, .string id, .int .u16 co, .slice a l c, .slice na nl nc, .bool sk, .bool pg, .int .i32 pn, .bool rs, .int .i64 k1, .string sb, .bool se, .int .u16 sr, .bool ti, .int .i64 tm, .slice ea el ec, .int .i64 tk, .string tb, .int .u8 kd, .slice aa al ac] 48 (0, 0))) := hq
  have HW1 : Hid (w.alloc (.cells #[.int .u8 1, .slice oa ol oc, .string tx, .string id, .int .u16 co, .slice a l c, .slice na nl nc, .bool sk, .bool pg, .int .i32 pn, .bool rs, .int .i64 k1, .string sb, .bool se, .int .u16 sr, .bool ti, .int .i64 tm, .slice ea el ec, .int .i64 tk, .string tb, .int .u8 kd, .slice aa al ac] 48) = w1) := hw1.symm
  have hlq := block_lt hq
  obtain ⟨d0, d1, d2, d3, d4, d5, d6, d7, d8, d9, d10, d11, d12, d13, d14, d15, d16, d17, d18, d19, d20, d21⟩ := req_cells hq
  clear hw1 hq hM hF hY
  go_enter Try.func11, Try.ntmps11
  go_upto_region 1 with fail
  rw [HW1.out]
  clear HW1
  go_wp2_with fail
  have hx1 : ∀ x ∈ os.map pairIt, x.key.size ≤ maxLen ∧ x.text.size ≤ maxLen := fun x hx => by
    obtain ⟨y, hy, rfl⟩ := List.mem_map.1 hx
    exact HF.out.opts y hy
  have hx2 : ∀ x ∈ os.map pairIt, (itemB1 x).1.length ≤ 131074 := fun x hx => by
    obtain ⟨y, hy, rfl⟩ := List.mem_map.1 hx
    exact keyB_textB_len y
  refine (rput1_any (HM.out.opts.old stays_i HB1.out) hx1 131074 hx2 (by omega) (Y := Y) (by rw [put_pairs]; exact HY.out)).mono ?_
  rintro r w2 ⟨ra, cp, rfl, HP, HB⟩
  have HB2 : Hid (Below w.heap.size w w2) := HB1.out.trans (HB.mono HB1.out.size)
  clear hx1 hx2 HB
  go_wp2_with fail
  go_ret2
  exact ⟨ra, cp, rfl, put_low HP.out HB1.out.size, HB2⟩

set_option maxHeartbeats 4000000 in
theorem xput_11 {w : World} {op : Int} {oa : Option Addr} {ol oc : Nat} {os : List (ByteArray × ByteArray)} {tx id : ByteArray} {co : Int} {a : Option Addr} {l c : Nat} {vs : List Vl} {na : Option Addr} {nl nc : Nat} {ns : List ByteArray} {sk pg : Bool} {pn : Int} {rs : Bool} {k1 : Int} {sb : ByteArray} {se : Bool} {sr : Int} {ti : Bool} {tm : Int} {ea : Option Addr} {el ec : Nat} {es : List ByteArray} {tk : Int} {tb : ByteArray} {kd : Int} {aa : Option Addr} {al ac : Nat} {ss : List St} (hM : RqM w oa ol oc a l c na nl nc ea el ec aa al ac (op, os, tx, id, (co, vs, ns, sk, pg, pn, rs, (k1, sb), se, sr, ti, tm), es, (tk, tb), kd, ss)) (hF : FitQ (op, os, tx, id, (co, vs, ns, sk, pg, pn, rs, (k1, sb), se, sr, ti, tm), es, (tk, tb), kd, ss)) (hol : ol ≤ 1048576) (hop : op = 11) {Y : BE} (hY : Y = listB textB es) :
    Calls Try.prog 11 #[.agg #[.int .u8 op, .slice oa ol oc, .string tx, .string id, .int .u16 co, .slice a l c, .slice na nl nc, .bool sk, .bool pg, .int .i32 pn, .bool rs, .int .i64 k1, .string sb, .bool se, .int .u16 sr, .bool ti, .int .i64 tm, .slice ea el ec, .int .i64 tk, .string tb, .int .u8 kd, .slice aa al ac]] w fun r w' => ∃ ra cp, r = .returned (.tuple #[.slice ra Y.1.length cp, .int .i64 Y.2]) ∧ Hid (Put w' w.heap.size ra cp Y.1) ∧ Hid (Below w.heap.size w w') := by
  subst hop
  have HY : Hid (Y = listB textB es) := hY
  have HM : Hid (RqM w oa ol oc a l c na nl nc ea el ec aa al ac (11, os, tx, id, (co, vs, ns, sk, pg, pn, rs, (k1, sb), se, sr, ti, tm), es, (tk, tb), kd, ss)) := hM
  have HF : Hid (FitQ (11, os, tx, id, (co, vs, ns, sk, pg, pn, rs, (k1, sb), se, sr, ti, tm), es, (tk, tb), kd, ss)) := hF
  have HC0 : Hid (16 + tx.size + id.size + costR (co, vs, ns, sk, pg, pn, rs, (k1, sb), se, sr, ti, tm) + costA ss ≤ 140737488351232) := hF.cost
  obtain ⟨w1, hw1⟩ : ∃ w1, w1 = w.alloc (.cells #[.int .u8 11, .slice oa ol oc, .string tx, .string id, .int .u16 co, .slice a l c, .slice na nl nc, .bool sk, .bool pg, .int .i32 pn, .bool rs, .int .i64 k1, .string sb, .bool se, .int .u16 sr, .bool ti, .int .i64 tm, .slice ea el ec, .int .i64 tk, .string tb, .int .u8 kd, .slice aa al ac] 48) := ⟨_, rfl⟩
  have HB1 : Hid (Below w.heap.size w w1) := by rw [hw1]; exact below_one _ _
  have hq : w1.heap[w.heap.size]? = some (.cells #[.int .u8 11, .slice oa ol oc, .string tx, .string id, .int .u16 co, .slice a l c, .slice na nl nc, .bool sk, .bool pg, .int .i32 pn, .bool rs, .int .i64 k1, .string sb, .bool se, .int .u16 sr, .bool ti, .int .i64 tm, .slice ea el ec, .int .i64 tk, .string tb, .int .u8 kd, .slice aa al ac] 48 (0, 0)) := by rw [hw1]; exact heap_alloc_new w _
  have HQ : Hid (w1.heap[w.heap.size]? = some (.cells #[.int .u8 11, .slice oa ol oc, .string tx, .string id, .int .u16 co, .slice a l c, .slice na nl nc, .bool sk, .bool pg, .int .i32 pn, .bool rs, .int .i64 k1, .string sb, .bool se, .int .u16 sr, .bool ti, .int .i64 tm, .slice ea el ec, .int .i64 tk, .string tb, .int .u8 kd, .slice aa al ac] 48 (0, 0))) := hq
  have HW1 : Hid (w.alloc (.cells #[.int .u8 11, .slice oa ol oc, .string tx, .string id, .int .u16 co, .slice a l c, .slice na nl nc, .bool sk, .bool pg, .int .i32 pn, .bool rs, .int .i64 k1, .string sb, .bool se, .int .u16 sr, .bool ti, .int .i64 tm, .slice ea el ec, .int .i64 tk, .string tb, .int .u8 kd, .slice aa al ac] 48) = w1) := hw1.symm
  have hlq := block_lt hq
  obtain ⟨d0, d1, d2, d3, d4, d5, d6, d7, d8, d9, d10, d11, d12, d13, d14, d15, d16, d17, d18, d19, d20, d21⟩ := req_cells hq
  clear hw1 hq hM hF hY
  go_enter Try.func11, Try.ntmps11
  go_upto_region 1 with fail
  rw [HW1.out]
  clear HW1
  have hx1 : ∀ x ∈ es.map keyIt, x.key.size ≤ maxLen := fun x hx => by
    obtain ⟨y, hy, rfl⟩ := List.mem_map.1 hx
    exact HF.out.evs y hy
  go_wp2_with fail
  refine (rput0_any (HM.out.evs.old stays_i HB1.out) hx1 (Y := Y) (by rw [put_texts]; exact HY.out)).mono ?_
  rintro r w2 ⟨ra, cp, rfl, HP, HB⟩
  have HB2 : Hid (Below w.heap.size w w2) := HB1.out.trans (HB.mono HB1.out.size)
  clear hx1 HB
  go_wp2_with fail
  go_ret2
  exact ⟨ra, cp, rfl, put_low HP.out HB1.out.size, HB2⟩

set_option maxHeartbeats 4000000 in
theorem xput_5 {w : World} {op : Int} {oa : Option Addr} {ol oc : Nat} {os : List (ByteArray × ByteArray)} {tx id : ByteArray} {co : Int} {a : Option Addr} {l c : Nat} {vs : List Vl} {na : Option Addr} {nl nc : Nat} {ns : List ByteArray} {sk pg : Bool} {pn : Int} {rs : Bool} {k1 : Int} {sb : ByteArray} {se : Bool} {sr : Int} {ti : Bool} {tm : Int} {ea : Option Addr} {el ec : Nat} {es : List ByteArray} {tk : Int} {tb : ByteArray} {kd : Int} {aa : Option Addr} {al ac : Nat} {ss : List St} (hM : RqM w oa ol oc a l c na nl nc ea el ec aa al ac (op, os, tx, id, (co, vs, ns, sk, pg, pn, rs, (k1, sb), se, sr, ti, tm), es, (tk, tb), kd, ss)) (hF : FitQ (op, os, tx, id, (co, vs, ns, sk, pg, pn, rs, (k1, sb), se, sr, ti, tm), es, (tk, tb), kd, ss)) (hol : ol ≤ 1048576) (hop : op = 5) {Y : BE} (hY : Y = (([], 0) : BE)) :
    Calls Try.prog 11 #[.agg #[.int .u8 op, .slice oa ol oc, .string tx, .string id, .int .u16 co, .slice a l c, .slice na nl nc, .bool sk, .bool pg, .int .i32 pn, .bool rs, .int .i64 k1, .string sb, .bool se, .int .u16 sr, .bool ti, .int .i64 tm, .slice ea el ec, .int .i64 tk, .string tb, .int .u8 kd, .slice aa al ac]] w fun r w' => ∃ ra cp, r = .returned (.tuple #[.slice ra Y.1.length cp, .int .i64 Y.2]) ∧ Hid (Put w' w.heap.size ra cp Y.1) ∧ Hid (Below w.heap.size w w') := by
  subst hop
  have HY : Hid (Y = (([], 0) : BE)) := hY
  have HM : Hid (RqM w oa ol oc a l c na nl nc ea el ec aa al ac (5, os, tx, id, (co, vs, ns, sk, pg, pn, rs, (k1, sb), se, sr, ti, tm), es, (tk, tb), kd, ss)) := hM
  have HF : Hid (FitQ (5, os, tx, id, (co, vs, ns, sk, pg, pn, rs, (k1, sb), se, sr, ti, tm), es, (tk, tb), kd, ss)) := hF
  have HC0 : Hid (16 + tx.size + id.size + costR (co, vs, ns, sk, pg, pn, rs, (k1, sb), se, sr, ti, tm) + costA ss ≤ 140737488351232) := hF.cost
  obtain ⟨w1, hw1⟩ : ∃ w1, w1 = w.alloc (.cells #[.int .u8 5, .slice oa ol oc, .string tx, .string id, .int .u16 co, .slice a l c, .slice na nl nc, .bool sk, .bool pg, .int .i32 pn, .bool rs, .int .i64 k1, .string sb, .bool se, .int .u16 sr, .bool ti, .int .i64 tm, .slice ea el ec, .int .i64 tk, .string tb, .int .u8 kd, .slice aa al ac] 48) := ⟨_, rfl⟩
  have HB1 : Hid (Below w.heap.size w w1) := by rw [hw1]; exact below_one _ _
  have hq : w1.heap[w.heap.size]? = some (.cells #[.int .u8 5, .slice oa ol oc, .string tx, .string id, .int .u16 co, .slice a l c, .slice na nl nc, .bool sk, .bool pg, .int .i32 pn, .bool rs, .int .i64 k1, .string sb, .bool se, .int .u16 sr, .bool ti, .int .i64 tm, .slice ea el ec, .int .i64 tk, .string tb, .int .u8 kd, .slice aa al ac] 48 (0, 0)) := by rw [hw1]; exact heap_alloc_new w _
  have HQ : Hid (w1.heap[w.heap.size]? = some (.cells #[.int .u8 5, .slice oa ol oc, .string tx, .string id, .int .u16 co, .slice a l c, .slice na nl nc, .bool sk, .bool pg, .int .i32 pn, .bool rs, .int .i64 k1, .string sb, .bool se, .int .u16 sr, .bool ti, .int .i64 tm, .slice ea el ec, .int .i64 tk, .string tb, .int .u8 kd, .slice aa al ac] 48 (0, 0))) := hq
  have HW1 : Hid (w.alloc (.cells #[.int .u8 5, .slice oa ol oc, .string tx, .string id, .int .u16 co, .slice a l c, .slice na nl nc, .bool sk, .bool pg, .int .i32 pn, .bool rs, .int .i64 k1, .string sb, .bool se, .int .u16 sr, .bool ti, .int .i64 tm, .slice ea el ec, .int .i64 tk, .string tb, .int .u8 kd, .slice aa al ac] 48) = w1) := hw1.symm
  have hlq := block_lt hq
  obtain ⟨d0, d1, d2, d3, d4, d5, d6, d7, d8, d9, d10, d11, d12, d13, d14, d15, d16, d17, d18, d19, d20, d21⟩ := req_cells hq
  clear hw1 hq hM hF hY
  go_enter Try.func11, Try.ntmps11
  go_upto_region 1 with fail
  rw [HW1.out]
  clear HW1
  go_wp2_with fail
  go_ret2
  exact ⟨none, 0, by rw [HY.out]; rfl, by rw [HY.out]; exact put_nil _ _, HB1⟩

set_option maxHeartbeats 4000000 in
theorem xput_9 {w : World} {op : Int} {oa : Option Addr} {ol oc : Nat} {os : List (ByteArray × ByteArray)} {tx id : ByteArray} {co : Int} {a : Option Addr} {l c : Nat} {vs : List Vl} {na : Option Addr} {nl nc : Nat} {ns : List ByteArray} {sk pg : Bool} {pn : Int} {rs : Bool} {k1 : Int} {sb : ByteArray} {se : Bool} {sr : Int} {ti : Bool} {tm : Int} {ea : Option Addr} {el ec : Nat} {es : List ByteArray} {tk : Int} {tb : ByteArray} {kd : Int} {aa : Option Addr} {al ac : Nat} {ss : List St} (hM : RqM w oa ol oc a l c na nl nc ea el ec aa al ac (op, os, tx, id, (co, vs, ns, sk, pg, pn, rs, (k1, sb), se, sr, ti, tm), es, (tk, tb), kd, ss)) (hF : FitQ (op, os, tx, id, (co, vs, ns, sk, pg, pn, rs, (k1, sb), se, sr, ti, tm), es, (tk, tb), kd, ss)) (hol : ol ≤ 1048576) (hop : op = 9) {Y : BE} (hY : Y = longB tx) :
    Calls Try.prog 11 #[.agg #[.int .u8 op, .slice oa ol oc, .string tx, .string id, .int .u16 co, .slice a l c, .slice na nl nc, .bool sk, .bool pg, .int .i32 pn, .bool rs, .int .i64 k1, .string sb, .bool se, .int .u16 sr, .bool ti, .int .i64 tm, .slice ea el ec, .int .i64 tk, .string tb, .int .u8 kd, .slice aa al ac]] w fun r w' => ∃ ra cp, r = .returned (.tuple #[.slice ra Y.1.length cp, .int .i64 Y.2]) ∧ Hid (Put w' w.heap.size ra cp Y.1) ∧ Hid (Below w.heap.size w w') := by
  subst hop
  have HY : Hid (Y = longB tx) := hY
  have HM : Hid (RqM w oa ol oc a l c na nl nc ea el ec aa al ac (9, os, tx, id, (co, vs, ns, sk, pg, pn, rs, (k1, sb), se, sr, ti, tm), es, (tk, tb), kd, ss)) := hM
  have HF : Hid (FitQ (9, os, tx, id, (co, vs, ns, sk, pg, pn, rs, (k1, sb), se, sr, ti, tm), es, (tk, tb), kd, ss)) := hF
  have HC0 : Hid (16 + tx.size + id.size + costR (co, vs, ns, sk, pg, pn, rs, (k1, sb), se, sr, ti, tm) + costA ss ≤ 140737488351232) := hF.cost
  obtain ⟨w1, hw1⟩ : ∃ w1, w1 = w.alloc (.cells #[.int .u8 9, .slice oa ol oc, .string tx, .string id, .int .u16 co, .slice a l c, .slice na nl nc, .bool sk, .bool pg, .int .i32 pn, .bool rs, .int .i64 k1, .string sb, .bool se, .int .u16 sr, .bool ti, .int .i64 tm, .slice ea el ec, .int .i64 tk, .string tb, .int .u8 kd, .slice aa al ac] 48) := ⟨_, rfl⟩
  have HB1 : Hid (Below w.heap.size w w1) := by rw [hw1]; exact below_one _ _
  have hq : w1.heap[w.heap.size]? = some (.cells #[.int .u8 9, .slice oa ol oc, .string tx, .string id, .int .u16 co, .slice a l c, .slice na nl nc, .bool sk, .bool pg, .int .i32 pn, .bool rs, .int .i64 k1, .string sb, .bool se, .int .u16 sr, .bool ti, .int .i64 tm, .slice ea el ec, .int .i64 tk, .string tb, .int .u8 kd, .slice aa al ac] 48 (0, 0)) := by rw [hw1]; exact heap_alloc_new w _
  have HQ : Hid (w1.heap[w.heap.size]? = some (.cells #[.int .u8 9, .slice oa ol oc, .string tx, .string id, .int .u16 co, .slice a l c, .slice na nl nc, .bool sk, .bool pg, .int .i32 pn, .bool rs, .int .i64 k1, .string sb, .bool se, .int .u16 sr, .bool ti, .int .i64 tm, .slice ea el ec, .int .i64 tk, .string tb, .int .u8 kd, .slice aa al ac] 48 (0, 0))) := hq
  have HW1 : Hid (w.alloc (.cells #[.int .u8 9, .slice oa ol oc, .string tx, .string id, .int .u16 co, .slice a l c, .slice na nl nc, .bool sk, .bool pg, .int .i32 pn, .bool rs, .int .i64 k1, .string sb, .bool se, .int .u16 sr, .bool ti, .int .i64 tm, .slice ea el ec, .int .i64 tk, .string tb, .int .u8 kd, .slice aa al ac] 48) = w1) := hw1.symm
  have hlq := block_lt hq
  obtain ⟨d0, d1, d2, d3, d4, d5, d6, d7, d8, d9, d10, d11, d12, d13, d14, d15, d16, d17, d18, d19, d20, d21⟩ := req_cells hq
  clear hw1 hq hM hF hY
  go_enter Try.func11, Try.ntmps11
  go_upto_region 1 with fail
  rw [HW1.out]
  clear HW1
  go_wp2_with fail
  refine (rlong_put tx _ (by have := HC0.out; omega)).mono ?_
  rintro r w2 ⟨ra, cp, rfl, HP, HB⟩
  have HB2 : Hid (Below w.heap.size w w2) := HB1.out.trans (HB.mono HB1.out.size)
  obtain ⟨n, hn⟩ : ∃ n, n = (longB tx).1.length := ⟨_, rfl⟩
  have HN : Hid (n = (longB tx).1.length) := hn
  rw [← hn]
  clear HB hn
  go_wp2_with fail
  go_ret2
  exact ⟨ra, cp, by rw [HY.out, HN.out]; rfl, by rw [HY.out]; exact put_low HP.out HB1.out.size, HB2⟩

set_option maxHeartbeats 4000000 in
theorem xput_15 {w : World} {op : Int} {oa : Option Addr} {ol oc : Nat} {os : List (ByteArray × ByteArray)} {tx id : ByteArray} {co : Int} {a : Option Addr} {l c : Nat} {vs : List Vl} {na : Option Addr} {nl nc : Nat} {ns : List ByteArray} {sk pg : Bool} {pn : Int} {rs : Bool} {k1 : Int} {sb : ByteArray} {se : Bool} {sr : Int} {ti : Bool} {tm : Int} {ea : Option Addr} {el ec : Nat} {es : List ByteArray} {tk : Int} {tb : ByteArray} {kd : Int} {aa : Option Addr} {al ac : Nat} {ss : List St} (hM : RqM w oa ol oc a l c na nl nc ea el ec aa al ac (op, os, tx, id, (co, vs, ns, sk, pg, pn, rs, (k1, sb), se, sr, ti, tm), es, (tk, tb), kd, ss)) (hF : FitQ (op, os, tx, id, (co, vs, ns, sk, pg, pn, rs, (k1, sb), se, sr, ti, tm), es, (tk, tb), kd, ss)) (hol : ol ≤ 1048576) (hop : op = 15) {Y : BE} (hY : Y = valueB (tk, tb)) :
    Calls Try.prog 11 #[.agg #[.int .u8 op, .slice oa ol oc, .string tx, .string id, .int .u16 co, .slice a l c, .slice na nl nc, .bool sk, .bool pg, .int .i32 pn, .bool rs, .int .i64 k1, .string sb, .bool se, .int .u16 sr, .bool ti, .int .i64 tm, .slice ea el ec, .int .i64 tk, .string tb, .int .u8 kd, .slice aa al ac]] w fun r w' => ∃ ra cp, r = .returned (.tuple #[.slice ra Y.1.length cp, .int .i64 Y.2]) ∧ Hid (Put w' w.heap.size ra cp Y.1) ∧ Hid (Below w.heap.size w w') := by
  subst hop
  have HY : Hid (Y = valueB (tk, tb)) := hY
  have HM : Hid (RqM w oa ol oc a l c na nl nc ea el ec aa al ac (15, os, tx, id, (co, vs, ns, sk, pg, pn, rs, (k1, sb), se, sr, ti, tm), es, (tk, tb), kd, ss)) := hM
  have HF : Hid (FitQ (15, os, tx, id, (co, vs, ns, sk, pg, pn, rs, (k1, sb), se, sr, ti, tm), es, (tk, tb), kd, ss)) := hF
  have HC0 : Hid (16 + tx.size + id.size + costR (co, vs, ns, sk, pg, pn, rs, (k1, sb), se, sr, ti, tm) + costA ss ≤ 140737488351232) := hF.cost
  obtain ⟨w1, hw1⟩ : ∃ w1, w1 = w.alloc (.cells #[.int .u8 15, .slice oa ol oc, .string tx, .string id, .int .u16 co, .slice a l c, .slice na nl nc, .bool sk, .bool pg, .int .i32 pn, .bool rs, .int .i64 k1, .string sb, .bool se, .int .u16 sr, .bool ti, .int .i64 tm, .slice ea el ec, .int .i64 tk, .string tb, .int .u8 kd, .slice aa al ac] 48) := ⟨_, rfl⟩
  have HB1 : Hid (Below w.heap.size w w1) := by rw [hw1]; exact below_one _ _
  have hq : w1.heap[w.heap.size]? = some (.cells #[.int .u8 15, .slice oa ol oc, .string tx, .string id, .int .u16 co, .slice a l c, .slice na nl nc, .bool sk, .bool pg, .int .i32 pn, .bool rs, .int .i64 k1, .string sb, .bool se, .int .u16 sr, .bool ti, .int .i64 tm, .slice ea el ec, .int .i64 tk, .string tb, .int .u8 kd, .slice aa al ac] 48 (0, 0)) := by rw [hw1]; exact heap_alloc_new w _
  have HQ : Hid (w1.heap[w.heap.size]? = some (.cells #[.int .u8 15, .slice oa ol oc, .string tx, .string id, .int .u16 co, .slice a l c, .slice na nl nc, .bool sk, .bool pg, .int .i32 pn, .bool rs, .int .i64 k1, .string sb, .bool se, .int .u16 sr, .bool ti, .int .i64 tm, .slice ea el ec, .int .i64 tk, .string tb, .int .u8 kd, .slice aa al ac] 48 (0, 0))) := hq
  have HW1 : Hid (w.alloc (.cells #[.int .u8 15, .slice oa ol oc, .string tx, .string id, .int .u16 co, .slice a l c, .slice na nl nc, .bool sk, .bool pg, .int .i32 pn, .bool rs, .int .i64 k1, .string sb, .bool se, .int .u16 sr, .bool ti, .int .i64 tm, .slice ea el ec, .int .i64 tk, .string tb, .int .u8 kd, .slice aa al ac] 48) = w1) := hw1.symm
  have hlq := block_lt hq
  obtain ⟨d0, d1, d2, d3, d4, d5, d6, d7, d8, d9, d10, d11, d12, d13, d14, d15, d16, d17, d18, d19, d20, d21⟩ := req_cells hq
  clear hw1 hq hM hF hY
  go_enter Try.func11, Try.ntmps11
  go_upto_region 1 with fail
  rw [HW1.out]
  clear HW1
  go_wp2_with fail
  refine (rvalue_any tk tb _ HF.out.tok HY.out).mono ?_
  rintro r w2 ⟨ra, cp, rfl, HP, HB⟩
  have HB2 : Hid (Below w.heap.size w w2) := HB1.out.trans (HB.mono HB1.out.size)
  clear HB
  go_wp2_with fail
  go_ret2
  exact ⟨ra, cp, rfl, put_low HP.out HB1.out.size, HB2⟩

set_option maxHeartbeats 4000000 in
theorem xput_7 {w : World} {op : Int} {oa : Option Addr} {ol oc : Nat} {os : List (ByteArray × ByteArray)} {tx id : ByteArray} {co : Int} {a : Option Addr} {l c : Nat} {vs : List Vl} {na : Option Addr} {nl nc : Nat} {ns : List ByteArray} {sk pg : Bool} {pn : Int} {rs : Bool} {k1 : Int} {sb : ByteArray} {se : Bool} {sr : Int} {ti : Bool} {tm : Int} {ea : Option Addr} {el ec : Nat} {es : List ByteArray} {tk : Int} {tb : ByteArray} {kd : Int} {aa : Option Addr} {al ac : Nat} {ss : List St} (hM : RqM w oa ol oc a l c na nl nc ea el ec aa al ac (op, os, tx, id, (co, vs, ns, sk, pg, pn, rs, (k1, sb), se, sr, ti, tm), es, (tk, tb), kd, ss)) (hF : FitQ (op, os, tx, id, (co, vs, ns, sk, pg, pn, rs, (k1, sb), se, sr, ti, tm), es, (tk, tb), kd, ss)) (hol : ol ≤ 1048576) (hop : op = 7) {Y : BE} (hY : Y = seqB (longB tx) (runB false (co, vs, ns, sk, pg, pn, rs, (k1, sb), se, sr, ti, tm))) :
    Calls Try.prog 11 #[.agg #[.int .u8 op, .slice oa ol oc, .string tx, .string id, .int .u16 co, .slice a l c, .slice na nl nc, .bool sk, .bool pg, .int .i32 pn, .bool rs, .int .i64 k1, .string sb, .bool se, .int .u16 sr, .bool ti, .int .i64 tm, .slice ea el ec, .int .i64 tk, .string tb, .int .u8 kd, .slice aa al ac]] w fun r w' => ∃ ra cp, r = .returned (.tuple #[.slice ra Y.1.length cp, .int .i64 Y.2]) ∧ Hid (Put w' w.heap.size ra cp Y.1) ∧ Hid (Below w.heap.size w w') := by
  subst hop
  have HY : Hid (Y = seqB (longB tx) (runB false (co, vs, ns, sk, pg, pn, rs, (k1, sb), se, sr, ti, tm))) := hY
  have HM : Hid (RqM w oa ol oc a l c na nl nc ea el ec aa al ac (7, os, tx, id, (co, vs, ns, sk, pg, pn, rs, (k1, sb), se, sr, ti, tm), es, (tk, tb), kd, ss)) := hM
  have HF : Hid (FitQ (7, os, tx, id, (co, vs, ns, sk, pg, pn, rs, (k1, sb), se, sr, ti, tm), es, (tk, tb), kd, ss)) := hF
  have HC0 : Hid (16 + tx.size + id.size + costR (co, vs, ns, sk, pg, pn, rs, (k1, sb), se, sr, ti, tm) + costA ss ≤ 140737488351232) := hF.cost
  obtain ⟨w1, hw1⟩ : ∃ w1, w1 = w.alloc (.cells #[.int .u8 7, .slice oa ol oc, .string tx, .string id, .int .u16 co, .slice a l c, .slice na nl nc, .bool sk, .bool pg, .int .i32 pn, .bool rs, .int .i64 k1, .string sb, .bool se, .int .u16 sr, .bool ti, .int .i64 tm, .slice ea el ec, .int .i64 tk, .string tb, .int .u8 kd, .slice aa al ac] 48) := ⟨_, rfl⟩
  have HB1 : Hid (Below w.heap.size w w1) := by rw [hw1]; exact below_one _ _
  have hq : w1.heap[w.heap.size]? = some (.cells #[.int .u8 7, .slice oa ol oc, .string tx, .string id, .int .u16 co, .slice a l c, .slice na nl nc, .bool sk, .bool pg, .int .i32 pn, .bool rs, .int .i64 k1, .string sb, .bool se, .int .u16 sr, .bool ti, .int .i64 tm, .slice ea el ec, .int .i64 tk, .string tb, .int .u8 kd, .slice aa al ac] 48 (0, 0)) := by rw [hw1]; exact heap_alloc_new w _
  have HQ : Hid (w1.heap[w.heap.size]? = some (.cells #[.int .u8 7, .slice oa ol oc, .string tx, .string id, .int .u16 co, .slice a l c, .slice na nl nc, .bool sk, .bool pg, .int .i32 pn, .bool rs, .int .i64 k1, .string sb, .bool se, .int .u16 sr, .bool ti, .int .i64 tm, .slice ea el ec, .int .i64 tk, .string tb, .int .u8 kd, .slice aa al ac] 48 (0, 0))) := hq
  have HW1 : Hid (w.alloc (.cells #[.int .u8 7, .slice oa ol oc, .string tx, .string id, .int .u16 co, .slice a l c, .slice na nl nc, .bool sk, .bool pg, .int .i32 pn, .bool rs, .int .i64 k1, .string sb, .bool se, .int .u16 sr, .bool ti, .int .i64 tm, .slice ea el ec, .int .i64 tk, .string tb, .int .u8 kd, .slice aa al ac] 48) = w1) := hw1.symm
  have hlq := block_lt hq
  obtain ⟨d0, d1, d2, d3, d4, d5, d6, d7, d8, d9, d10, d11, d12, d13, d14, d15, d16, d17, d18, d19, d20, d21⟩ := req_cells hq
  clear hw1 hq hM hF hY
  go_enter Try.func11, Try.ntmps11
  go_upto_region 1 with fail
  rw [HW1.out]
  clear HW1
  obtain ⟨Q, hQ⟩ : ∃ Q, Q = runB false (co, vs, ns, sk, pg, pn, rs, (k1, sb), se, sr, ti, tm) := ⟨_, rfl⟩
  have HQL : Hid (Q.1.length ≤ costR (co, vs, ns, sk, pg, pn, rs, (k1, sb), se, sr, ti, tm)) := by show _ ≤ _; rw [hQ]; exact runB_len _ _
  have HQE : Hid (Q = runB false (co, vs, ns, sk, pg, pn, rs, (k1, sb), se, sr, ti, tm)) := hQ
  clear hQ
  go_wp2_with fail
  refine (rrun_any false (HM.out.vals.old stays_vr HB1.out) (HM.out.names.old stays_s HB1.out) HM.out.cons HM.out.serial HM.out.page HM.out.time HF.out.run.1 HF.out.run.2.1 HF.out.run.2.2 (show costR (co, vs, ns, sk, pg, pn, rs, (k1, sb), se, sr, ti, tm) ≤ 140737488351232 by have := HC0.out; omega) HQE.out).mono ?_
  rintro r w2 ⟨qa, qc, rfl, HPQ, HBQ⟩
  have HB2 : Hid (Below w.heap.size w w2) := HB1.out.trans (HBQ.out.mono HB1.out.size)
  have hq2 := (HBQ.out.block _ hlq).trans HQ.out
  clear d0 d1 d2 d3 d4 d5 d6 d7 d8 d9 d10 d11 d12 d13 d14 d15 d16 d17 d18 d19 d20 d21
  obtain ⟨d0, d1, d2, d3, d4, d5, d6, d7, d8, d9, d10, d11, d12, d13, d14, d15, d16, d17, d18, d19, d20, d21⟩ := req_cells hq2
  have hlq2 := block_lt hq2
  obtain ⟨nq, hnq⟩ : ∃ nq, nq = Q.1.length := ⟨_, rfl⟩
  obtain ⟨eq, heq⟩ : ∃ eq, eq = Q.2 := ⟨_, rfl⟩
  rw [← hnq, ← heq]
  have HIQ : Hid (IsB w2 qa nq qc Q.1) := by rw [hnq]; exact HPQ.out.2
  have HNQ : Hid (nq = Q.1.length) := hnq
  have HEQ : Hid (eq = Q.2) := heq
  clear hq2 hlq hnq heq HPQ
  go_wp2_with fail
  refine (rlong_put tx _ (by have := HC0.out; omega)).mono ?_
  rintro r w3 ⟨ra, cp, rfl, HP3, HB23⟩
  have HB23 : Hid (Below w2.heap.size w2 w3) := HB23
  have HB3 : Hid (Below w.heap.size w w3) := HB2.out.trans (HB23.out.mono HB2.out.size)
  obtain ⟨n, hn⟩ : ∃ n, n = (longB tx).1.length := ⟨_, rfl⟩
  rw [← hn]
  have HI3 : Hid (IsB w3 ra n cp (longB tx).1) := by rw [hn]; exact HP3.out.2
  have HIQ3 : Hid (IsB w3 qa nq qc Q.1) := HIQ.out.old HB23.out
  have HBDJ : Hid (n + nq ≤ 140737488355328) := by
    have h1 : (longB tx).1.length = 4 + tx.size := by unfold longB; simp only [List.length_append, putL_length, sNums_length]
    have h2 := HQL.out
    have h3 := HC0.out
    have h4 := HNQ.out
    show _ ≤ _
    omega
  have HJ : Hid (Y = seqB ((longB tx).1, 0) (Q.1, eq)) := by
    show _ = _
    rw [HY.out, HEQ.out, ← HQE.out]; rfl
  clear hn HP3
  go_wp2_with fail
  refine (join_any HI3.out HIQ3.out HBDJ.out HJ.out).mono ?_
  rintro r w4 ⟨ja, jc, rfl, HP4, HB4⟩
  have HB4 : Hid (Below w.heap.size w w4) := HB3.out.trans (HB4.mono HB3.out.size)
  go_wp2_with fail
  go_ret2
  exact ⟨ja, jc, rfl, put_low HP4.out HB3.out.size, HB4⟩

theorem rshort_any (s : ByteArray) (w : World) (hm : s.size ≤ maxLen) {B : BE} (hB : B = textB s) :
    Calls Try.prog 31 #[.string s] w fun e w' => ∃ a cp, e = .returned (.tuple #[.slice a B.1.length cp, .int .i64 B.2]) ∧ Hid (Put w' w.heap.size a cp B.1) ∧ Below w.heap.size w w' := by
  have HB : Hid (B = textB s) := hB
  have HM : Hid (s.size ≤ maxLen) := hm
  clear hB hm
  go_enter Try.func31, Try.ntmps31
  go_wp2_with fail
  refine (rtext_any s _ HM.out HB.out).mono ?_
  rintro e w1 ⟨a, cp, rfl, HP, HB1⟩
  have HB1 : Hid (Below w.heap.size w w1) := HB1
  go_wp2_with fail
  go_ret2
  exact ⟨a, cp, rfl, HP, HB1.out⟩

set_option maxHeartbeats 4000000 in
theorem xput_10 {w : World} {op : Int} {oa : Option Addr} {ol oc : Nat} {os : List (ByteArray × ByteArray)} {tx id : ByteArray} {co : Int} {a : Option Addr} {l c : Nat} {vs : List Vl} {na : Option Addr} {nl nc : Nat} {ns : List ByteArray} {sk pg : Bool} {pn : Int} {rs : Bool} {k1 : Int} {sb : ByteArray} {se : Bool} {sr : Int} {ti : Bool} {tm : Int} {ea : Option Addr} {el ec : Nat} {es : List ByteArray} {tk : Int} {tb : ByteArray} {kd : Int} {aa : Option Addr} {al ac : Nat} {ss : List St} (hM : RqM w oa ol oc a l c na nl nc ea el ec aa al ac (op, os, tx, id, (co, vs, ns, sk, pg, pn, rs, (k1, sb), se, sr, ti, tm), es, (tk, tb), kd, ss)) (hF : FitQ (op, os, tx, id, (co, vs, ns, sk, pg, pn, rs, (k1, sb), se, sr, ti, tm), es, (tk, tb), kd, ss)) (hol : ol ≤ 1048576) (hop : op = 10) {Y : BE} (hY : Y = seqB (textB id) (runB false (co, vs, ns, sk, pg, pn, rs, (k1, sb), se, sr, ti, tm))) :
    Calls Try.prog 11 #[.agg #[.int .u8 op, .slice oa ol oc, .string tx, .string id, .int .u16 co, .slice a l c, .slice na nl nc, .bool sk, .bool pg, .int .i32 pn, .bool rs, .int .i64 k1, .string sb, .bool se, .int .u16 sr, .bool ti, .int .i64 tm, .slice ea el ec, .int .i64 tk, .string tb, .int .u8 kd, .slice aa al ac]] w fun r w' => ∃ ra cp, r = .returned (.tuple #[.slice ra Y.1.length cp, .int .i64 Y.2]) ∧ Hid (Put w' w.heap.size ra cp Y.1) ∧ Hid (Below w.heap.size w w') := by
  subst hop
  have HY : Hid (Y = seqB (textB id) (runB false (co, vs, ns, sk, pg, pn, rs, (k1, sb), se, sr, ti, tm))) := hY
  have HM : Hid (RqM w oa ol oc a l c na nl nc ea el ec aa al ac (10, os, tx, id, (co, vs, ns, sk, pg, pn, rs, (k1, sb), se, sr, ti, tm), es, (tk, tb), kd, ss)) := hM
  have HF : Hid (FitQ (10, os, tx, id, (co, vs, ns, sk, pg, pn, rs, (k1, sb), se, sr, ti, tm), es, (tk, tb), kd, ss)) := hF
  have HC0 : Hid (16 + tx.size + id.size + costR (co, vs, ns, sk, pg, pn, rs, (k1, sb), se, sr, ti, tm) + costA ss ≤ 140737488351232) := hF.cost
  obtain ⟨w1, hw1⟩ : ∃ w1, w1 = w.alloc (.cells #[.int .u8 10, .slice oa ol oc, .string tx, .string id, .int .u16 co, .slice a l c, .slice na nl nc, .bool sk, .bool pg, .int .i32 pn, .bool rs, .int .i64 k1, .string sb, .bool se, .int .u16 sr, .bool ti, .int .i64 tm, .slice ea el ec, .int .i64 tk, .string tb, .int .u8 kd, .slice aa al ac] 48) := ⟨_, rfl⟩
  have HB1 : Hid (Below w.heap.size w w1) := by rw [hw1]; exact below_one _ _
  have hq : w1.heap[w.heap.size]? = some (.cells #[.int .u8 10, .slice oa ol oc, .string tx, .string id, .int .u16 co, .slice a l c, .slice na nl nc, .bool sk, .bool pg, .int .i32 pn, .bool rs, .int .i64 k1, .string sb, .bool se, .int .u16 sr, .bool ti, .int .i64 tm, .slice ea el ec, .int .i64 tk, .string tb, .int .u8 kd, .slice aa al ac] 48 (0, 0)) := by rw [hw1]; exact heap_alloc_new w _
  have HQ : Hid (w1.heap[w.heap.size]? = some (.cells #[.int .u8 10, .slice oa ol oc, .string tx, .string id, .int .u16 co, .slice a l c, .slice na nl nc, .bool sk, .bool pg, .int .i32 pn, .bool rs, .int .i64 k1, .string sb, .bool se, .int .u16 sr, .bool ti, .int .i64 tm, .slice ea el ec, .int .i64 tk, .string tb, .int .u8 kd, .slice aa al ac] 48 (0, 0))) := hq
  have HW1 : Hid (w.alloc (.cells #[.int .u8 10, .slice oa ol oc, .string tx, .string id, .int .u16 co, .slice a l c, .slice na nl nc, .bool sk, .bool pg, .int .i32 pn, .bool rs, .int .i64 k1, .string sb, .bool se, .int .u16 sr, .bool ti, .int .i64 tm, .slice ea el ec, .int .i64 tk, .string tb, .int .u8 kd, .slice aa al ac] 48) = w1) := hw1.symm
  have hlq := block_lt hq
  obtain ⟨d0, d1, d2, d3, d4, d5, d6, d7, d8, d9, d10, d11, d12, d13, d14, d15, d16, d17, d18, d19, d20, d21⟩ := req_cells hq
  clear hw1 hq hM hF hY
  go_enter Try.func11, Try.ntmps11
  go_upto_region 1 with fail
  rw [HW1.out]
  clear HW1
  obtain ⟨B, hB⟩ : ∃ B, B = textB id := ⟨_, rfl⟩
  have HBE : Hid (B = textB id) := hB
  have HBL : Hid (B.1.length ≤ id.size + 2) := by show _ ≤ _; rw [hB]; exact textB_len2 id
  obtain ⟨Q, hQ⟩ : ∃ Q, Q = runB false (co, vs, ns, sk, pg, pn, rs, (k1, sb), se, sr, ti, tm) := ⟨_, rfl⟩
  have HQL : Hid (Q.1.length ≤ costR (co, vs, ns, sk, pg, pn, rs, (k1, sb), se, sr, ti, tm)) := by show _ ≤ _; rw [hQ]; exact runB_len _ _
  have HQE : Hid (Q = runB false (co, vs, ns, sk, pg, pn, rs, (k1, sb), se, sr, ti, tm)) := hQ
  clear hQ hB
  go_wp2_with fail
  refine (rshort_any id _ (by have := HC0.out; unfold maxLen; omega) HBE.out).mono ?_
  rintro r w2 ⟨ia, ic, rfl, HP2, HB12⟩
  have HB12 : Hid (Below w1.heap.size w1 w2) := HB12
  have HB2 : Hid (Below w.heap.size w w2) := HB1.out.trans (HB12.out.mono HB1.out.size)
  have hq2 := (HB12.out.block _ hlq).trans HQ.out
  clear d0 d1 d2 d3 d4 d5 d6 d7 d8 d9 d10 d11 d12 d13 d14 d15 d16 d17 d18 d19 d20 d21
  obtain ⟨d0, d1, d2, d3, d4, d5, d6, d7, d8, d9, d10, d11, d12, d13, d14, d15, d16, d17, d18, d19, d20, d21⟩ := req_cells hq2
  have hlq2 := block_lt hq2
  obtain ⟨n, hn⟩ : ∃ n, n = B.1.length := ⟨_, rfl⟩
  obtain ⟨eb, heb⟩ : ∃ eb, eb = B.2 := ⟨_, rfl⟩
  rw [← hn, ← heb]
  have HI2 : Hid (IsB w2 ia n ic B.1) := by rw [hn]; exact HP2.out.2
  have HN : Hid (n = B.1.length) := hn
  have HEB : Hid (eb = B.2) := heb
  clear hn heb hq2 hlq HP2
  by_cases he : eb = 0
  · subst he
    go_wp2_with fail
    refine (rrun_any false (HM.out.vals.old stays_vr HB2.out) (HM.out.names.old stays_s HB2.out) HM.out.cons HM.out.serial HM.out.page HM.out.time HF.out.run.1 HF.out.run.2.1 HF.out.run.2.2 (show costR (co, vs, ns, sk, pg, pn, rs, (k1, sb), se, sr, ti, tm) ≤ 140737488351232 by have := HC0.out; omega) HQE.out).mono ?_
    rintro r w3 ⟨qa, qc, rfl, HPQ, HB23⟩
    have HB3 : Hid (Below w.heap.size w w3) := HB2.out.trans (HB23.out.mono HB2.out.size)
    obtain ⟨nq, hnq⟩ : ∃ nq, nq = Q.1.length := ⟨_, rfl⟩
    obtain ⟨eq, heq⟩ : ∃ eq, eq = Q.2 := ⟨_, rfl⟩
    rw [← hnq, ← heq]
    have HIQ : Hid (IsB w3 qa nq qc Q.1) := by rw [hnq]; exact HPQ.out.2
    have HI3 : Hid (IsB w3 ia n ic B.1) := HI2.out.old HB23.out
    have HBDJ : Hid (n + nq ≤ 140737488355328) := by
      have h1 := HBL.out
      have h2 := HQL.out
      have h3 := HC0.out
      have h4 := HN.out
      show _ ≤ _
      omega
    have HJ : Hid (Y = seqB (B.1, 0) (Q.1, eq)) := by
      show _ = _
      have e1 : (0 : Int) = B.2 := HEB.out
      rw [HY.out, heq, ← HQE.out, e1, ← HBE.out]
    clear hnq heq HPQ
    go_wp2_with fail
    refine (join_any HI3.out HIQ.out HBDJ.out HJ.out).mono ?_
    rintro r w4 ⟨ja, jc, rfl, HP4, HB4⟩
    have HB4 : Hid (Below w.heap.size w w4) := HB3.out.trans (HB4.mono HB3.out.size)
    go_wp2_with fail
    go_ret2
    exact ⟨ja, jc, rfl, put_low HP4.out HB3.out.size, HB4⟩
  · have t : (eb != 0) = true := by simpa using he
    have t' : (eb == 0) = false := by simpa using he
    have HE : Hid (Y = ([], eb)) := by
      show _ = _
      have hb : B.2 ≠ 0 := by rw [← HEB.out]; exact he
      rw [HY.out, ← HBE.out, seqB_err _ hb, HEB.out]
    clear he
    go_wp2_with fail
    go_ret2
    exact ⟨none, 0, by rw [HE.out]; rfl, by rw [HE.out]; exact put_nil _ _, HB2⟩

set_option maxHeartbeats 4000000 in
theorem xput_no {w : World} {op : Int} {oa : Option Addr} {ol oc : Nat} {os : List (ByteArray × ByteArray)} {tx id : ByteArray} {co : Int} {a : Option Addr} {l c : Nat} {vs : List Vl} {na : Option Addr} {nl nc : Nat} {ns : List ByteArray} {sk pg : Bool} {pn : Int} {rs : Bool} {k1 : Int} {sb : ByteArray} {se : Bool} {sr : Int} {ti : Bool} {tm : Int} {ea : Option Addr} {el ec : Nat} {es : List ByteArray} {tk : Int} {tb : ByteArray} {kd : Int} {aa : Option Addr} {al ac : Nat} {ss : List St} (hM : RqM w oa ol oc a l c na nl nc ea el ec aa al ac (op, os, tx, id, (co, vs, ns, sk, pg, pn, rs, (k1, sb), se, sr, ti, tm), es, (tk, tb), kd, ss)) (hF : FitQ (op, os, tx, id, (co, vs, ns, sk, pg, pn, rs, (k1, sb), se, sr, ti, tm), es, (tk, tb), kd, ss)) (hol : ol ≤ 1048576) (h1 : op ≠ 1) (h5 : op ≠ 5) (h7 : op ≠ 7) (h9 : op ≠ 9) (h10 : op ≠ 10) (h11 : op ≠ 11) (h13 : op ≠ 13) (h15 : op ≠ 15) {Y : BE} (hY : Y = (([], 22) : BE)) :
    Calls Try.prog 11 #[.agg #[.int .u8 op, .slice oa ol oc, .string tx, .string id, .int .u16 co, .slice a l c, .slice na nl nc, .bool sk, .bool pg, .int .i32 pn, .bool rs, .int .i64 k1, .string sb, .bool se, .int .u16 sr, .bool ti, .int .i64 tm, .slice ea el ec, .int .i64 tk, .string tb, .int .u8 kd, .slice aa al ac]] w fun r w' => ∃ ra cp, r = .returned (.tuple #[.slice ra Y.1.length cp, .int .i64 Y.2]) ∧ Hid (Put w' w.heap.size ra cp Y.1) ∧ Hid (Below w.heap.size w w') := by
  have HY : Hid (Y = (([], 22) : BE)) := hY
  have HM : Hid (RqM w oa ol oc a l c na nl nc ea el ec aa al ac (op, os, tx, id, (co, vs, ns, sk, pg, pn, rs, (k1, sb), se, sr, ti, tm), es, (tk, tb), kd, ss)) := hM
  have HF : Hid (FitQ (op, os, tx, id, (co, vs, ns, sk, pg, pn, rs, (k1, sb), se, sr, ti, tm), es, (tk, tb), kd, ss)) := hF
  have HC0 : Hid (16 + tx.size + id.size + costR (co, vs, ns, sk, pg, pn, rs, (k1, sb), se, sr, ti, tm) + costA ss ≤ 140737488351232) := hF.cost
  obtain ⟨w1, hw1⟩ : ∃ w1, w1 = w.alloc (.cells #[.int .u8 op, .slice oa ol oc, .string tx, .string id, .int .u16 co, .slice a l c, .slice na nl nc, .bool sk, .bool pg, .int .i32 pn, .bool rs, .int .i64 k1, .string sb, .bool se, .int .u16 sr, .bool ti, .int .i64 tm, .slice ea el ec, .int .i64 tk, .string tb, .int .u8 kd, .slice aa al ac] 48) := ⟨_, rfl⟩
  have HB1 : Hid (Below w.heap.size w w1) := by rw [hw1]; exact below_one _ _
  have hq : w1.heap[w.heap.size]? = some (.cells #[.int .u8 op, .slice oa ol oc, .string tx, .string id, .int .u16 co, .slice a l c, .slice na nl nc, .bool sk, .bool pg, .int .i32 pn, .bool rs, .int .i64 k1, .string sb, .bool se, .int .u16 sr, .bool ti, .int .i64 tm, .slice ea el ec, .int .i64 tk, .string tb, .int .u8 kd, .slice aa al ac] 48 (0, 0)) := by rw [hw1]; exact heap_alloc_new w _
  have HQ : Hid (w1.heap[w.heap.size]? = some (.cells #[.int .u8 op, .slice oa ol oc, .string tx, .string id, .int .u16 co, .slice a l c, .slice na nl nc, .bool sk, .bool pg, .int .i32 pn, .bool rs, .int .i64 k1, .string sb, .bool se, .int .u16 sr, .bool ti, .int .i64 tm, .slice ea el ec, .int .i64 tk, .string tb, .int .u8 kd, .slice aa al ac] 48 (0, 0))) := hq
  have HW1 : Hid (w.alloc (.cells #[.int .u8 op, .slice oa ol oc, .string tx, .string id, .int .u16 co, .slice a l c, .slice na nl nc, .bool sk, .bool pg, .int .i32 pn, .bool rs, .int .i64 k1, .string sb, .bool se, .int .u16 sr, .bool ti, .int .i64 tm, .slice ea el ec, .int .i64 tk, .string tb, .int .u8 kd, .slice aa al ac] 48) = w1) := hw1.symm
  have hlq := block_lt hq
  obtain ⟨d0, d1, d2, d3, d4, d5, d6, d7, d8, d9, d10, d11, d12, d13, d14, d15, d16, d17, d18, d19, d20, d21⟩ := req_cells hq
  clear hw1 hq hM hF hY
  go_enter Try.func11, Try.ntmps11
  go_upto_region 1 with fail
  rw [HW1.out]
  clear HW1
  have t1 : (op == 1) = false := by simpa using h1
  have t5 : (op == 5) = false := by simpa using h5
  have t7 : (op == 7) = false := by simpa using h7
  have t9 : (op == 9) = false := by simpa using h9
  have t10 : (op == 10) = false := by simpa using h10
  have t11 : (op == 11) = false := by simpa using h11
  have t13 : (op == 13) = false := by simpa using h13
  have t15 : (op == 15) = false := by simpa using h15
  clear h1 h5 h7 h9 h10 h11 h13 h15
  go_wp2_with fail
  go_ret2
  exact ⟨none, 0, by rw [HY.out]; rfl, by rw [HY.out]; exact put_nil _ _, HB1⟩
end Go.Proofs.Ytcecdklgiocbaaa
