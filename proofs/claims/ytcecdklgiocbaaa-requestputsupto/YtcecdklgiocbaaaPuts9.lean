/-
  RequestPuts walked, but for requestOf, whose contract (ReqOf) is a premise here: it answers true, and turns nothing that was there.
-/
import Derived.Test.YtcecdklgiocbaaaSlight8
import Derived.Test.YtcecdklgiocbaaaAwake8
import Derived.Test.YtcecdklgiocbaaaRefZ8
namespace Go.Proofs.Ytcecdklgiocbaaa
open Go.RowKit
set_option maxRecDepth 100000
set_option linter.unusedVariables false
set_option linter.unusedSimpArgs false

/-- What requestOf answers: the request as the document's model has it. -/
def ReqOf : Prop := ∀ {w : World} {op : Int} {oa : Option Addr} {ol oc : Nat} {os : List (ByteArray × ByteArray)} {tx : ByteArray} {ia : Option Addr} {il ic : Nat} {id : ByteArray} {co : Int} {a : Option Addr} {l c : Nat} {vs : List Vl} {na : Option Addr} {nl nc : Nat} {ns : List ByteArray} {sk pg : Bool} {pn : Int} {rs : Bool} {sk1 : Int} {sb : ByteArray} {sa : Option Addr} {sl sc : Nat} {se : Bool} {sr : Int} {ti : Bool} {tm : Int} {ea : Option Addr} {el ec : Nat} {es : List ByteArray} {tk : Int} {tb : ByteArray} {ta : Option Addr} {tl tc : Nat} {kd : Int} {aa : Option Addr} {al ac : Nat} {ss : List St} (hR : RqAt w oa ol oc ia il ic a l c na nl nc sa sl sc ea el ec ta tl tc aa al ac (op, os, tx, id, (co, vs, ns, sk, pg, pn, rs, (sk1, sb), se, sr, ti, tm), es, (tk, tb), kd, ss)) (hS : Sm (op, os, tx, id, (co, vs, ns, sk, pg, pn, rs, (sk1, sb), se, sr, ti, tm), es, (tk, tb), kd, ss)),
    Calls Try.prog 12 #[.agg #[.int .u8 op, .slice oa ol oc, .string tx, .slice ia il ic, .int .u16 co, .slice a l c, .slice na nl nc, .bool sk, .bool pg, .int .i32 pn, .bool rs, .int .i64 sk1, .slice sa sl sc, .bool se, .int .u16 sr, .bool ti, .int .i64 tm, .slice ea el ec, .int .i64 tk, .slice ta tl tc, .int .u8 kd, .slice aa al ac]] w fun r w' => ∃ (oa9 : Option Addr) (ol9 oc9 : Nat) (a9 : Option Addr) (l9 c9 : Nat) (na9 : Option Addr) (nl9 nc9 : Nat) (ea9 : Option Addr) (el9 ec9 : Nat) (aa9 : Option Addr) (al9 ac9 : Nat), r = .returned (.agg #[.int .u8 op, .slice oa9 ol9 oc9, .string tx, .string id, .int .u16 co, .slice a9 l9 c9, .slice na9 nl9 nc9, .bool sk, .bool pg, .int .i32 pn, .bool rs, .int .i64 sk1, .string sb, .bool se, .int .u16 sr, .bool ti, .int .i64 tm, .slice ea9 el9 ec9, .int .i64 tk, .string tb, .int .u8 kd, .slice aa9 al9 ac9]) ∧ Hid (RqM w' oa9 ol9 oc9 a9 l9 c9 na9 nl9 nc9 ea9 el9 ec9 aa9 al9 ac9 (op, os, tx, id, (co, vs, ns, sk, pg, pn, rs, (sk1, sb), se, sr, ti, tm), es, (tk, tb), kd, ss)) ∧ Hid (Below w.heap.size w w')

set_option maxHeartbeats 16000000 in
theorem puts_walk (hReq : ReqOf) {w : World} {op : Int} {oa : Option Addr} {ol oc : Nat} {os : List (ByteArray × ByteArray)} {tx : ByteArray} {ia : Option Addr} {il ic : Nat} {id : ByteArray} {co : Int} {a : Option Addr} {l c : Nat} {vs : List Vl} {na : Option Addr} {nl nc : Nat} {ns : List ByteArray} {sk pg : Bool} {pn : Int} {rs : Bool} {sk1 : Int} {sb : ByteArray} {sa : Option Addr} {sl sc : Nat} {se : Bool} {sr : Int} {ti : Bool} {tm : Int} {ea : Option Addr} {el ec : Nat} {es : List ByteArray} {tk : Int} {tb : ByteArray} {ta : Option Addr} {tl tc : Nat} {kd : Int} {aa : Option Addr} {al ac : Nat} {ss : List St} (hR : RqAt w oa ol oc ia il ic a l c na nl nc sa sl sc ea el ec ta tl tc aa al ac (op, os, tx, id, (co, vs, ns, sk, pg, pn, rs, (sk1, sb), se, sr, ti, tm), es, (tk, tb), kd, ss)) (hS : Sm (op, os, tx, id, (co, vs, ns, sk, pg, pn, rs, (sk1, sb), se, sr, ti, tm), es, (tk, tb), kd, ss)) :
    Calls Try.prog 3 #[.agg #[.int .u8 op, .slice oa ol oc, .string tx, .slice ia il ic, .int .u16 co, .slice a l c, .slice na nl nc, .bool sk, .bool pg, .int .i32 pn, .bool rs, .int .i64 sk1, .slice sa sl sc, .bool se, .int .u16 sr, .bool ti, .int .i64 tm, .slice ea el ec, .int .i64 tk, .slice ta tl tc, .int .u8 kd, .slice aa al ac]] w fun e w' => e = .returned (.bool true) ∧ Below w.heap.size w w' := by
  have HREQ : Hid ReqOf := hReq
  clear hReq
  have HR : Hid (RqAt w oa ol oc ia il ic a l c na nl nc sa sl sc ea el ec ta tl tc aa al ac (op, os, tx, id, (co, vs, ns, sk, pg, pn, rs, (sk1, sb), se, sr, ti, tm), es, (tk, tb), kd, ss)) := hR
  have HS : Hid (Sm (op, os, tx, id, (co, vs, ns, sk, pg, pn, rs, (sk1, sb), se, sr, ti, tm), es, (tk, tb), kd, ss)) := hS
  have HOP : Hid (0 ≤ op ∧ op ≤ 255) := hR.op
  obtain ⟨w1, hw1⟩ : ∃ w1, w1 = w.alloc (.cells #[.int .u8 op, .slice oa ol oc, .string tx, .slice ia il ic, .int .u16 co, .slice a l c, .slice na nl nc, .bool sk, .bool pg, .int .i32 pn, .bool rs, .int .i64 sk1, .slice sa sl sc, .bool se, .int .u16 sr, .bool ti, .int .i64 tm, .slice ea el ec, .int .i64 tk, .slice ta tl tc, .int .u8 kd, .slice aa al ac] 33) := ⟨_, rfl⟩
  have hB1 : Below w.heap.size w w1 := by rw [hw1]; exact below_one _ _
  have HB1 : Hid (Below w.heap.size w w1) := hB1
  have hq : w1.heap[w.heap.size]? = some (.cells #[.int .u8 op, .slice oa ol oc, .string tx, .slice ia il ic, .int .u16 co, .slice a l c, .slice na nl nc, .bool sk, .bool pg, .int .i32 pn, .bool rs, .int .i64 sk1, .slice sa sl sc, .bool se, .int .u16 sr, .bool ti, .int .i64 tm, .slice ea el ec, .int .i64 tk, .slice ta tl tc, .int .u8 kd, .slice aa al ac] 33 (0, 0)) := by rw [hw1]; exact heap_alloc_new w _
  have HQ : Hid (w1.heap[w.heap.size]? = some (.cells #[.int .u8 op, .slice oa ol oc, .string tx, .slice ia il ic, .int .u16 co, .slice a l c, .slice na nl nc, .bool sk, .bool pg, .int .i32 pn, .bool rs, .int .i64 sk1, .slice sa sl sc, .bool se, .int .u16 sr, .bool ti, .int .i64 tm, .slice ea el ec, .int .i64 tk, .slice ta tl tc, .int .u8 kd, .slice aa al ac] 33 (0, 0))) := hq
  have HW1 : Hid (w.alloc (.cells #[.int .u8 op, .slice oa ol oc, .string tx, .slice ia il ic, .int .u16 co, .slice a l c, .slice na nl nc, .bool sk, .bool pg, .int .i32 pn, .bool rs, .int .i64 sk1, .slice sa sl sc, .bool se, .int .u16 sr, .bool ti, .int .i64 tm, .slice ea el ec, .int .i64 tk, .slice ta tl tc, .int .u8 kd, .slice aa al ac] 33) = w1) := hw1.symm
  clear hR hS hw1 hB1 hq
  go_enter Try.func3, Try.ntmps3
  go_upto_region 1 with fail
  rw [HW1.out]
  clear HW1
  go_wp2_with fail
  refine (awake_any _).mono ?_
  rintro e w2 ⟨rfl, HB12⟩
  have HB2 : Hid (Below w.heap.size w w2) := HB1.out.trans (HB12.out.mono HB1.out.size)
  have HQ2 : Hid (w2.heap[w.heap.size]? = some (.cells #[.int .u8 op, .slice oa ol oc, .string tx, .slice ia il ic, .int .u16 co, .slice a l c, .slice na nl nc, .bool sk, .bool pg, .int .i32 pn, .bool rs, .int .i64 sk1, .slice sa sl sc, .bool se, .int .u16 sr, .bool ti, .int .i64 tm, .slice ea el ec, .int .i64 tk, .slice ta tl tc, .int .u8 kd, .slice aa al ac] 33 (0, 0))) := (HB12.out.block _ (block_lt HQ.out)).trans HQ.out
  clear HQ HB1 HB12
  go_wp2_with (refine wpList_load_row rfl 33 (.tmp 1) rfl rfl HQ2.out Try.isz33 Try.agg33 ?_)
  refine (slight_any (HR.out.old HB2.out) HS.out).mono ?_
  rintro e w3 ⟨sb0, rfl, HSL, HB23⟩
  have HB3 : Hid (Below w.heap.size w w3) := HB2.out.trans (HB23.out.mono HB2.out.size)
  have HQ3 : Hid (w3.heap[w.heap.size]? = some (.cells #[.int .u8 op, .slice oa ol oc, .string tx, .slice ia il ic, .int .u16 co, .slice a l c, .slice na nl nc, .bool sk, .bool pg, .int .i32 pn, .bool rs, .int .i64 sk1, .slice sa sl sc, .bool se, .int .u16 sr, .bool ti, .int .i64 tm, .slice ea el ec, .int .i64 tk, .slice ta tl tc, .int .u8 kd, .slice aa al ac] 33 (0, 0))) := (HB23.out.block _ (block_lt HQ2.out)).trans HQ2.out
  clear HQ2 HB2 HB23
  cases sb0
  case false =>
    go_wp2_with fail
    go_ret
    exact ⟨rfl, HB3.out⟩
  case true =>
  have HF : Hid (FitQ (op, os, tx, id, (co, vs, ns, sk, pg, pn, rs, (sk1, sb), se, sr, ti, tm), es, (tk, tb), kd, ss)) := fit_sm HS.out (HSL.out rfl)
  obtain ⟨Y, hY⟩ : ∃ Y, Y = putB (op, os, tx, id, (co, vs, ns, sk, pg, pn, rs, (sk1, sb), se, sr, ti, tm), es, (tk, tb), kd, ss) := ⟨_, rfl⟩
  have HY : Hid (Y = putB (op, os, tx, id, (co, vs, ns, sk, pg, pn, rs, (sk1, sb), se, sr, ti, tm), es, (tk, tb), kd, ss)) := hY
  clear hY HSL
  go_wp2_with (refine wpList_load_row rfl 33 (.tmp 1) rfl rfl HQ3.out Try.isz33 Try.agg33 ?_)
  refine (put_any (HR.out.old HB3.out) HF.out HY.out).mono ?_
  rintro e w4 ⟨ya, yc, rfl, HP4, HB34⟩
  have HB4 : Hid (Below w.heap.size w w4) := HB3.out.trans (HB34.out.mono HB3.out.size)
  have HQ4 : Hid (w4.heap[w.heap.size]? = some (.cells #[.int .u8 op, .slice oa ol oc, .string tx, .slice ia il ic, .int .u16 co, .slice a l c, .slice na nl nc, .bool sk, .bool pg, .int .i32 pn, .bool rs, .int .i64 sk1, .slice sa sl sc, .bool se, .int .u16 sr, .bool ti, .int .i64 tm, .slice ea el ec, .int .i64 tk, .slice ta tl tc, .int .u8 kd, .slice aa al ac] 33 (0, 0))) := (HB34.out.block _ (block_lt HQ3.out)).trans HQ3.out
  obtain ⟨X, e0⟩ := Y
  obtain ⟨L, hL⟩ : ∃ L, L = X.length := ⟨_, rfl⟩
  have HL : Hid (L = X.length) := hL
  have HX4 : Hid (IsB w4 ya L yc X) := by
    have := HP4.out.2
    rw [hL]; exact this
  simp only [← hL]
  clear hL HP4 HQ3 HB3 HB34
  go_wp2_with (refine wpList_load_row rfl 33 (.tmp 1) rfl rfl HQ4.out Try.isz33 Try.agg33 ?_)
  refine (HREQ.out (HR.out.old HB4.out) HS.out).mono ?_
  rintro e w5 ⟨oa9, ol9, oc9, a9, l9, c9, na9, nl9, nc9, ea9, el9, ec9, aa9, al9, ac9, rfl, HM5, HB45⟩
  have hol : ol9 ≤ 1048576 := by
    have h1 := HM5.out.opts.1
    rw [List.length_map] at h1
    have h2 := HS.out.lens.1
    rw [← h1]; exact h2
  have HOL : Hid (ol9 ≤ 1048576) := hol
  clear hol
  go_wp2_with fail
  refine (xput_any HM5.out HF.out HOL.out HY.out).mono ?_
  rintro e w6 ⟨ca, cc, rfl, HP6, HB56⟩
  have HB46 : Hid (Below w4.heap.size w4 w6) := HB45.out.trans (HB56.out.mono HB45.out.size)
  have HB6 : Hid (Below w.heap.size w w6) := HB4.out.trans (HB46.out.mono HB4.out.size)
  have hc1 : (convert 23 9 (.slice ya L yc)).run Try.prog w6 = .ok (.string (strOfNums X)) w6 := (HX4.out.old HB46.out).conv
  have hc2 : (convert 23 9 (.slice ca L cc)).run Try.prog w6 = .ok (.string (strOfNums X)) w6 := by
    have := HP6.out.2.conv
    rw [HL.out]; exact this
  simp only [← HL.out]
  go_wp2_with fail
  go_ret
  exact ⟨rfl, HB6.out⟩
end Go.Proofs.Ytcecdklgiocbaaa
