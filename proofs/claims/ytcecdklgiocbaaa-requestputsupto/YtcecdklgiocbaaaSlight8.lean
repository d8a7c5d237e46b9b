/-
  The law's own check that a request is small: what it says when it says yes.
-/
import Derived.Test.YtcecdklgiocbaaaFit8
namespace Go.Proofs.Ytcecdklgiocbaaa
open Go.RowKit
set_option maxRecDepth 100000
set_option linter.unusedVariables false
set_option linter.unusedSimpArgs false

theorem view_old_st {w W : World} {a : Option Addr} {len cap : Nat} {xs : List St} (h : View 4 VSt w a len cap xs) (hB : Below w.heap.size w W) : View 4 VSt W a len cap xs := by
  obtain ⟨h1, h2, h3, h4, h5⟩ := h
  refine ⟨h1, h2, h3, h4, fun hp => ?_⟩
  obtain ⟨b, off, ha, hb, hc⟩ := h5 hp
  refine ⟨b, off, ha, Nat.lt_of_lt_of_le hb hB.size, fun i hi => ?_⟩
  obtain ⟨c, hcell, hv0, hv1, ⟨a1, l1, c1, hv2, hI⟩, a2, l2, c2, hv3, hV⟩ := hc i hi
  exact ⟨c, fun j hj => (hB.cell (p := ⟨b, off + (i * 4 + j), none⟩) hb).trans (hcell j hj), hv0, hv1, ⟨a1, l1, c1, hv2, hI.old hB⟩, a2, l2, c2, hv3, hV.old stays_v hB⟩

theorem RqAt.old {w W : World} {oa : Option Addr} {ol oc : Nat} {ia : Option Addr} {il ic : Nat} {a : Option Addr} {l c : Nat} {na : Option Addr} {nl nc : Nat} {sa : Option Addr} {sl sc : Nat} {ea : Option Addr} {el ec : Nat} {ta : Option Addr} {tl tc : Nat} {aa : Option Addr} {al ac : Nat} {r : Rq}
    (h : RqAt w oa ol oc ia il ic a l c na nl nc sa sl sc ea el ec ta tl tc aa al ac r) (hB : Below w.heap.size w W) : RqAt W oa ol oc ia il ic a l c na nl nc sa sl sc ea el ec ta tl tc aa al ac r :=
  ⟨h.op, h.opts.old stays_p hB, h.id.old hB, ⟨h.run.vals.old stays_v hB, h.run.names.old stays_s hB, h.run.state.old hB, h.run.cons, h.run.serial, h.run.page, h.run.time⟩, h.evs.old stays_s hB, h.tok.old hB, h.kind, view_old_st h.all hB⟩


set_option maxHeartbeats 2000000 in
theorem slight_any {w : World} {op : Int} {oa : Option Addr} {ol oc : Nat} {os : List (ByteArray × ByteArray)} {tx : ByteArray} {ia : Option Addr} {il ic : Nat} {id : ByteArray} {co : Int} {a : Option Addr} {l c : Nat} {vs : List Vl} {na : Option Addr} {nl nc : Nat} {ns : List ByteArray} {sk pg : Bool} {pn : Int} {rs : Bool} {sk1 : Int} {sb : ByteArray} {sa : Option Addr} {sl sc : Nat} {se : Bool} {sr : Int} {ti : Bool} {tm : Int} {ea : Option Addr} {el ec : Nat} {es : List ByteArray} {tk : Int} {tb : ByteArray} {ta : Option Addr} {tl tc : Nat} {kd : Int} {aa : Option Addr} {al ac : Nat} {ss : List St} (hR : RqAt w oa ol oc ia il ic a l c na nl nc sa sl sc ea el ec ta tl tc aa al ac (op, os, tx, id, (co, vs, ns, sk, pg, pn, rs, (sk1, sb), se, sr, ti, tm), es, (tk, tb), kd, ss)) (hS : Sm (op, os, tx, id, (co, vs, ns, sk, pg, pn, rs, (sk1, sb), se, sr, ti, tm), es, (tk, tb), kd, ss)) :
    Calls Try.prog 9 #[.agg #[.int .u8 op, .slice oa ol oc, .string tx, .slice ia il ic, .int .u16 co, .slice a l c, .slice na nl nc, .bool sk, .bool pg, .int .i32 pn, .bool rs, .int .i64 sk1, .slice sa sl sc, .bool se, .int .u16 sr, .bool ti, .int .i64 tm, .slice ea el ec, .int .i64 tk, .slice ta tl tc, .int .u8 kd, .slice aa al ac]] w fun e w' => ∃ b : Bool, e = .returned (.bool b) ∧ Hid (b = true → Slight (op, os, tx, id, (co, vs, ns, sk, pg, pn, rs, (sk1, sb), se, sr, ti, tm), es, (tk, tb), kd, ss)) ∧ Hid (Below w.heap.size w w') := by
  have ho : ol ≤ 1048576 := by have := hS.lens.1; rw [← hR.opts.1]; exact this
  have hv : l ≤ 1048576 := by have := hS.lens.2.1; rw [← hR.run.vals.1]; exact this
  have hn : nl ≤ 1048576 := by have := hS.lens.2.2.1; rw [← hR.run.names.1]; exact this
  have he : el ≤ 1048576 := by have := hS.lens.2.2.2.1; rw [← hR.evs.1]; exact this
  have ha : al ≤ 1048576 := by have := hS.lens.2.2.2.2; rw [← hR.all.1]; exact this
  have HSM : Hid (∀ k, k < ss.length → (ss.getD k default).vals.length ≤ 1048576) := fun k hk => by
    rw [List.getD_eq_getElem?_getD, List.getElem?_eq_getElem hk, Option.getD_some]
    exact (hS.all _ (List.getElem_mem hk)).2.2.1
  have HLV : Hid (vs.length = l ∧ ns.length = nl ∧ ss.length = al) := ⟨hR.run.vals.1, hR.run.names.1, hR.all.1⟩
  obtain ⟨w1, hw1⟩ : ∃ w1, w1 = w.alloc (.cells #[.int .u8 op, .slice oa ol oc, .string tx, .slice ia il ic, .int .u16 co, .slice a l c, .slice na nl nc, .bool sk, .bool pg, .int .i32 pn, .bool rs, .int .i64 sk1, .slice sa sl sc, .bool se, .int .u16 sr, .bool ti, .int .i64 tm, .slice ea el ec, .int .i64 tk, .slice ta tl tc, .int .u8 kd, .slice aa al ac] 33) := ⟨_, rfl⟩
  have hB1 : Below w.heap.size w w1 := by rw [hw1]; exact below_one _ _
  have HB1 : Hid (Below w.heap.size w w1) := hB1
  have hq : w1.heap[w.heap.size]? = some (.cells #[.int .u8 op, .slice oa ol oc, .string tx, .slice ia il ic, .int .u16 co, .slice a l c, .slice na nl nc, .bool sk, .bool pg, .int .i32 pn, .bool rs, .int .i64 sk1, .slice sa sl sc, .bool se, .int .u16 sr, .bool ti, .int .i64 tm, .slice ea el ec, .int .i64 tk, .slice ta tl tc, .int .u8 kd, .slice aa al ac] 33 (0, 0)) := by rw [hw1]; exact heap_alloc_new w _
  have HQ : Hid (w1.heap[w.heap.size]? = some (.cells #[.int .u8 op, .slice oa ol oc, .string tx, .slice ia il ic, .int .u16 co, .slice a l c, .slice na nl nc, .bool sk, .bool pg, .int .i32 pn, .bool rs, .int .i64 sk1, .slice sa sl sc, .bool se, .int .u16 sr, .bool ti, .int .i64 tm, .slice ea el ec, .int .i64 tk, .slice ta tl tc, .int .u8 kd, .slice aa al ac] 33 (0, 0))) := hq
  have HW1 : Hid (w.alloc (.cells #[.int .u8 op, .slice oa ol oc, .string tx, .slice ia il ic, .int .u16 co, .slice a l c, .slice na nl nc, .bool sk, .bool pg, .int .i32 pn, .bool rs, .int .i64 sk1, .slice sa sl sc, .bool se, .int .u16 sr, .bool ti, .int .i64 tm, .slice ea el ec, .int .i64 tk, .slice ta tl tc, .int .u8 kd, .slice aa al ac] 33) = w1) := hw1.symm
  have HA : Hid (View 4 VSt w1 aa al ac ss) := view_old_st hR.all hB1
  clear hR hS hw1 hB1
  go_enter Try.func9, Try.ntmps9
  go_upto_region 1 with fail
  rw [HW1.out]
  clear HW1
  obtain ⟨d0, d1, d2, d3, d4, d5, d6, d7, d8, d9, d10, d11, d12, d13, d14, d15, d16, d17, d18, d19, d20, d21⟩ := req_cells hq
  have hlt1 := block_lt hq
  clear hq
  go_wp2_with fail
  go_loopw [3, 4] (fun n i wr => ∃ k N : Nat, k ≤ al ∧ n = .int .i64 N ∧ i = .int .i64 k ∧ ol + el + al + l + nl ≤ N ∧ N ≤ 900000000000000 ∧ Hid (∀ j, j < k → (ss.getD j default).vals.length ≤ N) ∧ wr = w1) (fun _ i _ => al - (intOf i).toNat)
  case atStart =>
    refine ⟨0, ol + el + al + l + nl, by omega, ?_, rfl, Nat.le_refl _, by omega, fun j hj => by omega, rfl⟩
    go_num
  case round =>
    obtain ⟨k, N, hk, rfl, rfl, hN, hN2, HV, rfl⟩ := hrel
    by_cases hlt : k < al
    · obtain ⟨b, off, a1, l1, c1, a2, l2, c2, haa, hc0, hc1, hc2, hc3, hI, hVV⟩ := HA.out.st_at (Below.refl _ _) hlt
      have hl2 : l2 ≤ 1048576 := by rw [← hVV.1]; exact HSM.out k (by rw [HLV.out.2.2]; exact hlt)
      have HL2 : Hid ((ss.getD k default).vals.length = l2) := hVV.1
      clear hI hVV
      by_cases hN100 : N < 100
      · subst haa
        have t1 : decide ((N : Int) < 100) = true := by simp; omega
        go_wp2_with fail
        go_roundw
        case rel =>
          refine ⟨k + 1, N + l2, by omega, by go_num, by go_num, by omega, by omega, fun j hj => ?_, (by first | trivial | rfl)⟩
          by_cases hjk : j < k
          · have := HV.out j hjk; omega
          · obtain rfl : j = k := by omega
            rw [HL2.out]; omega
        case measure => simp [intOf]; omega
      · have t1 : decide ((N : Int) < 100) = false := by simp; omega
        clear haa hc0 hc1 hc2 hc3
        go_wp2_with fail
        go_ret
        exact ⟨false, by simp <;> omega, fun h => (by cases h), HB1⟩
    · obtain rfl : k = al := by omega
      go_wp2_with fail
      go_ret
      refine ⟨decide ((N : Int) < 100), rfl, fun h => ?_, HB1⟩
      have hN3 : N < 100 := by simp at h; omega
      obtain ⟨e1, e2, e3⟩ := HLV.out
      refine ⟨by show vs.length < 100; omega, by show ns.length < 100; omega, by show ss.length < 100; omega, fun s hs => ?_⟩
      obtain ⟨j, hj, rfl⟩ := List.getElem_of_mem hs
      have hj2 : j < ss.length := hj
      have := HV.out j (by omega)
      rw [List.getD_eq_getElem?_getD, List.getElem?_eq_getElem hj2, Option.getD_some] at this
      show (ss[j]).vals.length < 100
      omega
end Go.Proofs.Ytcecdklgiocbaaa
