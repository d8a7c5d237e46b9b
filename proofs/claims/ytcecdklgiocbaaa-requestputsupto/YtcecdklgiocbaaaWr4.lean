/-
  The writer's method values, with names; statement; statements.
-/
import Derived.Test.YtcecdklgiocbaaaWr3
namespace Go.Proofs.Ytcecdklgiocbaaa
open Go.RowKit
set_option maxRecDepth 100000
set_option linter.unusedVariables false
set_option linter.unusedSimpArgs false

theorem key_seq (x : ByteArray × Vl) : seqB (textB x.1) (valueB x.2) = keyB valueB x := by
  unfold seqB keyB
  by_cases h1 : (textB x.1).2 = 0
  · by_cases h2 : (valueB x.2).2 = 0
    · simp [h1, h2]
    · simp [h1, h2]
  · simp [h1]

theorem zip_getD {ns : List ByteArray} {vs : List Vl} {k : Nat} (h1 : k < ns.length) (h2 : k < vs.length) : (ns.zip vs).getD k default = (ns.getD k default, vs.getD k default) := by
  have h3 : k < (ns.zip vs).length := by rw [List.length_zip]; omega
  rw [List.getD_eq_getElem?_getD, List.getElem?_eq_getElem h3, List.getD_eq_getElem?_getD, List.getElem?_eq_getElem h1, List.getD_eq_getElem?_getD, List.getElem?_eq_getElem h2]
  simp

theorem View.val_at {w0 w : World} {a : Option Addr} {len cap : Nat} {ss : List Vl} (h : View 2 VV w0 a len cap ss) (hB : Below w0.heap.size w0 w) {k : Nat} (hk : k < len) :
    ∃ b off a1 l1 c1, a = some ⟨b, off, none⟩ ∧ w.cell? ⟨b, off + k * 2, none⟩ = some (.int .i64 (ss.getD k default).1) ∧ w.cell? ⟨b, off + k * 2 + 1, none⟩ = some (.slice a1 l1 c1) ∧ IsB w0 a1 l1 c1 (sNums (ss.getD k default).2) := by
  obtain ⟨b, off, a1, l1, c1, ha, h0, h1, hI⟩ := h.val hk
  obtain ⟨b', off', ha', hb, _⟩ := h.2.2.2.2 (by omega)
  rw [ha] at ha'
  cases ha'
  exact ⟨b, off, a1, l1, c1, ha, (hB.cell (p := ⟨b, off + k * 2, none⟩) hb).trans h0, (hB.cell (p := ⟨b, off + k * 2 + 1, none⟩) hb).trans h1, hI⟩

theorem Chg.block {p : Nat} {v v' : Value} {w w' : World} (hC : Chg p v v' w w') {k : Nat} (hk : k < w.heap.size) (hp : k ≠ p) (hv : v.ownBlock ≠ some k) : w'.heap[k]? = w.heap[k]? :=
  hC.1.block k hk (fun e => by
    rcases e with e | e
    · exact hp e
    · exact hv e)

/-- part, with a box that was made just ahead of what is written: the box stays. -/
theorem wpart_box {w w1 : World} {p : Nat} {v : Value} {S : BE} (h : Wr w p v S) (hB : Below w.heap.size w w1) {x0 x1 : Value} {t : TypeId} (hbx : w1.heap[w.heap.size]? = some (.cells #[x0, x1] t (0, 0))) {a : Option Addr} {len cap : Nat} {zs : List Int} (hI : IsB w1 a len cap zs) (hbd : S.1.length + len ≤ 140737488355328) (e : Int) :
    Calls Try.prog 16 #[.pointer (some ⟨p, 0, none⟩), .slice a len cap, .int .i64 e] w1 fun r w' => r = .returned (.tuple #[]) ∧ ∃ v', Hid (Wr w' p v' (seqB S (zs, e))) ∧ Hid (Chg p v v' w w') ∧
      w'.cell? ⟨w.heap.size, 0, none⟩ = some x0 ∧ w'.cell? ⟨w.heap.size, 1, none⟩ = some x1 := by
  refine (wpart (h.new hB) hI hbd e).mono ?_
  rintro r w2 ⟨rfl, v2, HW, HC⟩
  have h1 := HC.out.block (block_lt hbx) (fun e => by have := h.lt; omega) (fun e => by have := (h.far _ e).2; omega)
  obtain ⟨c0, c1, _, _⟩ := two_cells (h1.trans hbx)
  exact ⟨rfl, v2, HW, (chg_new hB).trans HC.out, c0, c1⟩

set_option maxHeartbeats 1000000 in
theorem wvaluesN {w0 w : World} {p : Nat} {v : Value} {S : BE} (h : Wr w p v S) (hp : w0.heap.size ≤ p) (hB : Below w0.heap.size w0 w) {a : Option Addr} {l c : Nat} {vs : List Vl} (hV : View 2 VV w0 a l c vs) {na : Option Addr} {nl nc : Nat} {ns : List ByteArray} (hN : View 1 VS w0 na nl nc ns)
    (hn0 : nl ≠ 0) (hnl : S.2 = 0 → ns.length = vs.length) (hsz : ∀ x ∈ vs, x.2.size ≤ 140737488351232) (hnz : ∀ x ∈ ns, x.size ≤ 140737488351232) (hbd : S.1.length + 2 + costV vs + costN ns ≤ 140737488351232) :
    Calls Try.prog 62 #[.pointer (some ⟨p, 0, none⟩), .slice a l c, .slice na nl nc] w fun r w' => r = .returned (.tuple #[]) ∧ ∃ v', Hid (Wr w' p v' (seqB S (listB (keyB valueB) (ns.zip vs)))) ∧ Hid (Chg p v v' w w') := by
  obtain ⟨Y, hY⟩ : ∃ Y, Y = seqB S (listB (keyB valueB) (ns.zip vs)) := ⟨_, rfl⟩
  have hlv : vs.length = l := hV.1
  have hln : ns.length = nl := hN.1
  have HY : Hid (goS (keyB valueB) (ns.zip vs) (seqB S (countB l)) = Y) := by
    show _ = _
    rw [hY]
    by_cases hS : S.2 = 0
    · rw [← goS_list, List.length_zip, hnl hS, hlv, Nat.min_self]
    · rw [seqB_err _ hS, seqB_err _ hS, goS, if_neg hS]
  rw [← hY]
  have H : Hid (Wr w p v S) := h
  have HV : Hid (View 2 VV w0 a l c vs) := hV
  have HNN : Hid (View 1 VS w0 na nl nc ns) := hN
  have HB : Hid (Below w0.heap.size w0 w) := hB
  have HP : Hid (w0.heap.size ≤ p) := hp
  have HSZ : Hid (∀ x ∈ vs, x.2.size ≤ 140737488351232) := hsz
  have HNZ : Hid (∀ x ∈ ns, x.size ≤ 140737488351232) := hnz
  have HBD : Hid (S.1.length + 2 + costV vs + costN ns ≤ 140737488351232) := hbd
  have HLV : Hid (vs.length = l) := hlv
  have HLN : Hid (ns.length = nl) := hln
  have HNL : Hid (S.2 = 0 → ns.length = vs.length) := hnl
  have hlm : l ≤ maxLen := Nat.le_trans hV.2.1 hV.2.2.1
  have hnm : nl ≤ maxLen := Nat.le_trans hN.2.1 hN.2.2.1
  have HLM : Hid (l ≤ maxLen) := hlm
  have tn : decide ((0 : Int) < nl) = true := by simp; omega
  unfold maxLen at hlm hnm
  clear h hV hN hB hp hsz hnz hbd hlv hln hnl hY
  go_enter Try.func62, Try.ntmps62
  go_wp2_with fail
  refine (wcount H.out l HLM.out (by have := HBD.out; omega)).mono ?_
  rintro r w1 ⟨rfl, v1, HW1, HC1⟩
  go_wp2_with fail
  go_loopw [14] (fun i wr => ∃ (k : Nat) (v' : Value) (S' : BE), k ≤ l ∧ i = .int .i64 k ∧ Hid (Wr wr p v' S') ∧ Hid (Chg p v v' w wr) ∧ Hid (goS (keyB valueB) ((ns.zip vs).drop k) S' = Y) ∧ Hid (S'.1.length + costV (vs.drop k) + costN (ns.drop k) ≤ 140737488351232) ∧ Hid (S'.2 = 0 → ns.length = vs.length)) (fun i _ => l - (intOf i).toNat)
  case atStart =>
    refine ⟨0, v1, _, by omega, rfl, HW1, HC1, HY.out, ?_, fun h => HNL.out (seqB_fine h).1⟩
    have h1 := seqB_len S (countB l)
    have h2 := countB_len l
    have h3 := HBD.out
    show _ ≤ _
    rw [List.drop_zero, List.drop_zero]
    omega
  case round =>
    obtain ⟨k, v2, S2, hk, rfl, HW2, HC2, HG, HQ, HE0⟩ := hrel
    obtain ⟨q0, q1, f0, f1⟩ := two_cells HW2.out.blk
    have hplt := HW2.out.lt
    by_cases hlt : k < l
    · have hlow : Below w0.heap.size w0 wr := HB.out.trans (HC2.out.low H.out HP.out)
      have HLOW : Hid (Below w0.heap.size w0 wr) := hlow
      obtain ⟨b, off, a1, l1, c1, rfl, hc0, hc1, hI⟩ := HV.out.val_at hlow hlt
      have HKV : Hid (k < vs.length) := by show _ < _; rw [HLV.out]; exact hlt
      obtain ⟨x, hx⟩ : ∃ x, x = vs.getD k default := ⟨_, rfl⟩
      rw [← hx] at hc0 hI
      have HI : Hid (IsB w0 a1 l1 c1 (sNums x.2)) := hI
      have HX : Hid (x = vs.getD k default) := hx
      clear hI hx
      by_cases he : S2.2 = 0
      · have hkn : k < nl := by have h1 := HE0.out he; have h2 := HLN.out; have h3 := HLV.out; omega
        have HKN : Hid (k < ns.length) := by show _ < _; rw [HLN.out]; exact hkn
        obtain ⟨b2, off2, rfl, hd0⟩ := (HNN.out.old stays_s hlow).str hkn
        obtain ⟨n, hn⟩ : ∃ n, n = ns.getD k default := ⟨_, rfl⟩
        rw [← hn] at hd0
        have hb2 : b2 < wr.heap.size := block_lt_of_cell hd0
        have HN : Hid (n = ns.getD k default) := hn
        have HXS : Hid (x.2.size ≤ 140737488351232) := by
          show _ ≤ _
          rw [HX.out, List.getD_eq_getElem?_getD, List.getElem?_eq_getElem HKV.out]
          exact HSZ.out _ (List.getElem_mem _)
        have HNS : Hid (n.size ≤ maxLen) := by
          show _ ≤ _
          rw [hn, List.getD_eq_getElem?_getD, List.getElem?_eq_getElem HKN.out]
          exact Nat.le_trans (HNZ.out _ (List.getElem_mem _)) (by unfold maxLen; omega)
        have HSTEP : Hid (goS (keyB valueB) ((ns.zip vs).drop (k + 1)) (seqB (seqB S2 (textB n)) (valueB x)) = Y) := by
          show _ = _
          have h1 := goS_step HG.out (by rw [List.length_zip]; exact Nat.lt_min.2 ⟨HKN.out, HKV.out⟩)
          rw [zip_getD HKN.out HKV.out, ← HX.out, ← HN.out, ← key_seq, ← seqB_assoc] at h1
          exact h1
        have HQ2 : Hid (S2.1.length + (textB n).1.length + (valueB x).1.length + costV (vs.drop (k + 1)) + costN (ns.drop (k + 1)) ≤ 140737488351232) := by
          have h1 := HQ.out
          have h2 := costV_drop HKV.out
          have h3 := valueB_len x
          have h4 := costN_drop HKN.out
          have h5 := textB_len2 n
          rw [← HX.out] at h2
          rw [← HN.out] at h4
          show _ ≤ _
          omega
        rw [he] at q1
        obtain ⟨B, hBt⟩ : ∃ B, B = valueB x := ⟨_, rfl⟩
        obtain ⟨C, hCt⟩ : ∃ C, C = textB n := ⟨_, rfl⟩
        have HBt : Hid (B = valueB x) := hBt
        have HCt : Hid (C = textB n) := hCt
        rw [← hBt, ← hCt] at HSTEP HQ2
        clear hBt hCt he hn hlow
        go_wp2_with fail
        refine (text_any n _ HNS.out HCt.out).mono ?_
        rintro e w3 ⟨a3, cp3, rfl, HP3, hB3⟩
        have HB3 : Hid (Below wr.heap.size wr w3) := (below_one wr _).trans (hB3.mono (by simp))
        have HBD3 : Hid (S2.1.length + C.1.length ≤ 140737488355328) := by have := HQ2.out; show _ ≤ _; omega
        have HBX : Hid (w3.heap[wr.heap.size]? = some (.cells #[.int .i64 x.1, .slice a1 l1 c1] 28 (0, 0))) := (hB3.block _ (by simp)).trans (heap_alloc_new wr _)
        clear hB3
        go_wp2_with fail
        refine (wpart_box HW2.out HB3.out HBX.out HP3.out.2 HBD3.out C.2).mono ?_
        rintro r w4 ⟨rfl, v4, HW4, HC4, hx0, hx1⟩
        have HI4 : Hid (IsB w4 a1 l1 c1 (sNums x.2)) := HI.out.old (HLOW.out.trans (HC4.out.low HW2.out HP.out))
        go_wp2_with fail
        refine (value_any x _ HI4.out HXS.out HBt.out).mono ?_
        rintro e w5 ⟨a5, cp5, rfl, HP5, hB5⟩
        have HBD5 : Hid ((seqB S2 (C.1, C.2)).1.length + B.1.length ≤ 140737488355328) := by
          have h1 := HQ2.out
          have h2 := seqB_len S2 (C.1, C.2)
          show _ ≤ _
          simp only at h2
          omega
        have HB5 : Hid (Below w4.heap.size w4 w5) := hB5
        clear hB5
        go_wp2_with fail
        refine (wpart_new HW4.out HB5.out HP5.out.2 HBD5.out B.2).mono ?_
        rintro r w6 ⟨rfl, v6, HW6, HC6⟩
        go_wp2_with fail
        go_roundw
        case rel =>
          refine ⟨k + 1, v6, _, by omega, by go_num, HW6, HC2.out.trans (HC4.out.trans HC6.out), HSTEP.out, ?_, fun h => HE0.out (seqB_fine (seqB_fine h).1).1⟩
          have h1 := seqB_len S2 (C.1, C.2)
          have h3 := seqB_len (seqB S2 (C.1, C.2)) (B.1, B.2)
          have h2 := HQ2.out
          show _ ≤ _
          simp only at h1 h3
          omega
        case measure => simp [intOf]; omega
      · have t : (S2.2 == 0) = false := by simpa using he
        have HE : Hid (Y = S2) := by
          have := HG.out
          rw [goS_err (keyB valueB) _ HW2.out.nrm he] at this
          exact this.symm
        clear he hlow
        go_wp2_with fail
        (try simp only [Exit.inBlock, Exit.then])
        refine bodyPost_ret (results_none rfl _ _ _) rfl ?_
        exact ⟨rfl, v2, by rw [HE.out]; exact HW2.out.new (below_one _ _), HC2.out.trans (chg_new (below_one _ _))⟩
    · have HE : Hid (Y = S2) := goS_end HG.out (by have := HLV.out; rw [List.length_zip]; omega) HW2.out.nrm
      go_wp2_with fail
      go_end0
      exact ⟨rfl, v2, by rw [HE.out]; exact HW2, HC2⟩

/-- A statement in memory. -/
def VSt (w : World) (x : St) (c : Nat → Value) : Prop :=
  c 0 = .bool x.prep ∧ c 1 = .string x.text ∧ (∃ a l cp, c 2 = .slice a l cp ∧ IsB w a l cp (sNums x.id)) ∧ ∃ a l cp, c 3 = .slice a l cp ∧ View 2 VV w a l cp x.vals

def costS (s : St) : Nat := s.text.size + s.id.size + 16 + costV s.vals
def costA : List St → Nat
  | [] => 0
  | x :: r => costS x + costA r
theorem costA_drop {vs : List St} {k : Nat} (h : k < vs.length) : costA (vs.drop k) = costS (vs.getD k default) + costA (vs.drop (k + 1)) := by
  rw [List.drop_eq_getElem_cons h, costA, List.getD_eq_getElem?_getD, List.getElem?_eq_getElem h, Option.getD_some]

/-- The cells of a block of four. -/
theorem four_cells {w : World} {p : Nat} {x0 x1 x2 x3 : Value} {t : TypeId} (h : w.heap[p]? = some (.cells #[x0, x1, x2, x3] t (0, 0))) :
    w.cell? ⟨p, 0, none⟩ = some x0 ∧ w.cell? ⟨p, 1, none⟩ = some x1 ∧ w.cell? ⟨p, 2, none⟩ = some x2 ∧ w.cell? ⟨p, 3, none⟩ = some x3 := by
  refine ⟨?_, ?_, ?_, ?_⟩ <;> simp [World.cell?, h]

theorem IsB.low {w : World} {a : Option Addr} {len cap : Nat} {zs : List Int} (h : IsB w a len cap zs) : ∀ q, a = some q → 0 < len → q.block < w.heap.size := by
  intro q hq hl
  obtain ⟨b, off, rfl, hR⟩ := h.2.2.2.2 hl
  cases hq
  exact hR.lt hl

theorem putL_one : putL 1 1 = [1] := by decide +kernel
theorem putL_nil : putL 0 1 = [0] := by decide +kernel

theorem below_chg {w0 w w1 : World} {p : Nat} {v v1 : Value} {S : BE} (hB : Below w0.heap.size w0 w) (h : Wr w p v S) (hp : w0.heap.size ≤ p) (hC : Chg p v v1 w w1) : Below w0.heap.size w0 w1 := hB.trans (hC.low h hp)

set_option maxHeartbeats 1000000 in
theorem wstatement {w0 w : World} {p : Nat} {v : Value} {S : BE} (h : Wr w p v S) (hp : w0.heap.size ≤ p) (hB : Below w0.heap.size w0 w) {s : St} {a : Option Addr} {l c : Nat} (hI : IsB w0 a l c (sNums s.id)) {a2 : Option Addr} {l2 c2 : Nat} (hV : View 2 VV w0 a2 l2 c2 s.vals)
    (hsz : ∀ x ∈ s.vals, x.2.size ≤ 140737488351232) (hbd : S.1.length + costS s ≤ 140737488351232) :
    Calls Try.prog 67 #[.pointer (some ⟨p, 0, none⟩), .agg #[.bool s.prep, .string s.text, .slice a l c, .slice a2 l2 c2]] w fun r w' => r = .returned (.tuple #[]) ∧ ∃ v', Hid (Wr w' p v' (seqB S (stB s))) ∧ Hid (Chg p v v' w w') := by
  obtain ⟨sp, st, si, sv⟩ := s
  have e1 : St.prep (sp, st, si, sv) = sp := rfl
  have e2 : St.text (sp, st, si, sv) = st := rfl
  have e3 : St.id (sp, st, si, sv) = si := rfl
  have e4 : St.vals (sp, st, si, sv) = sv := rfl
  rw [e3] at hI
  rw [e4] at hV hsz
  rw [e1, e2]
  have hbd1 : S.1.length + (st.size + si.size + 16 + costV sv) ≤ 140737488351232 := hbd
  obtain ⟨w1, hw1⟩ : ∃ w1, w1 = w.alloc (.cells #[.bool sp, .string st, .slice a l c, .slice a2 l2 c2] 60) := ⟨_, rfl⟩
  have hB1 : Below w.heap.size w w1 := by rw [hw1]; exact below_one _ _
  have HB1 : Hid (Below w.heap.size w w1) := hB1
  have hq : w1.heap[w.heap.size]? = some (.cells #[.bool sp, .string st, .slice a l c, .slice a2 l2 c2] 60 (0, 0)) := by rw [hw1]; exact heap_alloc_new w _
  have HQ : Hid (w1.heap[w.heap.size]? = some (.cells #[.bool sp, .string st, .slice a l c, .slice a2 l2 c2] 60 (0, 0))) := hq
  have H : Hid (Wr w1 p v S) := h.new hB1
  have HFAR : Hid (w.heap.size ≠ p ∧ v.ownBlock ≠ some w.heap.size) := ⟨fun e => by have := h.lt; omega, fun e => by have := (h.far _ e).2; omega⟩
  have HL : Hid (Below w0.heap.size w0 w1) := hB.trans (hB1.mono hB.size)
  have HP : Hid (w0.heap.size ≤ p) := hp
  have HI : Hid (IsB w0 a l c (sNums si)) := hI
  have HV : Hid (View 2 VV w0 a2 l2 c2 sv) := hV
  have HSZ : Hid (∀ x ∈ sv, x.2.size ≤ 140737488351232) := hsz
  have HBD : Hid (S.1.length + (st.size + si.size + 16 + costV sv) ≤ 140737488351232) := hbd1
  have HW1 : Hid (w.alloc (.cells #[.bool sp, .string st, .slice a l c, .slice a2 l2 c2] 60) = w1) := hw1.symm
  clear h hB hI hV hsz hbd hbd1 hp e1 e2 e3 e4 hB1 hw1
  obtain ⟨d0, d1, d2, d3⟩ := four_cells hq
  clear hq
  cases sp with
  | true =>
    have HE : Hid (seqB (seqB (seqB S (numB 1 1)) (textB si)) (listB valueB sv) = seqB S (stB (true, st, si, sv))) := by
      show _ = _
      rw [seqB_assoc, seqB_assoc, stB, aheadB, if_pos (by rfl : St.prep (true, st, si, sv) = true), numB, putL_one, ← seqB_assoc ([1], 0)]
      rfl
    go_enter Try.func67, Try.ntmps67
    go_upto_region 1 with fail
    rw [HW1.out]
    clear HW1
    go_wp2_with fail
    refine (wnumber H.out 1 1 (by omega) (by omega) (by omega) (by have := HBD.out; omega) _ rfl).mono ?_
    rintro r w2 ⟨rfl, v2, HW2, HC2⟩
    obtain ⟨d0, d1, d2, d3⟩ := four_cells ((HC2.out.block (block_lt HQ.out) HFAR.out.1 HFAR.out.2).trans HQ.out)
    have HL2 : Hid (Below w0.heap.size w0 w2) := below_chg HL.out H.out HP.out HC2.out
    go_wp2_with fail
    refine (wid HW2.out (HI.out.old HL2.out) (fun q hq hl => Nat.lt_of_lt_of_le (HI.out.low q hq hl) HP.out) (by have h1 := HBD.out; have h2 := seqB_len S (numB 1 1); have h3 : (numB 1 1).1.length = 1 := rfl; omega)).mono ?_
    rintro r w3 ⟨rfl, v3, HW3, HC3⟩
    have HC13 : Hid (Chg p v v3 w1 w3) := HC2.out.trans HC3.out
    obtain ⟨d0, d1, d2, d3⟩ := four_cells ((HC13.out.block (block_lt HQ.out) HFAR.out.1 HFAR.out.2).trans HQ.out)
    have HL3 : Hid (Below w0.heap.size w0 w3) := below_chg HL.out H.out HP.out HC13.out
    have HBD3 : Hid ((seqB (seqB S (numB 1 1)) (textB si)).1.length + 2 + costV sv ≤ 140737488351232) := by
      have h1 := HBD.out
      have h2 := seqB_len S (numB 1 1)
      have h3 : (numB 1 1).1.length = 1 := rfl
      have h4 := seqB_len (seqB S (numB 1 1)) (textB si)
      have h5 := textB_len2 si
      show _ ≤ _
      omega
    go_wp2_with fail
    refine (wvalues0 HW3.out HP.out HL3.out HV.out none 0 HSZ.out HBD3.out).mono ?_
    rintro r w4 ⟨rfl, v4, HW4, HC4⟩
    go_wp2_with fail
    go_end0
    exact ⟨rfl, v4, by rw [← HE.out]; exact HW4, (chg_new HB1.out).trans (HC13.out.trans HC4.out)⟩
  | false =>
    have HE : Hid (seqB (seqB (seqB S (numB 0 1)) (longB st)) (listB valueB sv) = seqB S (stB (false, st, si, sv))) := by
      show _ = _
      rw [seqB_assoc, seqB_assoc, stB, aheadB, if_neg (show ¬ St.prep (false, st, si, sv) = true from fun h => by cases h), numB, putL_nil, ← seqB_assoc ([0], 0)]
      rfl
    go_enter Try.func67, Try.ntmps67
    go_upto_region 1 with fail
    rw [HW1.out]
    clear HW1
    go_wp2_with fail
    refine (wnumber H.out 0 1 (by omega) (by omega) (by omega) (by have := HBD.out; omega) _ rfl).mono ?_
    rintro r w2 ⟨rfl, v2, HW2, HC2⟩
    obtain ⟨d0, d1, d2, d3⟩ := four_cells ((HC2.out.block (block_lt HQ.out) HFAR.out.1 HFAR.out.2).trans HQ.out)
    go_wp2_with fail
    refine (wlong HW2.out st (by have h1 := HBD.out; have h2 := seqB_len S (numB 0 1); have h3 : (numB 0 1).1.length = 1 := rfl; omega)).mono ?_
    rintro r w3 ⟨rfl, v3, HW3, HC3⟩
    have HC13 : Hid (Chg p v v3 w1 w3) := HC2.out.trans HC3.out
    obtain ⟨d0, d1, d2, d3⟩ := four_cells ((HC13.out.block (block_lt HQ.out) HFAR.out.1 HFAR.out.2).trans HQ.out)
    have HL3 : Hid (Below w0.heap.size w0 w3) := below_chg HL.out H.out HP.out HC13.out
    have HBD3 : Hid ((seqB (seqB S (numB 0 1)) (longB st)).1.length + 2 + costV sv ≤ 140737488351232) := by
      have h1 := HBD.out
      have h2 := seqB_len S (numB 0 1)
      have h3 : (numB 0 1).1.length = 1 := rfl
      have h4 := seqB_len (seqB S (numB 0 1)) (longB st)
      have h5 : (longB st).1.length = 4 + st.size := by unfold longB; simp only [List.length_append, putL_length, sNums_length]
      show _ ≤ _
      omega
    go_wp2_with fail
    refine (wvalues0 HW3.out HP.out HL3.out HV.out none 0 HSZ.out HBD3.out).mono ?_
    rintro r w4 ⟨rfl, v4, HW4, HC4⟩
    go_wp2_with fail
    go_end0
    exact ⟨rfl, v4, by rw [← HE.out]; exact HW4, (chg_new HB1.out).trans (HC13.out.trans HC4.out)⟩
end Go.Proofs.Ytcecdklgiocbaaa
