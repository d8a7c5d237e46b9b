/-
  The writer's method run.
-/
import Derived.Test.YtcecdklgiocbaaaWr6
import Derived.Deep.DeepCutAuto
namespace Go.Proofs.Ytcecdklgiocbaaa
open Go.RowKit
set_option maxRecDepth 100000
set_option linter.unusedVariables false
set_option linter.unusedSimpArgs false

/-- What a run leads to in memory, and what may be in it. -/
structure RunAt (w : World) (a : Option Addr) (l c : Nat) (na : Option Addr) (nl nc : Nat) (sa : Option Addr) (sl sc : Nat) (x : Rn) : Prop where
  vals : View 2 VV w a l c x.vals
  names : View 1 VS w na nl nc x.names
  state : IsB w sa sl sc (sNums x.state.2)
  cons : 0 ≤ x.cons ∧ x.cons ≤ 65535
  serial : 0 ≤ x.serial ∧ x.serial ≤ 65535
  page : -2147483648 ≤ x.page ∧ x.page ≤ 2147483647
  time : -9223372036854775808 ≤ x.time ∧ x.time ≤ 9223372036854775807

def costR (x : Rn) : Nat := 32 + costV x.vals + costN x.names + x.state.2.size

/-- None of a run's bytes is longer than memory. -/
def FitR (x : Rn) : Prop := (∀ y ∈ x.vals, y.2.size ≤ 140737488351232) ∧ (∀ y ∈ x.names, y.size ≤ 140737488351232) ∧ x.state.2.size ≤ 140737488351232

theorem fl_not : ∀ (b v s p r e t n : Bool), (bits .andNot .u8 (flN v s p r e t n) (if b then 48 else 127) == 0) = !(b && (v || s || p || r || n)) := by decide +kernel
theorem fl_and64 : ∀ (v s p r e t n : Bool), (bits .and .u8 (flN v s p r e t n) 64 == 0) = !n := by decide +kernel
theorem fl_and1 : ∀ (v s p r e t n : Bool), (bits .and .u8 (flN v s p r e t n) 1 == 0) = !v := by decide +kernel
theorem fl_rng : ∀ (v s p r e t n : Bool), 0 ≤ flN v s p r e t n ∧ flN v s p r e t n ≤ 127 := by decide +kernel
theorem fl_put : ∀ (v s p r e t n : Bool), putL (flN v s p r e t n) 1 = [flN v s p r e t n] := by decide +kernel

theorem flags_seq (S : BE) (batch : Bool) (x : Rn) : seqB (seqB S (if badF batch x then ([], 1) else ([], 0))) (numB (flagsN x) 1) = seqB S (flagsB batch x) := by
  rw [seqB_assoc, flagsB]
  by_cases h : badF batch x = true
  · rw [if_pos h, if_pos h, seqB_err (S := ([], 1)) _ (by decide : ((1 : Int)) ≠ 0)]
  · rw [if_neg h, if_neg h, numB, flagsN, fl_put]
    rfl

theorem seq_opt (S : BE) (h : Nrm S) (B : BE) : seqB S (optB false B) = S := by
  show seqB S ([], 0) = S
  exact seqB_unit h

theorem consB_len (c : Int) : (consB c).1.length ≤ 2 := by unfold consB; split <;> simp [putL_length]
theorem costN_sum : ∀ vs : List ByteArray, costN vs = (vs.map (fun x => x.size + 2)).sum
  | [] => rfl
  | x :: r => by rw [costN, List.map_cons, List.sum_cons, costN_sum r]
theorem keyB_vlen (x : ByteArray × Vl) : (keyB valueB x).1.length ≤ (x.1.size + 2) + (x.2.2.size + 4) := by
  rw [← key_seq]
  have h1 := seqB_len (textB x.1) (valueB x.2)
  have h2 := textB_len2 x.1
  have h3 := valueB_len x.2
  omega
theorem zip_cost : ∀ (ns : List ByteArray) (vs : List Vl), ((ns.zip vs).map (fun x => (x.1.size + 2) + (x.2.2.size + 4))).sum ≤ costN ns + costV vs
  | [], vs => by simp
  | n :: ns, [] => by simp
  | n :: ns, v :: vs => by
    have := zip_cost ns vs
    simp only [List.zip_cons_cons, List.map_cons, List.sum_cons, costN, costV]
    omega
theorem valsB_len (vs : List Vl) (ns : List ByteArray) : (valsB vs ns).1.length ≤ 2 + costV vs + costN ns := by
  unfold valsB
  split
  · have := valsList_len vs; omega
  · unfold listB
    split
    · refine Nat.le_trans (listB_len_le (keyB valueB) (fun x => (x.1.size + 2) + (x.2.2.size + 4)) keyB_vlen (ns.zip vs) _) ?_
      rw [putL_length]
      exact Nat.le_trans (Nat.add_le_add_left (zip_cost ns vs) 2) (by omega)
    · simp

set_option maxHeartbeats 4000000 in
theorem wrun {w0 w : World} {p : Nat} {v : Value} {S : BE} (h : Wr w p v S) (hp : w0.heap.size ≤ p) (hB : Below w0.heap.size w0 w) (batch : Bool) (co : Int) {a : Option Addr} {l c : Nat} (vs : List Vl) {na : Option Addr} {nl nc : Nat} (ns : List ByteArray) (sk pg : Bool) (pn : Int) (rs : Bool) (sk1 : Int) (sb : ByteArray) {sa : Option Addr} {sl sc : Nat} (se : Bool) (sr : Int) (ti : Bool) (tm : Int)
    (hR : RunAt w0 a l c na nl nc sa sl sc (co, vs, ns, sk, pg, pn, rs, (sk1, sb), se, sr, ti, tm)) (hF : FitR (co, vs, ns, sk, pg, pn, rs, (sk1, sb), se, sr, ti, tm))
    (hbd : S.1.length + costR (co, vs, ns, sk, pg, pn, rs, (sk1, sb), se, sr, ti, tm) ≤ 140737488351232) (may : Int) (hmay : may = if batch then 48 else 127) :
    Calls Try.prog 19 #[.pointer (some ⟨p, 0, none⟩), .agg #[.int .u16 co, .slice a l c, .slice na nl nc, .bool sk, .bool pg, .int .i32 pn, .bool rs, .int .i64 sk1, .slice sa sl sc, .bool se, .int .u16 sr, .bool ti, .int .i64 tm], .int .u8 may] w fun r w' => r = .returned (.tuple #[]) ∧ ∃ v', Hid (Wr w' p v' (seqB S (runB batch (co, vs, ns, sk, pg, pn, rs, (sk1, sb), se, sr, ti, tm)))) ∧ Hid (Chg p v v' w w') := by
  have hbd1 : S.1.length + (32 + costV vs + costN ns + sb.size) ≤ 140737488351232 := hbd
  obtain ⟨hV, hN, hI, hco, hsr, hpg, htm⟩ := hR
  obtain ⟨hfv, hfn, hfs⟩ := hF
  have HV : Hid (View 2 VV w0 a l c vs) := hV
  have HN : Hid (View 1 VS w0 na nl nc ns) := hN
  have HI : Hid (IsB w0 sa sl sc (sNums sb)) := hI
  have HFV : Hid (∀ y ∈ vs, y.2.size ≤ 140737488351232) := hfv
  have HFN : Hid (∀ y ∈ ns, y.size ≤ 140737488351232) := hfn
  have HFS : Hid (sb.size ≤ 140737488351232) := hfs
  have hco' : 0 ≤ co ∧ co ≤ 65535 := hco
  have hsr' : 0 ≤ sr ∧ sr ≤ 65535 := hsr
  have hpn' : -2147483648 ≤ pn ∧ pn ≤ 2147483647 := hpg
  have htm' : -9223372036854775808 ≤ tm ∧ tm ≤ 9223372036854775807 := htm
  have hvl : vs.length = l := hV.1
  have hnl : ns.length = nl := hN.1
  have hlm : l ≤ maxLen := Nat.le_trans hV.2.1 hV.2.2.1
  have hnm : nl ≤ maxLen := Nat.le_trans hN.2.1 hN.2.2.1
  unfold maxLen at hlm hnm
  have HLS : Hid (sb.size = sl) := by show _ = _; rw [← sNums_length]; exact hI.1
  have HLV : Hid (vs.length = l) := hvl
  have HLN : Hid (ns.length = nl) := hnl
  have HBD : Hid (S.1.length + (32 + costV vs + costN ns + sb.size) ≤ 140737488351232) := hbd1
  have HP : Hid (w0.heap.size ≤ p) := hp
  obtain ⟨x, hx⟩ : ∃ x : Rn, x = (co, vs, ns, sk, pg, pn, rs, (sk1, sb), se, sr, ti, tm) := ⟨_, rfl⟩
  obtain ⟨F, hFl⟩ : ∃ F, F = flN (decide (0 < l)) sk pg rs se ti (decide (0 < nl)) := ⟨_, rfl⟩
  have HFX : Hid (F = flagsN x) := by
    show _ = _
    rw [hFl, hx, ← hvl, ← hnl]; rfl
  have HBADX : Hid (badF batch x = ((batch && (decide (0 < l) || sk || pg || rs || decide (0 < nl))) || (decide (0 < nl) && !decide (nl = l)))) := by
    show _ = _
    rw [hx, ← hvl, ← hnl]; rfl
  have hmb : may = 48 ∨ may = 127 := by rw [hmay]; cases batch <;> simp
  have tnot : (bits .andNot .u8 F may == 0) = !(batch && (decide (0 < l) || sk || pg || rs || decide (0 < nl))) := by rw [hFl, hmay]; exact fl_not _ _ _ _ _ _ _ _
  have t64 : (bits .and .u8 F 64 == 0) = !decide (0 < nl) := by rw [hFl]; exact fl_and64 _ _ _ _ _ _ _
  have t1 : (bits .and .u8 F 1 == 0) = !decide (0 < l) := by rw [hFl]; exact fl_and1 _ _ _ _ _ _ _
  have hFr : 0 ≤ F ∧ F ≤ 127 := by rw [hFl]; exact fl_rng _ _ _ _ _ _ _
  have HFL : Hid (F = flN (decide (0 < l)) sk pg rs se ti (decide (0 < nl))) := hFl
  have HX : Hid (x = (co, vs, ns, sk, pg, pn, rs, (sk1, sb), se, sr, ti, tm)) := hx
  obtain ⟨bad, hbad⟩ : ∃ bad, bad = ((batch && (decide (0 < l) || sk || pg || rs || decide (0 < nl))) || (decide (0 < nl) && !decide (nl = l))) := ⟨_, rfl⟩
  have HBAD : Hid (bad = badF batch x) := by show _ = _; rw [hbad]; exact HBADX.out.symm
  have HTN : Hid ((bits .andNot .u8 F may == 0) = !(batch && (decide (0 < l) || sk || pg || rs || decide (0 < nl)))) := tnot
  have HT64 : Hid ((bits .and .u8 F 64 == 0) = !decide (0 < nl)) := t64
  have HT1 : Hid ((bits .and .u8 F 1 == 0) = !decide (0 < l)) := t1
  have HBD0 : Hid (bad = ((batch && (decide (0 < l) || sk || pg || rs || decide (0 < nl))) || (decide (0 < nl) && !decide (nl = l)))) := hbad
  obtain ⟨w1, hw1⟩ : ∃ w1, w1 = w.alloc (.cells #[.int .u16 co, .slice a l c, .slice na nl nc, .bool sk, .bool pg, .int .i32 pn, .bool rs, .int .i64 sk1, .slice sa sl sc, .bool se, .int .u16 sr, .bool ti, .int .i64 tm] 30) := ⟨_, rfl⟩
  have hB1 : Below w.heap.size w w1 := by rw [hw1]; exact below_one _ _
  have HB1 : Hid (Below w.heap.size w w1) := hB1
  have hq : w1.heap[w.heap.size]? = some (.cells #[.int .u16 co, .slice a l c, .slice na nl nc, .bool sk, .bool pg, .int .i32 pn, .bool rs, .int .i64 sk1, .slice sa sl sc, .bool se, .int .u16 sr, .bool ti, .int .i64 tm] 30 (0, 0)) := by rw [hw1]; exact heap_alloc_new w _
  have HQ : Hid (w1.heap[w.heap.size]? = some (.cells #[.int .u16 co, .slice a l c, .slice na nl nc, .bool sk, .bool pg, .int .i32 pn, .bool rs, .int .i64 sk1, .slice sa sl sc, .bool se, .int .u16 sr, .bool ti, .int .i64 tm] 30 (0, 0))) := hq
  have H : Hid (Wr w1 p v S) := h.new hB1
  have HFAR : Hid (w.heap.size ≠ p ∧ v.ownBlock ≠ some w.heap.size) := ⟨fun e => by have := h.lt; omega, fun e => by have := (h.far _ e).2; omega⟩
  have HL : Hid (Below w0.heap.size w0 w1) := hB.trans (hB1.mono hB.size)
  have HW1 : Hid (w.alloc (.cells #[.int .u16 co, .slice a l c, .slice na nl nc, .bool sk, .bool pg, .int .i32 pn, .bool rs, .int .i64 sk1, .slice sa sl sc, .bool se, .int .u16 sr, .bool ti, .int .i64 tm] 30) = w1) := hw1.symm
  rw [← hx]
  clear h hB hp hbd hbd1 hV hN hI hco hsr hpg htm hfv hfn hfs hvl hnl hx hFl tnot t64 t1 hbad hB1 hw1 hmay HBADX
  go_enter Try.func19, Try.ntmps19
  go_upto_region 1 with fail
  rw [HW1.out]
  clear HW1
  obtain ⟨d0, d1, d2, d3, d4, d5, d6, d7, d8, d9, d10, d11, d12⟩ := run_cells hq
  clear hq
  obtain ⟨B1, hB1⟩ : ∃ B1, B1 = consB co := ⟨_, rfl⟩
  have HB1C : Hid (B1 = consB co) := hB1
  have HB1L : Hid (B1.1.length ≤ 2) := by show _ ≤ _; rw [hB1]; unfold consB; split <;> simp [putL_length]
  clear hB1
  go_wp2_with fail
  refine (cons_any co hco'.1 hco'.2 _ HB1C.out).mono ?_
  rintro e w2 ⟨a2, cp2, rfl, HP2, HB2⟩
  go_wp2_with fail
  refine (wpart_new H.out HB2.out HP2.out.2 (by have h1 := HBD.out; have h2 := HB1L.out; omega) B1.2).mono ?_
  rintro r w3 ⟨rfl, v3, HW3, HC3⟩
  have e1 : ((B1.1, B1.2) : BE) = consB co := HB1C.out
  rw [e1] at HW3
  clear e1 d0 d1 d2 d3 d4 d5 d6 d7 d8 d9 d10 d11 d12
  obtain ⟨d0, d1, d2, d3, d4, d5, d6, d7, d8, d9, d10, d11, d12⟩ := run_cells ((HC3.out.block (block_lt HQ.out) HFAR.out.1 HFAR.out.2).trans HQ.out)
  go_wp2_with fail
  refine (flagsOf_any co a l c na nl nc sk pg pn rs sk1 sa sl sc se sr ti tm _).mono ?_
  rintro e w4 ⟨rfl, HB4⟩
  rw [← HFL.out]
  have HC4 : Hid (Chg p v v3 w1 w4) := HC3.out.trans (chg_new HB4.out)
  have HW4 : Hid (Wr w4 p v3 (seqB S (consB co))) := HW3.out.new HB4.out
  clear d0 d1 d2 d3 d4 d5 d6 d7 d8 d9 d10 d11 d12
  obtain ⟨d0, d1, d2, d3, d4, d5, d6, d7, d8, d9, d10, d11, d12⟩ := run_cells ((HC4.out.block (block_lt HQ.out) HFAR.out.1 HFAR.out.2).trans HQ.out)
  go_upto_region 3 with fail
  go_cut [33] (fun s wx => w4 = wx ∧ s = .bool bad)
  case first =>
    by_cases hb1 : (batch && (decide (0 < l) || sk || pg || rs || decide (0 < nl))) = true
    · have tA : (bits .andNot .u8 F may == 0) = false := by rw [HTN.out, hb1]; rfl
      have tA' : ¬ bits .andNot .u8 F may = 0 := by simpa using tA
      have tB : Hid (bad = true) := by show _ = _; rw [HBD0.out, hb1]; rfl
      clear hb1
      go_wp2_with fail
      go_meet
      case rel => exact ⟨rfl, by rw [tB.out]⟩
    · have hb1' : (batch && (decide (0 < l) || sk || pg || rs || decide (0 < nl))) = false := by simpa using hb1
      have tA : bits .andNot .u8 F may = 0 := by
        have h0 : (bits .andNot .u8 F may == 0) = true := by rw [HTN.out, hb1']; rfl
        simpa using h0
      by_cases hn0 : 0 < nl
      · have tC : (bits .and .u8 F 64 == 0) = false := by rw [HT64.out]; simp [hn0]
        have tC' : ¬ bits .and .u8 F 64 = 0 := by simpa using tC
        by_cases hnl2 : nl = l
        · have tB : Hid (bad = false) := by show _ = _; rw [HBD0.out, hb1']; simp [hnl2]
          have tD : ((nl : Int) == (l : Int)) = true := by simp [hnl2]
          clear hb1 hb1' hnl2
          go_wp2_with fail
          go_meet
          case rel => exact ⟨rfl, by rw [tB.out]; simp only [bne, tC, tD]; rfl⟩
        · have tB : Hid (bad = true) := by show _ = _; rw [HBD0.out, hb1']; simp [hnl2, hn0]
          have tD : ((nl : Int) == (l : Int)) = false := by simp; omega
          clear hb1 hb1' hnl2
          go_wp2_with fail
          go_meet
          case rel => exact ⟨rfl, by rw [tB.out]; simp only [bne, tC, tD]; rfl⟩
      · have tC : bits .and .u8 F 64 = 0 := by
          have h0 : (bits .and .u8 F 64 == 0) = true := by rw [HT64.out]; simp [hn0]
          simpa using h0
        have tB : Hid (bad = false) := by show _ = _; rw [HBD0.out, hb1']; simp [hn0]
        clear hb1 hb1'
        go_wp2_with fail
        go_meet
        case rel => exact ⟨rfl, by rw [tB.out]⟩
  case rest =>
  obtain ⟨rfl, rfl⟩ := hcut
  go_upto_if 33 with fail
  go_cut [] (fun wx => ∃ v', Hid (Wr wx p v' (seqB (seqB S (consB co)) (if bad then ([], 1) else ([], 0)))) ∧ Hid (Chg p v v' w1 wx))
  case first =>
    cases bad with
    | true =>
      go_wp2_with fail
      refine (wfail HW4.out 1).mono ?_
      rintro r w5 ⟨rfl, h5, hK5⟩
      have H5 : Hid (Wr w5 p v3 (seqB (seqB S (consB co)) ([], 1))) := h5
      have HC5 : Hid (Chg p v v3 w1 w5) := HC4.out.trans ⟨⟨hK5.os, hK5.tape, hK5.output, hK5.size, fun k h1 h2 => hK5.block k h1 (fun e => h2 (.inl e))⟩, fun k hk => .inl hk⟩
      clear h5 hK5
      go_wp2_with fail
      go_meet
      case rel => exact ⟨v3, H5, HC5⟩
    | false =>
      go_wp2_with fail
      go_meet
      case rel => exact ⟨v3, by rw [if_neg (by decide), seqB_unit (nrm_seq _ _)]; exact HW4, HC4⟩
  case rest =>
  obtain ⟨v5, HW5, HC5⟩ := hcut
  have HZ5 : Hid ((seqB (seqB S (consB co)) (if bad then ([], 1) else ([], 0))).1.length ≤ S.1.length + 2) := by
    have h1 := seqB_len (seqB S (consB co)) (if bad then ([], 1) else ([], 0))
    have h2 := seqB_len S (consB co)
    have h3 := HB1L.out
    rw [HB1C.out] at h3
    have h4 : (if bad = true then (([], 1) : BE) else ([], 0)).1.length = 0 := by split <;> rfl
    show _ ≤ _
    omega
  have HFLG : Hid (seqB (seqB (seqB S (consB co)) (if bad then ([], 1) else ([], 0))) (numB F 1) = seqB (seqB S (consB co)) (flagsB batch x)) := by
    show _ = _
    rw [HBAD.out, HFX.out]
    exact flags_seq _ _ _
  clear d0 d1 d2 d3 d4 d5 d6 d7 d8 d9 d10 d11 d12
  obtain ⟨d0, d1, d2, d3, d4, d5, d6, d7, d8, d9, d10, d11, d12⟩ := run_cells ((HC5.out.block (block_lt HQ.out) HFAR.out.1 HFAR.out.2).trans HQ.out)
  go_wp2_with fail
  refine (wnumber HW5.out F 1 (by omega) (by omega) hFr.1 (by have h1 := HBD.out; have h2 := HZ5.out; omega) _ rfl).mono ?_
  rintro r w6 ⟨rfl, v6, HW6, HC6x⟩
  have HC6 : Hid (Chg p v v6 w1 w6) := HC5.out.trans HC6x.out
  have HZ6 : Hid ((seqB (seqB S (consB co)) (flagsB batch x)).1.length ≤ S.1.length + 3) := by
    have h1 := seqB_len (seqB (seqB S (consB co)) (if bad then ([], 1) else ([], 0))) (numB F 1)
    have h2 : (numB F 1).1.length = 1 := putL_length _ _
    have h3 := HZ5.out
    rw [HFLG.out] at h1
    show _ ≤ _
    omega
  rw [HFLG.out] at HW6
  have HOKN : Hid ((seqB (seqB S (consB co)) (flagsB batch x)).2 = 0 → nl = 0 ∨ nl = l) := by
    intro h0
    have h1 := (seqB_fine h0).2.1
    rw [flagsB, ← HBAD.out] at h1
    by_cases hb : bad = true
    · rw [if_pos hb] at h1; exact absurd h1 (by decide)
    · have h2 := HBD0.out
      by_cases hn0 : 0 < nl
      · by_cases hnl : nl = l
        · exact .inr hnl
        · exfalso; apply hb; rw [h2]; simp [hn0, hnl]
      · exact .inl (by omega)
  obtain ⟨S6, hS6⟩ : ∃ S6, S6 = seqB (seqB S (consB co)) (flagsB batch x) := ⟨_, rfl⟩
  rw [← hS6] at HW6 HZ6 HOKN
  have HS6 : Hid (S6 = seqB (seqB S (consB co)) (flagsB batch x)) := hS6
  clear hS6 HFLG HZ5 HW5 HC5 HC6x HW4 HC4 HW3 HC3
  clear d0 d1 d2 d3 d4 d5 d6 d7 d8 d9 d10 d11 d12
  obtain ⟨d0, d1, d2, d3, d4, d5, d6, d7, d8, d9, d10, d11, d12⟩ := run_cells ((HC6.out.block (block_lt HQ.out) HFAR.out.1 HFAR.out.2).trans HQ.out)
  go_upto_if 42 with fail
  go_cut [1] (fun s1 wx => ∃ v', Hid (Wr wx p v' (seqB S6 (optB (decide (0 < l)) (valsB vs ns)))) ∧ Hid (Chg p v v' w1 wx))
  case first =>
    by_cases hl0 : 0 < l
    · have tA : (bits .and .u8 F 1 == 0) = false := by rw [HT1.out]; simp [hl0]
      have tA' : ¬ bits .and .u8 F 1 = 0 := by simpa using tA
      have HL6 : Hid (Below w0.heap.size w0 w6) := below_chg HL.out H.out HP.out HC6.out
      have HOB : Hid (optB (decide (0 < l)) (valsB vs ns) = valsB vs ns) := by show _ = _; simp [optB, hl0]
      by_cases hn0 : nl = 0
      · subst hn0
        have HVB : Hid (valsB vs ns = listB valueB vs) := by show _ = _; rw [valsB, if_pos HLN.out]
        go_wp2_with fail
        refine (wvalues0 HW6.out HP.out HL6.out HV.out na nc HFV.out (by have h1 := HBD.out; have h2 := HZ6.out; omega)).mono ?_
        rintro r w7 ⟨rfl, v7, HW7, HC7⟩
        go_wp2_with fail
        go_meet
        case rel => exact ⟨v7, by rw [HOB.out, HVB.out]; exact HW7, HC6.out.trans HC7.out⟩
      · have HVB : Hid (valsB vs ns = listB (keyB valueB) (ns.zip vs)) := by show _ = _; rw [valsB, if_neg (by rw [HLN.out]; exact hn0)]
        have HNN : Hid (S6.2 = 0 → ns.length = vs.length) := by
          intro h0
          rw [HLN.out, HLV.out]
          rcases HOKN.out h0 with h1 | h1
          · exact absurd h1 hn0
          · exact h1
        go_wp2_with fail
        refine (wvaluesN HW6.out HP.out HL6.out HV.out HN.out hn0 HNN.out HFV.out HFN.out (by have h1 := HBD.out; have h2 := HZ6.out; omega)).mono ?_
        rintro r w7 ⟨rfl, v7, HW7, HC7⟩
        go_wp2_with fail
        go_meet
        case rel => exact ⟨v7, by rw [HOB.out, HVB.out]; exact HW7, HC6.out.trans HC7.out⟩
    · have tA : bits .and .u8 F 1 = 0 := by
        have h0 : (bits .and .u8 F 1 == 0) = true := by rw [HT1.out]; simp [hl0]
        simpa using h0
      have HOB : Hid (seqB S6 (optB (decide (0 < l)) (valsB vs ns)) = S6) := by
        show _ = _
        rw [show decide (0 < l) = false by simpa using hl0]
        exact seq_opt _ HW6.out.nrm _
      go_wp2_with fail
      go_meet
      case rel => exact ⟨v6, by rw [HOB.out]; exact HW6, HC6⟩
  case rest =>
  obtain ⟨v7, HW7, HC7⟩ := hcut
  have HZ7 : Hid ((seqB S6 (optB (decide (0 < l)) (valsB vs ns))).1.length ≤ S.1.length + 5 + costV vs + costN ns) := by
    have h1 := seqB_len S6 (optB (decide (0 < l)) (valsB vs ns))
    have h2 := HZ6.out
    have h3 : (optB (decide (0 < l)) (valsB vs ns)).1.length ≤ 2 + costV vs + costN ns := by
      unfold optB
      split
      · first | exact valsB_len _ _ | exact valueB_len _ | exact consB_len _ | exact Nat.le_of_eq (putL_length _ _)
      · simp
    show _ ≤ _
    omega
  obtain ⟨S7, hS7⟩ : ∃ S7, S7 = seqB S6 (optB (decide (0 < l)) (valsB vs ns)) := ⟨_, rfl⟩
  rw [← hS7] at HW7 HZ7
  have HS7 : Hid (S7 = seqB S6 (optB (decide (0 < l)) (valsB vs ns))) := hS7
  clear hS7
  clear d0 d1 d2 d3 d4 d5 d6 d7 d8 d9 d10 d11 d12
  obtain ⟨d0, d1, d2, d3, d4, d5, d6, d7, d8, d9, d10, d11, d12⟩ := run_cells ((HC7.out.block (block_lt HQ.out) HFAR.out.1 HFAR.out.2).trans HQ.out)
  go_upto_if 50 with fail
  go_cut [1] (fun s1 wx => ∃ v', Hid (Wr wx p v' (seqB S7 (optB pg (numB (IntKind.u64.wrap pn) 4)))) ∧ Hid (Chg p v v' w1 wx))
  case first =>
    cases pg with
    | true =>
      go_wp2_with fail
      refine (wnumber HW7.out (IntKind.u64.wrap pn) 4 (by omega) (by omega) (by rw [IntKind.wrap_u64]; omega) (by have h1 := HBD.out; have h2 := HZ7.out; omega) _ rfl).mono ?_
      rintro r w8 ⟨rfl, v8, HW8, HC8⟩
      go_wp2_with fail
      go_meet
      case rel => exact ⟨v8, HW8, HC7.out.trans HC8.out⟩
    | false =>
      have HOB : Hid (seqB S7 (optB false (numB (IntKind.u64.wrap pn) 4)) = S7) := seq_opt _ HW7.out.nrm _
      go_wp2_with fail
      go_meet
      case rel => exact ⟨v7, by rw [HOB.out]; exact HW7, HC7⟩
  case rest =>
  obtain ⟨v8, HW8, HC8⟩ := hcut
  have HZ8 : Hid ((seqB S7 (optB pg (numB (IntKind.u64.wrap pn) 4))).1.length ≤ S.1.length + 9 + costV vs + costN ns) := by
    have h1 := seqB_len S7 (optB pg (numB (IntKind.u64.wrap pn) 4))
    have h2 := HZ7.out
    have h3 : (optB pg (numB (IntKind.u64.wrap pn) 4)).1.length ≤ 4 := by
      unfold optB
      split
      · first | exact valsB_len _ _ | exact valueB_len _ | exact consB_len _ | exact Nat.le_of_eq (putL_length _ _)
      · simp
    show _ ≤ _
    omega
  obtain ⟨S8, hS8⟩ : ∃ S8, S8 = seqB S7 (optB pg (numB (IntKind.u64.wrap pn) 4)) := ⟨_, rfl⟩
  rw [← hS8] at HW8 HZ8
  have HS8 : Hid (S8 = seqB S7 (optB pg (numB (IntKind.u64.wrap pn) 4))) := hS8
  clear hS8
  clear d0 d1 d2 d3 d4 d5 d6 d7 d8 d9 d10 d11 d12
  obtain ⟨d0, d1, d2, d3, d4, d5, d6, d7, d8, d9, d10, d11, d12⟩ := run_cells ((HC8.out.block (block_lt HQ.out) HFAR.out.1 HFAR.out.2).trans HQ.out)
  go_upto_if 57 with fail
  go_cut [1] (fun s1 wx => ∃ v', Hid (Wr wx p v' (seqB S8 (optB rs (valueB (sk1, sb))))) ∧ Hid (Chg p v v' w1 wx))
  case first =>
    cases rs with
    | true =>
      obtain ⟨B, hBt⟩ : ∃ B, B = valueB (sk1, sb) := ⟨_, rfl⟩
      have HBt : Hid (B = valueB (sk1, sb)) := hBt
      have HBL : Hid (B.1.length ≤ sb.size + 4) := by show _ ≤ _; rw [hBt]; exact valueB_len _
      have HI8 : Hid (IsB wc sa sl sc (sNums sb)) := HI.out.old (below_chg HL.out H.out HP.out HC8.out)
      clear hBt
      go_wp2_with fail
      refine (value_any (sk1, sb) _ HI8.out HFS.out HBt.out).mono ?_
      rintro e w8 ⟨a8, cp8, rfl, HP8, hB8⟩
      have HB8 : Hid (Below wc.heap.size wc w8) := hB8
      clear hB8
      go_wp2_with fail
      refine (wpart_new HW8.out HB8.out HP8.out.2 (by have h1 := HBD.out; have h2 := HZ8.out; have h3 := HBL.out; omega) B.2).mono ?_
      rintro r w9 ⟨rfl, v9, HWA, HCA⟩
      go_wp2_with fail
      go_meet
      case rel => exact ⟨v9, by rw [← HBt.out]; exact HWA, HC8.out.trans HCA.out⟩
    | false =>
      have HOB : Hid (seqB S8 (optB false (valueB (sk1, sb))) = S8) := seq_opt _ HW8.out.nrm _
      go_wp2_with fail
      go_meet
      case rel => exact ⟨v8, by rw [HOB.out]; exact HW8, HC8⟩
  case rest =>
  obtain ⟨v9, HW9, HC9⟩ := hcut
  have HZ9 : Hid ((seqB S8 (optB rs (valueB (sk1, sb)))).1.length ≤ S.1.length + 13 + costV vs + costN ns + sb.size) := by
    have h1 := seqB_len S8 (optB rs (valueB (sk1, sb)))
    have h2 := HZ8.out
    have h3 : (optB rs (valueB (sk1, sb))).1.length ≤ sb.size + 4 := by
      unfold optB
      split
      · first | exact valsB_len _ _ | exact valueB_len _ | exact consB_len _ | exact Nat.le_of_eq (putL_length _ _)
      · simp
    show _ ≤ _
    omega
  obtain ⟨S9, hS9⟩ : ∃ S9, S9 = seqB S8 (optB rs (valueB (sk1, sb))) := ⟨_, rfl⟩
  rw [← hS9] at HW9 HZ9
  have HS9 : Hid (S9 = seqB S8 (optB rs (valueB (sk1, sb)))) := hS9
  clear hS9
  clear d0 d1 d2 d3 d4 d5 d6 d7 d8 d9 d10 d11 d12
  obtain ⟨d0, d1, d2, d3, d4, d5, d6, d7, d8, d9, d10, d11, d12⟩ := run_cells ((HC9.out.block (block_lt HQ.out) HFAR.out.1 HFAR.out.2).trans HQ.out)
  go_upto_if 66 with fail
  go_cut [1] (fun s1 wx => ∃ v', Hid (Wr wx p v' (seqB S9 (optB se (consB sr)))) ∧ Hid (Chg p v v' w1 wx))
  case first =>
    cases se with
    | true =>
      obtain ⟨B, hBt⟩ : ∃ B, B = consB sr := ⟨_, rfl⟩
      have HBt : Hid (B = consB sr) := hBt
      have HBL : Hid (B.1.length ≤ 2) := by show _ ≤ _; rw [hBt]; exact consB_len _
      clear hBt
      go_wp2_with fail
      refine (cons_any sr hsr'.1 hsr'.2 _ HBt.out).mono ?_
      rintro e w8 ⟨a8, cp8, rfl, HP8, HB8⟩
      go_wp2_with fail
      refine (wpart_new HW9.out HB8.out HP8.out.2 (by have h1 := HBD.out; have h2 := HZ9.out; have h3 := HBL.out; omega) B.2).mono ?_
      rintro r w9 ⟨rfl, v9, HWA, HCA⟩
      go_wp2_with fail
      go_meet
      case rel => exact ⟨v9, by rw [← HBt.out]; exact HWA, HC9.out.trans HCA.out⟩
    | false =>
      have HOB : Hid (seqB S9 (optB false (consB sr)) = S9) := seq_opt _ HW9.out.nrm _
      go_wp2_with fail
      go_meet
      case rel => exact ⟨v9, by rw [HOB.out]; exact HW9, HC9⟩
  case rest =>
  obtain ⟨v10, HW10, HC10⟩ := hcut
  have HZ10 : Hid ((seqB S9 (optB se (consB sr))).1.length ≤ S.1.length + 15 + costV vs + costN ns + sb.size) := by
    have h1 := seqB_len S9 (optB se (consB sr))
    have h2 := HZ9.out
    have h3 : (optB se (consB sr)).1.length ≤ 2 := by
      unfold optB
      split
      · first | exact valsB_len _ _ | exact valueB_len _ | exact consB_len _ | exact Nat.le_of_eq (putL_length _ _)
      · simp
    show _ ≤ _
    omega
  obtain ⟨S10, hS10⟩ : ∃ S10, S10 = seqB S9 (optB se (consB sr)) := ⟨_, rfl⟩
  rw [← hS10] at HW10 HZ10
  have HS10 : Hid (S10 = seqB S9 (optB se (consB sr))) := hS10
  clear hS10
  clear d0 d1 d2 d3 d4 d5 d6 d7 d8 d9 d10 d11 d12
  obtain ⟨d0, d1, d2, d3, d4, d5, d6, d7, d8, d9, d10, d11, d12⟩ := run_cells ((HC10.out.block (block_lt HQ.out) HFAR.out.1 HFAR.out.2).trans HQ.out)
  have HEND : Hid (seqB S10 (optB ti (numB (IntKind.u64.wrap tm) 8)) = seqB S (runB batch x)) := by
    show _ = _
    rw [HS10.out, HS9.out, HS8.out, HS7.out, HS6.out]
    have hv : decide (0 < l) = hasV x := by rw [HX.out, ← HLV.out]; rfl
    rw [hv, HX.out]
    simp only [seqB_assoc]
    rfl
  cases ti with
  | true =>
    go_wp2_with fail
    refine (wnumber HW10.out (IntKind.u64.wrap tm) 8 (by omega) (by omega) (by rw [IntKind.wrap_u64]; omega) (by have h1 := HBD.out; have h2 := HZ10.out; omega) _ rfl).mono ?_
    rintro r w11 ⟨rfl, v11, HW11, HC11⟩
    go_wp2_with fail
    go_end0
    exact ⟨rfl, v11, by rw [← HEND.out]; exact HW11, (chg_new HB1.out).trans (HC10.out.trans HC11.out)⟩
  | false =>
    have HOB : Hid (seqB S10 (optB false (numB (IntKind.u64.wrap tm) 8)) = S10) := seq_opt _ HW10.out.nrm _
    go_wp2_with fail
    go_end0
    exact ⟨rfl, v10, by rw [← HEND.out, HOB.out]; exact HW10, (chg_new HB1.out).trans HC10.out⟩
end Go.Proofs.Ytcecdklgiocbaaa
