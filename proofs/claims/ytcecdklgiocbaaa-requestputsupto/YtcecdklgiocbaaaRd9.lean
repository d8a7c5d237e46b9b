/-
  The reader's method run.
-/
import Derived.Test.YtcecdklgiocbaaaRd8
namespace Go.Proofs.Ytcecdklgiocbaaa
open Go.RowKit
set_option maxRecDepth 100000
set_option linter.unusedVariables false
set_option linter.unusedSimpArgs false

theorem sgn4_rng (x : Int) : -2147483648 ≤ sgn x 4 ∧ sgn x 4 ≤ 2147483647 := by
  unfold sgn
  simp only [show 8 * 4 - 1 = 31 from rfl, show 8 * 4 = 32 from rfl]
  split <;> omega
theorem sgn8_rng (x : Int) : -9223372036854775808 ≤ sgn x 8 ∧ sgn x 8 ≤ 9223372036854775807 := by
  unfold sgn
  simp only [show 8 * 8 - 1 = 63 from rfl, show 8 * 8 = 64 from rfl]
  split <;> omega
theorem wrap_i32' (x : Int) (h : -2147483648 ≤ x ∧ x ≤ 2147483647) : IntKind.i32.wrap x = x := by rw [IntKind.wrap_i32]; omega

theorem zeros_two (w : World) (o : Obj) : ((w.alloc o).alloc o).heap[w.heap.size]? = (w.alloc o).heap[w.heap.size]? := (below_one (w.alloc o) o).block w.heap.size (by simp)

set_option maxHeartbeats 8000000 in
theorem rrun {w : World} {p : Nat} {S : BE} (h : Rd w p S) (batch : Bool) (may : Int) (hmay : may = if batch then 48 else 127) :
    Calls Try.prog 40 #[.pointer (some ⟨p, 0, none⟩), .int .u8 may] w fun e w' => ∃ (co : Int) (a : Option Addr) (l c : Nat) (vs : List Vl) (na : Option Addr) (nl nc : Nat) (ns : List ByteArray) (b2 b4 : Bool) (pn : Int) (b8 : Bool) (sk1 : Int) (sb : ByteArray) (sa : Option Addr) (sl sc : Nat) (b16 : Bool) (sr : Int) (b32 : Bool) (tm : Int),
      e = .returned (.agg #[.int .u16 co, .slice a l c, .slice na nl nc, .bool b2, .bool b4, .int .i32 pn, .bool b8, .int .i64 sk1, .slice sa sl sc, .bool b16, .int .u16 sr, .bool b32, .int .i64 tm]) ∧ Hid (Rd w' p (stepR (runR batch) S)) ∧ Hid (RunG (fun k => w.heap.size ≤ k) w' a l c vs na nl nc ns sa sl sc sb) ∧
      Hid ((0 ≤ co ∧ co ≤ 65535) ∧ (-2147483648 ≤ pn ∧ pn ≤ 2147483647) ∧ (0 ≤ sr ∧ sr ≤ 65535) ∧ (-9223372036854775808 ≤ tm ∧ tm ≤ 9223372036854775807)) ∧
      Hid ((stepR (runR batch) S).2 = 0 → (co, vs, ns, b2, b4, pn, b8, (sk1, sb), b16, sr, b32, tm) = (runR batch S.1).val) ∧ Hid (Kept (fun k => k = p) w w') := by
  obtain ⟨w0, hw0⟩ : ∃ w0, w0 = (w.alloc (.cells #[.int .u16 0, .slice none 0 0, .slice none 0 0, .bool false, .bool false, .int .i32 0, .bool false, .int .i64 0, .slice none 0 0, .bool false, .int .u16 0, .bool false, .int .i64 0] 30)).alloc (.cells #[.int .u16 0, .slice none 0 0, .slice none 0 0, .bool false, .bool false, .int .i32 0, .bool false, .int .i64 0, .slice none 0 0, .bool false, .int .u16 0, .bool false, .int .i64 0] 30) := ⟨_, rfl⟩
  have HW0 : Hid ((w.alloc (.cells #[.int .u16 0, .slice none 0 0, .slice none 0 0, .bool false, .bool false, .int .i32 0, .bool false, .int .i64 0, .slice none 0 0, .bool false, .int .u16 0, .bool false, .int .i64 0] 30)).alloc (.cells #[.int .u16 0, .slice none 0 0, .slice none 0 0, .bool false, .bool false, .int .i32 0, .bool false, .int .i64 0, .slice none 0 0, .bool false, .int .u16 0, .bool false, .int .i64 0] 30) = w0) := hw0.symm
  have hB0 : Below w.heap.size w w0 := by rw [hw0]; exact (below_one _ _).alloc (by simp) _
  have hq1 : w0.heap[w.heap.size]? = some (.cells #[.int .u16 0, .slice none 0 0, .slice none 0 0, .bool false, .bool false, .int .i32 0, .bool false, .int .i64 0, .slice none 0 0, .bool false, .int .u16 0, .bool false, .int .i64 0] 30 (0, 0)) := by
    rw [hw0, zeros_two]
    exact heap_alloc_new w _
  have hq2 : w0.heap[w.heap.size + 1]? = some (.cells #[.int .u16 0, .slice none 0 0, .slice none 0 0, .bool false, .bool false, .int .i32 0, .bool false, .int .i64 0, .slice none 0 0, .bool false, .int .u16 0, .bool false, .int .i64 0] 30 (0, 0)) := by
    rw [hw0]
    have := heap_alloc_new (w.alloc (.cells #[.int .u16 0, .slice none 0 0, .slice none 0 0, .bool false, .bool false, .int .i32 0, .bool false, .int .i64 0, .slice none 0 0, .bool false, .int .u16 0, .bool false, .int .i64 0] 30)) (.cells #[.int .u16 0, .slice none 0 0, .slice none 0 0, .bool false, .bool false, .int .i32 0, .bool false, .int .i64 0, .slice none 0 0, .bool false, .int .u16 0, .bool false, .int .i64 0] 30)
    simpa using this
  have hpw := h.lt
  have H : Hid (Rd w0 p S) := h.new hB0
  have HB0 : Hid (Below w.heap.size w w0) := hB0
  obtain ⟨q, hq⟩ : ∃ q, q = w.heap.size := ⟨_, rfl⟩
  have HQE : Hid (q = w.heap.size) := hq
  have HQW : Hid (w.heap.size = q) := hq.symm
  rw [← hq] at hq1 hq2 hpw
  have HQ1 : Hid (w0.heap[q]? = some (.cells #[.int .u16 0, .slice none 0 0, .slice none 0 0, .bool false, .bool false, .int .i32 0, .bool false, .int .i64 0, .slice none 0 0, .bool false, .int .u16 0, .bool false, .int .i64 0] 30 (0, 0))) := hq1
  have HQ2 : Hid (w0.heap[q + 1]? = some (.cells #[.int .u16 0, .slice none 0 0, .slice none 0 0, .bool false, .bool false, .int .i32 0, .bool false, .int .i64 0, .slice none 0 0, .bool false, .int .u16 0, .bool false, .int .i64 0] 30 (0, 0))) := hq2
  have hlt2 := block_lt hq2
  have HMAY : Hid (may = if batch then 48 else 127) := hmay
  clear h hB0 hw0 hq hq1 hq2 hmay
  go_enter Try.func40, Try.ntmps40
  go_upto_region 2 with fail
  rw [HW0.out]
  clear HW0
  (try rw [HQW.out])
  go_wp2_with fail
  refine (read_cons H.out).mono ?_
  rintro e w1 ⟨co, rfl, HR1, HCO, HV1, HK1⟩
  have hb1 : w1.heap[q + 1]? = some (.cells #[.int .u16 0, .slice none 0 0, .slice none 0 0, .bool false, .bool false, .int .i32 0, .bool false, .int .i64 0, .slice none 0 0, .bool false, .int .u16 0, .bool false, .int .i64 0] 30 (0, 0)) := (HK1.out.block _ hlt2 (by omega)).trans HQ2.out
  have hk1 : w1.heap[q]? = some (.cells #[.int .u16 0, .slice none 0 0, .slice none 0 0, .bool false, .bool false, .int .i32 0, .bool false, .int .i64 0, .slice none 0 0, .bool false, .int .u16 0, .bool false, .int .i64 0] 30 (0, 0)) := (HK1.out.block _ (by omega) (by omega)).trans HQ1.out
  obtain ⟨d0, d1, d2, d3, d4, d5, d6, d7, d8, d9, d10, d11, d12⟩ := run_cells hb1
  obtain ⟨f0, f1, f2, f3, f4, f5, f6, f7, f8, f9, f10, f11, f12⟩ := run_frozen hb1
  have hl1 := block_lt hb1
  have HB1 : Hid (w1.heap[q + 1]? = some (.cells #[.int .u16 0, .slice none 0 0, .slice none 0 0, .bool false, .bool false, .int .i32 0, .bool false, .int .i64 0, .slice none 0 0, .bool false, .int .u16 0, .bool false, .int .i64 0] 30 (0, 0))) := hb1
  have HQ1a : Hid (w1.heap[q]? = some (.cells #[.int .u16 0, .slice none 0 0, .slice none 0 0, .bool false, .bool false, .int .i32 0, .bool false, .int .i64 0, .slice none 0 0, .bool false, .int .u16 0, .bool false, .int .i64 0] 30 (0, 0))) := hk1
  clear hb1 hk1
  go_upto_region 3 with fail
  have hKb : Kept (fun k => k = q + 1) w1 (w1.setCell ⟨q + 1, 0, none⟩ (.int .u16 co)) := one_kept _ _ _ _
  have hb2 := run_set0 HB1.out (.int .u16 co)
  generalize w1.setCell ⟨q + 1, 0, none⟩ (.int .u16 co) = w2 at hKb hb2 ⊢
  have HR2 : Hid (Rd w2 p (stepR consR S)) := HR1.out.kept hKb (fun k hk e => by omega)
  have HK2 : Hid (Kept (fun k => k = p) w w2) := ((kept_of HB0.out).trans HK1.out (fun i hi e => e)).trans hKb (fun i hi e => by have := HQE.out; omega)
  have HB2 : Hid (w2.heap[q + 1]? = some (.cells #[.int .u16 co, .slice none 0 0, .slice none 0 0, .bool false, .bool false, .int .i32 0, .bool false, .int .i64 0, .slice none 0 0, .bool false, .int .u16 0, .bool false, .int .i64 0] 30 (0, 0))) := hb2
  have HQ2a : Hid (w2.heap[q]? = some (.cells #[.int .u16 0, .slice none 0 0, .slice none 0 0, .bool false, .bool false, .int .i32 0, .bool false, .int .i64 0, .slice none 0 0, .bool false, .int .u16 0, .bool false, .int .i64 0] 30 (0, 0))) := (hKb.block q (by omega) (by omega)).trans HQ1a.out
  have hl2 := block_lt hb2
  clear hKb hb2 d0 d1 d2 d3 d4 d5 d6 d7 d8 d9 d10 d11 d12 f0 f1 f2 f3 f4 f5 f6 f7 f8 f9 f10 f11 f12
  go_wp2_with fail
  refine (rflags HR2.out batch may HMAY.out).mono ?_
  rintro e w3 ⟨x, rfl, HR3, HX3, HV3, HK3x⟩
  have HK3 : Hid (Kept (fun k => k = p) w w3) := HK2.out.trans HK3x.out (fun i hi e => e)
  have hb3 : w3.heap[q + 1]? = some (.cells #[.int .u16 co, .slice none 0 0, .slice none 0 0, .bool false, .bool false, .int .i32 0, .bool false, .int .i64 0, .slice none 0 0, .bool false, .int .u16 0, .bool false, .int .i64 0] 30 (0, 0)) := (HK3x.out.block _ hl2 (by omega)).trans HB2.out
  have hk3 : w3.heap[q]? = some (.cells #[.int .u16 0, .slice none 0 0, .slice none 0 0, .bool false, .bool false, .int .i32 0, .bool false, .int .i64 0, .slice none 0 0, .bool false, .int .u16 0, .bool false, .int .i64 0] 30 (0, 0)) := (HK3x.out.block _ (by omega) (by omega)).trans HQ2a.out
  obtain ⟨d0, d1, d2, d3, d4, d5, d6, d7, d8, d9, d10, d11, d12⟩ := run_cells hb3
  obtain ⟨f0, f1, f2, f3, f4, f5, f6, f7, f8, f9, f10, f11, f12⟩ := run_frozen hb3
  have hl3 := block_lt hb3
  have HB3 : Hid (w3.heap[q + 1]? = some (.cells #[.int .u16 co, .slice none 0 0, .slice none 0 0, .bool false, .bool false, .int .i32 0, .bool false, .int .i64 0, .slice none 0 0, .bool false, .int .u16 0, .bool false, .int .i64 0] 30 (0, 0))) := hb3
  have HQ3 : Hid (w3.heap[q]? = some (.cells #[.int .u16 0, .slice none 0 0, .slice none 0 0, .bool false, .bool false, .int .i32 0, .bool false, .int .i64 0, .slice none 0 0, .bool false, .int .u16 0, .bool false, .int .i64 0] 30 (0, 0))) := hk3
  clear hb3 hk3
  obtain ⟨g1, g2, g4, g8, g16, g32, g64⟩ := fx_and HX3.out
  obtain ⟨b1, hb1⟩ : ∃ b, b = bitX x 1 := ⟨_, rfl⟩
  rw [← hb1] at g1
  have HB1X : Hid (b1 = bitX x 1) := hb1
  have e1 : (bits .and .u8 x 1 != 0) = b1 := by rw [bne, g1]; simp
  clear hb1
  obtain ⟨b2, hb2⟩ : ∃ b, b = bitX x 2 := ⟨_, rfl⟩
  rw [← hb2] at g2
  have HB2X : Hid (b2 = bitX x 2) := hb2
  have e2 : (bits .and .u8 x 2 != 0) = b2 := by rw [bne, g2]; simp
  clear hb2
  obtain ⟨b4, hb4⟩ : ∃ b, b = bitX x 4 := ⟨_, rfl⟩
  rw [← hb4] at g4
  have HB4X : Hid (b4 = bitX x 4) := hb4
  have e4 : (bits .and .u8 x 4 != 0) = b4 := by rw [bne, g4]; simp
  clear hb4
  obtain ⟨b8, hb8⟩ : ∃ b, b = bitX x 8 := ⟨_, rfl⟩
  rw [← hb8] at g8
  have HB8X : Hid (b8 = bitX x 8) := hb8
  have e8 : (bits .and .u8 x 8 != 0) = b8 := by rw [bne, g8]; simp
  clear hb8
  obtain ⟨b16, hb16⟩ : ∃ b, b = bitX x 16 := ⟨_, rfl⟩
  rw [← hb16] at g16
  have HB16X : Hid (b16 = bitX x 16) := hb16
  have e16 : (bits .and .u8 x 16 != 0) = b16 := by rw [bne, g16]; simp
  clear hb16
  obtain ⟨b32, hb32⟩ : ∃ b, b = bitX x 32 := ⟨_, rfl⟩
  rw [← hb32] at g32
  have HB32X : Hid (b32 = bitX x 32) := hb32
  have e32 : (bits .and .u8 x 32 != 0) = b32 := by rw [bne, g32]; simp
  clear hb32
  obtain ⟨b64, hb64⟩ : ∃ b, b = bitX x 64 := ⟨_, rfl⟩
  rw [← hb64] at g64
  have HB64X : Hid (b64 = bitX x 64) := hb64
  have e64 : (bits .and .u8 x 64 != 0) = b64 := by rw [bne, g64]; simp
  clear hb64
  obtain ⟨S2, hS2⟩ : ∃ S2, S2 = stepR (flagsR batch) (stepR consR S) := ⟨_, rfl⟩
  rw [← hS2] at HR3 HV3
  have HS2 : Hid (S2 = stepR (flagsR batch) (stepR consR S)) := hS2
  clear hS2 g1 g2 g4 g8 g16 g32 g64
  go_upto_if 15 with fail
  go_cut [] (fun wx => ∃ (a : Option Addr) (l c : Nat) (vs : List Vl) (na : Option Addr) (nl nc : Nat) (ns : List ByteArray), Hid (wx.heap[q + 1]? = some (.cells #[.int .u16 co, .slice a l c, .slice na nl nc, .bool false, .bool false, .int .i32 0, .bool false, .int .i64 0, .slice none 0 0, .bool false, .int .u16 0, .bool false, .int .i64 0] 30 (0, 0))) ∧ Hid (wx.heap[q]? = some (.cells #[.int .u16 0, .slice none 0 0, .slice none 0 0, .bool false, .bool false, .int .i32 0, .bool false, .int .i64 0, .slice none 0 0, .bool false, .int .u16 0, .bool false, .int .i64 0] 30 (0, 0))) ∧ Hid (Rd wx p (stepR (optR b1 (valsR1 b64)) S2)) ∧
      Hid (RunG (fun k => q + 2 ≤ k) wx a l c vs na nl nc ns none 0 0 ByteArray.empty) ∧ Hid ((stepR (optR b1 (valsR1 b64)) S2).2 = 0 → (vs, ns) = ((optR b1 (valsR1 b64)) S2.1).val) ∧ Hid (Kept (fun k => k = p) w wx))
  case first =>
    cases b1 with
    | false =>
      go_wp2_with fail
      go_meet
      case rel =>
        refine ⟨none, 0, 0, [], none, 0, 0, [], HB3, HQ3, ?_, ⟨ownG_nil _ _ _ _ _, ownG_nil _ _ _ _ _, isB_nil _, fun q hq => by cases hq⟩, fun _ => rfl, HK3⟩
        rw [step_opt_no _ HR3.out.nrm]
        exact HR3
    | true =>
      cases b64 with
      | false =>
        go_wp2_with fail
        refine (rvalues0 HR3.out).mono ?_
        rintro e w4 ⟨v, L, rfl, HR4, HO4, HV4, HK4⟩
        obtain ⟨a, c, rfl⟩ := HO4.out.shape
        obtain ⟨l, hl⟩ : ∃ l, l = L.length := ⟨_, rfl⟩
        rw [← hl] at HO4 ⊢
        have HLL : Hid (L.length = l) := hl.symm
        have HVV : Hid (stepR (valsR1 false) S2 = (if L.length = 0 then stepR (failR 11 : Ps Int) (stepR (listR valueR) S2) else stepR (listR valueR) S2) ∧ ((stepR (valsR1 false) S2).2 = 0 → (valsR1 false S2.1).val = (L, []))) := vals1_0 HV4.out
        have hb4 : w4.heap[q + 1]? = some (.cells #[.int .u16 co, .slice none 0 0, .slice none 0 0, .bool false, .bool false, .int .i32 0, .bool false, .int .i64 0, .slice none 0 0, .bool false, .int .u16 0, .bool false, .int .i64 0] 30 (0, 0)) := (HK4.out.block _ hl3 (by omega)).trans HB3.out
        have hk4 : w4.heap[q]? = some (.cells #[.int .u16 0, .slice none 0 0, .slice none 0 0, .bool false, .bool false, .int .i32 0, .bool false, .int .i64 0, .slice none 0 0, .bool false, .int .u16 0, .bool false, .int .i64 0] 30 (0, 0)) := (HK4.out.block _ (by omega) (by omega)).trans HQ3.out
        have hl4 := block_lt hb4
        clear hl d0 d1 d2 d3 d4 d5 d6 d7 d8 d9 d10 d11 d12 f0 f1 f2 f3 f4 f5 f6 f7 f8 f9 f10 f11 f12
        obtain ⟨d0, d1, d2, d3, d4, d5, d6, d7, d8, d9, d10, d11, d12⟩ := run_cells hb4
        obtain ⟨f0, f1, f2, f3, f4, f5, f6, f7, f8, f9, f10, f11, f12⟩ := run_frozen hb4
        go_upto_region 6 with fail
        have hKb : Kept (fun k => k = q + 1) w4 ((w4.setCell ⟨q + 1, 1, none⟩ (.slice a l c)).setCell ⟨q + 1, 2, none⟩ (.slice none 0 0)) := (one_kept w4 (q + 1) 1 _).setCell (p := ⟨q + 1, 2, none⟩) (fun _ => rfl) _
        have hb5 := run_set2 (run_set1 hb4 (.slice a l c)) (.slice none 0 0)
        generalize (w4.setCell ⟨q + 1, 1, none⟩ (.slice a l c)).setCell ⟨q + 1, 2, none⟩ (.slice none 0 0) = w5 at hKb hb5 ⊢
        have HR5 : Hid (Rd w5 p (stepR (listR valueR) S2)) := HR4.out.kept hKb (fun k hk e => by omega)
        have HK5 : Hid (Kept (fun k => k = p) w w5) := (HK3.out.trans HK4.out (fun i hi e => e)).trans hKb (fun i hi e => by have := HQE.out; omega)
        have HQ5 : Hid (w5.heap[q]? = some (.cells #[.int .u16 0, .slice none 0 0, .slice none 0 0, .bool false, .bool false, .int .i32 0, .bool false, .int .i64 0, .slice none 0 0, .bool false, .int .u16 0, .bool false, .int .i64 0] 30 (0, 0))) := (hKb.block q (block_lt hk4) (by omega)).trans hk4
        have HO5 : Hid (OwnG 28 2 GV w5 (fun k => q + 2 ≤ k) (.slice a l c) L) := HO4.out.kept stays_gv (fun k hk hf => hKb.block k hk (by omega)) hKb.size (fun k hk hf => by omega)
        have HB5 : Hid (w5.heap[q + 1]? = some (.cells #[.int .u16 co, .slice a l c, .slice none 0 0, .bool false, .bool false, .int .i32 0, .bool false, .int .i64 0, .slice none 0 0, .bool false, .int .u16 0, .bool false, .int .i64 0] 30 (0, 0))) := hb5
        have hl5 := block_lt hb5
        clear hKb hk4 hb4 d0 d1 d2 d3 d4 d5 d6 d7 d8 d9 d10 d11 d12 f0 f1 f2 f3 f4 f5 f6 f7 f8 f9 f10 f11 f12
        obtain ⟨d0, d1, d2, d3, d4, d5, d6, d7, d8, d9, d10, d11, d12⟩ := run_cells hb5
        clear hb5
        by_cases hl0 : l = 0
        · subst hl0
          have HE : Hid (stepR (optR true (valsR1 false)) S2 = stepR (failR 11 : Ps Int) (stepR (listR valueR) S2)) := by
            show stepR (valsR1 false) S2 = _
            rw [HVV.out.1, if_pos HLL.out]
          go_wp2_with fail
          refine (rfail HR5.out 11 (by decide)).mono ?_
          rintro e w6 ⟨rfl, HR6, HK6⟩
          have HNZ : Hid ((stepR (failR 11 : Ps Int) (stepR (listR valueR) S2)).2 ≠ 0) := fail_ne (by decide) _
          go_wp2_with fail
          go_meet
          case rel =>
            refine ⟨a, 0, c, L, none, 0, 0, [], (HK6.out.block _ hl5 (by omega)).trans HB5.out, (HK6.out.block _ (block_lt HQ5.out) (by omega)).trans HQ5.out, by rw [HE.out]; exact HR6, ⟨HO5.out.kept stays_gv (fun k hk hf => HK6.out.block k hk (by omega)) HK6.out.size (fun _ _ hf => hf), ownG_nil _ _ _ _ _, isB_nil _, fun q hq => by cases hq⟩, ?_, HK5.out.trans HK6.out (fun i hi e => e)⟩
            intro h0
            rw [HE.out] at h0
            exact absurd h0 HNZ.out
        · have tl : ((l : Int) == 0) = false := by simp; omega
          have HE : Hid (stepR (optR true (valsR1 false)) S2 = stepR (listR valueR) S2) := by
            show stepR (valsR1 false) S2 = _
            rw [HVV.out.1, if_neg (by rw [HLL.out]; exact hl0)]
          go_wp2_with fail
          go_meet
          case rel =>
            refine ⟨a, l, c, L, none, 0, 0, [], HB5, HQ5, by rw [HE.out]; exact HR5, ⟨HO5.out, ownG_nil _ _ _ _ _, isB_nil _, fun q hq => by cases hq⟩, ?_, HK5⟩
            intro h0
            exact (HVV.out.2 h0).symm
      | true =>
        go_wp2_with fail
        refine (rvaluesN HR3.out).mono ?_
        rintro e w4 ⟨v, nm, L, rfl, HR4, HO4, HV4, HK4⟩
        obtain ⟨a, c, rfl⟩ := HO4.out.1.shape
        obtain ⟨na, nc, rfl⟩ := HO4.out.2.shape
        obtain ⟨l, hl⟩ : ∃ l, l = (L.map (·.2)).length := ⟨_, rfl⟩
        obtain ⟨nl, hnl⟩ : ∃ nl, nl = (L.map (·.1)).length := ⟨_, rfl⟩
        rw [← hl, ← hnl] at HO4 ⊢
        have HLL : Hid (L.length = l) := by show _ = _; rw [hl, List.length_map]
        have HVV : Hid (stepR (valsR1 true) S2 = (if L.length = 0 then stepR (failR 11 : Ps Int) (stepR (listR (keyR valueR)) S2) else stepR (listR (keyR valueR)) S2) ∧ ((stepR (valsR1 true) S2).2 = 0 → (valsR1 true S2.1).val = (L.map (·.2), L.map (·.1)))) := vals1_N HV4.out
        have hb4 : w4.heap[q + 1]? = some (.cells #[.int .u16 co, .slice none 0 0, .slice none 0 0, .bool false, .bool false, .int .i32 0, .bool false, .int .i64 0, .slice none 0 0, .bool false, .int .u16 0, .bool false, .int .i64 0] 30 (0, 0)) := (HK4.out.block _ hl3 (by omega)).trans HB3.out
        have hk4 : w4.heap[q]? = some (.cells #[.int .u16 0, .slice none 0 0, .slice none 0 0, .bool false, .bool false, .int .i32 0, .bool false, .int .i64 0, .slice none 0 0, .bool false, .int .u16 0, .bool false, .int .i64 0] 30 (0, 0)) := (HK4.out.block _ (by omega) (by omega)).trans HQ3.out
        have hl4 := block_lt hb4
        clear hl hnl d0 d1 d2 d3 d4 d5 d6 d7 d8 d9 d10 d11 d12 f0 f1 f2 f3 f4 f5 f6 f7 f8 f9 f10 f11 f12
        obtain ⟨d0, d1, d2, d3, d4, d5, d6, d7, d8, d9, d10, d11, d12⟩ := run_cells hb4
        obtain ⟨f0, f1, f2, f3, f4, f5, f6, f7, f8, f9, f10, f11, f12⟩ := run_frozen hb4
        go_upto_region 6 with fail
        have hKb : Kept (fun k => k = q + 1) w4 ((w4.setCell ⟨q + 1, 1, none⟩ (.slice a l c)).setCell ⟨q + 1, 2, none⟩ (.slice na nl nc)) := (one_kept w4 (q + 1) 1 _).setCell (p := ⟨q + 1, 2, none⟩) (fun _ => rfl) _
        have hb5 := run_set2 (run_set1 hb4 (.slice a l c)) (.slice na nl nc)
        generalize (w4.setCell ⟨q + 1, 1, none⟩ (.slice a l c)).setCell ⟨q + 1, 2, none⟩ (.slice na nl nc) = w5 at hKb hb5 ⊢
        have HR5 : Hid (Rd w5 p (stepR (listR (keyR valueR)) S2)) := HR4.out.kept hKb (fun k hk e => by omega)
        have HK5 : Hid (Kept (fun k => k = p) w w5) := (HK3.out.trans HK4.out (fun i hi e => e)).trans hKb (fun i hi e => by have := HQE.out; omega)
        have HQ5 : Hid (w5.heap[q]? = some (.cells #[.int .u16 0, .slice none 0 0, .slice none 0 0, .bool false, .bool false, .int .i32 0, .bool false, .int .i64 0, .slice none 0 0, .bool false, .int .u16 0, .bool false, .int .i64 0] 30 (0, 0))) := (hKb.block q (block_lt hk4) (by omega)).trans hk4
        have HO5 : Hid (OwnG 28 2 GV w5 (fun k => q + 2 ≤ k) (.slice a l c) (L.map (·.2))) := HO4.out.1.kept stays_gv (fun k hk hf => hKb.block k hk (by omega)) hKb.size (fun k hk hf => by omega)
        have HN5 : Hid (OwnG 9 1 GS w5 (fun k => q + 2 ≤ k) (.slice na nl nc) (L.map (·.1))) := HO4.out.2.kept stays_gs (fun k hk hf => hKb.block k hk (by omega)) hKb.size (fun k hk hf => by omega)
        have HB5 : Hid (w5.heap[q + 1]? = some (.cells #[.int .u16 co, .slice a l c, .slice na nl nc, .bool false, .bool false, .int .i32 0, .bool false, .int .i64 0, .slice none 0 0, .bool false, .int .u16 0, .bool false, .int .i64 0] 30 (0, 0))) := hb5
        have hl5 := block_lt hb5
        clear hKb hk4 hb4 d0 d1 d2 d3 d4 d5 d6 d7 d8 d9 d10 d11 d12 f0 f1 f2 f3 f4 f5 f6 f7 f8 f9 f10 f11 f12
        obtain ⟨d0, d1, d2, d3, d4, d5, d6, d7, d8, d9, d10, d11, d12⟩ := run_cells hb5
        clear hb5
        by_cases hl0 : l = 0
        · subst hl0
          have HE : Hid (stepR (optR true (valsR1 true)) S2 = stepR (failR 11 : Ps Int) (stepR (listR (keyR valueR)) S2)) := by
            show stepR (valsR1 true) S2 = _
            rw [HVV.out.1, if_pos HLL.out]
          go_wp2_with fail
          refine (rfail HR5.out 11 (by decide)).mono ?_
          rintro e w6 ⟨rfl, HR6, HK6⟩
          have HNZ : Hid ((stepR (failR 11 : Ps Int) (stepR (listR (keyR valueR)) S2)).2 ≠ 0) := fail_ne (by decide) _
          go_wp2_with fail
          go_meet
          case rel =>
            refine ⟨a, 0, c, _, na, nl, nc, _, (HK6.out.block _ hl5 (by omega)).trans HB5.out, (HK6.out.block _ (block_lt HQ5.out) (by omega)).trans HQ5.out, by rw [HE.out]; exact HR6, ⟨HO5.out.kept stays_gv (fun k hk hf => HK6.out.block k hk (by omega)) HK6.out.size (fun _ _ hf => hf), HN5.out.kept stays_gs (fun k hk hf => HK6.out.block k hk (by omega)) HK6.out.size (fun _ _ hf => hf), isB_nil _, fun q hq => by cases hq⟩, ?_, HK5.out.trans HK6.out (fun i hi e => e)⟩
            intro h0
            rw [HE.out] at h0
            exact absurd h0 HNZ.out
        · have tl : ((l : Int) == 0) = false := by simp; omega
          have HE : Hid (stepR (optR true (valsR1 true)) S2 = stepR (listR (keyR valueR)) S2) := by
            show stepR (valsR1 true) S2 = _
            rw [HVV.out.1, if_neg (by rw [HLL.out]; exact hl0)]
          go_wp2_with fail
          go_meet
          case rel =>
            refine ⟨a, l, c, _, na, nl, nc, _, HB5, HQ5, by rw [HE.out]; exact HR5, ⟨HO5.out, HN5.out, isB_nil _, fun q hq => by cases hq⟩, ?_, HK5⟩
            intro h0
            exact (HVV.out.2 h0).symm
  case rest =>
  obtain ⟨a, l, c, vs, na, nl, nc, ns, HBa, HQa, HRa, HGa, HVa, HKa⟩ := hcut
  obtain ⟨S3, hS3⟩ : ∃ S3, S3 = stepR (optR b1 (valsR1 b64)) S2 := ⟨_, rfl⟩
  rw [← hS3] at HRa HVa
  have HS3 : Hid (S3 = stepR (optR b1 (valsR1 b64)) S2) := hS3
  clear hS3 HR3 HK3 HB3 HQ3 hl3 HR2 HK2 HB2 HQ2a hl2 HR1 HK1 HB1 HQ1a hl1 HK3x
  clear d0 d1 d2 d3 d4 d5 d6 d7 d8 d9 d10 d11 d12 f0 f1 f2 f3 f4 f5 f6 f7 f8 f9 f10 f11 f12
  obtain ⟨d0, d1, d2, d3, d4, d5, d6, d7, d8, d9, d10, d11, d12⟩ := run_cells HBa.out
  obtain ⟨f0, f1, f2, f3, f4, f5, f6, f7, f8, f9, f10, f11, f12⟩ := run_frozen HBa.out
  have hla := block_lt HBa.out
  go_upto_region 10 with fail
  have hKb : Kept (fun k => k = q + 1) wc ((wc.setCell ⟨q + 1, 3, none⟩ (.bool b2)).setCell ⟨q + 1, 4, none⟩ (.bool b4)) := (((Kept.refl (fun k => k = q + 1) wc).setCell (p := ⟨q + 1, 3, none⟩) (fun _ => rfl) _).setCell (p := ⟨q + 1, 4, none⟩) (fun _ => rfl) _)
  have hb5 := (run_set4 (run_set3 HBa.out (.bool b2)) (.bool b4))
  generalize ((wc.setCell ⟨q + 1, 3, none⟩ (.bool b2)).setCell ⟨q + 1, 4, none⟩ (.bool b4)) = wd at hKb hb5 ⊢
  have HRd : Hid (Rd wd p S3) := HRa.out.kept hKb (fun k hk e => by omega)
  have HKd : Hid (Kept (fun k => k = p) w wd) := HKa.out.trans hKb (fun i hi e => by have := HQE.out; omega)
  have HQd : Hid (wd.heap[q]? = some (.cells #[.int .u16 0, .slice none 0 0, .slice none 0 0, .bool false, .bool false, .int .i32 0, .bool false, .int .i64 0, .slice none 0 0, .bool false, .int .u16 0, .bool false, .int .i64 0] 30 (0, 0))) := (hKb.block q (block_lt HQa.out) (by omega)).trans HQa.out
  have HGd : Hid (RunG (fun k => q + 2 ≤ k) wd a l c vs na nl nc ns none 0 0 ByteArray.empty) := HGa.out.stay (fun k hk hf => hKb.block k hk (by omega)) hKb.size (fun _ _ hf => hf)
  have HBd : Hid (wd.heap[q + 1]? = some (.cells #[.int .u16 co, .slice a l c, .slice na nl nc, .bool b2, .bool b4, .int .i32 0, .bool false, .int .i64 0, .slice none 0 0, .bool false, .int .u16 0, .bool false, .int .i64 0] 30 (0, 0))) := hb5
  have hld := block_lt hb5
  clear hKb hb5 HRa HKa HQa HGa HBa hla
  clear d0 d1 d2 d3 d4 d5 d6 d7 d8 d9 d10 d11 d12 f0 f1 f2 f3 f4 f5 f6 f7 f8 f9 f10 f11 f12
  obtain ⟨d0, d1, d2, d3, d4, d5, d6, d7, d8, d9, d10, d11, d12⟩ := run_cells HBd.out
  obtain ⟨f0, f1, f2, f3, f4, f5, f6, f7, f8, f9, f10, f11, f12⟩ := run_frozen HBd.out
  go_upto_if 41 with fail
  go_cut [] (fun wx => ∃ (pn : Int), Hid (wx.heap[q + 1]? = some (.cells #[.int .u16 co, .slice a l c, .slice na nl nc, .bool b2, .bool b4, .int .i32 pn, .bool false, .int .i64 0, .slice none 0 0, .bool false, .int .u16 0, .bool false, .int .i64 0] 30 (0, 0))) ∧ Hid (wx.heap[q]? = some (.cells #[.int .u16 0, .slice none 0 0, .slice none 0 0, .bool false, .bool false, .int .i32 0, .bool false, .int .i64 0, .slice none 0 0, .bool false, .int .u16 0, .bool false, .int .i64 0] 30 (0, 0))) ∧ Hid (Rd wx p (stepR (optR b4 (sgnR 4)) S3)) ∧ Hid (RunG (fun k => q + 2 ≤ k) wx a l c vs na nl nc ns none 0 0 ByteArray.empty) ∧ Hid (-2147483648 ≤ pn ∧ pn ≤ 2147483647) ∧ Hid ((stepR (optR b4 (sgnR 4)) S3).2 = 0 → pn = ((optR b4 (sgnR 4)) S3.1).val) ∧ Hid (Kept (fun k => k = p) w wx))
  case first =>
    cases b4 with
    | false =>
      go_wp2_with fail
      go_meet
      case rel =>
        refine ⟨0, HBd, HQd, ?_, HGd, ⟨by omega, by omega⟩, fun _ => rfl, HKd⟩
        rw [step_opt_no _ HRd.out.nrm]
        exact HRd
    | true =>
      go_wp2_with fail
      refine (rsigned HRd.out 4 (by omega) (by omega) _ rfl).mono ?_
      rintro e w6 ⟨x6, t, rfl, HRy, HTy, HVy, HKy⟩
      have hb6 : w6.heap[q + 1]? = some (.cells #[.int .u16 co, .slice a l c, .slice na nl nc, .bool b2, .bool true, .int .i32 0, .bool false, .int .i64 0, .slice none 0 0, .bool false, .int .u16 0, .bool false, .int .i64 0] 30 (0, 0)) := (HKy.out.block _ hld (by omega)).trans HBd.out
      have hk6 : w6.heap[q]? = some (.cells #[.int .u16 0, .slice none 0 0, .slice none 0 0, .bool false, .bool false, .int .i32 0, .bool false, .int .i64 0, .slice none 0 0, .bool false, .int .u16 0, .bool false, .int .i64 0] 30 (0, 0)) := (HKy.out.block _ (by omega) (by omega)).trans HQd.out
      have hl6 := block_lt hb6
      clear d0 d1 d2 d3 d4 d5 d6 d7 d8 d9 d10 d11 d12 f0 f1 f2 f3 f4 f5 f6 f7 f8 f9 f10 f11 f12
      obtain ⟨d0, d1, d2, d3, d4, d5, d6, d7, d8, d9, d10, d11, d12⟩ := run_cells hb6
      obtain ⟨f0, f1, f2, f3, f4, f5, f6, f7, f8, f9, f10, f11, f12⟩ := run_frozen hb6
      have htr : -2147483648 ≤ t ∧ t ≤ 2147483647 := by rw [HTy.out]; exact sgn4_rng x6
      have hwi := wrap_i32' t htr
      go_wp2_with fail
      go_meet
      case rel =>
        have hKb : Kept (fun k => k = q + 1) w6 (w6.setCell ⟨q + 1, 5, none⟩ (.int .i32 t)) := one_kept _ _ _ _
        refine ⟨t, run_set5 hb6 _, (hKb.block q (block_lt hk6) (by omega)).trans hk6, HRy.out.kept hKb (fun k hk e => by omega), HGd.out.stay (fun k hk hf => (hKb.block k (by have := HKy.out.size; omega) (by omega)).trans (HKy.out.block k hk (by omega))) (Nat.le_trans HKy.out.size hKb.size) (fun _ _ hf => hf), htr, HVy, (HKd.out.trans HKy.out (fun i hi e => e)).trans hKb (fun i hi e => by have := HQE.out; omega)⟩

  case rest =>
  obtain ⟨pn, HBb, HQb, HRb, HGb, HPN, HVb, HKb⟩ := hcut
  obtain ⟨S4, hS4⟩ : ∃ S4, S4 = stepR (optR b4 (sgnR 4)) S3 := ⟨_, rfl⟩
  rw [← hS4] at HRb HVb
  have HS4 : Hid (S4 = stepR (optR b4 (sgnR 4)) S3) := hS4
  clear hS4 HRd HKd HQd HGd HBd hld
  clear d0 d1 d2 d3 d4 d5 d6 d7 d8 d9 d10 d11 d12 f0 f1 f2 f3 f4 f5 f6 f7 f8 f9 f10 f11 f12
  obtain ⟨d0, d1, d2, d3, d4, d5, d6, d7, d8, d9, d10, d11, d12⟩ := run_cells HBb.out
  obtain ⟨f0, f1, f2, f3, f4, f5, f6, f7, f8, f9, f10, f11, f12⟩ := run_frozen HBb.out
  have hlb := block_lt HBb.out
  go_upto_region 13 with fail
  have hKb : Kept (fun k => k = q + 1) wc (wc.setCell ⟨q + 1, 6, none⟩ (.bool b8)) := ((Kept.refl (fun k => k = q + 1) wc).setCell (p := ⟨q + 1, 6, none⟩) (fun _ => rfl) _)
  have hb5 := (run_set6 HBb.out (.bool b8))
  generalize (wc.setCell ⟨q + 1, 6, none⟩ (.bool b8)) = we at hKb hb5 ⊢
  have HRe : Hid (Rd we p S4) := HRb.out.kept hKb (fun k hk e => by omega)
  have HKe : Hid (Kept (fun k => k = p) w we) := HKb.out.trans hKb (fun i hi e => by have := HQE.out; omega)
  have HQe : Hid (we.heap[q]? = some (.cells #[.int .u16 0, .slice none 0 0, .slice none 0 0, .bool false, .bool false, .int .i32 0, .bool false, .int .i64 0, .slice none 0 0, .bool false, .int .u16 0, .bool false, .int .i64 0] 30 (0, 0))) := (hKb.block q (block_lt HQb.out) (by omega)).trans HQb.out
  have HGe : Hid (RunG (fun k => q + 2 ≤ k) we a l c vs na nl nc ns none 0 0 ByteArray.empty) := HGb.out.stay (fun k hk hf => hKb.block k hk (by omega)) hKb.size (fun _ _ hf => hf)
  have HBe : Hid (we.heap[q + 1]? = some (.cells #[.int .u16 co, .slice a l c, .slice na nl nc, .bool b2, .bool b4, .int .i32 pn, .bool b8, .int .i64 0, .slice none 0 0, .bool false, .int .u16 0, .bool false, .int .i64 0] 30 (0, 0))) := hb5
  have hle := block_lt hb5
  clear hKb hb5 HRb HKb HQb HGb HBb hlb
  clear d0 d1 d2 d3 d4 d5 d6 d7 d8 d9 d10 d11 d12 f0 f1 f2 f3 f4 f5 f6 f7 f8 f9 f10 f11 f12
  obtain ⟨d0, d1, d2, d3, d4, d5, d6, d7, d8, d9, d10, d11, d12⟩ := run_cells HBe.out
  obtain ⟨f0, f1, f2, f3, f4, f5, f6, f7, f8, f9, f10, f11, f12⟩ := run_frozen HBe.out
  go_upto_if 51 with fail
  go_cut [] (fun wx => ∃ (sk1 : Int) (sb : ByteArray) (sa : Option Addr) (sl sc : Nat), Hid (wx.heap[q + 1]? = some (.cells #[.int .u16 co, .slice a l c, .slice na nl nc, .bool b2, .bool b4, .int .i32 pn, .bool b8, .int .i64 sk1, .slice sa sl sc, .bool false, .int .u16 0, .bool false, .int .i64 0] 30 (0, 0))) ∧ Hid (wx.heap[q]? = some (.cells #[.int .u16 0, .slice none 0 0, .slice none 0 0, .bool false, .bool false, .int .i32 0, .bool false, .int .i64 0, .slice none 0 0, .bool false, .int .u16 0, .bool false, .int .i64 0] 30 (0, 0))) ∧ Hid (Rd wx p (stepR (optR b8 valueR) S4)) ∧ Hid (RunG (fun k => q + 2 ≤ k) wx a l c vs na nl nc ns sa sl sc sb) ∧ Hid ((stepR (optR b8 valueR) S4).2 = 0 → (sk1, sb) = ((optR b8 valueR) S4.1).val) ∧ Hid (Kept (fun k => k = p) w wx))
  case first =>
    cases b8 with
    | false =>
      go_wp2_with fail
      go_meet
      case rel =>
        refine ⟨0, ByteArray.empty, none, 0, 0, HBe, HQe, ?_, HGe, fun _ => rfl, HKe⟩
        rw [step_opt_no _ HRe.out.nrm]
        exact HRe
    | true =>
      go_wp2_with fail
      refine (read_value HRe.out).mono ?_
      rintro e w6 ⟨V, xa, xl, xc, rfl, HRy, HIy, hFy, HVy, HKy⟩
      have hb6 : w6.heap[q + 1]? = some (.cells #[.int .u16 co, .slice a l c, .slice na nl nc, .bool b2, .bool b4, .int .i32 pn, .bool true, .int .i64 0, .slice none 0 0, .bool false, .int .u16 0, .bool false, .int .i64 0] 30 (0, 0)) := (HKy.out.block _ hle (by omega)).trans HBe.out
      have hk6 : w6.heap[q]? = some (.cells #[.int .u16 0, .slice none 0 0, .slice none 0 0, .bool false, .bool false, .int .i32 0, .bool false, .int .i64 0, .slice none 0 0, .bool false, .int .u16 0, .bool false, .int .i64 0] 30 (0, 0)) := (HKy.out.block _ (by omega) (by omega)).trans HQe.out
      have hl6 := block_lt hb6
      clear d0 d1 d2 d3 d4 d5 d6 d7 d8 d9 d10 d11 d12 f0 f1 f2 f3 f4 f5 f6 f7 f8 f9 f10 f11 f12
      obtain ⟨d0, d1, d2, d3, d4, d5, d6, d7, d8, d9, d10, d11, d12⟩ := run_cells hb6
      obtain ⟨f0, f1, f2, f3, f4, f5, f6, f7, f8, f9, f10, f11, f12⟩ := run_frozen hb6
      go_wp2_with fail
      go_meet
      case rel =>
        have hKb : Kept (fun k => k = q + 1) w6 ((w6.setCell ⟨q + 1, 7, none⟩ (.int .i64 V.1)).setCell ⟨q + 1, 8, none⟩ (.slice xa xl xc)) := (one_kept w6 (q + 1) 7 _).setCell (p := ⟨q + 1, 8, none⟩) (fun _ => rfl) _
        have hG6 := HGe.out.stay (w' := (w6.setCell ⟨q + 1, 7, none⟩ (.int .i64 V.1)).setCell ⟨q + 1, 8, none⟩ (.slice xa xl xc)) (F' := fun k => q + 2 ≤ k) (fun k hk hf => (hKb.block k (by have := HKy.out.size; omega) (by omega)).trans (HKy.out.block k hk (by omega))) (Nat.le_trans HKy.out.size hKb.size) (fun _ _ hf => hf)
        refine ⟨V.1, V.2, xa, xl, xc, run_set8 (run_set7 hb6 _) _, (hKb.block q (block_lt hk6) (by omega)).trans hk6, HRy.out.kept hKb (fun k hk e => by omega), ⟨hG6.1, hG6.2.1, HIy.out.kept hKb (fun z hz _ e => by have := (hFy z hz).1; omega), fun z hz _ => ?_⟩, HVy, (HKe.out.trans HKy.out (fun i hi e => e)).trans hKb (fun i hi e => by have := HQE.out; omega)⟩
        have h1 := hFy z hz
        have h2 := hKb.size
        exact ⟨by omega, by omega⟩

  case rest =>
  obtain ⟨sk1, sb, sa, sl, sc, HBf, HQf, HRf, HGf, HVf, HKf⟩ := hcut
  obtain ⟨S5, hS5⟩ : ∃ S5, S5 = stepR (optR b8 valueR) S4 := ⟨_, rfl⟩
  rw [← hS5] at HRf HVf
  have HS5 : Hid (S5 = stepR (optR b8 valueR) S4) := hS5
  clear hS5 HRe HKe HQe HGe HBe hle
  clear d0 d1 d2 d3 d4 d5 d6 d7 d8 d9 d10 d11 d12 f0 f1 f2 f3 f4 f5 f6 f7 f8 f9 f10 f11 f12
  obtain ⟨d0, d1, d2, d3, d4, d5, d6, d7, d8, d9, d10, d11, d12⟩ := run_cells HBf.out
  obtain ⟨f0, f1, f2, f3, f4, f5, f6, f7, f8, f9, f10, f11, f12⟩ := run_frozen HBf.out
  have hlf := block_lt HBf.out
  go_upto_region 16 with fail
  have hKb : Kept (fun k => k = q + 1) wc (wc.setCell ⟨q + 1, 9, none⟩ (.bool b16)) := ((Kept.refl (fun k => k = q + 1) wc).setCell (p := ⟨q + 1, 9, none⟩) (fun _ => rfl) _)
  have hb5 := (run_set9 HBf.out (.bool b16))
  generalize (wc.setCell ⟨q + 1, 9, none⟩ (.bool b16)) = wg at hKb hb5 ⊢
  have HRg : Hid (Rd wg p S5) := HRf.out.kept hKb (fun k hk e => by omega)
  have HKg : Hid (Kept (fun k => k = p) w wg) := HKf.out.trans hKb (fun i hi e => by have := HQE.out; omega)
  have HQg : Hid (wg.heap[q]? = some (.cells #[.int .u16 0, .slice none 0 0, .slice none 0 0, .bool false, .bool false, .int .i32 0, .bool false, .int .i64 0, .slice none 0 0, .bool false, .int .u16 0, .bool false, .int .i64 0] 30 (0, 0))) := (hKb.block q (block_lt HQf.out) (by omega)).trans HQf.out
  have HGg : Hid (RunG (fun k => q + 2 ≤ k) wg a l c vs na nl nc ns sa sl sc sb) := HGf.out.stay (fun k hk hf => hKb.block k hk (by omega)) hKb.size (fun _ _ hf => hf)
  have HBg : Hid (wg.heap[q + 1]? = some (.cells #[.int .u16 co, .slice a l c, .slice na nl nc, .bool b2, .bool b4, .int .i32 pn, .bool b8, .int .i64 sk1, .slice sa sl sc, .bool b16, .int .u16 0, .bool false, .int .i64 0] 30 (0, 0))) := hb5
  have hlg := block_lt hb5
  clear hKb hb5 HRf HKf HQf HGf HBf hlf
  clear d0 d1 d2 d3 d4 d5 d6 d7 d8 d9 d10 d11 d12 f0 f1 f2 f3 f4 f5 f6 f7 f8 f9 f10 f11 f12
  obtain ⟨d0, d1, d2, d3, d4, d5, d6, d7, d8, d9, d10, d11, d12⟩ := run_cells HBg.out
  obtain ⟨f0, f1, f2, f3, f4, f5, f6, f7, f8, f9, f10, f11, f12⟩ := run_frozen HBg.out
  go_upto_if 60 with fail
  go_cut [] (fun wx => ∃ (sr : Int), Hid (wx.heap[q + 1]? = some (.cells #[.int .u16 co, .slice a l c, .slice na nl nc, .bool b2, .bool b4, .int .i32 pn, .bool b8, .int .i64 sk1, .slice sa sl sc, .bool b16, .int .u16 sr, .bool false, .int .i64 0] 30 (0, 0))) ∧ Hid (wx.heap[q]? = some (.cells #[.int .u16 0, .slice none 0 0, .slice none 0 0, .bool false, .bool false, .int .i32 0, .bool false, .int .i64 0, .slice none 0 0, .bool false, .int .u16 0, .bool false, .int .i64 0] 30 (0, 0))) ∧ Hid (Rd wx p (stepR (optR b16 consR) S5)) ∧ Hid (RunG (fun k => q + 2 ≤ k) wx a l c vs na nl nc ns sa sl sc sb) ∧ Hid (0 ≤ sr ∧ sr ≤ 65535) ∧ Hid ((stepR (optR b16 consR) S5).2 = 0 → sr = ((optR b16 consR) S5.1).val) ∧ Hid (Kept (fun k => k = p) w wx))
  case first =>
    cases b16 with
    | false =>
      go_wp2_with fail
      go_meet
      case rel =>
        refine ⟨0, HBg, HQg, ?_, HGg, ⟨by omega, by omega⟩, fun _ => rfl, HKg⟩
        rw [step_opt_no _ HRg.out.nrm]
        exact HRg
    | true =>
      go_wp2_with fail
      refine (read_cons HRg.out).mono ?_
      rintro e w6 ⟨t, rfl, HRy, HTy, HVy, HKy⟩
      have hb6 : w6.heap[q + 1]? = some (.cells #[.int .u16 co, .slice a l c, .slice na nl nc, .bool b2, .bool b4, .int .i32 pn, .bool b8, .int .i64 sk1, .slice sa sl sc, .bool true, .int .u16 0, .bool false, .int .i64 0] 30 (0, 0)) := (HKy.out.block _ hlg (by omega)).trans HBg.out
      have hk6 : w6.heap[q]? = some (.cells #[.int .u16 0, .slice none 0 0, .slice none 0 0, .bool false, .bool false, .int .i32 0, .bool false, .int .i64 0, .slice none 0 0, .bool false, .int .u16 0, .bool false, .int .i64 0] 30 (0, 0)) := (HKy.out.block _ (by omega) (by omega)).trans HQg.out
      have hl6 := block_lt hb6
      clear d0 d1 d2 d3 d4 d5 d6 d7 d8 d9 d10 d11 d12 f0 f1 f2 f3 f4 f5 f6 f7 f8 f9 f10 f11 f12
      obtain ⟨d0, d1, d2, d3, d4, d5, d6, d7, d8, d9, d10, d11, d12⟩ := run_cells hb6
      obtain ⟨f0, f1, f2, f3, f4, f5, f6, f7, f8, f9, f10, f11, f12⟩ := run_frozen hb6
      go_wp2_with fail
      go_meet
      case rel =>
        have hKb : Kept (fun k => k = q + 1) w6 (w6.setCell ⟨q + 1, 10, none⟩ (.int .u16 t)) := one_kept _ _ _ _
        refine ⟨t, run_set10 hb6 _, (hKb.block q (block_lt hk6) (by omega)).trans hk6, HRy.out.kept hKb (fun k hk e => by omega), HGg.out.stay (fun k hk hf => (hKb.block k (by have := HKy.out.size; omega) (by omega)).trans (HKy.out.block k hk (by omega))) (Nat.le_trans HKy.out.size hKb.size) (fun _ _ hf => hf), HTy, HVy, (HKg.out.trans HKy.out (fun i hi e => e)).trans hKb (fun i hi e => by have := HQE.out; omega)⟩

  case rest =>
  obtain ⟨sr, HBh, HQh, HRh, HGh, HSR, HVh, HKh⟩ := hcut
  obtain ⟨S6, hS6⟩ : ∃ S6, S6 = stepR (optR b16 consR) S5 := ⟨_, rfl⟩
  rw [← hS6] at HRh HVh
  have HS6 : Hid (S6 = stepR (optR b16 consR) S5) := hS6
  clear hS6 HRg HKg HQg HGg HBg hlg
  clear d0 d1 d2 d3 d4 d5 d6 d7 d8 d9 d10 d11 d12 f0 f1 f2 f3 f4 f5 f6 f7 f8 f9 f10 f11 f12
  obtain ⟨d0, d1, d2, d3, d4, d5, d6, d7, d8, d9, d10, d11, d12⟩ := run_cells HBh.out
  obtain ⟨f0, f1, f2, f3, f4, f5, f6, f7, f8, f9, f10, f11, f12⟩ := run_frozen HBh.out
  have hlh := block_lt HBh.out
  go_upto_region 19 with fail
  have hKb : Kept (fun k => k = q + 1) wc (wc.setCell ⟨q + 1, 11, none⟩ (.bool b32)) := ((Kept.refl (fun k => k = q + 1) wc).setCell (p := ⟨q + 1, 11, none⟩) (fun _ => rfl) _)
  have hb5 := (run_set11 HBh.out (.bool b32))
  generalize (wc.setCell ⟨q + 1, 11, none⟩ (.bool b32)) = wi at hKb hb5 ⊢
  have HRi : Hid (Rd wi p S6) := HRh.out.kept hKb (fun k hk e => by omega)
  have HKi : Hid (Kept (fun k => k = p) w wi) := HKh.out.trans hKb (fun i hi e => by have := HQE.out; omega)
  have HQi : Hid (wi.heap[q]? = some (.cells #[.int .u16 0, .slice none 0 0, .slice none 0 0, .bool false, .bool false, .int .i32 0, .bool false, .int .i64 0, .slice none 0 0, .bool false, .int .u16 0, .bool false, .int .i64 0] 30 (0, 0))) := (hKb.block q (block_lt HQh.out) (by omega)).trans HQh.out
  have HGi : Hid (RunG (fun k => q + 2 ≤ k) wi a l c vs na nl nc ns sa sl sc sb) := HGh.out.stay (fun k hk hf => hKb.block k hk (by omega)) hKb.size (fun _ _ hf => hf)
  have HBi : Hid (wi.heap[q + 1]? = some (.cells #[.int .u16 co, .slice a l c, .slice na nl nc, .bool b2, .bool b4, .int .i32 pn, .bool b8, .int .i64 sk1, .slice sa sl sc, .bool b16, .int .u16 sr, .bool b32, .int .i64 0] 30 (0, 0))) := hb5
  have hli := block_lt hb5
  clear hKb hb5 HRh HKh HQh HGh HBh hlh
  clear d0 d1 d2 d3 d4 d5 d6 d7 d8 d9 d10 d11 d12 f0 f1 f2 f3 f4 f5 f6 f7 f8 f9 f10 f11 f12
  obtain ⟨d0, d1, d2, d3, d4, d5, d6, d7, d8, d9, d10, d11, d12⟩ := run_cells HBi.out
  obtain ⟨f0, f1, f2, f3, f4, f5, f6, f7, f8, f9, f10, f11, f12⟩ := run_frozen HBi.out
  go_upto_if 69 with fail
  go_cut [] (fun wx => ∃ (tm : Int), Hid (wx.heap[q + 1]? = some (.cells #[.int .u16 co, .slice a l c, .slice na nl nc, .bool b2, .bool b4, .int .i32 pn, .bool b8, .int .i64 sk1, .slice sa sl sc, .bool b16, .int .u16 sr, .bool b32, .int .i64 tm] 30 (0, 0))) ∧ Hid (wx.heap[q]? = some (.cells #[.int .u16 0, .slice none 0 0, .slice none 0 0, .bool false, .bool false, .int .i32 0, .bool false, .int .i64 0, .slice none 0 0, .bool false, .int .u16 0, .bool false, .int .i64 0] 30 (0, 0))) ∧ Hid (Rd wx p (stepR (optR b32 (sgnR 8)) S6)) ∧ Hid (RunG (fun k => q + 2 ≤ k) wx a l c vs na nl nc ns sa sl sc sb) ∧ Hid (-9223372036854775808 ≤ tm ∧ tm ≤ 9223372036854775807) ∧ Hid ((stepR (optR b32 (sgnR 8)) S6).2 = 0 → tm = ((optR b32 (sgnR 8)) S6.1).val) ∧ Hid (Kept (fun k => k = p) w wx))
  case first =>
    cases b32 with
    | false =>
      go_wp2_with fail
      go_meet
      case rel =>
        refine ⟨0, HBi, HQi, ?_, HGi, ⟨by omega, by omega⟩, fun _ => rfl, HKi⟩
        rw [step_opt_no _ HRi.out.nrm]
        exact HRi
    | true =>
      go_wp2_with fail
      refine (rsigned HRi.out 8 (by omega) (by omega) _ rfl).mono ?_
      rintro e w6 ⟨x6, t, rfl, HRy, HTy, HVy, HKy⟩
      have hb6 : w6.heap[q + 1]? = some (.cells #[.int .u16 co, .slice a l c, .slice na nl nc, .bool b2, .bool b4, .int .i32 pn, .bool b8, .int .i64 sk1, .slice sa sl sc, .bool b16, .int .u16 sr, .bool true, .int .i64 0] 30 (0, 0)) := (HKy.out.block _ hli (by omega)).trans HBi.out
      have hk6 : w6.heap[q]? = some (.cells #[.int .u16 0, .slice none 0 0, .slice none 0 0, .bool false, .bool false, .int .i32 0, .bool false, .int .i64 0, .slice none 0 0, .bool false, .int .u16 0, .bool false, .int .i64 0] 30 (0, 0)) := (HKy.out.block _ (by omega) (by omega)).trans HQi.out
      have hl6 := block_lt hb6
      clear d0 d1 d2 d3 d4 d5 d6 d7 d8 d9 d10 d11 d12 f0 f1 f2 f3 f4 f5 f6 f7 f8 f9 f10 f11 f12
      obtain ⟨d0, d1, d2, d3, d4, d5, d6, d7, d8, d9, d10, d11, d12⟩ := run_cells hb6
      obtain ⟨f0, f1, f2, f3, f4, f5, f6, f7, f8, f9, f10, f11, f12⟩ := run_frozen hb6
      have htr : -9223372036854775808 ≤ t ∧ t ≤ 9223372036854775807 := by rw [HTy.out]; exact sgn8_rng x6
      go_wp2_with fail
      go_meet
      case rel =>
        have hKb : Kept (fun k => k = q + 1) w6 (w6.setCell ⟨q + 1, 12, none⟩ (.int .i64 t)) := one_kept _ _ _ _
        refine ⟨t, run_set12 hb6 _, (hKb.block q (block_lt hk6) (by omega)).trans hk6, HRy.out.kept hKb (fun k hk e => by omega), HGi.out.stay (fun k hk hf => (hKb.block k (by have := HKy.out.size; omega) (by omega)).trans (HKy.out.block k hk (by omega))) (Nat.le_trans HKy.out.size hKb.size) (fun _ _ hf => hf), htr, HVy, (HKi.out.trans HKy.out (fun i hi e => e)).trans hKb (fun i hi e => by have := HQE.out; omega)⟩

  case rest =>
  obtain ⟨tm, HBj, HQj, HRj, HGj, HTM, HVj, HKj⟩ := hcut
  obtain ⟨S7, hS7⟩ : ∃ S7, S7 = stepR (optR b32 (sgnR 8)) S6 := ⟨_, rfl⟩
  rw [← hS7] at HRj HVj
  have HS7 : Hid (S7 = stepR (optR b32 (sgnR 8)) S6) := hS7
  clear hS7 HRi HKi HQi HGi HBi hli
  clear d0 d1 d2 d3 d4 d5 d6 d7 d8 d9 d10 d11 d12 f0 f1 f2 f3 f4 f5 f6 f7 f8 f9 f10 f11 f12
  obtain ⟨d0, d1, d2, d3, d4, d5, d6, d7, d8, d9, d10, d11, d12⟩ := run_cells HBj.out
  obtain ⟨f0, f1, f2, f3, f4, f5, f6, f7, f8, f9, f10, f11, f12⟩ := run_frozen HBj.out
  obtain ⟨y0, y1, y2, y3, y4, y5, y6, y7, y8, y9, y10, y11, y12⟩ := run_cells HQj.out
  obtain ⟨z0, z1, z2, z3, z4, z5, z6, z7, z8, z9, z10, z11, z12⟩ := run_frozen HQj.out
  have hlj := block_lt HBj.out
  have hlq := block_lt HQj.out
  have HRUN : Hid (stepR (runR batch) S = S7 ∧ (S7.2 = 0 → (co, vs, ns, b2, b4, pn, b8, (sk1, sb), b16, sr, b32, tm) = (runR batch S.1).val)) := by
    have hxx : (stepR (flagsR batch) (stepR consR S)).2 = 0 → x = (flagsR batch (stepR consR S).1).val := by rw [← HS2.out]; exact HV3.out
    have h3 := HS3.out
    have h4 := HS4.out
    have h5 := HS5.out
    have h6 := HS6.out
    have h7 := HS7.out
    rw [HB1X.out, HB64X.out, HS2.out] at h3
    rw [HB4X.out] at h4
    rw [HB8X.out] at h5
    rw [HB16X.out] at h6
    rw [HB32X.out] at h7
    obtain ⟨r1, r2⟩ := run_steps batch S x hxx h3 h4 h5 h6 h7
    refine ⟨r1, fun h0 => ?_⟩
    rw [r2 h0]
    have k6 : S6.2 = 0 := by have := h0; rw [h7] at this; exact (step_ok this).1
    have k5 : S5.2 = 0 := by have := k6; rw [h6] at this; exact (step_ok this).1
    have k4 : S4.2 = 0 := by have := k5; rw [h5] at this; exact (step_ok this).1
    have k3 : S3.2 = 0 := by have := k4; rw [h4] at this; exact (step_ok this).1
    have k2 : S2.2 = 0 := by have := k3; rw [HS3.out] at this; exact (step_ok this).1
    have k1 : (stepR consR S).2 = 0 := by have := k2; rw [HS2.out] at this; exact (step_ok this).1
    have v1 := HV1.out k1
    have va := HVa.out k3
    have vb := HVb.out k4
    have vf := HVf.out k5
    have vh := HVh.out k6
    have vj := HVj.out h0
    rw [HB1X.out, HB64X.out, HS2.out] at va
    rw [HB4X.out] at vb
    rw [HB8X.out] at vf
    rw [HB16X.out] at vh
    rw [HB32X.out] at vj
    rw [← v1, ← va, ← vb, ← vf, ← vh, ← vj, HB2X.out, HB4X.out, HB8X.out, HB16X.out, HB32X.out]
  go_wp2_with fail
  obtain ⟨hqC, hKC⟩ := run_fill HQj.out (.int .u16 co) (.slice a l c) (.slice na nl nc) (.bool b2) (.bool b4) (.int .i32 pn) (.bool b8) (.int .i64 sk1) (.slice sa sl sc) (.bool b16) (.int .u16 sr) (.bool b32) (.int .i64 tm)
  generalize (((((((((((((wc.setCell ⟨q, 0, none⟩ (.int .u16 co)).setCell ⟨q, 1, none⟩ (.slice a l c)).setCell ⟨q, 2, none⟩ (.slice na nl nc)).setCell ⟨q, 3, none⟩ (.bool b2)).setCell ⟨q, 4, none⟩ (.bool b4)).setCell ⟨q, 5, none⟩ (.int .i32 pn)).setCell ⟨q, 6, none⟩ (.bool b8)).setCell ⟨q, 7, none⟩ (.int .i64 sk1)).setCell ⟨q, 8, none⟩ (.slice sa sl sc)).setCell ⟨q, 9, none⟩ (.bool b16)).setCell ⟨q, 10, none⟩ (.int .u16 sr)).setCell ⟨q, 11, none⟩ (.bool b32)).setCell ⟨q, 12, none⟩ (.int .i64 tm)) = wC at hqC hKC ⊢
  obtain ⟨u0, u1, u2, u3, u4, u5, u6, u7, u8, u9, u10, u11, u12⟩ := run_cells hqC
  have hwq := HQE.out
  refine bodyPost_ret (v := .agg #[.int .u16 co, .slice a l c, .slice na nl nc, .bool b2, .bool b4, .int .i32 pn, .bool b8, .int .i64 sk1, .slice sa sl sc, .bool b16, .int .u16 sr, .bool b32, .int .i64 tm]) (by simp [results, Try.results40, go_sem, u0, u1, u2, u3, u4, u5, u6, u7, u8, u9, u10, u11, u12]) rfl ?_
  refine ⟨co, a, l, c, vs, na, nl, nc, ns, b2, b4, pn, b8, sk1, sb, sa, sl, sc, b16, sr, b32, tm, rfl, ?_, HGj.out.stay (fun k hk hf => hKC.block k hk (by omega)) hKC.size (fun k hk hf => by omega), ⟨HCO.out, HPN.out, HSR.out, HTM.out⟩, ?_, HKj.out.trans hKC (fun i hi e => by omega)⟩
  · rw [HRUN.out.1]
    exact HRj.out.kept hKC (fun k hk e => by omega)
  · rw [HRUN.out.1]
    exact HRUN.out.2
end Go.Proofs.Ytcecdklgiocbaaa
