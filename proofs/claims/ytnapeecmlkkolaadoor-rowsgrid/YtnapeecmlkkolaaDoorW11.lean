/-
  The writer: columns.
-/
import Derived.Test.YtnapeecmlkkolaaDoorW10
import Derived.Test.YtnapeecmlkkolaaDoorCut
namespace Go.Proofs.YtnapeecmlkkolaaDoor
open Go.RowKit
set_option maxRecDepth 100000
set_option linter.unusedVariables false
set_option linter.unusedSimpArgs false

theorem BE_eta (B : BE) : (B.1, B.2) = B := rfl
set_option maxHeartbeats 4000000 in
theorem wcolumns {n : Nat} {w : World} {p : Nat} {v : Value} {S : BE} (h : Wr w p v S) (hT : Tab w) (hp0 : 0 < p) {a : Option Addr} {len cap : Nat} {xs : List Col} (hX : Sees 8 (fun z => z < p) (VCol (n + 1) (fun z => z < p) w) w a len cap xs) (gl : Bool)
    (hbd : S.1.length + (xs.map (colW n)).sum ≤ 140737488355328) {R : BE} (hR : R = seqB S (colsFrom n gl 0 xs)) :
    Calls Tryd.prog 63 #[.pointer (some ⟨p, 0, none⟩), .slice a len cap, .bool gl] w fun r w' => r = .returned (.tuple #[]) ∧ ∃ v', Hid (Wr w' p v' R) ∧ Hid (Chg p v v' w w') := by
  have HW : Hid (Wr w p v S) := h
  have HX : Hid (Sees 8 (fun z => z < p) (VCol (n + 1) (fun z => z < p) w) w a len cap xs) := hX
  have HT : Hid (Tab w) := hT
  have HR0 : Hid (seqB S (colsFrom n gl 0 (xs.drop 0)) = R) := by show _ = _; rw [List.drop_zero]; exact hR.symm
  have HB0 : Hid (S.1.length + ((xs.drop 0).map (colW n)).sum ≤ 140737488355328) := by show _ ≤ _; rw [List.drop_zero]; exact hbd
  have hml := hX.max
  unfold maxLen at hml
  have HLN : Hid (xs.length = len) := hX.1
  clear h hX hT hR hbd
  go_enter Tryd.func63, Tryd.ntmps63
  go_wp2_with fail
  go_loopw [10] (fun i wr => ∃ (k : Nat) (Sk : BE) (u : Value), k ≤ len ∧ i = .int .i64 k ∧ Hid (Wr wr p u Sk) ∧ Hid (Sees 8 (fun z => z < p) (VCol (n + 1) (fun z => z < p) wr) wr a len cap xs) ∧ Hid (Tab wr) ∧ Hid (seqB Sk (colsFrom n gl k (xs.drop k)) = R) ∧ Hid (Sk.1.length + ((xs.drop k).map (colW n)).sum ≤ 140737488355328) ∧ Hid (Chg p v u w wr)) (fun i _ => len - (intOf i).toNat)
  case atStart => exact ⟨0, S, v, by omega, rfl, HW, HX, HT, HR0, HB0, Chg.refl _ _ _⟩
  case round =>
    obtain ⟨k, S0, u0, hk, rfl, HWk, HXk, HTk, HRk, HBk, HCk⟩ := hrel
    by_cases hlt2 : k < len
    · obtain ⟨s, t, nm, X, b8, off, na, nl, nc, ka, kl, kc, hx, rfl, hbs, hF, ⟨c0, c1, c2, c3, c4, c5, c6, c7⟩, hsz, hty⟩ := HXk.out.col hlt2
      have HXD : Hid (xs.drop k = (s, t, nm, X) :: xs.drop (k + 1)) := drop_cons hx
      obtain ⟨CV, hCV⟩ : ∃ CV, CV = colB n (decide (k = 0) || !gl) (s, t, nm, X) := ⟨_, rfl⟩
      have HCV0 : Hid (CV = colB n (decide (k = 0) || !gl) (s, t, nm, X)) := hCV
      have HRC : Hid (seqB (seqB S0 CV) (colsFrom n gl (k + 1) (xs.drop (k + 1))) = R) := by
        show _ = _
        rw [seqB_assoc, ← HRk.out, HXD.out, hCV]
        rfl
      clear hCV
      have HSZ : Hid (s.size ≤ maxLen ∧ t.size ≤ maxLen ∧ nm.size ≤ maxLen) := hsz
      obtain ⟨W, hW⟩ : ∃ W, W = ((xs.drop (k + 1)).map (colW n)).sum := ⟨_, rfl⟩
      have HWW : Hid (W = ((xs.drop (k + 1)).map (colW n)).sum) := hW
      have HB1 : Hid (S0.1.length + (196611 + wgt (n + 1) X + W) ≤ 140737488355328) := by
        have := HBk.out
        rw [sum_drop2 hx, ← hW] at this
        exact this
      obtain ⟨g, hg⟩ : ∃ g, g = wr.heap.size := ⟨_, rfl⟩
      have HGE : Hid (wr.heap.size = g) := hg.symm
      obtain ⟨w0, hw0⟩ : ∃ w0, w0 = wr.alloc (.cells #[.string s, .string t, .string nm, .int .u16 X.id, .string X.space, .string X.name, .slice na nl nc, .slice ka kl kc] 64) := ⟨_, rfl⟩
      have HW0E : Hid (wr.alloc (.cells #[.string s, .string t, .string nm, .int .u16 X.id, .string X.space, .string X.name, .slice na nl nc, .slice ka kl kc] 64) = w0) := hw0.symm
      have hB0 : Below wr.heap.size wr w0 := by rw [hw0]; exact below_one _ _
      have HG0 : Hid (w0.heap[g]? = some (.cells #[.string s, .string t, .string nm, .int .u16 X.id, .string X.space, .string X.name, .slice na nl nc, .slice ka kl kc] 64 (0, 0))) := by rw [hw0, hg]; exact heap_alloc_new wr _
      have HW0 : Hid (Wr w0 p u0 S0) := HWk.out.new hB0
      have HPG : Hid (p < g) := by have := HWk.out.lt; show p < g; omega
      have HFR0 : Hid (u0.ownBlock ≠ some g) := fun e => by have := (HWk.out.far g e).2; omega
      have HTYX : Hid (TyAt n (fun z => z < p) w0 X na nl nc ka kl kc) := hty.old hB0
      have HTBX : Hid (Tab w0) := HTk.out.old hB0
      have HSX : Hid (Sees 8 (fun z => z < p) (VCol (n + 1) (fun z => z < p) w0) w0 (some ⟨b8, off, none⟩) len cap xs) := HXk.out.kept (stays_col (n + 1)) (fun z hz _ => hB0.block z hz) hB0.size (fun _ _ hf => hf)
      have HCW : Hid (Chg p v u0 w w0) := HCk.out.trans (chg_new hB0)
      obtain ⟨⟨k0, k1, k2, k3, k4, k5, k6, k7⟩, _⟩ := blk8 HG0.out
      have hgl0 := block_lt HG0.out
      clear hx hsz hty hF hW hg hw0 hB0 HWk HXk HTk HCk HBk
      by_cases hful : k = 0 ∨ gl = false
      · have HCV : Hid (CV = colB n true (s, t, nm, X)) := by show _ = _; rw [HCV0.out]; rcases hful with e | e <;> simp [e]
        have HBD0 : Hid (S0.1.length + (196611 + wgt (n + 1) X + W) ≤ 140737488355328) := HB1
        by_cases hk0 : k = 0
        · subst hk0
          simp only [Nat.zero_mul, Nat.add_zero] at c0 c1 c2 c3 c4 c5 c6 c7
          clear hful
          go_upto_region 3 with fail
          rw [HW0E.out]
          (try rw [HGE.out])
          clear HW0E
          go_wp2_with fail
          refine (text_any s _ HSZ.out.1 rfl).mono ?_
          rintro e wa1 ⟨a1, cp1, rfl, HP1, hBa1⟩
          have HBa1 : Hid (Below w0.heap.size w0 wa1) := hBa1
          have hga1 : wa1.heap[g]? = some (.cells #[.string s, .string t, .string nm, .int .u16 X.id, .string X.space, .string X.name, .slice na nl nc, .slice ka kl kc] 64 (0, 0)) := (hBa1.block g (block_lt HG0.out)).trans HG0.out
          obtain ⟨⟨k0, k1, k2, k3, k4, k5, k6, k7⟩, _⟩ := blk8 hga1
          have hgl1 := block_lt hga1
          clear hBa1 hga1
          go_wp2_with fail
          refine (wpart_new HW0.out HBa1.out HP1.out (by have := textB_len s; have := HBD0.out; omega) _).mono ?_
          rintro r w1 ⟨rfl, v1, HW1, HC1⟩
          rw [BE_eta] at HW1
          have HG1 : Hid (w1.heap[g]? = some (.cells #[.string s, .string t, .string nm, .int .u16 X.id, .string X.space, .string X.name, .slice na nl nc, .slice ka kl kc] 64 (0, 0))) := (HC1.out.1.block g (block_lt HG0.out) (fun e => by rcases e with e | e; have := HPG.out; omega; exact HFR0.out e)).trans HG0.out
          have HFR1 : Hid (v1.ownBlock ≠ some g) := fun e => by rcases HC1.out.2 g e with e | e; exact HFR0.out e; have := block_lt HG0.out; omega
          have HBD1 : Hid ((seqB S0 (textB s)).1.length + (131074 + wgt (n + 1) X + W) ≤ 140737488355328) := by
            have h1 := seqB_len S0 (textB s)
            have h2 := textB_len s
            have h3 := HBD0.out
            show _ ≤ _
            omega
          obtain ⟨S1, hS1⟩ : ∃ Z, Z = seqB S0 (textB s) := ⟨_, rfl⟩
          have HS1 : Hid (S1 = seqB S0 (textB s)) := hS1
          rw [← hS1] at HW1 HBD1
          obtain ⟨⟨k0, k1, k2, k3, k4, k5, k6, k7⟩, _⟩ := blk8 HG1.out
          have hgm1 := block_lt HG1.out
          clear hS1 hgl1
          go_wp2_with fail
          refine (text_any t _ HSZ.out.2.1 rfl).mono ?_
          rintro e wa2 ⟨a2, cp2, rfl, HP2, hBa2⟩
          have HBa2 : Hid (Below w1.heap.size w1 wa2) := hBa2
          have hga2 : wa2.heap[g]? = some (.cells #[.string s, .string t, .string nm, .int .u16 X.id, .string X.space, .string X.name, .slice na nl nc, .slice ka kl kc] 64 (0, 0)) := (hBa2.block g (block_lt HG1.out)).trans HG1.out
          obtain ⟨⟨k0, k1, k2, k3, k4, k5, k6, k7⟩, _⟩ := blk8 hga2
          have hgl2 := block_lt hga2
          clear hBa2 hga2
          go_wp2_with fail
          refine (wpart_new HW1.out HBa2.out HP2.out (by have := textB_len t; have := HBD1.out; omega) _).mono ?_
          rintro r w2 ⟨rfl, v2, HW2, HC2⟩
          rw [BE_eta] at HW2
          have HG2 : Hid (w2.heap[g]? = some (.cells #[.string s, .string t, .string nm, .int .u16 X.id, .string X.space, .string X.name, .slice na nl nc, .slice ka kl kc] 64 (0, 0))) := (HC2.out.1.block g (block_lt HG1.out) (fun e => by rcases e with e | e; have := HPG.out; omega; exact HFR1.out e)).trans HG1.out
          have HFR2 : Hid (v2.ownBlock ≠ some g) := fun e => by rcases HC2.out.2 g e with e | e; exact HFR1.out e; have := block_lt HG1.out; omega
          have HBD2 : Hid ((seqB S1 (textB t)).1.length + (65537 + wgt (n + 1) X + W) ≤ 140737488355328) := by
            have h1 := seqB_len S1 (textB t)
            have h2 := textB_len t
            have h3 := HBD1.out
            show _ ≤ _
            omega
          obtain ⟨S2, hS2⟩ : ∃ Z, Z = seqB S1 (textB t) := ⟨_, rfl⟩
          have HS2 : Hid (S2 = seqB S1 (textB t)) := hS2
          rw [← hS2] at HW2 HBD2
          obtain ⟨⟨k0, k1, k2, k3, k4, k5, k6, k7⟩, _⟩ := blk8 HG2.out
          have hgm2 := block_lt HG2.out
          clear hS2 hgl2
          go_wp2_with fail
          refine (text_any nm _ HSZ.out.2.2 rfl).mono ?_
          rintro e wa3 ⟨a3, cp3, rfl, HP3, hBa3⟩
          have HBa3 : Hid (Below w2.heap.size w2 wa3) := hBa3
          have hga3 : wa3.heap[g]? = some (.cells #[.string s, .string t, .string nm, .int .u16 X.id, .string X.space, .string X.name, .slice na nl nc, .slice ka kl kc] 64 (0, 0)) := (hBa3.block g (block_lt HG2.out)).trans HG2.out
          obtain ⟨⟨k0, k1, k2, k3, k4, k5, k6, k7⟩, _⟩ := blk8 hga3
          have hgl3 := block_lt hga3
          clear hBa3 hga3
          go_wp2_with fail
          refine (wpart_new HW2.out HBa3.out HP3.out (by have := textB_len nm; have := HBD2.out; omega) _).mono ?_
          rintro r w3 ⟨rfl, v3, HW3, HC3⟩
          rw [BE_eta] at HW3
          have HG3 : Hid (w3.heap[g]? = some (.cells #[.string s, .string t, .string nm, .int .u16 X.id, .string X.space, .string X.name, .slice na nl nc, .slice ka kl kc] 64 (0, 0))) := (HC3.out.1.block g (block_lt HG2.out) (fun e => by rcases e with e | e; have := HPG.out; omega; exact HFR2.out e)).trans HG2.out
          have HFR3 : Hid (v3.ownBlock ≠ some g) := fun e => by rcases HC3.out.2 g e with e | e; exact HFR2.out e; have := block_lt HG2.out; omega
          have HBD3 : Hid ((seqB S2 (textB nm)).1.length + (0 + wgt (n + 1) X + W) ≤ 140737488355328) := by
            have h1 := seqB_len S2 (textB nm)
            have h2 := textB_len nm
            have h3 := HBD2.out
            show _ ≤ _
            omega
          obtain ⟨S3, hS3⟩ : ∃ Z, Z = seqB S2 (textB nm) := ⟨_, rfl⟩
          have HS3 : Hid (S3 = seqB S2 (textB nm)) := hS3
          rw [← hS3] at HW3 HBD3
          obtain ⟨⟨k0, k1, k2, k3, k4, k5, k6, k7⟩, _⟩ := blk8 HG3.out
          have hgm3 := block_lt HG3.out
          clear hS3 hgl3
          have HTY4 : Hid (TyAt n (fun z => z < p) w3 X na nl nc ka kl kc) := by
            have h0 := HTYX.out
            have h1 := h0.apart HC1.out.1 (fun z _ hz e => by rcases e with e | e; omega; have := (HW0.out.far z e).1; omega)
            have h2 := h1.apart HC2.out.1 (fun z _ hz e => by rcases e with e | e; omega; have := (HW1.out.far z e).1; omega)
            have h3 := h2.apart HC3.out.1 (fun z _ hz e => by rcases e with e | e; omega; have := (HW2.out.far z e).1; omega)
            exact h3
          have HTB4 : Hid (Tab w3) := by
            have h0 := HTBX.out
            have h1 := h0.kept HC1.out.1 (fun e => by rcases e with e | e; omega; have := (HW0.out.far 0 e).1; omega)
            have h2 := h1.kept HC2.out.1 (fun e => by rcases e with e | e; omega; have := (HW1.out.far 0 e).1; omega)
            have h3 := h2.kept HC3.out.1 (fun e => by rcases e with e | e; omega; have := (HW2.out.far 0 e).1; omega)
            exact h3
          go_wp2_with fail
          refine (Put_any HTY4.out HTB4.out (by have := HBD3.out; omega) rfl).mono ?_
          rintro e wa4 ⟨vb, rfl, HA4, hBa4⟩
          obtain ⟨a4, cp4, rfl, hIb⟩ := isB_own HA4.out (putR_range n X)
          obtain ⟨LL, hLL⟩ : ∃ LL, LL = (putR n X).1.length := ⟨_, rfl⟩
          rw [← hLL] at hIb ⊢
          have HP4 : Hid (IsB wa4 a4 LL cp4 (putR n X).1) := hIb
          have HLL : Hid (LL = (putR n X).1.length) := hLL
          have HBa4 : Hid (Below w3.heap.size w3 wa4) := hBa4
          clear hBa4 hIb hLL
          go_wp2_with fail
          refine (wpart_new HW3.out HBa4.out HP4.out (by have := putR_len (n := n) (t := X); have := HBD3.out; have := HLL.out; omega) _).mono ?_
          rintro r w4 ⟨rfl, v4, HW4, HC4⟩
          rw [BE_eta] at HW4
          have HBD4 : Hid ((seqB S3 (putR n X)).1.length + W ≤ 140737488355328) := by
            have h1 := seqB_len S3 (putR n X)
            have h2 := putR_len (n := n) (t := X)
            have h3 := HBD3.out
            show _ ≤ _
            omega
          have HEQ : Hid (seqB S3 (putR n X) = seqB S0 CV) := by
            show _ = _
            rw [HCV.out, HS3.out, HS2.out, HS1.out]
            unfold colB optB
            rw [if_pos rfl]
            simp only [seqB_assoc]
          rw [HEQ.out] at HW4 HBD4
          have HBN : Hid ((seqB S0 CV).1.length + ((xs.drop (0 + 1)).map (colW n)).sum ≤ 140737488355328) := by rw [← HWW.out]; exact HBD4
          have HCC : Hid (Chg p u0 v4 w0 w4) := (((HC1.out.trans HC2.out).trans HC3.out).trans HC4.out)
          have HCT : Hid (Chg p v v4 w w4) := HCW.out.trans HCC.out
          have HSN : Hid (Sees 8 (fun z => z < p) (VCol (n + 1) (fun z => z < p) w4) w4 (some ⟨b8, off, none⟩) len cap xs) := HSX.out.kept2 (stays_col (n + 1)) HCC.out.1 (fun z _ hz e => by rcases e with e | e; omega; have := (HW0.out.far z e).1; omega)
          have HTN : Hid (Tab w4) := HTBX.out.kept HCC.out.1 (fun e => by rcases e with e | e; omega; have := (HW0.out.far 0 e).1; omega)
          go_wp2_with fail
          go_roundw
          case rel => exact ⟨0 + 1, _, v4, by omega, by go_num, HW4, HSN, HTN, HRC, HBN, HCT⟩
          case measure => simp [intOf]; omega

        · have hg0 : gl = false := by rcases hful with e | e; exact absurd e hk0; exact e
          subst hg0
          have t0 : ((k : Int) == 0) = false := by simp; omega
          clear hful
          go_upto_region 3 with fail
          rw [HW0E.out]
          (try rw [HGE.out])
          clear HW0E
          go_wp2_with fail
          refine (text_any s _ HSZ.out.1 rfl).mono ?_
          rintro e wa1 ⟨a1, cp1, rfl, HP1, hBa1⟩
          have HBa1 : Hid (Below w0.heap.size w0 wa1) := hBa1
          have hga1 : wa1.heap[g]? = some (.cells #[.string s, .string t, .string nm, .int .u16 X.id, .string X.space, .string X.name, .slice na nl nc, .slice ka kl kc] 64 (0, 0)) := (hBa1.block g (block_lt HG0.out)).trans HG0.out
          obtain ⟨⟨k0, k1, k2, k3, k4, k5, k6, k7⟩, _⟩ := blk8 hga1
          have hgl1 := block_lt hga1
          clear hBa1 hga1
          go_wp2_with fail
          refine (wpart_new HW0.out HBa1.out HP1.out (by have := textB_len s; have := HBD0.out; omega) _).mono ?_
          rintro r w1 ⟨rfl, v1, HW1, HC1⟩
          rw [BE_eta] at HW1
          have HG1 : Hid (w1.heap[g]? = some (.cells #[.string s, .string t, .string nm, .int .u16 X.id, .string X.space, .string X.name, .slice na nl nc, .slice ka kl kc] 64 (0, 0))) := (HC1.out.1.block g (block_lt HG0.out) (fun e => by rcases e with e | e; have := HPG.out; omega; exact HFR0.out e)).trans HG0.out
          have HFR1 : Hid (v1.ownBlock ≠ some g) := fun e => by rcases HC1.out.2 g e with e | e; exact HFR0.out e; have := block_lt HG0.out; omega
          have HBD1 : Hid ((seqB S0 (textB s)).1.length + (131074 + wgt (n + 1) X + W) ≤ 140737488355328) := by
            have h1 := seqB_len S0 (textB s)
            have h2 := textB_len s
            have h3 := HBD0.out
            show _ ≤ _
            omega
          obtain ⟨S1, hS1⟩ : ∃ Z, Z = seqB S0 (textB s) := ⟨_, rfl⟩
          have HS1 : Hid (S1 = seqB S0 (textB s)) := hS1
          rw [← hS1] at HW1 HBD1
          obtain ⟨⟨k0, k1, k2, k3, k4, k5, k6, k7⟩, _⟩ := blk8 HG1.out
          have hgm1 := block_lt HG1.out
          clear hS1 hgl1
          go_wp2_with fail
          refine (text_any t _ HSZ.out.2.1 rfl).mono ?_
          rintro e wa2 ⟨a2, cp2, rfl, HP2, hBa2⟩
          have HBa2 : Hid (Below w1.heap.size w1 wa2) := hBa2
          have hga2 : wa2.heap[g]? = some (.cells #[.string s, .string t, .string nm, .int .u16 X.id, .string X.space, .string X.name, .slice na nl nc, .slice ka kl kc] 64 (0, 0)) := (hBa2.block g (block_lt HG1.out)).trans HG1.out
          obtain ⟨⟨k0, k1, k2, k3, k4, k5, k6, k7⟩, _⟩ := blk8 hga2
          have hgl2 := block_lt hga2
          clear hBa2 hga2
          go_wp2_with fail
          refine (wpart_new HW1.out HBa2.out HP2.out (by have := textB_len t; have := HBD1.out; omega) _).mono ?_
          rintro r w2 ⟨rfl, v2, HW2, HC2⟩
          rw [BE_eta] at HW2
          have HG2 : Hid (w2.heap[g]? = some (.cells #[.string s, .string t, .string nm, .int .u16 X.id, .string X.space, .string X.name, .slice na nl nc, .slice ka kl kc] 64 (0, 0))) := (HC2.out.1.block g (block_lt HG1.out) (fun e => by rcases e with e | e; have := HPG.out; omega; exact HFR1.out e)).trans HG1.out
          have HFR2 : Hid (v2.ownBlock ≠ some g) := fun e => by rcases HC2.out.2 g e with e | e; exact HFR1.out e; have := block_lt HG1.out; omega
          have HBD2 : Hid ((seqB S1 (textB t)).1.length + (65537 + wgt (n + 1) X + W) ≤ 140737488355328) := by
            have h1 := seqB_len S1 (textB t)
            have h2 := textB_len t
            have h3 := HBD1.out
            show _ ≤ _
            omega
          obtain ⟨S2, hS2⟩ : ∃ Z, Z = seqB S1 (textB t) := ⟨_, rfl⟩
          have HS2 : Hid (S2 = seqB S1 (textB t)) := hS2
          rw [← hS2] at HW2 HBD2
          obtain ⟨⟨k0, k1, k2, k3, k4, k5, k6, k7⟩, _⟩ := blk8 HG2.out
          have hgm2 := block_lt HG2.out
          clear hS2 hgl2
          go_wp2_with fail
          refine (text_any nm _ HSZ.out.2.2 rfl).mono ?_
          rintro e wa3 ⟨a3, cp3, rfl, HP3, hBa3⟩
          have HBa3 : Hid (Below w2.heap.size w2 wa3) := hBa3
          have hga3 : wa3.heap[g]? = some (.cells #[.string s, .string t, .string nm, .int .u16 X.id, .string X.space, .string X.name, .slice na nl nc, .slice ka kl kc] 64 (0, 0)) := (hBa3.block g (block_lt HG2.out)).trans HG2.out
          obtain ⟨⟨k0, k1, k2, k3, k4, k5, k6, k7⟩, _⟩ := blk8 hga3
          have hgl3 := block_lt hga3
          clear hBa3 hga3
          go_wp2_with fail
          refine (wpart_new HW2.out HBa3.out HP3.out (by have := textB_len nm; have := HBD2.out; omega) _).mono ?_
          rintro r w3 ⟨rfl, v3, HW3, HC3⟩
          rw [BE_eta] at HW3
          have HG3 : Hid (w3.heap[g]? = some (.cells #[.string s, .string t, .string nm, .int .u16 X.id, .string X.space, .string X.name, .slice na nl nc, .slice ka kl kc] 64 (0, 0))) := (HC3.out.1.block g (block_lt HG2.out) (fun e => by rcases e with e | e; have := HPG.out; omega; exact HFR2.out e)).trans HG2.out
          have HFR3 : Hid (v3.ownBlock ≠ some g) := fun e => by rcases HC3.out.2 g e with e | e; exact HFR2.out e; have := block_lt HG2.out; omega
          have HBD3 : Hid ((seqB S2 (textB nm)).1.length + (0 + wgt (n + 1) X + W) ≤ 140737488355328) := by
            have h1 := seqB_len S2 (textB nm)
            have h2 := textB_len nm
            have h3 := HBD2.out
            show _ ≤ _
            omega
          obtain ⟨S3, hS3⟩ : ∃ Z, Z = seqB S2 (textB nm) := ⟨_, rfl⟩
          have HS3 : Hid (S3 = seqB S2 (textB nm)) := hS3
          rw [← hS3] at HW3 HBD3
          obtain ⟨⟨k0, k1, k2, k3, k4, k5, k6, k7⟩, _⟩ := blk8 HG3.out
          have hgm3 := block_lt HG3.out
          clear hS3 hgl3
          have HTY4 : Hid (TyAt n (fun z => z < p) w3 X na nl nc ka kl kc) := by
            have h0 := HTYX.out
            have h1 := h0.apart HC1.out.1 (fun z _ hz e => by rcases e with e | e; omega; have := (HW0.out.far z e).1; omega)
            have h2 := h1.apart HC2.out.1 (fun z _ hz e => by rcases e with e | e; omega; have := (HW1.out.far z e).1; omega)
            have h3 := h2.apart HC3.out.1 (fun z _ hz e => by rcases e with e | e; omega; have := (HW2.out.far z e).1; omega)
            exact h3
          have HTB4 : Hid (Tab w3) := by
            have h0 := HTBX.out
            have h1 := h0.kept HC1.out.1 (fun e => by rcases e with e | e; omega; have := (HW0.out.far 0 e).1; omega)
            have h2 := h1.kept HC2.out.1 (fun e => by rcases e with e | e; omega; have := (HW1.out.far 0 e).1; omega)
            have h3 := h2.kept HC3.out.1 (fun e => by rcases e with e | e; omega; have := (HW2.out.far 0 e).1; omega)
            exact h3
          go_wp2_with fail
          refine (Put_any HTY4.out HTB4.out (by have := HBD3.out; omega) rfl).mono ?_
          rintro e wa4 ⟨vb, rfl, HA4, hBa4⟩
          obtain ⟨a4, cp4, rfl, hIb⟩ := isB_own HA4.out (putR_range n X)
          obtain ⟨LL, hLL⟩ : ∃ LL, LL = (putR n X).1.length := ⟨_, rfl⟩
          rw [← hLL] at hIb ⊢
          have HP4 : Hid (IsB wa4 a4 LL cp4 (putR n X).1) := hIb
          have HLL : Hid (LL = (putR n X).1.length) := hLL
          have HBa4 : Hid (Below w3.heap.size w3 wa4) := hBa4
          clear hBa4 hIb hLL
          go_wp2_with fail
          refine (wpart_new HW3.out HBa4.out HP4.out (by have := putR_len (n := n) (t := X); have := HBD3.out; have := HLL.out; omega) _).mono ?_
          rintro r w4 ⟨rfl, v4, HW4, HC4⟩
          rw [BE_eta] at HW4
          have HBD4 : Hid ((seqB S3 (putR n X)).1.length + W ≤ 140737488355328) := by
            have h1 := seqB_len S3 (putR n X)
            have h2 := putR_len (n := n) (t := X)
            have h3 := HBD3.out
            show _ ≤ _
            omega
          have HEQ : Hid (seqB S3 (putR n X) = seqB S0 CV) := by
            show _ = _
            rw [HCV.out, HS3.out, HS2.out, HS1.out]
            unfold colB optB
            rw [if_pos rfl]
            simp only [seqB_assoc]
          rw [HEQ.out] at HW4 HBD4
          have HBN : Hid ((seqB S0 CV).1.length + ((xs.drop (k + 1)).map (colW n)).sum ≤ 140737488355328) := by rw [← HWW.out]; exact HBD4
          have HCC : Hid (Chg p u0 v4 w0 w4) := (((HC1.out.trans HC2.out).trans HC3.out).trans HC4.out)
          have HCT : Hid (Chg p v v4 w w4) := HCW.out.trans HCC.out
          have HSN : Hid (Sees 8 (fun z => z < p) (VCol (n + 1) (fun z => z < p) w4) w4 (some ⟨b8, off, none⟩) len cap xs) := HSX.out.kept2 (stays_col (n + 1)) HCC.out.1 (fun z _ hz e => by rcases e with e | e; omega; have := (HW0.out.far z e).1; omega)
          have HTN : Hid (Tab w4) := HTBX.out.kept HCC.out.1 (fun e => by rcases e with e | e; omega; have := (HW0.out.far 0 e).1; omega)
          go_wp2_with fail
          go_roundw
          case rel => exact ⟨k + 1, _, v4, by omega, by go_num, HW4, HSN, HTN, HRC, HBN, HCT⟩
          case measure => simp [intOf]; omega

      · have hk0 : ¬ k = 0 := fun e => hful (.inl e)
        obtain rfl : gl = true := by cases gl; exact absurd (.inr rfl) hful; rfl
        have t0 : ((k : Int) == 0) = false := by simp; omega
        have HCV : Hid (CV = colB n false (s, t, nm, X)) := by show _ = _; rw [HCV0.out]; simp [hk0]
        have HBD0 : Hid (S0.1.length + (65537 + wgt (n + 1) X + W) ≤ 140737488355328) := by have := HB1.out; show _ ≤ _; omega
        clear hful
        go_upto_region 3 with fail
        rw [HW0E.out]
        (try rw [HGE.out])
        clear HW0E
        go_wp2_with fail
        refine (text_any nm _ HSZ.out.2.2 rfl).mono ?_
        rintro e wa1 ⟨a1, cp1, rfl, HP1, hBa1⟩
        have HBa1 : Hid (Below w0.heap.size w0 wa1) := hBa1
        have hga1 : wa1.heap[g]? = some (.cells #[.string s, .string t, .string nm, .int .u16 X.id, .string X.space, .string X.name, .slice na nl nc, .slice ka kl kc] 64 (0, 0)) := (hBa1.block g (block_lt HG0.out)).trans HG0.out
        obtain ⟨⟨k0, k1, k2, k3, k4, k5, k6, k7⟩, _⟩ := blk8 hga1
        have hgl1 := block_lt hga1
        clear hBa1 hga1
        go_wp2_with fail
        refine (wpart_new HW0.out HBa1.out HP1.out (by have := textB_len nm; have := HBD0.out; omega) _).mono ?_
        rintro r w1 ⟨rfl, v1, HW1, HC1⟩
        rw [BE_eta] at HW1
        have HG1 : Hid (w1.heap[g]? = some (.cells #[.string s, .string t, .string nm, .int .u16 X.id, .string X.space, .string X.name, .slice na nl nc, .slice ka kl kc] 64 (0, 0))) := (HC1.out.1.block g (block_lt HG0.out) (fun e => by rcases e with e | e; have := HPG.out; omega; exact HFR0.out e)).trans HG0.out
        have HFR1 : Hid (v1.ownBlock ≠ some g) := fun e => by rcases HC1.out.2 g e with e | e; exact HFR0.out e; have := block_lt HG0.out; omega
        have HBD1 : Hid ((seqB S0 (textB nm)).1.length + (0 + wgt (n + 1) X + W) ≤ 140737488355328) := by
          have h1 := seqB_len S0 (textB nm)
          have h2 := textB_len nm
          have h3 := HBD0.out
          show _ ≤ _
          omega
        obtain ⟨S1, hS1⟩ : ∃ Z, Z = seqB S0 (textB nm) := ⟨_, rfl⟩
        have HS1 : Hid (S1 = seqB S0 (textB nm)) := hS1
        rw [← hS1] at HW1 HBD1
        obtain ⟨⟨k0, k1, k2, k3, k4, k5, k6, k7⟩, _⟩ := blk8 HG1.out
        have hgm1 := block_lt HG1.out
        clear hS1 hgl1
        have HTY2 : Hid (TyAt n (fun z => z < p) w1 X na nl nc ka kl kc) := by
          have h0 := HTYX.out
          have h1 := h0.apart HC1.out.1 (fun z _ hz e => by rcases e with e | e; omega; have := (HW0.out.far z e).1; omega)
          exact h1
        have HTB2 : Hid (Tab w1) := by
          have h0 := HTBX.out
          have h1 := h0.kept HC1.out.1 (fun e => by rcases e with e | e; omega; have := (HW0.out.far 0 e).1; omega)
          exact h1
        go_wp2_with fail
        refine (Put_any HTY2.out HTB2.out (by have := HBD1.out; omega) rfl).mono ?_
        rintro e wa2 ⟨vb, rfl, HA2, hBa2⟩
        obtain ⟨a2, cp2, rfl, hIb⟩ := isB_own HA2.out (putR_range n X)
        obtain ⟨LL, hLL⟩ : ∃ LL, LL = (putR n X).1.length := ⟨_, rfl⟩
        rw [← hLL] at hIb ⊢
        have HP2 : Hid (IsB wa2 a2 LL cp2 (putR n X).1) := hIb
        have HLL : Hid (LL = (putR n X).1.length) := hLL
        have HBa2 : Hid (Below w1.heap.size w1 wa2) := hBa2
        clear hBa2 hIb hLL
        go_wp2_with fail
        refine (wpart_new HW1.out HBa2.out HP2.out (by have := putR_len (n := n) (t := X); have := HBD1.out; have := HLL.out; omega) _).mono ?_
        rintro r w2 ⟨rfl, v2, HW2, HC2⟩
        rw [BE_eta] at HW2
        have HBD2 : Hid ((seqB S1 (putR n X)).1.length + W ≤ 140737488355328) := by
          have h1 := seqB_len S1 (putR n X)
          have h2 := putR_len (n := n) (t := X)
          have h3 := HBD1.out
          show _ ≤ _
          omega
        have HEQ : Hid (seqB S1 (putR n X) = seqB S0 CV) := by
          show _ = _
          rw [HCV.out, HS1.out]
          unfold colB optB
          rw [if_neg (by decide)]
          simp only [unitB, unit_seqB (nrm_seq _ _), seqB_assoc]
        rw [HEQ.out] at HW2 HBD2
        have HBN : Hid ((seqB S0 CV).1.length + ((xs.drop (k + 1)).map (colW n)).sum ≤ 140737488355328) := by rw [← HWW.out]; exact HBD2
        have HCC : Hid (Chg p u0 v2 w0 w2) := (HC1.out.trans HC2.out)
        have HCT : Hid (Chg p v v2 w w2) := HCW.out.trans HCC.out
        have HSN : Hid (Sees 8 (fun z => z < p) (VCol (n + 1) (fun z => z < p) w2) w2 (some ⟨b8, off, none⟩) len cap xs) := HSX.out.kept2 (stays_col (n + 1)) HCC.out.1 (fun z _ hz e => by rcases e with e | e; omega; have := (HW0.out.far z e).1; omega)
        have HTN : Hid (Tab w2) := HTBX.out.kept HCC.out.1 (fun e => by rcases e with e | e; omega; have := (HW0.out.far 0 e).1; omega)
        go_wp2_with fail
        go_roundw
        case rel => exact ⟨k + 1, _, v2, by omega, by go_num, HW2, HSN, HTN, HRC, HBN, HCT⟩
        case measure => simp [intOf]; omega

    · have HE : Hid (R = S0) := by
        show _ = _
        rw [← HRk.out, List.drop_eq_nil_of_le (by rw [HLN.out]; omega)]
        exact seqB_unit HWk.out.nrm
      go_wp2_with fail
      go_end0
      exact ⟨rfl, u0, by rw [HE.out]; exact HWk, HCk⟩

end Go.Proofs.YtnapeecmlkkolaaDoor
