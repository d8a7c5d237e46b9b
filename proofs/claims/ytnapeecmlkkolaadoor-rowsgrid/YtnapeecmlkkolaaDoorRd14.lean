/-
  The reader: columns.
-/
import Derived.Test.YtnapeecmlkkolaaDoorRd13
namespace Go.Proofs.YtnapeecmlkkolaaDoor
open Go.RowKit
set_option maxRecDepth 100000
set_option linter.unusedVariables false
set_option linter.unusedSimpArgs false

set_option maxHeartbeats 4000000 in
theorem rcolumns_false {w : World} {p : Nat} {S : BE} (h : Rd w p S) (hT : Tab w) (hp0 : 0 < p) {n : Nat} (hn : n ≤ 4096) :
    Calls Tryd.prog 45 #[.pointer (some ⟨p, 0, none⟩), .int .i64 n, .bool false] w fun e w' => ∃ v L, e = .returned v ∧ Hid (Rd w' p (stepR (colsR n false) S)) ∧ Hid (OwnI 64 8 (VCol 20) w' (fun k => w.heap.size ≤ k) v L) ∧ Hid ((stepR (colsR n false) S).2 = 0 → L = (colsR n false S.1).val) ∧ Hid (Kept (fun k => k = p) w w') := by
  obtain ⟨q, hq⟩ : ∃ q, q = w.heap.size := ⟨_, rfl⟩
  have HQE : Hid (w.heap.size = q) := hq.symm
  have hlt := h.lt
  obtain ⟨w0, hw0⟩ : ∃ w0, w0 = w.alloc (.cells #[.string ⟨#[]⟩, .string ⟨#[]⟩, .string ⟨#[]⟩, .int .u16 0, .string ⟨#[]⟩, .string ⟨#[]⟩, .slice none 0 0, .slice none 0 0] 64) := ⟨_, rfl⟩
  have HW0 : Hid (w.alloc (.cells #[.string ⟨#[]⟩, .string ⟨#[]⟩, .string ⟨#[]⟩, .int .u16 0, .string ⟨#[]⟩, .string ⟨#[]⟩, .slice none 0 0, .slice none 0 0] 64) = w0) := hw0.symm
  have hB0 : Below w.heap.size w w0 := by rw [hw0]; exact below_one _ _
  have HB0 : Hid (Below w.heap.size w w0) := hB0
  have HQ0 : Hid (w0.heap[q]? = some (.cells #[.string ⟨#[]⟩, .string ⟨#[]⟩, .string ⟨#[]⟩, .int .u16 0, .string ⟨#[]⟩, .string ⟨#[]⟩, .slice none 0 0, .slice none 0 0] 64 (0, 0))) := by rw [hw0, hq]; exact heap_alloc_new w _
  have HR0 : Hid (Rd w0 p S) := h.new hB0
  have HT0 : Hid (Tab w0) := hT.old hB0
  have HN : Hid (Nrm S) := h.nrm
  have hpq : p < q := by omega
  clear h hT hw0 hB0 hq
  go_enter Tryd.func45, Tryd.ntmps45
  go_upto_region 2 with fail
  rw [HW0.out]
  clear HW0
  (try rw [HQE.out])
  have hlq0 := block_lt HQ0.out
  obtain ⟨w1, hw1⟩ : ∃ w1, w1 = w0 := ⟨_, rfl⟩
  rw [← hw1] at HQ0 HR0 HT0 HB0 hlq0 ⊢
  have HQ1 : Hid _ := HQ0.out
  have HT1 : Hid _ := HT0.out
  have HK : Hid (Kept (fun k => k = p) w w1) := kept_of HB0.out
  obtain ⟨S1, hS1⟩ : ∃ S1, S1 = S := ⟨_, rfl⟩
  have HE1 : Hid (S1 = stepR (optR false (ByteArray.empty, ByteArray.empty) ownerR) S) := by rw [hS1]; exact (step_opt_no _ _ HN.out).symm
  have HR1 : Hid (Rd w1 p S1) := by rw [hS1]; exact HR0.out
  have HN1 : Hid (Nrm S1) := by rw [hS1]; exact HN.out
  have HV1 : Hid (S1.2 = 0 → (ByteArray.empty, ByteArray.empty) = ((optR false (ByteArray.empty, ByteArray.empty) ownerR) S.1).val) := fun _ => rfl
  clear hS1 hw1 HB0 HQ0 HR0 HT0 hlq0
  obtain ⟨R, hR⟩ : ∃ R, R = stepR (loopR (colR false (ByteArray.empty, ByteArray.empty)) n) S1 := ⟨_, rfl⟩
  obtain ⟨L, hL⟩ : ∃ L, L = (loopR (colR false (ByteArray.empty, ByteArray.empty)) n S1.1).val := ⟨_, rfl⟩
  have HRE : Hid (stepR (colsR n false) S = R ∧ (R.2 = 0 → (colsR n false S.1).val = L)) := by
    have e1 : stepR (colsR n false) S = stepR (loopR (colR false ((optR false (ByteArray.empty, ByteArray.empty) ownerR) S.1).val) n) S1 := by rw [colsR, step_bind, ← HE1.out]
    by_cases h1 : S1.2 = 0
    · have h2 := HV1.out h1
      rw [← h2] at e1
      refine ⟨by rw [e1, hR], fun hh => ?_⟩
      have h3 : (stepR (colsR n false) S).2 = 0 := by rw [e1, ← hR]; exact hh
      rw [colsR] at h3 ⊢
      rw [bind_val _ _ _ h3, ← HE1.out, ← h2, hL]
    · have e2 : stepR (colsR n false) S = S1 := by rw [e1, step_err _ h1 HN1.out]
      have e3 : R = S1 := by rw [hR, step_err _ h1 HN1.out]
      exact ⟨by rw [e2, e3], fun hh => absurd (by rw [← e3]; exact hh) h1⟩
  have HI0 : Hid (stepR (loopR (colR false (ByteArray.empty, ByteArray.empty)) (n - 0)) S1 = R ∧ (R.2 = 0 → [] ++ (loopR (colR false (ByteArray.empty, ByteArray.empty)) (n - 0) S1.1).val = L)) := ⟨hR.symm, fun _ => hL.symm⟩
  clear hR hL HE1 HV1
  go_wp2_with fail
  go_loopw [8, 13] (fun v i wr => ∃ (k : Nat) (Sk : BE) (acc : List Col) (s t nm : ByteArray) (X : Ty) (na : Option Addr) (nl nc : Nat) (ka : Option Addr) (kl kc : Nat), k ≤ n ∧ i = .int .i64 k ∧ Hid (Rd wr p Sk) ∧ Hid (Tab wr) ∧ Hid (wr.heap[q]? = some (.cells #[.string s, .string t, .string nm, .int .u16 X.id, .string X.space, .string X.name, .slice na nl nc, .slice ka kl kc] 64 (0, 0))) ∧
      Hid (OwnI 64 8 (VCol 20) wr (fun z => q < z) v acc) ∧ Hid (acc.length = k) ∧ Hid (stepR (loopR (colR false (ByteArray.empty, ByteArray.empty)) (n - k)) Sk = R ∧ (R.2 = 0 → acc ++ (loopR (colR false (ByteArray.empty, ByteArray.empty)) (n - k) Sk.1).val = L)) ∧ Hid (Kept (fun z => z = p) w wr) ∧ Hid (True)) (fun _ i _ => n - (intOf i).toNat)
  case atStart => exact ⟨0, S1, [], ⟨#[]⟩, ⟨#[]⟩, ⟨#[]⟩, tyNil, none, 0, 0, none, 0, 0, by omega, rfl, HR1, HT1, HQ1, ownI_nil _ _ _ _ _, rfl, HI0, HK, trivial⟩
  case round =>
    obtain ⟨k, Sk, acc, s, t, nm, X, na, nl, nc, ka, kl, kc, hk, rfl, HRk, HTk, HQk, HO, HLk, HIk, HKk, HST⟩ := hrel
    have hlqk := block_lt HQk.out
    by_cases hlt2 : k < n
    · go_wp2_with fail
      refine (rowner HRk.out hpq HQk.out).mono ?_
      rintro r w2 ⟨rfl, s, t, HQ2, HR2', HOW, HKw⟩
      have HR2 : Hid (Rd w2 p (stepR (optR (!false) (ByteArray.empty, ByteArray.empty) ownerR) Sk)) := HR2'.out
      have HT2 : Hid (Tab w2) := HTk.out.kept HKw.out (by omega)
      have HO2 : Hid (OwnI 64 8 (VCol 20) w2 (fun z => q < z) u8 acc) := HO.out.apart (stays_col 20) HKw.out (fun z _ hz e => by rcases e with e | e <;> omega)
      have HK2 : Hid (Kept (fun z => z = p) w w2) := HKk.out.trans HKw.out (fun i hi e => by rcases e with e | e; exact e; have := HQE.out; omega)
      have HOV : Hid ((stepR (optR (!false) (ByteArray.empty, ByteArray.empty) ownerR) Sk).2 = 0 → (s, t) = (optR (!false) (ByteArray.empty, ByteArray.empty) ownerR Sk.1).val ∧ (s.size ≤ maxLen ∧ t.size ≤ maxLen)) := fun hh => by
        have h1 := HOW.out hh
        refine ⟨h1, ?_⟩
        have hl := HRk.out.len
        have hl2 := step_len textR Sk
        have h2 := owner_val hh
        rw [← h1] at h2
        cases h2
        have a1 := text_size Sk.1
        have a2 := text_size (stepR textR Sk).1
        unfold maxLen
        omega
      have hlq2 := block_lt HQ2.out
      clear HR2' HOW HKw
      go_wp2_with fail
      refine (read_text HR2.out).mono ?_
      rintro r w3 ⟨nm2, rfl, HR3, HNM, HK3⟩
      have hq3 : w3.heap[q]? = some (.cells #[.string s, .string t, .string nm, .int .u16 X.id, .string X.space, .string X.name, .slice na nl nc, .slice ka kl kc] 64 (0, 0)) := (HK3.out.block q hlq2 (by omega)).trans HQ2.out
      have HQ3 : Hid _ := hq3
      obtain ⟨⟨k0, k1, k2, k3, k4, k5, k6, k7⟩, f0, f1, f2, f3, f4, f5, f6, f7⟩ := blk8 hq3
      have hlq3 := block_lt hq3
      clear hq3
      go_wp2_with fail
      have hq4 : (w3.setCell ⟨q, 2, none⟩ (.string nm2)).heap[q]? = some (.cells #[.string s, .string t, .string nm2, .int .u16 X.id, .string X.space, .string X.name, .slice na nl nc, .slice ka kl kc] 64 (0, 0)) := blk_set HQ3.out 2 (.string nm2)
      have hK34 : Kept (fun z => z = p ∨ z = q) w2 (w3.setCell ⟨q, 2, none⟩ (.string nm2)) := (HK3.out.wider (fun k e => .inl e)).setCell (p := ⟨q, 2, none⟩) (fun _ => .inr rfl) _
      have HR4 : Hid (Rd (w3.setCell ⟨q, 2, none⟩ (.string nm2)) p (stepR textR (stepR (optR (!false) (ByteArray.empty, ByteArray.empty) ownerR) Sk))) := HR3.out.kept (one_kept w3 q 2 (.string nm2)) (fun k hk e => by omega)
      generalize w3.setCell ⟨q, 2, none⟩ (.string nm2) = w4 at hq4 hK34 HR4 ⊢
      have HQ4 : Hid _ := hq4
      have HT4 : Hid (Tab w4) := HT2.out.kept hK34 (by omega)
      have HO4 : Hid (OwnI 64 8 (VCol 20) w4 (fun z => q < z) u8 acc) := HO2.out.apart (stays_col 20) hK34 (fun z _ hz e => by rcases e with e | e <;> omega)
      have HK4 : Hid (Kept (fun z => z = p) w w4) := HK2.out.trans hK34 (fun i hi e => by rcases e with e | e; exact e; have := HQE.out; omega)
      have hlq4 := block_lt hq4
      clear hq4 hK34 k0 k1 k2 k3 k4 k5 k6 k7 f0 f1 f2 f3 f4 f5 f6 f7 HQ3 HR3
      refine (read_opt HR4.out HT4.out).mono ?_
      rintro r w5 ⟨Y, ya, yl, yc, za, zl, zc, rfl, HR5, HTY, HYV, HK5⟩
      have hq5 : w5.heap[q]? = some (.cells #[.string s, .string t, .string nm2, .int .u16 X.id, .string X.space, .string X.name, .slice na nl nc, .slice ka kl kc] 64 (0, 0)) := (HK5.out.block q hlq4 (by omega)).trans HQ4.out
      have HQ5 : Hid _ := hq5
      obtain ⟨⟨k0, k1, k2, k3, k4, k5, k6, k7⟩, f0, f1, f2, f3, f4, f5, f6, f7⟩ := blk8 hq5
      have hlq5 := block_lt hq5
      clear hq5
      go_upto_region 11 with fail
      have hq6 : (((((w5.setCell ⟨q, 3, none⟩ (.int .u16 Y.id)).setCell ⟨q, 4, none⟩ (.string Y.space)).setCell ⟨q, 5, none⟩ (.string Y.name)).setCell ⟨q, 6, none⟩ (.slice ya yl yc)).setCell ⟨q, 7, none⟩ (.slice za zl zc)).heap[q]? = some (.cells #[.string s, .string t, .string nm2, .int .u16 Y.id, .string Y.space, .string Y.name, .slice ya yl yc, .slice za zl zc] 64 (0, 0)) := blk_set ((blk_set ((blk_set ((blk_set ((blk_set (HQ5.out) 3 (.int .u16 Y.id))) 4 (.string Y.space))) 5 (.string Y.name))) 6 (.slice ya yl yc))) 7 (.slice za zl zc)
      have hK56 : Kept (fun z => z = q) w5 (((((w5.setCell ⟨q, 3, none⟩ (.int .u16 Y.id)).setCell ⟨q, 4, none⟩ (.string Y.space)).setCell ⟨q, 5, none⟩ (.string Y.name)).setCell ⟨q, 6, none⟩ (.slice ya yl yc)).setCell ⟨q, 7, none⟩ (.slice za zl zc)) := (((((Kept.refl (fun z => z = q) w5).setCell (p := ⟨q, 3, none⟩) (fun _ => rfl) _).setCell (p := ⟨q, 4, none⟩) (fun _ => rfl) _).setCell (p := ⟨q, 5, none⟩) (fun _ => rfl) _).setCell (p := ⟨q, 6, none⟩) (fun _ => rfl) _).setCell (p := ⟨q, 7, none⟩) (fun _ => rfl) _
      generalize ((((w5.setCell ⟨q, 3, none⟩ (.int .u16 Y.id)).setCell ⟨q, 4, none⟩ (.string Y.space)).setCell ⟨q, 5, none⟩ (.string Y.name)).setCell ⟨q, 6, none⟩ (.slice ya yl yc)).setCell ⟨q, 7, none⟩ (.slice za zl zc) = w6 at hq6 hK56 ⊢
      have HR6 : Hid (Rd w6 p (stepR (tyR 20) (stepR textR (stepR (optR (!false) (ByteArray.empty, ByteArray.empty) ownerR) Sk)))) := HR5.out.kept hK56 (fun k hk e => by omega)
      rw [← col_step] at HR6
      have HTY6 : Hid (TyAt 19 (New w4.heap.size w5) w6 Y ya yl yc za zl zc) := HTY.out.apart hK56 (fun z _ hz e => by have := hz.1; omega)
      have hK46 : Kept (fun z => z = p ∨ z = q) w4 w6 := (HK5.out.wider (fun k e => .inl e)).trans hK56 (fun i hi e => .inr e)
      have HT6 : Hid (Tab w6) := HT4.out.kept hK46 (by omega)
      have HO6 : Hid (OwnI 64 8 (VCol 20) w6 (fun z => q < z) u8 acc) := HO4.out.apart (stays_col 20) hK46 (fun z _ hz e => by rcases e with e | e <;> omega)
      have HK6 : Hid (Kept (fun z => z = p) w w6) := HK4.out.trans hK46 (fun i hi e => by rcases e with e | e; exact e; have := HQE.out; omega)
      have HQ6 : Hid _ := hq6
      have hsz56 : w5.heap.size ≤ w6.heap.size := hK56.size
      obtain ⟨⟨k0, k1, k2, k3, k4, k5, k6, k7⟩, f0, f1, f2, f3, f4, f5, f6, f7⟩ := blk8 hq6
      have hlq6 := block_lt hq6
      obtain ⟨r6, lr6, cr6, hb6, _⟩ := HR6.out.blk
      obtain ⟨d0, d1, g0, g1⟩ := two_cells hb6
      have hlp6 := block_lt hb6
      clear hq6 hK56 hK46 hb6 HR5 HTY HK5
      by_cases hE : (stepR (colR false (ByteArray.empty, ByteArray.empty)) Sk).2 = 0
      · rw [hE] at d1
        have HNX : Hid _ := loop_next HIk.out hlt2 hE
        have HEE : Hid ((stepR (colR false (ByteArray.empty, ByteArray.empty)) Sk).2 = 0) := hE
        clear hE
        obtain ⟨sS, sT⟩ : s.size ≤ maxLen ∧ t.size ≤ maxLen := (HOV.out (step_fine (step_fine (by rw [← col_step]; exact HEE.out)))).2
        have hS3 : (stepR textR (stepR (optR (!false) (ByteArray.empty, ByteArray.empty) ownerR) Sk)).2 = 0 := step_fine (by rw [← col_step]; exact HEE.out)
        have sM : nm2.size ≤ maxLen := by
          rw [HNM.out hS3]
          have a1 := text_size (stepR (optR (!false) (ByteArray.empty, ByteArray.empty) ownerR) Sk).1
          have a2 := HR2.out.len
          unfold maxLen
          omega
        have HVAL : Hid ((colR false (ByteArray.empty, ByteArray.empty) Sk.1).val = (s, t, nm2, Y)) := by
          show _ = _
          rw [col_val HEE.out, ← (HOV.out (step_fine hS3)).1, ← HNM.out hS3, ← HYV.out (by rw [← col_step]; exact HEE.out)]
        have HBN : Hid ((w6.alloc (.cells #[.string s, .string t, .string nm2, .int .u16 Y.id, .string Y.space, .string Y.name, .slice ya yl yc, .slice za zl zc] 64)).heap[w6.heap.size]? = some (.cells [.string s, .string t, .string nm2, .int .u16 Y.id, .string Y.space, .string Y.name, .slice ya yl yc, .slice za zl zc].toArray 64 (0, 0))) := heap_alloc_new w6 _
        have HON : Hid (OwnI 64 8 (VCol 20) (w6.alloc (.cells #[.string s, .string t, .string nm2, .int .u16 Y.id, .string Y.space, .string Y.name, .slice ya yl yc, .slice za zl zc] 64)) (fun z => q < z) u8 acc) := HO6.out.old (stays_col 20) (below_one _ _)
        have hlt4 : ∀ z, u8.ownBlock = some z → q < z ∧ z < w4.heap.size := fun z hz => HO4.out.lt z hz
        have HXN : Hid (VCol 20 (fun z => z < (w6.alloc (.cells #[.string s, .string t, .string nm2, .int .u16 Y.id, .string Y.space, .string Y.name, .slice ya yl yc, .slice za zl zc] 64)).heap.size ∧ u8.ownBlock ≠ some z ∧ q < z) (w6.alloc (.cells #[.string s, .string t, .string nm2, .int .u16 Y.id, .string Y.space, .string Y.name, .slice ya yl yc, .slice za zl zc] 64)) (s, t, nm2, Y) (fun j => ([.string s, .string t, .string nm2, .int .u16 Y.id, .string Y.space, .string Y.name, .slice ya yl yc, .slice za zl zc] : List Value).getD j default)) := by
          refine ⟨⟨rfl, sS⟩, ⟨rfl, sT⟩, ⟨rfl, sM⟩, ?_⟩
          have hvt := (HTY6.out.mono (G := fun z => z < (w6.alloc (.cells #[.string s, .string t, .string nm2, .int .u16 Y.id, .string Y.space, .string Y.name, .slice ya yl yc, .slice za zl zc] 64)).heap.size ∧ u8.ownBlock ≠ some z ∧ q < z) (W := w6.alloc (.cells #[.string s, .string t, .string nm2, .int .u16 Y.id, .string Y.space, .string Y.name, .slice ya yl yc, .slice za zl zc] 64)) (fun z hz hF => ⟨⟨by simp; omega, fun e => by have := (hlt4 z e).2; have := hF.1; omega, by have := hF.1; omega⟩, (below_one w6 _).block z hz⟩) (by simp)).vt
          exact hvt.cells (fun j hj => by rcases (show j = 0 ∨ j = 1 ∨ j = 2 ∨ j = 3 ∨ j = 4 by omega) with rfl | rfl | rfl | rfl | rfl <;> rfl)
        have HFN : Hid ((fun z => q < z) (w6.alloc (.cells #[.string s, .string t, .string nm2, .int .u16 Y.id, .string Y.space, .string Y.name, .slice ya yl yc, .slice za zl zc] 64)).heap.size) := by show q < _; simp; omega
        clear sS sT sM hS3 hlt4
        go_wp2_with (at_builtin; refine wpList_appendI rfl (.tmp 30) (.tmp 32) 24 rfl (stays_col 20) elem_col rfl HON.out rfl HBN.out rfl ?c1 (s, t, nm2, Y) HXN.out HFN.out ?c2 ?c3 ?_)
        case c1 => exact ⟨rfl, rfl, rfl, rfl, rfl, rfl, rfl, rfl⟩
        case c2 => rw [HLk.out]; unfold maxLen; omega
        case c3 => rw [HLk.out]; omega
        intro v4 w7 ho7 hK7 hv7
        have hK67 : Kept (fun z => u8.ownBlock = some z) w6 w7 := (kept_of (below_one w6 _)).trans hK7 (fun i hi e => e)
        have hq7 : w7.heap[q]? = some (.cells #[.string s, .string t, .string nm2, .int .u16 Y.id, .string Y.space, .string Y.name, .slice ya yl yc, .slice za zl zc] 64 (0, 0)) := (hK67.block q hlq6 (fun e => by have := (HO6.out.lt q e).1; omega)).trans HQ6.out
        have HQ7 : Hid _ := hq7
        have HR7 : Hid (Rd w7 p (stepR (colR false (ByteArray.empty, ByteArray.empty)) Sk)) := HR6.out.kept hK67 (fun z hz e => by have := (HO6.out.lt z e).1; omega)
        have HT7 : Hid (Tab w7) := HT6.out.kept hK67 (fun e => by have := (HO6.out.lt 0 e).1; omega)
        have HO7 : Hid (OwnI 64 8 (VCol 20) w7 (fun z => q < z) v4 (acc ++ [(colR false (ByteArray.empty, ByteArray.empty) Sk.1).val])) := by rw [HVAL.out]; exact ho7
        have HK7 : Hid (Kept (fun z => z = p) w w7) := HK6.out.trans hK67 (fun i hi e => by have := (HO6.out.lt i e).1; have := HQE.out; omega)
        have HL7 : Hid ((acc ++ [(colR false (ByteArray.empty, ByteArray.empty) Sk.1).val]).length = k + 1) := by show _ = _; rw [List.length_append, HLk.out]; rfl
        clear hK67 hq7 ho7 hK7 hv7
        go_wp2_with fail
        go_roundw
        case rel => exact ⟨k + 1, stepR (colR false (ByteArray.empty, ByteArray.empty)) Sk, _, s, t, nm2, Y, ya, yl, yc, za, zl, zc, by omega, by go_num, HR7, HT7, HQ7, HO7, HL7, HNX, HK7, trivial⟩
        case measure => simp [intOf]; omega
      · have t1 : ((stepR (colR false (ByteArray.empty, ByteArray.empty)) Sk).2 != 0) = true := by simpa using hE
        have HRR : Hid (R = stepR (colR false (ByteArray.empty, ByteArray.empty)) Sk) := loop_halt HIk.out hlt2 hE
        have HEE : Hid ((stepR (colR false (ByteArray.empty, ByteArray.empty)) Sk).2 ≠ 0) := hE
        clear hE
        go_wp2_with fail
        go_ret
        refine ⟨_, [], rfl, ?_, ownI_nil _ _ _ _ _, fun hh => ?_, HK6⟩
        · rw [HRE.out.1, HRR.out]; exact HR6
        · rw [HRE.out.1, HRR.out] at hh; exact absurd hh HEE.out
    · have HDN : Hid (R = Sk ∧ (R.2 = 0 → acc = L)) := loop_done HRk.out.nrm HIk.out (by omega)
      go_wp2_with fail
      go_ret
      refine ⟨_, acc, rfl, ?_, ?_, fun hh => ?_, HKk⟩
      · rw [HRE.out.1, HDN.out.1]; exact HRk
      · exact HO.out.sub (stays_col 20) (fun z _ hz => by have := HQE.out; omega)
      · rw [HRE.out.1] at hh; rw [HRE.out.2 hh]; exact HDN.out.2 hh

set_option maxHeartbeats 4000000 in
theorem rcolumns_true {w : World} {p : Nat} {S : BE} (h : Rd w p S) (hT : Tab w) (hp0 : 0 < p) {n : Nat} (hn : n ≤ 4096) :
    Calls Tryd.prog 45 #[.pointer (some ⟨p, 0, none⟩), .int .i64 n, .bool true] w fun e w' => ∃ v L, e = .returned v ∧ Hid (Rd w' p (stepR (colsR n true) S)) ∧ Hid (OwnI 64 8 (VCol 20) w' (fun k => w.heap.size ≤ k) v L) ∧ Hid ((stepR (colsR n true) S).2 = 0 → L = (colsR n true S.1).val) ∧ Hid (Kept (fun k => k = p) w w') := by
  obtain ⟨q, hq⟩ : ∃ q, q = w.heap.size := ⟨_, rfl⟩
  have HQE : Hid (w.heap.size = q) := hq.symm
  have hlt := h.lt
  obtain ⟨w0, hw0⟩ : ∃ w0, w0 = w.alloc (.cells #[.string ⟨#[]⟩, .string ⟨#[]⟩, .string ⟨#[]⟩, .int .u16 0, .string ⟨#[]⟩, .string ⟨#[]⟩, .slice none 0 0, .slice none 0 0] 64) := ⟨_, rfl⟩
  have HW0 : Hid (w.alloc (.cells #[.string ⟨#[]⟩, .string ⟨#[]⟩, .string ⟨#[]⟩, .int .u16 0, .string ⟨#[]⟩, .string ⟨#[]⟩, .slice none 0 0, .slice none 0 0] 64) = w0) := hw0.symm
  have hB0 : Below w.heap.size w w0 := by rw [hw0]; exact below_one _ _
  have HB0 : Hid (Below w.heap.size w w0) := hB0
  have HQ0 : Hid (w0.heap[q]? = some (.cells #[.string ⟨#[]⟩, .string ⟨#[]⟩, .string ⟨#[]⟩, .int .u16 0, .string ⟨#[]⟩, .string ⟨#[]⟩, .slice none 0 0, .slice none 0 0] 64 (0, 0))) := by rw [hw0, hq]; exact heap_alloc_new w _
  have HR0 : Hid (Rd w0 p S) := h.new hB0
  have HT0 : Hid (Tab w0) := hT.old hB0
  have HN : Hid (Nrm S) := h.nrm
  have hpq : p < q := by omega
  clear h hT hw0 hB0 hq
  go_enter Tryd.func45, Tryd.ntmps45
  go_upto_region 2 with fail
  rw [HW0.out]
  clear HW0
  (try rw [HQE.out])
  have hlq0 := block_lt HQ0.out
  go_wp2_with fail
  refine (rowner HR0.out hpq HQ0.out).mono ?_
  rintro r w1 ⟨rfl, s0, t0, HQ1, HR1, HS1, HK1⟩
  have HK : Hid (Kept (fun k => k = p) w w1) := (kept_of HB0.out).trans HK1.out (fun i hi e => by rcases e with e | e; exact e; have := HQE.out; omega)
  have HT1 : Hid (Tab w1) := HT0.out.kept HK1.out (by omega)
  have HZ : Hid ((stepR ownerR S).2 = 0 → (s0, t0) = (ownerR S.1).val) := HS1
  obtain ⟨S1, hS1⟩ : ∃ S1, S1 = stepR ownerR S := ⟨_, rfl⟩
  have HE1 : Hid (S1 = stepR (optR true (ByteArray.empty, ByteArray.empty) ownerR) S) := hS1
  rw [← hS1] at HR1
  have HN1 : Hid (Nrm S1) := by rw [hS1]; exact step_nrm _ _
  have HV1 : Hid (S1.2 = 0 → (s0, t0) = ((optR true (ByteArray.empty, ByteArray.empty) ownerR) S.1).val) := by rw [hS1]; exact HZ.out
  have HSZ : Hid (S1.2 = 0 → s0.size ≤ maxLen ∧ t0.size ≤ maxLen) := by
    intro hh
    rw [hS1] at hh
    have h1 := HZ.out hh
    have hl := HR0.out.len
    have hl2 := step_len textR S
    rw [owner_val hh] at h1
    cases h1
    have a1 := text_size S.1
    have a2 := text_size (stepR textR S).1
    unfold maxLen
    omega
  clear HS1 HK1 HZ hS1 HB0 HQ0 HR0 HT0
  obtain ⟨R, hR⟩ : ∃ R, R = stepR (loopR (colR true (s0, t0)) n) S1 := ⟨_, rfl⟩
  obtain ⟨L, hL⟩ : ∃ L, L = (loopR (colR true (s0, t0)) n S1.1).val := ⟨_, rfl⟩
  have HRE : Hid (stepR (colsR n true) S = R ∧ (R.2 = 0 → (colsR n true S.1).val = L)) := by
    have e1 : stepR (colsR n true) S = stepR (loopR (colR true ((optR true (ByteArray.empty, ByteArray.empty) ownerR) S.1).val) n) S1 := by rw [colsR, step_bind, ← HE1.out]
    by_cases h1 : S1.2 = 0
    · have h2 := HV1.out h1
      rw [← h2] at e1
      refine ⟨by rw [e1, hR], fun hh => ?_⟩
      have h3 : (stepR (colsR n true) S).2 = 0 := by rw [e1, ← hR]; exact hh
      rw [colsR] at h3 ⊢
      rw [bind_val _ _ _ h3, ← HE1.out, ← h2, hL]
    · have e2 : stepR (colsR n true) S = S1 := by rw [e1, step_err _ h1 HN1.out]
      have e3 : R = S1 := by rw [hR, step_err _ h1 HN1.out]
      exact ⟨by rw [e2, e3], fun hh => absurd (by rw [← e3]; exact hh) h1⟩
  have HI0 : Hid (stepR (loopR (colR true (s0, t0)) (n - 0)) S1 = R ∧ (R.2 = 0 → [] ++ (loopR (colR true (s0, t0)) (n - 0) S1.1).val = L)) := ⟨hR.symm, fun _ => hL.symm⟩
  clear hR hL HE1 HV1
  go_wp2_with fail
  go_loopw [8, 13] (fun v i wr => ∃ (k : Nat) (Sk : BE) (acc : List Col) (s t nm : ByteArray) (X : Ty) (na : Option Addr) (nl nc : Nat) (ka : Option Addr) (kl kc : Nat), k ≤ n ∧ i = .int .i64 k ∧ Hid (Rd wr p Sk) ∧ Hid (Tab wr) ∧ Hid (wr.heap[q]? = some (.cells #[.string s, .string t, .string nm, .int .u16 X.id, .string X.space, .string X.name, .slice na nl nc, .slice ka kl kc] 64 (0, 0))) ∧
      Hid (OwnI 64 8 (VCol 20) wr (fun z => q < z) v acc) ∧ Hid (acc.length = k) ∧ Hid (stepR (loopR (colR true (s0, t0)) (n - k)) Sk = R ∧ (R.2 = 0 → acc ++ (loopR (colR true (s0, t0)) (n - k) Sk.1).val = L)) ∧ Hid (Kept (fun z => z = p) w wr) ∧ Hid (s = s0 ∧ t = t0 ∧ (Sk.2 = 0 → s0.size ≤ maxLen ∧ t0.size ≤ maxLen))) (fun _ i _ => n - (intOf i).toNat)
  case atStart => exact ⟨0, S1, [], s0, t0, ⟨#[]⟩, tyNil, none, 0, 0, none, 0, 0, by omega, rfl, HR1, HT1, HQ1, ownI_nil _ _ _ _ _, rfl, HI0, HK, ⟨rfl, rfl, HSZ.out⟩⟩
  case round =>
    obtain ⟨k, Sk, acc, s, t, nm, X, na, nl, nc, ka, kl, kc, hk, rfl, HRk, HTk, HQk, HO, HLk, HIk, HKk, HST⟩ := hrel
    have hlqk := block_lt HQk.out
    by_cases hlt2 : k < n
    · have HS2 : Hid (stepR (optR (!true) (s0, t0) ownerR) Sk = Sk) := step_opt_no _ _ HRk.out.nrm
      obtain ⟨w2, hw2⟩ : ∃ w2, w2 = wr := ⟨_, rfl⟩
      subst hw2
      have HR2 : Hid (Rd w2 p (stepR (optR (!true) (s0, t0) ownerR) Sk)) := by rw [HS2.out]; exact HRk.out
      have HQ2 := HQk
      have HT2 := HTk
      have HO2 := HO
      have HK2 : Hid (Kept (fun z => z = p) w w2) := HKk.out
      have HOV : Hid ((stepR (optR (!true) (s0, t0) ownerR) Sk).2 = 0 → (s, t) = (optR (!true) (s0, t0) ownerR Sk.1).val ∧ (s.size ≤ maxLen ∧ t.size ≤ maxLen)) := fun hh => ⟨by rw [HST.out.1, HST.out.2.1]; rfl, by rw [HST.out.1, HST.out.2.1]; exact HST.out.2.2 (by rw [HS2.out] at hh; exact hh)⟩
      have hlq2 := hlqk
      go_wp2_with fail
      refine (read_text HR2.out).mono ?_
      rintro r w3 ⟨nm2, rfl, HR3, HNM, HK3⟩
      have hq3 : w3.heap[q]? = some (.cells #[.string s, .string t, .string nm, .int .u16 X.id, .string X.space, .string X.name, .slice na nl nc, .slice ka kl kc] 64 (0, 0)) := (HK3.out.block q hlq2 (by omega)).trans HQ2.out
      have HQ3 : Hid _ := hq3
      obtain ⟨⟨k0, k1, k2, k3, k4, k5, k6, k7⟩, f0, f1, f2, f3, f4, f5, f6, f7⟩ := blk8 hq3
      have hlq3 := block_lt hq3
      clear hq3
      go_wp2_with fail
      have hq4 : (w3.setCell ⟨q, 2, none⟩ (.string nm2)).heap[q]? = some (.cells #[.string s, .string t, .string nm2, .int .u16 X.id, .string X.space, .string X.name, .slice na nl nc, .slice ka kl kc] 64 (0, 0)) := blk_set HQ3.out 2 (.string nm2)
      have hK34 : Kept (fun z => z = p ∨ z = q) w2 (w3.setCell ⟨q, 2, none⟩ (.string nm2)) := (HK3.out.wider (fun k e => .inl e)).setCell (p := ⟨q, 2, none⟩) (fun _ => .inr rfl) _
      have HR4 : Hid (Rd (w3.setCell ⟨q, 2, none⟩ (.string nm2)) p (stepR textR (stepR (optR (!true) (s0, t0) ownerR) Sk))) := HR3.out.kept (one_kept w3 q 2 (.string nm2)) (fun k hk e => by omega)
      generalize w3.setCell ⟨q, 2, none⟩ (.string nm2) = w4 at hq4 hK34 HR4 ⊢
      have HQ4 : Hid _ := hq4
      have HT4 : Hid (Tab w4) := HT2.out.kept hK34 (by omega)
      have HO4 : Hid (OwnI 64 8 (VCol 20) w4 (fun z => q < z) u8 acc) := HO2.out.apart (stays_col 20) hK34 (fun z _ hz e => by rcases e with e | e <;> omega)
      have HK4 : Hid (Kept (fun z => z = p) w w4) := HK2.out.trans hK34 (fun i hi e => by rcases e with e | e; exact e; have := HQE.out; omega)
      have hlq4 := block_lt hq4
      clear hq4 hK34 k0 k1 k2 k3 k4 k5 k6 k7 f0 f1 f2 f3 f4 f5 f6 f7 HQ3 HR3
      refine (read_opt HR4.out HT4.out).mono ?_
      rintro r w5 ⟨Y, ya, yl, yc, za, zl, zc, rfl, HR5, HTY, HYV, HK5⟩
      have hq5 : w5.heap[q]? = some (.cells #[.string s, .string t, .string nm2, .int .u16 X.id, .string X.space, .string X.name, .slice na nl nc, .slice ka kl kc] 64 (0, 0)) := (HK5.out.block q hlq4 (by omega)).trans HQ4.out
      have HQ5 : Hid _ := hq5
      obtain ⟨⟨k0, k1, k2, k3, k4, k5, k6, k7⟩, f0, f1, f2, f3, f4, f5, f6, f7⟩ := blk8 hq5
      have hlq5 := block_lt hq5
      clear hq5
      go_upto_region 11 with fail
      have hq6 : (((((w5.setCell ⟨q, 3, none⟩ (.int .u16 Y.id)).setCell ⟨q, 4, none⟩ (.string Y.space)).setCell ⟨q, 5, none⟩ (.string Y.name)).setCell ⟨q, 6, none⟩ (.slice ya yl yc)).setCell ⟨q, 7, none⟩ (.slice za zl zc)).heap[q]? = some (.cells #[.string s, .string t, .string nm2, .int .u16 Y.id, .string Y.space, .string Y.name, .slice ya yl yc, .slice za zl zc] 64 (0, 0)) := blk_set ((blk_set ((blk_set ((blk_set ((blk_set (HQ5.out) 3 (.int .u16 Y.id))) 4 (.string Y.space))) 5 (.string Y.name))) 6 (.slice ya yl yc))) 7 (.slice za zl zc)
      have hK56 : Kept (fun z => z = q) w5 (((((w5.setCell ⟨q, 3, none⟩ (.int .u16 Y.id)).setCell ⟨q, 4, none⟩ (.string Y.space)).setCell ⟨q, 5, none⟩ (.string Y.name)).setCell ⟨q, 6, none⟩ (.slice ya yl yc)).setCell ⟨q, 7, none⟩ (.slice za zl zc)) := (((((Kept.refl (fun z => z = q) w5).setCell (p := ⟨q, 3, none⟩) (fun _ => rfl) _).setCell (p := ⟨q, 4, none⟩) (fun _ => rfl) _).setCell (p := ⟨q, 5, none⟩) (fun _ => rfl) _).setCell (p := ⟨q, 6, none⟩) (fun _ => rfl) _).setCell (p := ⟨q, 7, none⟩) (fun _ => rfl) _
      generalize ((((w5.setCell ⟨q, 3, none⟩ (.int .u16 Y.id)).setCell ⟨q, 4, none⟩ (.string Y.space)).setCell ⟨q, 5, none⟩ (.string Y.name)).setCell ⟨q, 6, none⟩ (.slice ya yl yc)).setCell ⟨q, 7, none⟩ (.slice za zl zc) = w6 at hq6 hK56 ⊢
      have HR6 : Hid (Rd w6 p (stepR (tyR 20) (stepR textR (stepR (optR (!true) (s0, t0) ownerR) Sk)))) := HR5.out.kept hK56 (fun k hk e => by omega)
      rw [← col_step] at HR6
      have HTY6 : Hid (TyAt 19 (New w4.heap.size w5) w6 Y ya yl yc za zl zc) := HTY.out.apart hK56 (fun z _ hz e => by have := hz.1; omega)
      have hK46 : Kept (fun z => z = p ∨ z = q) w4 w6 := (HK5.out.wider (fun k e => .inl e)).trans hK56 (fun i hi e => .inr e)
      have HT6 : Hid (Tab w6) := HT4.out.kept hK46 (by omega)
      have HO6 : Hid (OwnI 64 8 (VCol 20) w6 (fun z => q < z) u8 acc) := HO4.out.apart (stays_col 20) hK46 (fun z _ hz e => by rcases e with e | e <;> omega)
      have HK6 : Hid (Kept (fun z => z = p) w w6) := HK4.out.trans hK46 (fun i hi e => by rcases e with e | e; exact e; have := HQE.out; omega)
      have HQ6 : Hid _ := hq6
      have hsz56 : w5.heap.size ≤ w6.heap.size := hK56.size
      obtain ⟨⟨k0, k1, k2, k3, k4, k5, k6, k7⟩, f0, f1, f2, f3, f4, f5, f6, f7⟩ := blk8 hq6
      have hlq6 := block_lt hq6
      obtain ⟨r6, lr6, cr6, hb6, _⟩ := HR6.out.blk
      obtain ⟨d0, d1, g0, g1⟩ := two_cells hb6
      have hlp6 := block_lt hb6
      clear hq6 hK56 hK46 hb6 HR5 HTY HK5
      by_cases hE : (stepR (colR true (s0, t0)) Sk).2 = 0
      · rw [hE] at d1
        have HNX : Hid _ := loop_next HIk.out hlt2 hE
        have HEE : Hid ((stepR (colR true (s0, t0)) Sk).2 = 0) := hE
        clear hE
        obtain ⟨sS, sT⟩ : s.size ≤ maxLen ∧ t.size ≤ maxLen := (HOV.out (step_fine (step_fine (by rw [← col_step]; exact HEE.out)))).2
        have hS3 : (stepR textR (stepR (optR (!true) (s0, t0) ownerR) Sk)).2 = 0 := step_fine (by rw [← col_step]; exact HEE.out)
        have sM : nm2.size ≤ maxLen := by
          rw [HNM.out hS3]
          have a1 := text_size (stepR (optR (!true) (s0, t0) ownerR) Sk).1
          have a2 := HR2.out.len
          unfold maxLen
          omega
        have HVAL : Hid ((colR true (s0, t0) Sk.1).val = (s, t, nm2, Y)) := by
          show _ = _
          rw [col_val HEE.out, ← (HOV.out (step_fine hS3)).1, ← HNM.out hS3, ← HYV.out (by rw [← col_step]; exact HEE.out)]
        have HBN : Hid ((w6.alloc (.cells #[.string s, .string t, .string nm2, .int .u16 Y.id, .string Y.space, .string Y.name, .slice ya yl yc, .slice za zl zc] 64)).heap[w6.heap.size]? = some (.cells [.string s, .string t, .string nm2, .int .u16 Y.id, .string Y.space, .string Y.name, .slice ya yl yc, .slice za zl zc].toArray 64 (0, 0))) := heap_alloc_new w6 _
        have HON : Hid (OwnI 64 8 (VCol 20) (w6.alloc (.cells #[.string s, .string t, .string nm2, .int .u16 Y.id, .string Y.space, .string Y.name, .slice ya yl yc, .slice za zl zc] 64)) (fun z => q < z) u8 acc) := HO6.out.old (stays_col 20) (below_one _ _)
        have hlt4 : ∀ z, u8.ownBlock = some z → q < z ∧ z < w4.heap.size := fun z hz => HO4.out.lt z hz
        have HXN : Hid (VCol 20 (fun z => z < (w6.alloc (.cells #[.string s, .string t, .string nm2, .int .u16 Y.id, .string Y.space, .string Y.name, .slice ya yl yc, .slice za zl zc] 64)).heap.size ∧ u8.ownBlock ≠ some z ∧ q < z) (w6.alloc (.cells #[.string s, .string t, .string nm2, .int .u16 Y.id, .string Y.space, .string Y.name, .slice ya yl yc, .slice za zl zc] 64)) (s, t, nm2, Y) (fun j => ([.string s, .string t, .string nm2, .int .u16 Y.id, .string Y.space, .string Y.name, .slice ya yl yc, .slice za zl zc] : List Value).getD j default)) := by
          refine ⟨⟨rfl, sS⟩, ⟨rfl, sT⟩, ⟨rfl, sM⟩, ?_⟩
          have hvt := (HTY6.out.mono (G := fun z => z < (w6.alloc (.cells #[.string s, .string t, .string nm2, .int .u16 Y.id, .string Y.space, .string Y.name, .slice ya yl yc, .slice za zl zc] 64)).heap.size ∧ u8.ownBlock ≠ some z ∧ q < z) (W := w6.alloc (.cells #[.string s, .string t, .string nm2, .int .u16 Y.id, .string Y.space, .string Y.name, .slice ya yl yc, .slice za zl zc] 64)) (fun z hz hF => ⟨⟨by simp; omega, fun e => by have := (hlt4 z e).2; have := hF.1; omega, by have := hF.1; omega⟩, (below_one w6 _).block z hz⟩) (by simp)).vt
          exact hvt.cells (fun j hj => by rcases (show j = 0 ∨ j = 1 ∨ j = 2 ∨ j = 3 ∨ j = 4 by omega) with rfl | rfl | rfl | rfl | rfl <;> rfl)
        have HFN : Hid ((fun z => q < z) (w6.alloc (.cells #[.string s, .string t, .string nm2, .int .u16 Y.id, .string Y.space, .string Y.name, .slice ya yl yc, .slice za zl zc] 64)).heap.size) := by show q < _; simp; omega
        clear sS sT sM hS3 hlt4
        go_wp2_with (at_builtin; refine wpList_appendI rfl (.tmp 30) (.tmp 32) 24 rfl (stays_col 20) elem_col rfl HON.out rfl HBN.out rfl ?c1 (s, t, nm2, Y) HXN.out HFN.out ?c2 ?c3 ?_)
        case c1 => exact ⟨rfl, rfl, rfl, rfl, rfl, rfl, rfl, rfl⟩
        case c2 => rw [HLk.out]; unfold maxLen; omega
        case c3 => rw [HLk.out]; omega
        intro v4 w7 ho7 hK7 hv7
        have hK67 : Kept (fun z => u8.ownBlock = some z) w6 w7 := (kept_of (below_one w6 _)).trans hK7 (fun i hi e => e)
        have hq7 : w7.heap[q]? = some (.cells #[.string s, .string t, .string nm2, .int .u16 Y.id, .string Y.space, .string Y.name, .slice ya yl yc, .slice za zl zc] 64 (0, 0)) := (hK67.block q hlq6 (fun e => by have := (HO6.out.lt q e).1; omega)).trans HQ6.out
        have HQ7 : Hid _ := hq7
        have HR7 : Hid (Rd w7 p (stepR (colR true (s0, t0)) Sk)) := HR6.out.kept hK67 (fun z hz e => by have := (HO6.out.lt z e).1; omega)
        have HT7 : Hid (Tab w7) := HT6.out.kept hK67 (fun e => by have := (HO6.out.lt 0 e).1; omega)
        have HO7 : Hid (OwnI 64 8 (VCol 20) w7 (fun z => q < z) v4 (acc ++ [(colR true (s0, t0) Sk.1).val])) := by rw [HVAL.out]; exact ho7
        have HK7 : Hid (Kept (fun z => z = p) w w7) := HK6.out.trans hK67 (fun i hi e => by have := (HO6.out.lt i e).1; have := HQE.out; omega)
        have HL7 : Hid ((acc ++ [(colR true (s0, t0) Sk.1).val]).length = k + 1) := by show _ = _; rw [List.length_append, HLk.out]; rfl
        clear hK67 hq7 ho7 hK7 hv7
        go_wp2_with fail
        go_roundw
        case rel => exact ⟨k + 1, stepR (colR true (s0, t0)) Sk, _, s, t, nm2, Y, ya, yl, yc, za, zl, zc, by omega, by go_num, HR7, HT7, HQ7, HO7, HL7, HNX, HK7, ⟨HST.out.1, HST.out.2.1, fun hh => HST.out.2.2 (step_fine hh)⟩⟩
        case measure => simp [intOf]; omega
      · have t1 : ((stepR (colR true (s0, t0)) Sk).2 != 0) = true := by simpa using hE
        have HRR : Hid (R = stepR (colR true (s0, t0)) Sk) := loop_halt HIk.out hlt2 hE
        have HEE : Hid ((stepR (colR true (s0, t0)) Sk).2 ≠ 0) := hE
        clear hE
        go_wp2_with fail
        go_ret
        refine ⟨_, [], rfl, ?_, ownI_nil _ _ _ _ _, fun hh => ?_, HK6⟩
        · rw [HRE.out.1, HRR.out]; exact HR6
        · rw [HRE.out.1, HRR.out] at hh; exact absurd hh HEE.out
    · have HDN : Hid (R = Sk ∧ (R.2 = 0 → acc = L)) := loop_done HRk.out.nrm HIk.out (by omega)
      go_wp2_with fail
      go_ret
      refine ⟨_, acc, rfl, ?_, ?_, fun hh => ?_, HKk⟩
      · rw [HRE.out.1, HDN.out.1]; exact HRk
      · exact HO.out.sub (stays_col 20) (fun z _ hz => by have := HQE.out; omega)
      · rw [HRE.out.1] at hh; rw [HRE.out.2 hh]; exact HDN.out.2 hh

end Go.Proofs.YtnapeecmlkkolaaDoor
