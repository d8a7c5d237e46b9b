/-
  Rd14, Rd15, Rd16, Rd17, laid together.
-/
import Derived.Test.YtnapeecmlkkolaaDoorAe
import Derived.WalkMore
namespace Go.Proofs.YtnapeecmlkkolaaDoor
open Go.RowKit
set_option maxRecDepth 100000
set_option linter.unusedVariables false
set_option linter.unusedSimpArgs false

set_option maxHeartbeats 4000000 in
theorem rcolumns_false {w : World} {p : Nat} {S : BE} (h : Rd w p S) (hT : Tab w) (hp0 : 0 < p) {n : Nat} (hn : n ≤ 4096) :
    Calls Tryd.prog 45 #[.pointer (some ⟨p, 0, none⟩), .int .i64 n, .bool false] w fun e w' => ∃ v L, e = .returned v ∧ Hid (Rd w' p (stepR (colsR n false) S)) ∧ Hid (OwnI 64 8 (VCol 20) w' (fun k => w.heap.size ≤ k) v L) ∧ Hid ((stepR (colsR n false) S).2 = 0 → L = (colsR n false S.1).val) ∧ Hid (Kept (fun k => k = p) w w') := by
  obtain ⟨q, hq⟩ : ∃ q, q = w.heap.size := ⟨_, rfl⟩
  have HQE : Hid (w.heap.size = q) := hq.symm
  have hlt := h.lt
  obtain ⟨w0, hw0⟩ : ∃ w0, w0 = w.alloc (.cells #[.string ⟨#[]⟩, .string ⟨#[]⟩, .string ⟨#[]⟩, .int .u16 0, .string ⟨#[]⟩, .string ⟨#[]⟩, .slice none 0 0, .slice none 0 0] 64) := ⟨_, rfl⟩
  have HW0 : Hid (w.alloc (.cells #[.string ⟨#[]⟩, .string ⟨#[]⟩, .string ⟨#[]⟩, .int .u16 0, .string ⟨#[]⟩, .string ⟨#[]⟩, .slice none 0 0, .slice none 0 0] 64) = w0) := hw0.symm
  have hB0 : Below w.heap.size w w0 := by rw [hw0]; exact below_one _ _
  have HB0 : Hid (Below w.heap.size w w0) := hB0
  have HQ0 : Hid (w0.heap[q]? = some (.cells #[.string ⟨#[]⟩, .string ⟨#[]⟩, .string ⟨#[]⟩, .int .u16 0, .string ⟨#[]⟩, .string ⟨#[]⟩, .slice none 0 0, .slice none 0 0] 64 (0, 0))) := by rw [hw0, hq]; exact heap_alloc_new w _
  have HR0 : Hid (Rd w0 p S) := h.new hB0
  have HT0 : Hid (Tab w0) := hT.old hB0
  have HN : Hid (Nrm S) := h.nrm
  have hpq : p < q := by omega
  clear h hT hw0 hB0 hq
  go_enter Tryd.func45, Tryd.ntmps45
  go_upto_region 2 with fail
  rw [HW0.out]
  clear HW0
  (try rw [HQE.out])
  have hlq0 := block_lt HQ0.out
  obtain ⟨w1, hw1⟩ : ∃ w1, w1 = w0 := ⟨_, rfl⟩
  rw [← hw1] at HQ0 HR0 HT0 HB0 hlq0 ⊢
  have HQ1 : Hid _ := HQ0.out
  have HT1 : Hid _ := HT0.out
  have HK : Hid (Kept (fun k => k = p) w w1) := kept_of HB0.out
  obtain ⟨S1, hS1⟩ : ∃ S1, S1 = S := ⟨_, rfl⟩
  have HE1 : Hid (S1 = stepR (optR false (ByteArray.empty, ByteArray.empty) ownerR) S) := by rw [hS1]; exact (step_opt_no _ _ HN.out).symm
  have HR1 : Hid (Rd w1 p S1) := by rw [hS1]; exact HR0.out
  have HN1 : Hid (Nrm S1) := by rw [hS1]; exact HN.out
  have HV1 : Hid (S1.2 = 0 → (ByteArray.empty, ByteArray.empty) = ((optR false (ByteArray.empty, ByteArray.empty) ownerR) S.1).val) := fun _ => rfl
  clear hS1 hw1 HB0 HQ0 HR0 HT0 hlq0
  obtain ⟨R, hR⟩ : ∃ R, R = stepR (loopR (colR false (ByteArray.empty, ByteArray.empty)) n) S1 := ⟨_, rfl⟩
  obtain ⟨L, hL⟩ : ∃ L, L = (loopR (colR false (ByteArray.empty, ByteArray.empty)) n S1.1).val := ⟨_, rfl⟩
  have HRE : Hid (stepR (colsR n false) S = R ∧ (R.2 = 0 → (colsR n false S.1).val = L)) := by
    have e1 : stepR (colsR n false) S = stepR (loopR (colR false ((optR false (ByteArray.empty, ByteArray.empty) ownerR) S.1).val) n) S1 := by rw [colsR, step_bind, ← HE1.out]
    by_cases h1 : S1.2 = 0
    · have h2 := HV1.out h1
      rw [← h2] at e1
      refine ⟨by rw [e1, hR], fun hh => ?_⟩
      have h3 : (stepR (colsR n false) S).2 = 0 := by rw [e1, ← hR]; exact hh
      rw [colsR] at h3 ⊢
      rw [bind_val _ _ _ h3, ← HE1.out, ← h2, hL]
    · have e2 : stepR (colsR n false) S = S1 := by rw [e1, step_err _ h1 HN1.out]
      have e3 : R = S1 := by rw [hR, step_err _ h1 HN1.out]
      exact ⟨by rw [e2, e3], fun hh => absurd (by rw [← e3]; exact hh) h1⟩
  have HI0 : Hid (stepR (loopR (colR false (ByteArray.empty, ByteArray.empty)) (n - 0)) S1 = R ∧ (R.2 = 0 → [] ++ (loopR (colR false (ByteArray.empty, ByteArray.empty)) (n - 0) S1.1).val = L)) := ⟨hR.symm, fun _ => hL.symm⟩
  clear hR hL HE1 HV1
  go_wp2_with fail
  go_loopw [8, 13] (fun v i wr => ∃ (k : Nat) (Sk : BE) (acc : List Col) (s t nm : ByteArray) (X : Ty) (na : Option Addr) (nl nc : Nat) (ka : Option Addr) (kl kc : Nat), k ≤ n ∧ i = .int .i64 k ∧ Hid (Rd wr p Sk) ∧ Hid (Tab wr) ∧ Hid (wr.heap[q]? = some (.cells #[.string s, .string t, .string nm, .int .u16 X.id, .string X.space, .string X.name, .slice na nl nc, .slice ka kl kc] 64 (0, 0))) ∧
      Hid (OwnI 64 8 (VCol 20) wr (fun z => q < z) v acc) ∧ Hid (acc.length = k) ∧ Hid (stepR (loopR (colR false (ByteArray.empty, ByteArray.empty)) (n - k)) Sk = R ∧ (R.2 = 0 → acc ++ (loopR (colR false (ByteArray.empty, ByteArray.empty)) (n - k) Sk.1).val = L)) ∧ Hid (Kept (fun z => z = p) w wr) ∧ Hid (True)) (fun _ i _ => n - (intOf i).toNat)
  case atStart => exact ⟨0, S1, [], ⟨#[]⟩, ⟨#[]⟩, ⟨#[]⟩, tyNil, none, 0, 0, none, 0, 0, by omega, rfl, HR1, HT1, HQ1, ownI_nil _ _ _ _ _, rfl, HI0, HK, trivial⟩
  case round =>
    obtain ⟨k, Sk, acc, s, t, nm, X, na, nl, nc, ka, kl, kc, hk, rfl, HRk, HTk, HQk, HO, HLk, HIk, HKk, HST⟩ := hrel
    have hlqk := block_lt HQk.out
    by_cases hlt2 : k < n
    · go_wp2_with fail
      refine (rowner HRk.out hpq HQk.out).mono ?_
      rintro r w2 ⟨rfl, s, t, HQ2, HR2', HOW, HKw⟩
      have HR2 : Hid (Rd w2 p (stepR (optR (!false) (ByteArray.empty, ByteArray.empty) ownerR) Sk)) := HR2'.out
      have HT2 : Hid (Tab w2) := HTk.out.kept HKw.out (by omega)
      have HO2 : Hid (OwnI 64 8 (VCol 20) w2 (fun z => q < z) u8 acc) := HO.out.apart (stays_col 20) HKw.out (fun z _ hz e => by rcases e with e | e <;> omega)
      have HK2 : Hid (Kept (fun z => z = p) w w2) := HKk.out.trans HKw.out (fun i hi e => by rcases e with e | e; exact e; have := HQE.out; omega)
      have HOV : Hid ((stepR (optR (!false) (ByteArray.empty, ByteArray.empty) ownerR) Sk).2 = 0 → (s, t) = (optR (!false) (ByteArray.empty, ByteArray.empty) ownerR Sk.1).val ∧ (s.size ≤ maxLen ∧ t.size ≤ maxLen)) := fun hh => by
        have h1 := HOW.out hh
        refine ⟨h1, ?_⟩
        have hl := HRk.out.len
        have hl2 := step_len textR Sk
        have h2 := owner_val hh
        rw [← h1] at h2
        cases h2
        have a1 := text_size Sk.1
        have a2 := text_size (stepR textR Sk).1
        unfold maxLen
        omega
      have hlq2 := block_lt HQ2.out
      clear HR2' HOW HKw
      go_wp2_with fail
      refine (read_text HR2.out).mono ?_
      rintro r w3 ⟨nm2, rfl, HR3, HNM, HK3⟩
      have hq3 : w3.heap[q]? = some (.cells #[.string s, .string t, .string nm, .int .u16 X.id, .string X.space, .string X.name, .slice na nl nc, .slice ka kl kc] 64 (0, 0)) := (HK3.out.block q hlq2 (by omega)).trans HQ2.out
      have HQ3 : Hid _ := hq3
      obtain ⟨⟨k0, k1, k2, k3, k4, k5, k6, k7⟩, f0, f1, f2, f3, f4, f5, f6, f7⟩ := blk8 hq3
      have hlq3 := block_lt hq3
      clear hq3
      go_wp2_with fail
      have hq4 : (w3.setCell ⟨q, 2, none⟩ (.string nm2)).heap[q]? = some (.cells #[.string s, .string t, .string nm2, .int .u16 X.id, .string X.space, .string X.name, .slice na nl nc, .slice ka kl kc] 64 (0, 0)) := blk_set HQ3.out 2 (.string nm2)
      have hK34 : Kept (fun z => z = p ∨ z = q) w2 (w3.setCell ⟨q, 2, none⟩ (.string nm2)) := (HK3.out.wider (fun k e => .inl e)).setCell (p := ⟨q, 2, none⟩) (fun _ => .inr rfl) _
      have HR4 : Hid (Rd (w3.setCell ⟨q, 2, none⟩ (.string nm2)) p (stepR textR (stepR (optR (!false) (ByteArray.empty, ByteArray.empty) ownerR) Sk))) := HR3.out.kept (one_kept w3 q 2 (.string nm2)) (fun k hk e => by omega)
      generalize w3.setCell ⟨q, 2, none⟩ (.string nm2) = w4 at hq4 hK34 HR4 ⊢
      have HQ4 : Hid _ := hq4
      have HT4 : Hid (Tab w4) := HT2.out.kept hK34 (by omega)
      have HO4 : Hid (OwnI 64 8 (VCol 20) w4 (fun z => q < z) u8 acc) := HO2.out.apart (stays_col 20) hK34 (fun z _ hz e => by rcases e with e | e <;> omega)
      have HK4 : Hid (Kept (fun z => z = p) w w4) := HK2.out.trans hK34 (fun i hi e => by rcases e with e | e; exact e; have := HQE.out; omega)
      have hlq4 := block_lt hq4
      clear hq4 hK34 k0 k1 k2 k3 k4 k5 k6 k7 f0 f1 f2 f3 f4 f5 f6 f7 HQ3 HR3
      refine (read_opt HR4.out HT4.out).mono ?_
      rintro r w5 ⟨Y, ya, yl, yc, za, zl, zc, rfl, HR5, HTY, HYV, HK5⟩
      have hq5 : w5.heap[q]? = some (.cells #[.string s, .string t, .string nm2, .int .u16 X.id, .string X.space, .string X.name, .slice na nl nc, .slice ka kl kc] 64 (0, 0)) := (HK5.out.block q hlq4 (by omega)).trans HQ4.out
      have HQ5 : Hid _ := hq5
      obtain ⟨⟨k0, k1, k2, k3, k4, k5, k6, k7⟩, f0, f1, f2, f3, f4, f5, f6, f7⟩ := blk8 hq5
      have hlq5 := block_lt hq5
      clear hq5
      go_upto_region 11 with fail
      have hq6 : (((((w5.setCell ⟨q, 3, none⟩ (.int .u16 Y.id)).setCell ⟨q, 4, none⟩ (.string Y.space)).setCell ⟨q, 5, none⟩ (.string Y.name)).setCell ⟨q, 6, none⟩ (.slice ya yl yc)).setCell ⟨q, 7, none⟩ (.slice za zl zc)).heap[q]? = some (.cells #[.string s, .string t, .string nm2, .int .u16 Y.id, .string Y.space, .string Y.name, .slice ya yl yc, .slice za zl zc] 64 (0, 0)) := blk_set ((blk_set ((blk_set ((blk_set ((blk_set (HQ5.out) 3 (.int .u16 Y.id))) 4 (.string Y.space))) 5 (.string Y.name))) 6 (.slice ya yl yc))) 7 (.slice za zl zc)
      have hK56 : Kept (fun z => z = q) w5 (((((w5.setCell ⟨q, 3, none⟩ (.int .u16 Y.id)).setCell ⟨q, 4, none⟩ (.string Y.space)).setCell ⟨q, 5, none⟩ (.string Y.name)).setCell ⟨q, 6, none⟩ (.slice ya yl yc)).setCell ⟨q, 7, none⟩ (.slice za zl zc)) := (((((Kept.refl (fun z => z = q) w5).setCell (p := ⟨q, 3, none⟩) (fun _ => rfl) _).setCell (p := ⟨q, 4, none⟩) (fun _ => rfl) _).setCell (p := ⟨q, 5, none⟩) (fun _ => rfl) _).setCell (p := ⟨q, 6, none⟩) (fun _ => rfl) _).setCell (p := ⟨q, 7, none⟩) (fun _ => rfl) _
      generalize ((((w5.setCell ⟨q, 3, none⟩ (.int .u16 Y.id)).setCell ⟨q, 4, none⟩ (.string Y.space)).setCell ⟨q, 5, none⟩ (.string Y.name)).setCell ⟨q, 6, none⟩ (.slice ya yl yc)).setCell ⟨q, 7, none⟩ (.slice za zl zc) = w6 at hq6 hK56 ⊢
      have HR6 : Hid (Rd w6 p (stepR (tyR 20) (stepR textR (stepR (optR (!false) (ByteArray.empty, ByteArray.empty) ownerR) Sk)))) := HR5.out.kept hK56 (fun k hk e => by omega)
      rw [← col_step] at HR6
      have HTY6 : Hid (TyAt 19 (New w4.heap.size w5) w6 Y ya yl yc za zl zc) := HTY.out.apart hK56 (fun z _ hz e => by have := hz.1; omega)
      have hK46 : Kept (fun z => z = p ∨ z = q) w4 w6 := (HK5.out.wider (fun k e => .inl e)).trans hK56 (fun i hi e => .inr e)
      have HT6 : Hid (Tab w6) := HT4.out.kept hK46 (by omega)
      have HO6 : Hid (OwnI 64 8 (VCol 20) w6 (fun z => q < z) u8 acc) := HO4.out.apart (stays_col 20) hK46 (fun z _ hz e => by rcases e with e | e <;> omega)
      have HK6 : Hid (Kept (fun z => z = p) w w6) := HK4.out.trans hK46 (fun i hi e => by rcases e with e | e; exact e; have := HQE.out; omega)
      have HQ6 : Hid _ := hq6
      have hsz56 : w5.heap.size ≤ w6.heap.size := hK56.size
      obtain ⟨⟨k0, k1, k2, k3, k4, k5, k6, k7⟩, f0, f1, f2, f3, f4, f5, f6, f7⟩ := blk8 hq6
      have hlq6 := block_lt hq6
      obtain ⟨r6, lr6, cr6, hb6, _⟩ := HR6.out.blk
      obtain ⟨d0, d1, g0, g1⟩ := two_cells hb6
      have hlp6 := block_lt hb6
      clear hq6 hK56 hK46 hb6 HR5 HTY HK5
      by_cases hE : (stepR (colR false (ByteArray.empty, ByteArray.empty)) Sk).2 = 0
      · rw [hE] at d1
        have HNX : Hid _ := loop_next HIk.out hlt2 hE
        have HEE : Hid ((stepR (colR false (ByteArray.empty, ByteArray.empty)) Sk).2 = 0) := hE
        clear hE
        obtain ⟨sS, sT⟩ : s.size ≤ maxLen ∧ t.size ≤ maxLen := (HOV.out (step_fine (step_fine (by rw [← col_step]; exact HEE.out)))).2
        have hS3 : (stepR textR (stepR (optR (!false) (ByteArray.empty, ByteArray.empty) ownerR) Sk)).2 = 0 := step_fine (by rw [← col_step]; exact HEE.out)
        have sM : nm2.size ≤ maxLen := by
          rw [HNM.out hS3]
          have a1 := text_size (stepR (optR (!false) (ByteArray.empty, ByteArray.empty) ownerR) Sk).1
          have a2 := HR2.out.len
          unfold maxLen
          omega
        have HVAL : Hid ((colR false (ByteArray.empty, ByteArray.empty) Sk.1).val = (s, t, nm2, Y)) := by
          show _ = _
          rw [col_val HEE.out, ← (HOV.out (step_fine hS3)).1, ← HNM.out hS3, ← HYV.out (by rw [← col_step]; exact HEE.out)]
        have HBN : Hid ((w6.alloc (.cells #[.string s, .string t, .string nm2, .int .u16 Y.id, .string Y.space, .string Y.name, .slice ya yl yc, .slice za zl zc] 64)).heap[w6.heap.size]? = some (.cells [.string s, .string t, .string nm2, .int .u16 Y.id, .string Y.space, .string Y.name, .slice ya yl yc, .slice za zl zc].toArray 64 (0, 0))) := heap_alloc_new w6 _
        have HON : Hid (OwnI 64 8 (VCol 20) (w6.alloc (.cells #[.string s, .string t, .string nm2, .int .u16 Y.id, .string Y.space, .string Y.name, .slice ya yl yc, .slice za zl zc] 64)) (fun z => q < z) u8 acc) := HO6.out.old (stays_col 20) (below_one _ _)
        have hlt4 : ∀ z, u8.ownBlock = some z → q < z ∧ z < w4.heap.size := fun z hz => HO4.out.lt z hz
        have HXN : Hid (VCol 20 (fun z => z < (w6.alloc (.cells #[.string s, .string t, .string nm2, .int .u16 Y.id, .string Y.space, .string Y.name, .slice ya yl yc, .slice za zl zc] 64)).heap.size ∧ u8.ownBlock ≠ some z ∧ q < z) (w6.alloc (.cells #[.string s, .string t, .string nm2, .int .u16 Y.id, .string Y.space, .string Y.name, .slice ya yl yc, .slice za zl zc] 64)) (s, t, nm2, Y) (fun j => ([.string s, .string t, .string nm2, .int .u16 Y.id, .string Y.space, .string Y.name, .slice ya yl yc, .slice za zl zc] : List Value).getD j default)) := by
          refine ⟨⟨rfl, sS⟩, ⟨rfl, sT⟩, ⟨rfl, sM⟩, ?_⟩
          have hvt := (HTY6.out.mono (G := fun z => z < (w6.alloc (.cells #[.string s, .string t, .string nm2, .int .u16 Y.id, .string Y.space, .string Y.name, .slice ya yl yc, .slice za zl zc] 64)).heap.size ∧ u8.ownBlock ≠ some z ∧ q < z) (W := w6.alloc (.cells #[.string s, .string t, .string nm2, .int .u16 Y.id, .string Y.space, .string Y.name, .slice ya yl yc, .slice za zl zc] 64)) (fun z hz hF => ⟨⟨by simp; omega, fun e => by have := (hlt4 z e).2; have := hF.1; omega, by have := hF.1; omega⟩, (below_one w6 _).block z hz⟩) (by simp)).vt
          exact hvt.cells (fun j hj => by rcases (show j = 0 ∨ j = 1 ∨ j = 2 ∨ j = 3 ∨ j = 4 by omega) with rfl | rfl | rfl | rfl | rfl <;> rfl)
        have HFN : Hid ((fun z => q < z) (w6.alloc (.cells #[.string s, .string t, .string nm2, .int .u16 Y.id, .string Y.space, .string Y.name, .slice ya yl yc, .slice za zl zc] 64)).heap.size) := by show q < _; simp; omega
        clear sS sT sM hS3 hlt4
        go_wp2_with (at_builtin; refine wpList_appendI rfl (.tmp 30) (.tmp 32) 24 rfl (stays_col 20) elem_col rfl HON.out rfl HBN.out rfl ?c1 (s, t, nm2, Y) HXN.out HFN.out ?c2 ?c3 ?_)
        case c1 => exact ⟨rfl, rfl, rfl, rfl, rfl, rfl, rfl, rfl⟩
        case c2 => rw [HLk.out]; unfold maxLen; omega
        case c3 => rw [HLk.out]; omega
        intro v4 w7 ho7 hK7 hv7
        have hK67 : Kept (fun z => u8.ownBlock = some z) w6 w7 := (kept_of (below_one w6 _)).trans hK7 (fun i hi e => e)
        have hq7 : w7.heap[q]? = some (.cells #[.string s, .string t, .string nm2, .int .u16 Y.id, .string Y.space, .string Y.name, .slice ya yl yc, .slice za zl zc] 64 (0, 0)) := (hK67.block q hlq6 (fun e => by have := (HO6.out.lt q e).1; omega)).trans HQ6.out
        have HQ7 : Hid _ := hq7
        have HR7 : Hid (Rd w7 p (stepR (colR false (ByteArray.empty, ByteArray.empty)) Sk)) := HR6.out.kept hK67 (fun z hz e => by have := (HO6.out.lt z e).1; omega)
        have HT7 : Hid (Tab w7) := HT6.out.kept hK67 (fun e => by have := (HO6.out.lt 0 e).1; omega)
        have HO7 : Hid (OwnI 64 8 (VCol 20) w7 (fun z => q < z) v4 (acc ++ [(colR false (ByteArray.empty, ByteArray.empty) Sk.1).val])) := by rw [HVAL.out]; exact ho7
        have HK7 : Hid (Kept (fun z => z = p) w w7) := HK6.out.trans hK67 (fun i hi e => by have := (HO6.out.lt i e).1; have := HQE.out; omega)
        have HL7 : Hid ((acc ++ [(colR false (ByteArray.empty, ByteArray.empty) Sk.1).val]).length = k + 1) := by show _ = _; rw [List.length_append, HLk.out]; rfl
        clear hK67 hq7 ho7 hK7 hv7
        go_wp2_with fail
        go_roundw
        case rel => exact ⟨k + 1, stepR (colR false (ByteArray.empty, ByteArray.empty)) Sk, _, s, t, nm2, Y, ya, yl, yc, za, zl, zc, by omega, by go_num, HR7, HT7, HQ7, HO7, HL7, HNX, HK7, trivial⟩
        case measure => simp [intOf]; omega
      · have t1 : ((stepR (colR false (ByteArray.empty, ByteArray.empty)) Sk).2 != 0) = true := by simpa using hE
        have HRR : Hid (R = stepR (colR false (ByteArray.empty, ByteArray.empty)) Sk) := loop_halt HIk.out hlt2 hE
        have HEE : Hid ((stepR (colR false (ByteArray.empty, ByteArray.empty)) Sk).2 ≠ 0) := hE
        clear hE
        go_wp2_with fail
        go_ret
        refine ⟨_, [], rfl, ?_, ownI_nil _ _ _ _ _, fun hh => ?_, HK6⟩
        · rw [HRE.out.1, HRR.out]; exact HR6
        · rw [HRE.out.1, HRR.out] at hh; exact absurd hh HEE.out
    · have HDN : Hid (R = Sk ∧ (R.2 = 0 → acc = L)) := loop_done HRk.out.nrm HIk.out (by omega)
      go_wp2_with fail
      go_ret
      refine ⟨_, acc, rfl, ?_, ?_, fun hh => ?_, HKk⟩
      · rw [HRE.out.1, HDN.out.1]; exact HRk
      · exact HO.out.sub (stays_col 20) (fun z _ hz => by have := HQE.out; omega)
      · rw [HRE.out.1] at hh; rw [HRE.out.2 hh]; exact HDN.out.2 hh

set_option maxHeartbeats 4000000 in
theorem rcolumns_true {w : World} {p : Nat} {S : BE} (h : Rd w p S) (hT : Tab w) (hp0 : 0 < p) {n : Nat} (hn : n ≤ 4096) :
    Calls Tryd.prog 45 #[.pointer (some ⟨p, 0, none⟩), .int .i64 n, .bool true] w fun e w' => ∃ v L, e = .returned v ∧ Hid (Rd w' p (stepR (colsR n true) S)) ∧ Hid (OwnI 64 8 (VCol 20) w' (fun k => w.heap.size ≤ k) v L) ∧ Hid ((stepR (colsR n true) S).2 = 0 → L = (colsR n true S.1).val) ∧ Hid (Kept (fun k => k = p) w w') := by
  obtain ⟨q, hq⟩ : ∃ q, q = w.heap.size := ⟨_, rfl⟩
  have HQE : Hid (w.heap.size = q) := hq.symm
  have hlt := h.lt
  obtain ⟨w0, hw0⟩ : ∃ w0, w0 = w.alloc (.cells #[.string ⟨#[]⟩, .string ⟨#[]⟩, .string ⟨#[]⟩, .int .u16 0, .string ⟨#[]⟩, .string ⟨#[]⟩, .slice none 0 0, .slice none 0 0] 64) := ⟨_, rfl⟩
  have HW0 : Hid (w.alloc (.cells #[.string ⟨#[]⟩, .string ⟨#[]⟩, .string ⟨#[]⟩, .int .u16 0, .string ⟨#[]⟩, .string ⟨#[]⟩, .slice none 0 0, .slice none 0 0] 64) = w0) := hw0.symm
  have hB0 : Below w.heap.size w w0 := by rw [hw0]; exact below_one _ _
  have HB0 : Hid (Below w.heap.size w w0) := hB0
  have HQ0 : Hid (w0.heap[q]? = some (.cells #[.string ⟨#[]⟩, .string ⟨#[]⟩, .string ⟨#[]⟩, .int .u16 0, .string ⟨#[]⟩, .string ⟨#[]⟩, .slice none 0 0, .slice none 0 0] 64 (0, 0))) := by rw [hw0, hq]; exact heap_alloc_new w _
  have HR0 : Hid (Rd w0 p S) := h.new hB0
  have HT0 : Hid (Tab w0) := hT.old hB0
  have HN : Hid (Nrm S) := h.nrm
  have hpq : p < q := by omega
  clear h hT hw0 hB0 hq
  go_enter Tryd.func45, Tryd.ntmps45
  go_upto_region 2 with fail
  rw [HW0.out]
  clear HW0
  (try rw [HQE.out])
  have hlq0 := block_lt HQ0.out
  go_wp2_with fail
  refine (rowner HR0.out hpq HQ0.out).mono ?_
  rintro r w1 ⟨rfl, s0, t0, HQ1, HR1, HS1, HK1⟩
  have HK : Hid (Kept (fun k => k = p) w w1) := (kept_of HB0.out).trans HK1.out (fun i hi e => by rcases e with e | e; exact e; have := HQE.out; omega)
  have HT1 : Hid (Tab w1) := HT0.out.kept HK1.out (by omega)
  have HZ : Hid ((stepR ownerR S).2 = 0 → (s0, t0) = (ownerR S.1).val) := HS1
  obtain ⟨S1, hS1⟩ : ∃ S1, S1 = stepR ownerR S := ⟨_, rfl⟩
  have HE1 : Hid (S1 = stepR (optR true (ByteArray.empty, ByteArray.empty) ownerR) S) := hS1
  rw [← hS1] at HR1
  have HN1 : Hid (Nrm S1) := by rw [hS1]; exact step_nrm _ _
  have HV1 : Hid (S1.2 = 0 → (s0, t0) = ((optR true (ByteArray.empty, ByteArray.empty) ownerR) S.1).val) := by rw [hS1]; exact HZ.out
  have HSZ : Hid (S1.2 = 0 → s0.size ≤ maxLen ∧ t0.size ≤ maxLen) := by
    intro hh
    rw [hS1] at hh
    have h1 := HZ.out hh
    have hl := HR0.out.len
    have hl2 := step_len textR S
    rw [owner_val hh] at h1
    cases h1
    have a1 := text_size S.1
    have a2 := text_size (stepR textR S).1
    unfold maxLen
    omega
  clear HS1 HK1 HZ hS1 HB0 HQ0 HR0 HT0
  obtain ⟨R, hR⟩ : ∃ R, R = stepR (loopR (colR true (s0, t0)) n) S1 := ⟨_, rfl⟩
  obtain ⟨L, hL⟩ : ∃ L, L = (loopR (colR true (s0, t0)) n S1.1).val := ⟨_, rfl⟩
  have HRE : Hid (stepR (colsR n true) S = R ∧ (R.2 = 0 → (colsR n true S.1).val = L)) := by
    have e1 : stepR (colsR n true) S = stepR (loopR (colR true ((optR true (ByteArray.empty, ByteArray.empty) ownerR) S.1).val) n) S1 := by rw [colsR, step_bind, ← HE1.out]
    by_cases h1 : S1.2 = 0
    · have h2 := HV1.out h1
      rw [← h2] at e1
      refine ⟨by rw [e1, hR], fun hh => ?_⟩
      have h3 : (stepR (colsR n true) S).2 = 0 := by rw [e1, ← hR]; exact hh
      rw [colsR] at h3 ⊢
      rw [bind_val _ _ _ h3, ← HE1.out, ← h2, hL]
    · have e2 : stepR (colsR n true) S = S1 := by rw [e1, step_err _ h1 HN1.out]
      have e3 : R = S1 := by rw [hR, step_err _ h1 HN1.out]
      exact ⟨by rw [e2, e3], fun hh => absurd (by rw [← e3]; exact hh) h1⟩
  have HI0 : Hid (stepR (loopR (colR true (s0, t0)) (n - 0)) S1 = R ∧ (R.2 = 0 → [] ++ (loopR (colR true (s0, t0)) (n - 0) S1.1).val = L)) := ⟨hR.symm, fun _ => hL.symm⟩
  clear hR hL HE1 HV1
  go_wp2_with fail
  go_loopw [8, 13] (fun v i wr => ∃ (k : Nat) (Sk : BE) (acc : List Col) (s t nm : ByteArray) (X : Ty) (na : Option Addr) (nl nc : Nat) (ka : Option Addr) (kl kc : Nat), k ≤ n ∧ i = .int .i64 k ∧ Hid (Rd wr p Sk) ∧ Hid (Tab wr) ∧ Hid (wr.heap[q]? = some (.cells #[.string s, .string t, .string nm, .int .u16 X.id, .string X.space, .string X.name, .slice na nl nc, .slice ka kl kc] 64 (0, 0))) ∧
      Hid (OwnI 64 8 (VCol 20) wr (fun z => q < z) v acc) ∧ Hid (acc.length = k) ∧ Hid (stepR (loopR (colR true (s0, t0)) (n - k)) Sk = R ∧ (R.2 = 0 → acc ++ (loopR (colR true (s0, t0)) (n - k) Sk.1).val = L)) ∧ Hid (Kept (fun z => z = p) w wr) ∧ Hid (s = s0 ∧ t = t0 ∧ (Sk.2 = 0 → s0.size ≤ maxLen ∧ t0.size ≤ maxLen))) (fun _ i _ => n - (intOf i).toNat)
  case atStart => exact ⟨0, S1, [], s0, t0, ⟨#[]⟩, tyNil, none, 0, 0, none, 0, 0, by omega, rfl, HR1, HT1, HQ1, ownI_nil _ _ _ _ _, rfl, HI0, HK, ⟨rfl, rfl, HSZ.out⟩⟩
  case round =>
    obtain ⟨k, Sk, acc, s, t, nm, X, na, nl, nc, ka, kl, kc, hk, rfl, HRk, HTk, HQk, HO, HLk, HIk, HKk, HST⟩ := hrel
    have hlqk := block_lt HQk.out
    by_cases hlt2 : k < n
    · have HS2 : Hid (stepR (optR (!true) (s0, t0) ownerR) Sk = Sk) := step_opt_no _ _ HRk.out.nrm
      obtain ⟨w2, hw2⟩ : ∃ w2, w2 = wr := ⟨_, rfl⟩
      subst hw2
      have HR2 : Hid (Rd w2 p (stepR (optR (!true) (s0, t0) ownerR) Sk)) := by rw [HS2.out]; exact HRk.out
      have HQ2 := HQk
      have HT2 := HTk
      have HO2 := HO
      have HK2 : Hid (Kept (fun z => z = p) w w2) := HKk.out
      have HOV : Hid ((stepR (optR (!true) (s0, t0) ownerR) Sk).2 = 0 → (s, t) = (optR (!true) (s0, t0) ownerR Sk.1).val ∧ (s.size ≤ maxLen ∧ t.size ≤ maxLen)) := fun hh => ⟨by rw [HST.out.1, HST.out.2.1]; rfl, by rw [HST.out.1, HST.out.2.1]; exact HST.out.2.2 (by rw [HS2.out] at hh; exact hh)⟩
      have hlq2 := hlqk
      go_wp2_with fail
      refine (read_text HR2.out).mono ?_
      rintro r w3 ⟨nm2, rfl, HR3, HNM, HK3⟩
      have hq3 : w3.heap[q]? = some (.cells #[.string s, .string t, .string nm, .int .u16 X.id, .string X.space, .string X.name, .slice na nl nc, .slice ka kl kc] 64 (0, 0)) := (HK3.out.block q hlq2 (by omega)).trans HQ2.out
      have HQ3 : Hid _ := hq3
      obtain ⟨⟨k0, k1, k2, k3, k4, k5, k6, k7⟩, f0, f1, f2, f3, f4, f5, f6, f7⟩ := blk8 hq3
      have hlq3 := block_lt hq3
      clear hq3
      go_wp2_with fail
      have hq4 : (w3.setCell ⟨q, 2, none⟩ (.string nm2)).heap[q]? = some (.cells #[.string s, .string t, .string nm2, .int .u16 X.id, .string X.space, .string X.name, .slice na nl nc, .slice ka kl kc] 64 (0, 0)) := blk_set HQ3.out 2 (.string nm2)
      have hK34 : Kept (fun z => z = p ∨ z = q) w2 (w3.setCell ⟨q, 2, none⟩ (.string nm2)) := (HK3.out.wider (fun k e => .inl e)).setCell (p := ⟨q, 2, none⟩) (fun _ => .inr rfl) _
      have HR4 : Hid (Rd (w3.setCell ⟨q, 2, none⟩ (.string nm2)) p (stepR textR (stepR (optR (!true) (s0, t0) ownerR) Sk))) := HR3.out.kept (one_kept w3 q 2 (.string nm2)) (fun k hk e => by omega)
      generalize w3.setCell ⟨q, 2, none⟩ (.string nm2) = w4 at hq4 hK34 HR4 ⊢
      have HQ4 : Hid _ := hq4
      have HT4 : Hid (Tab w4) := HT2.out.kept hK34 (by omega)
      have HO4 : Hid (OwnI 64 8 (VCol 20) w4 (fun z => q < z) u8 acc) := HO2.out.apart (stays_col 20) hK34 (fun z _ hz e => by rcases e with e | e <;> omega)
      have HK4 : Hid (Kept (fun z => z = p) w w4) := HK2.out.trans hK34 (fun i hi e => by rcases e with e | e; exact e; have := HQE.out; omega)
      have hlq4 := block_lt hq4
      clear hq4 hK34 k0 k1 k2 k3 k4 k5 k6 k7 f0 f1 f2 f3 f4 f5 f6 f7 HQ3 HR3
      refine (read_opt HR4.out HT4.out).mono ?_
      rintro r w5 ⟨Y, ya, yl, yc, za, zl, zc, rfl, HR5, HTY, HYV, HK5⟩
      have hq5 : w5.heap[q]? = some (.cells #[.string s, .string t, .string nm2, .int .u16 X.id, .string X.space, .string X.name, .slice na nl nc, .slice ka kl kc] 64 (0, 0)) := (HK5.out.block q hlq4 (by omega)).trans HQ4.out
      have HQ5 : Hid _ := hq5
      obtain ⟨⟨k0, k1, k2, k3, k4, k5, k6, k7⟩, f0, f1, f2, f3, f4, f5, f6, f7⟩ := blk8 hq5
      have hlq5 := block_lt hq5
      clear hq5
      go_upto_region 11 with fail
      have hq6 : (((((w5.setCell ⟨q, 3, none⟩ (.int .u16 Y.id)).setCell ⟨q, 4, none⟩ (.string Y.space)).setCell ⟨q, 5, none⟩ (.string Y.name)).setCell ⟨q, 6, none⟩ (.slice ya yl yc)).setCell ⟨q, 7, none⟩ (.slice za zl zc)).heap[q]? = some (.cells #[.string s, .string t, .string nm2, .int .u16 Y.id, .string Y.space, .string Y.name, .slice ya yl yc, .slice za zl zc] 64 (0, 0)) := blk_set ((blk_set ((blk_set ((blk_set ((blk_set (HQ5.out) 3 (.int .u16 Y.id))) 4 (.string Y.space))) 5 (.string Y.name))) 6 (.slice ya yl yc))) 7 (.slice za zl zc)
      have hK56 : Kept (fun z => z = q) w5 (((((w5.setCell ⟨q, 3, none⟩ (.int .u16 Y.id)).setCell ⟨q, 4, none⟩ (.string Y.space)).setCell ⟨q, 5, none⟩ (.string Y.name)).setCell ⟨q, 6, none⟩ (.slice ya yl yc)).setCell ⟨q, 7, none⟩ (.slice za zl zc)) := (((((Kept.refl (fun z => z = q) w5).setCell (p := ⟨q, 3, none⟩) (fun _ => rfl) _).setCell (p := ⟨q, 4, none⟩) (fun _ => rfl) _).setCell (p := ⟨q, 5, none⟩) (fun _ => rfl) _).setCell (p := ⟨q, 6, none⟩) (fun _ => rfl) _).setCell (p := ⟨q, 7, none⟩) (fun _ => rfl) _
      generalize ((((w5.setCell ⟨q, 3, none⟩ (.int .u16 Y.id)).setCell ⟨q, 4, none⟩ (.string Y.space)).setCell ⟨q, 5, none⟩ (.string Y.name)).setCell ⟨q, 6, none⟩ (.slice ya yl yc)).setCell ⟨q, 7, none⟩ (.slice za zl zc) = w6 at hq6 hK56 ⊢
      have HR6 : Hid (Rd w6 p (stepR (tyR 20) (stepR textR (stepR (optR (!true) (s0, t0) ownerR) Sk)))) := HR5.out.kept hK56 (fun k hk e => by omega)
      rw [← col_step] at HR6
      have HTY6 : Hid (TyAt 19 (New w4.heap.size w5) w6 Y ya yl yc za zl zc) := HTY.out.apart hK56 (fun z _ hz e => by have := hz.1; omega)
      have hK46 : Kept (fun z => z = p ∨ z = q) w4 w6 := (HK5.out.wider (fun k e => .inl e)).trans hK56 (fun i hi e => .inr e)
      have HT6 : Hid (Tab w6) := HT4.out.kept hK46 (by omega)
      have HO6 : Hid (OwnI 64 8 (VCol 20) w6 (fun z => q < z) u8 acc) := HO4.out.apart (stays_col 20) hK46 (fun z _ hz e => by rcases e with e | e <;> omega)
      have HK6 : Hid (Kept (fun z => z = p) w w6) := HK4.out.trans hK46 (fun i hi e => by rcases e with e | e; exact e; have := HQE.out; omega)
      have HQ6 : Hid _ := hq6
      have hsz56 : w5.heap.size ≤ w6.heap.size := hK56.size
      obtain ⟨⟨k0, k1, k2, k3, k4, k5, k6, k7⟩, f0, f1, f2, f3, f4, f5, f6, f7⟩ := blk8 hq6
      have hlq6 := block_lt hq6
      obtain ⟨r6, lr6, cr6, hb6, _⟩ := HR6.out.blk
      obtain ⟨d0, d1, g0, g1⟩ := two_cells hb6
      have hlp6 := block_lt hb6
      clear hq6 hK56 hK46 hb6 HR5 HTY HK5
      by_cases hE : (stepR (colR true (s0, t0)) Sk).2 = 0
      · rw [hE] at d1
        have HNX : Hid _ := loop_next HIk.out hlt2 hE
        have HEE : Hid ((stepR (colR true (s0, t0)) Sk).2 = 0) := hE
        clear hE
        obtain ⟨sS, sT⟩ : s.size ≤ maxLen ∧ t.size ≤ maxLen := (HOV.out (step_fine (step_fine (by rw [← col_step]; exact HEE.out)))).2
        have hS3 : (stepR textR (stepR (optR (!true) (s0, t0) ownerR) Sk)).2 = 0 := step_fine (by rw [← col_step]; exact HEE.out)
        have sM : nm2.size ≤ maxLen := by
          rw [HNM.out hS3]
          have a1 := text_size (stepR (optR (!true) (s0, t0) ownerR) Sk).1
          have a2 := HR2.out.len
          unfold maxLen
          omega
        have HVAL : Hid ((colR true (s0, t0) Sk.1).val = (s, t, nm2, Y)) := by
          show _ = _
          rw [col_val HEE.out, ← (HOV.out (step_fine hS3)).1, ← HNM.out hS3, ← HYV.out (by rw [← col_step]; exact HEE.out)]
        have HBN : Hid ((w6.alloc (.cells #[.string s, .string t, .string nm2, .int .u16 Y.id, .string Y.space, .string Y.name, .slice ya yl yc, .slice za zl zc] 64)).heap[w6.heap.size]? = some (.cells [.string s, .string t, .string nm2, .int .u16 Y.id, .string Y.space, .string Y.name, .slice ya yl yc, .slice za zl zc].toArray 64 (0, 0))) := heap_alloc_new w6 _
        have HON : Hid (OwnI 64 8 (VCol 20) (w6.alloc (.cells #[.string s, .string t, .string nm2, .int .u16 Y.id, .string Y.space, .string Y.name, .slice ya yl yc, .slice za zl zc] 64)) (fun z => q < z) u8 acc) := HO6.out.old (stays_col 20) (below_one _ _)
        have hlt4 : ∀ z, u8.ownBlock = some z → q < z ∧ z < w4.heap.size := fun z hz => HO4.out.lt z hz
        have HXN : Hid (VCol 20 (fun z => z < (w6.alloc (.cells #[.string s, .string t, .string nm2, .int .u16 Y.id, .string Y.space, .string Y.name, .slice ya yl yc, .slice za zl zc] 64)).heap.size ∧ u8.ownBlock ≠ some z ∧ q < z) (w6.alloc (.cells #[.string s, .string t, .string nm2, .int .u16 Y.id, .string Y.space, .string Y.name, .slice ya yl yc, .slice za zl zc] 64)) (s, t, nm2, Y) (fun j => ([.string s, .string t, .string nm2, .int .u16 Y.id, .string Y.space, .string Y.name, .slice ya yl yc, .slice za zl zc] : List Value).getD j default)) := by
          refine ⟨⟨rfl, sS⟩, ⟨rfl, sT⟩, ⟨rfl, sM⟩, ?_⟩
          have hvt := (HTY6.out.mono (G := fun z => z < (w6.alloc (.cells #[.string s, .string t, .string nm2, .int .u16 Y.id, .string Y.space, .string Y.name, .slice ya yl yc, .slice za zl zc] 64)).heap.size ∧ u8.ownBlock ≠ some z ∧ q < z) (W := w6.alloc (.cells #[.string s, .string t, .string nm2, .int .u16 Y.id, .string Y.space, .string Y.name, .slice ya yl yc, .slice za zl zc] 64)) (fun z hz hF => ⟨⟨by simp; omega, fun e => by have := (hlt4 z e).2; have := hF.1; omega, by have := hF.1; omega⟩, (below_one w6 _).block z hz⟩) (by simp)).vt
          exact hvt.cells (fun j hj => by rcases (show j = 0 ∨ j = 1 ∨ j = 2 ∨ j = 3 ∨ j = 4 by omega) with rfl | rfl | rfl | rfl | rfl <;> rfl)
        have HFN : Hid ((fun z => q < z) (w6.alloc (.cells #[.string s, .string t, .string nm2, .int .u16 Y.id, .string Y.space, .string Y.name, .slice ya yl yc, .slice za zl zc] 64)).heap.size) := by show q < _; simp; omega
        clear sS sT sM hS3 hlt4
        go_wp2_with (at_builtin; refine wpList_appendI rfl (.tmp 30) (.tmp 32) 24 rfl (stays_col 20) elem_col rfl HON.out rfl HBN.out rfl ?c1 (s, t, nm2, Y) HXN.out HFN.out ?c2 ?c3 ?_)
        case c1 => exact ⟨rfl, rfl, rfl, rfl, rfl, rfl, rfl, rfl⟩
        case c2 => rw [HLk.out]; unfold maxLen; omega
        case c3 => rw [HLk.out]; omega
        intro v4 w7 ho7 hK7 hv7
        have hK67 : Kept (fun z => u8.ownBlock = some z) w6 w7 := (kept_of (below_one w6 _)).trans hK7 (fun i hi e => e)
        have hq7 : w7.heap[q]? = some (.cells #[.string s, .string t, .string nm2, .int .u16 Y.id, .string Y.space, .string Y.name, .slice ya yl yc, .slice za zl zc] 64 (0, 0)) := (hK67.block q hlq6 (fun e => by have := (HO6.out.lt q e).1; omega)).trans HQ6.out
        have HQ7 : Hid _ := hq7
        have HR7 : Hid (Rd w7 p (stepR (colR true (s0, t0)) Sk)) := HR6.out.kept hK67 (fun z hz e => by have := (HO6.out.lt z e).1; omega)
        have HT7 : Hid (Tab w7) := HT6.out.kept hK67 (fun e => by have := (HO6.out.lt 0 e).1; omega)
        have HO7 : Hid (OwnI 64 8 (VCol 20) w7 (fun z => q < z) v4 (acc ++ [(colR true (s0, t0) Sk.1).val])) := by rw [HVAL.out]; exact ho7
        have HK7 : Hid (Kept (fun z => z = p) w w7) := HK6.out.trans hK67 (fun i hi e => by have := (HO6.out.lt i e).1; have := HQE.out; omega)
        have HL7 : Hid ((acc ++ [(colR true (s0, t0) Sk.1).val]).length = k + 1) := by show _ = _; rw [List.length_append, HLk.out]; rfl
        clear hK67 hq7 ho7 hK7 hv7
        go_wp2_with fail
        go_roundw
        case rel => exact ⟨k + 1, stepR (colR true (s0, t0)) Sk, _, s, t, nm2, Y, ya, yl, yc, za, zl, zc, by omega, by go_num, HR7, HT7, HQ7, HO7, HL7, HNX, HK7, ⟨HST.out.1, HST.out.2.1, fun hh => HST.out.2.2 (step_fine hh)⟩⟩
        case measure => simp [intOf]; omega
      · have t1 : ((stepR (colR true (s0, t0)) Sk).2 != 0) = true := by simpa using hE
        have HRR : Hid (R = stepR (colR true (s0, t0)) Sk) := loop_halt HIk.out hlt2 hE
        have HEE : Hid ((stepR (colR true (s0, t0)) Sk).2 ≠ 0) := hE
        clear hE
        go_wp2_with fail
        go_ret
        refine ⟨_, [], rfl, ?_, ownI_nil _ _ _ _ _, fun hh => ?_, HK6⟩
        · rw [HRE.out.1, HRR.out]; exact HR6
        · rw [HRE.out.1, HRR.out] at hh; exact absurd hh HEE.out
    · have HDN : Hid (R = Sk ∧ (R.2 = 0 → acc = L)) := loop_done HRk.out.nrm HIk.out (by omega)
      go_wp2_with fail
      go_ret
      refine ⟨_, acc, rfl, ?_, ?_, fun hh => ?_, HKk⟩
      · rw [HRE.out.1, HDN.out.1]; exact HRk
      · exact HO.out.sub (stays_col 20) (fun z _ hz => by have := HQE.out; omega)
      · rw [HRE.out.1] at hh; rw [HRE.out.2 hh]; exact HDN.out.2 hh

end Go.Proofs.YtnapeecmlkkolaaDoor

namespace Go.Proofs.YtnapeecmlkkolaaDoor
open Go.RowKit
set_option maxRecDepth 100000
set_option linter.unusedVariables false
set_option linter.unusedSimpArgs false

theorem set_yes {S : BE} (h : (stepR valueR S).2 = 0) (hk : (valueR S.1).val.1 ≠ 1) : stepR setR S = stepR valueR S ∧ ((stepR setR S).2 = 0 → (setR S.1).val = (valueR S.1).val) := by
  have e : stepR setR S = stepR valueR S := by rw [setR, step_bind, if_neg hk, step_pure2]
  refine ⟨e, fun hh => ?_⟩
  rw [setR] at hh ⊢
  rw [bind_val _ _ _ hh, if_neg hk]
  rfl
theorem set_no {S : BE} (h : (stepR valueR S).2 = 0) (hk : (valueR S.1).val.1 = 1) : stepR setR S = stepR (failR (0 : Int) 11) (stepR valueR S) ∧ (stepR setR S).2 ≠ 0 := by
  have e : stepR setR S = stepR (failR (0 : Int) 11) (stepR valueR S) := by rw [setR, step_bind, if_pos hk]; rfl
  exact ⟨e, by rw [e, step_fail _ _ h (by decide)]; decide⟩
theorem set_err {S : BE} (h : (stepR valueR S).2 ≠ 0) : stepR setR S = stepR valueR S := by rw [setR, step_bind, step_err _ h (step_nrm _ _)]

theorem isUnset_any {w : World} {k : Int} {a : Option Addr} {l c : Nat} {d : Bool} (hd : d = (k == 1)) :
    Calls Tryd.prog 49 #[.agg #[.int .i64 k, .slice a l c]] w fun e w' => e = .returned (.bool d) ∧ Below w.heap.size w w' := by
  have HD : Hid _ := hd
  go_enter Tryd.func49, Tryd.ntmps49
  go_wp2_with fail
  go_ret
  exact ⟨by rw [HD.out]; rfl, below_one _ _⟩

set_option maxHeartbeats 4000000 in
theorem rrows {w : World} {p : Nat} {S : BE} (h : Rd w p S) (hT : Tab w) (hp0 : 0 < p) {n : Nat} (hn : n ≤ 4096) :
    Calls Tryd.prog 23 #[.pointer (some ⟨p, 0, none⟩), .int .i64 n] w fun e w' => ∃ v L, e = .returned v ∧ Hid (Rd w' p (stepR (rowsR n) S)) ∧ Hid (OwnI 65 1 VRow w' (fun k => w.heap.size ≤ k) v L) ∧ Hid ((stepR (rowsR n) S).2 = 0 → L = (rowsR n S.1).val) ∧ Hid (Kept (fun k => k = p) w w') := by
  obtain ⟨q, hq⟩ : ∃ q, q = w.heap.size := ⟨_, rfl⟩
  have HQE : Hid (q = w.heap.size) := hq
  have hlt := h.lt
  have hpq : p < q := by omega
  have HR0 : Hid (Rd w p S) := h
  obtain ⟨M, hM⟩ : ∃ M : Nat, M = (manyX S).toNat := ⟨_, rfl⟩
  have hmb := manyX_bounds S
  have HM : Hid (((M : Nat) : Int) = manyX S) := by show _ = _; omega
  have hM2 : M ≤ 4096 := by omega
  obtain ⟨S1, hS1⟩ : ∃ S1, S1 = stepR manyR S := ⟨_, rfl⟩
  obtain ⟨R, hR⟩ : ∃ R, R = stepR (loopR (loopR setR n) M) S1 := ⟨_, rfl⟩
  obtain ⟨L, hL⟩ : ∃ L, L = (loopR (loopR setR n) M S1.1).val := ⟨_, rfl⟩
  have HRE : Hid (stepR (rowsR n) S = R ∧ (R.2 = 0 → (rowsR n S.1).val = L)) := by
    have e1 : stepR (rowsR n) S = stepR (loopR (loopR setR n) ((manyR S.1).val.toNat)) S1 := by rw [rowsR, step_bind, ← hS1]
    by_cases h1 : S1.2 = 0
    · have h2 : (manyR S.1).val.toNat = M := by rw [hM, many_val (by rw [← hS1]; exact h1)]
      rw [h2] at e1
      refine ⟨by rw [e1, hR], fun hh => ?_⟩
      have h3 : (stepR (rowsR n) S).2 = 0 := by rw [e1, ← hR]; exact hh
      rw [rowsR] at h3 ⊢
      rw [bind_val _ _ _ h3, ← hS1, h2, hL]
    · have hn1 : Nrm S1 := by rw [hS1]; exact step_nrm _ _
      have e2 : stepR (rowsR n) S = S1 := by rw [e1, step_err _ h1 hn1]
      have e3 : R = S1 := by rw [hR, step_err _ h1 hn1]
      exact ⟨by rw [e2, e3], fun hh => absurd (by rw [← e3]; exact hh) h1⟩
  have HI0 : Hid (stepR (loopR (loopR setR n) (M - 0)) S1 = R ∧ (R.2 = 0 → [] ++ (loopR (loopR setR n) (M - 0) S1.1).val = L)) := ⟨hR.symm, fun _ => hL.symm⟩
  have HS1 : Hid (stepR manyR S = S1) := hS1.symm
  have HE0 : Hid (0 < M → S1.2 = 0) := by
    intro h1
    by_cases h2 : S1.2 = 0
    · exact h2
    · have : manyX S = 0 := by unfold manyX; rw [← hS1, if_neg h2]
      omega
  clear hR hL hS1 h hq hM hmb hT
  go_enter Tryd.func23, Tryd.ntmps23
  go_wp2
  go_step3
  go_wp2_with fail
  go_step3
  go_wp2_with fail
  refine (rmany HR0.out HM.out).mono ?_
  rintro r w1 ⟨rfl, HR1, HK1⟩
  rw [HS1.out] at HR1
  go_wp2_with fail
  go_loopw [5, 10] (fun all i wr => ∃ (k : Nat) (Sk : BE) (acc : List (List Vl)), k ≤ M ∧ i = .int .i64 k ∧ Hid (Rd wr p Sk) ∧ Hid (OwnI 65 1 VRow wr (fun z => q ≤ z) all acc) ∧ Hid (acc.length = k) ∧ Hid (stepR (loopR (loopR setR n) (M - k)) Sk = R ∧ (R.2 = 0 → acc ++ (loopR (loopR setR n) (M - k) Sk.1).val = L)) ∧ Hid (Kept (fun z => z = p) w wr) ∧ Hid (k < M → Sk.2 = 0)) (fun _ i _ => M - (intOf i).toNat)
  case atStart => exact ⟨0, S1, [], by omega, rfl, HR1, ownI_nil _ _ _ _ _, rfl, HI0, HK1, HE0.out⟩
  case round =>
    obtain ⟨k, Sk, acc, hk, rfl, HRk, HO, HLk, HIk, HKk, HEk⟩ := hrel
    by_cases hlt2 : k < M
    · obtain ⟨wo, hwo⟩ : ∃ wo, wo = wr := ⟨_, rfl⟩
      subst hwo
      obtain ⟨q2, hq2⟩ : ∃ q2, q2 = wo.heap.size := ⟨_, rfl⟩
      have HQ2 : Hid (q2 = wo.heap.size) := hq2
      have hlq2 : q ≤ q2 := by have := HKk.out.size; have := HQE.out; omega
      have HA : Hid (OwnI 65 1 VRow wo (fun z => q ≤ z ∧ z < q2) u5 acc) := HO.out.sub stays_row (fun z h1 h2 => ⟨h2, by omega⟩)
      obtain ⟨R2, hR2⟩ : ∃ R2, R2 = stepR (loopR setR n) Sk := ⟨_, rfl⟩
      obtain ⟨L2, hL2⟩ : ∃ L2, L2 = (loopR setR n Sk.1).val := ⟨_, rfl⟩
      have HJ0 : Hid (stepR (loopR setR (n - 0)) Sk = R2 ∧ (R2.2 = 0 → [] ++ (loopR setR (n - 0) Sk.1).val = L2)) := ⟨hR2.symm, fun _ => hL2.symm⟩
      have HR2E : Hid (stepR (loopR setR n) Sk = R2 ∧ (loopR setR n Sk.1).val = L2) := ⟨hR2.symm, hL2.symm⟩
      clear hR2 hL2 hq2 HO
      go_wp2_with fail
      go_loopw [6, 13] (fun row j wr => ∃ (l : Nat) (Sl : BE) (ac2 : List Vl), l ≤ n ∧ j = .int .i64 l ∧ Hid (Rd wr p Sl) ∧ Hid (OwnI 26 2 VVal wr (fun z => q2 ≤ z) row ac2) ∧ Hid (OwnI 65 1 VRow wr (fun z => q ≤ z ∧ z < q2) u5 acc) ∧ Hid (ac2.length = l) ∧ Hid (stepR (loopR setR (n - l)) Sl = R2 ∧ (R2.2 = 0 → ac2 ++ (loopR setR (n - l) Sl.1).val = L2)) ∧ Hid (Kept (fun z => z = p) wo wr) ∧ Hid (Sl.2 = 0)) (fun _ j _ => n - (intOf j).toNat)
      case atStart => exact ⟨0, Sk, [], by omega, rfl, HRk, ownI_nil _ _ _ _ _, HA, rfl, HJ0, Kept.refl _ _, HEk.out hlt2⟩
      case round =>
        obtain ⟨l, Sl, ac2, hl, rfl, HRl, HOl, HAl, HLl, HJl, HKl, HEl⟩ := hrel
        have hq2w : q2 ≤ wr.heap.size := by have := HKl.out.size; have := HQ2.out; omega
        by_cases hlt3 : l < n
        · go_wp2_with fail
          refine (read_value HRl.out).mono ?_
          rintro r w3 ⟨V, x, lx, cx, rfl, HR3, HX3, hF3, HV3, HK3⟩
          have hs3 := HK3.out.size
          obtain ⟨w4, hw4⟩ : ∃ w4, w4 = w3.alloc (.cells #[.int .i64 V.1, .slice x lx cx] 26) := ⟨_, rfl⟩
          have HW4 : Hid (w3.alloc (.cells #[.int .i64 V.1, .slice x lx cx] 26) = w4) := hw4.symm
          have hB4 : Below w3.heap.size w3 w4 := by rw [hw4]; exact below_one _ _
          have hb4 : w4.heap[w3.heap.size]? = some (.cells #[.int .i64 V.1, .slice x lx cx] 26 (0, 0)) := by rw [hw4]; exact heap_alloc_new w3 _
          obtain ⟨g, hg⟩ : ∃ g, g = w3.heap.size := ⟨_, rfl⟩
          rw [← hg] at hb4
          have HG : Hid (w3.heap.size = g) := hg.symm
          have hK34 : Kept (fun z => z = p) wr w4 := HK3.out.new hB4
          have hs4 := hB4.size
          have HK4 : Hid (Kept (fun z => z = p) wo w4) := HKl.out.trans hK34 (fun i hi e => e)
          have HR4 : Hid (Rd w4 p (stepR valueR Sl)) := HR3.out.new hB4
          have HO4 : Hid (OwnI 26 2 VVal w4 (fun z => q2 ≤ z) u6 ac2) := HOl.out.apart stays_val hK34 (fun z _ hz e => by omega)
          have HA4 : Hid (OwnI 65 1 VRow w4 (fun z => q ≤ z ∧ z < q2) u5 acc) := HAl.out.apart stays_row hK34 (fun z _ hz e => by omega)
          have hl4 : ∀ z, u6.ownBlock = some z → z < wr.heap.size := fun z hz => (HOl.out.lt z hz).2
          have HX4 : Hid (IsBF (fun z => z < w4.heap.size ∧ u6.ownBlock ≠ some z ∧ q2 ≤ z) w4 x lx cx (sNums V.2)) := ⟨HX3.out.old hB4, fun z hz _ => by
            have h1 := hF3 z hz
            exact ⟨⟨by omega, fun e => by have := hl4 _ e; omega, by omega⟩, by omega⟩⟩
          have HB4 : Hid (w4.heap[g]? = some (.cells #[.int .i64 V.1, .slice x lx cx] 26 (0, 0))) := hb4
          obtain ⟨k0, k1, f0, f1⟩ := two_cells hb4
          have hlg := block_lt hb4
          clear hw4 hB4 hb4 hg hK34 hF3 HR3 HX3 HRl HOl HAl HKl hl4
          by_cases hU : V.1 = 1
          · have hd : true = (V.1 == 1) := by rw [hU]; rfl
            have HD : Hid _ := hd
            have HFX : Hid (stepR (failR (0 : Int) 11) (stepR valueR Sl) = stepR setR Sl ∧ (stepR setR Sl).2 ≠ 0) := by
              by_cases hE : (stepR valueR Sl).2 = 0
              · obtain ⟨e1, e2⟩ := set_no hE (by rw [← HV3.out hE]; exact hU)
                exact ⟨e1.symm, e2⟩
              · rw [step_err _ hE (step_nrm _ _), set_err hE]
                exact ⟨rfl, hE⟩
            clear hU hd
            go_upto_region 8 with fail
            rw [HW4.out]
            (try rw [HG.out])
            clear HW4
            go_wp2_with fail
            refine (isUnset_any HD.out).mono ?_
            rintro r w5 ⟨rfl, hB5⟩
            have HR5 : Hid (Rd w5 p (stepR valueR Sl)) := HR4.out.new hB5
            have HA5 : Hid (OwnI 65 1 VRow w5 (fun z => q ≤ z ∧ z < q2) u5 acc) := HA4.out.old stays_row hB5
            have HK5 : Hid (Kept (fun z => z = p) wo w5) := HK4.out.new hB5
            clear hB5
            go_wp2_with fail
            refine (rfail HR5.out 11 (by decide)).mono ?_
            rintro r w6 ⟨rfl, HR6, HK6⟩
            rw [HFX.out.1] at HR6
            have HA6 : Hid (OwnI 65 1 VRow w6 (fun z => q ≤ z ∧ z < q2) u5 acc) := HA5.out.apart stays_row HK6.out (fun z _ hz e => by omega)
            have HK7 : Hid (Kept (fun z => z = p) wo w6) := HK5.out.trans HK6.out (fun i hi e => e)
            have HRR : Hid (R = stepR setR Sl) := by
              have h1 := loop_halt HJl.out hlt3 HFX.out.2
              have h2 := loop_halt HIk.out hlt2 (by rw [HR2E.out.1, h1]; exact HFX.out.2)
              rw [HR2E.out.1, h1] at h2
              exact h2
            obtain ⟨r6, lr6, cr6, hb6, _⟩ := HR6.out.blk
            obtain ⟨d0, d1, g0, g1⟩ := two_cells hb6
            have hlp6 := block_lt hb6
            have t1 : ((stepR setR Sl).2 != 0) = true := by simpa using HFX.out.2
            clear hb6
            go_wp2_with fail
            try rw [Exit.noGoto_ret]
            go_ret
            refine ⟨_, acc, rfl, ?_, HA6.out.sub stays_row (fun z _ hz => by have := HQE.out; omega), fun hh => ?_, HKk.out.trans HK7.out (fun i hi e => e)⟩
            · rw [HRE.out.1, HRR.out]; exact HR6
            · rw [HRE.out.1, HRR.out] at hh; exact absurd hh HFX.out.2
          · have hd : false = (V.1 == 1) := by simp [hU]
            have HD : Hid _ := hd
            have HU : Hid (V.1 ≠ 1) := hU
            clear hU hd
            go_upto_region 8 with fail
            rw [HW4.out]
            (try rw [HG.out])
            clear HW4
            go_wp2_with fail
            refine (isUnset_any HD.out).mono ?_
            rintro r w5 ⟨rfl, hB5⟩
            have hs5 := hB5.size
            have HR5 : Hid (Rd w5 p (stepR valueR Sl)) := HR4.out.new hB5
            have HA5 : Hid (OwnI 65 1 VRow w5 (fun z => q ≤ z ∧ z < q2) u5 acc) := HA4.out.old stays_row hB5
            have HO5 : Hid (OwnI 26 2 VVal w5 (fun z => q2 ≤ z) u6 ac2) := HO4.out.old stays_val hB5
            have HK5 : Hid (Kept (fun z => z = p) wo w5) := HK4.out.new hB5
            have HX5 : Hid (IsBF (fun z => z < w5.heap.size ∧ u6.ownBlock ≠ some z ∧ q2 ≤ z) w5 x lx cx (sNums V.2)) := HX4.out.stay (fun z hz _ => hB5.block z hz) hs5 (fun z hz hF => ⟨by omega, hF.2.1, hF.2.2⟩)
            have hb5 := (hB5.block g hlg).trans HB4.out
            have HB5 : Hid _ := hb5
            obtain ⟨k0, k1, f0, f1⟩ := two_cells hb5
            have hlg5 := block_lt hb5
            obtain ⟨r6, lr6, cr6, hb6, _⟩ := HR5.out.blk
            obtain ⟨d0, d1, g0, g1⟩ := two_cells hb6
            have hlp6 := block_lt hb6
            clear hB5 hb5 hb6 hlg
            by_cases hE : (stepR valueR Sl).2 = 0
            · rw [hE] at d1
              have HSY : Hid (stepR setR Sl = stepR valueR Sl ∧ ((stepR setR Sl).2 = 0 → (setR Sl.1).val = (valueR Sl.1).val)) := set_yes hE (by rw [← HV3.out hE]; exact HU.out)
              have HNX : Hid _ := loop_next HJl.out hlt3 (by rw [HSY.out.1]; exact hE)
              have HEN : Hid ((stepR setR Sl).2 = 0) := by rw [HSY.out.1]; exact hE
              have HVAL : Hid ((setR Sl.1).val = V) := by show _ = _; rw [HSY.out.2 (by rw [HSY.out.1]; exact hE), ← HV3.out hE]
              have HBN : Hid ((w5.alloc (.cells #[.int .i64 V.1, .slice x lx cx] 26)).heap[w5.heap.size]? = some (.cells [Value.int .i64 V.1, Value.slice x lx cx].toArray 26 (0, 0))) := heap_alloc_new w5 _
              have HON : Hid (OwnI 26 2 VVal (w5.alloc (.cells #[.int .i64 V.1, .slice x lx cx] 26)) (fun z => q2 ≤ z) u6 ac2) := HO5.out.old stays_val (below_one _ _)
              have HXN : Hid (VVal (fun z => z < (w5.alloc (.cells #[.int .i64 V.1, .slice x lx cx] 26)).heap.size ∧ u6.ownBlock ≠ some z ∧ q2 ≤ z) (w5.alloc (.cells #[.int .i64 V.1, .slice x lx cx] 26)) V (fun j => ([Value.int .i64 V.1, Value.slice x lx cx] : List Value).getD j default)) :=
                ⟨rfl, x, lx, cx, rfl, HX5.out.stay (fun z hz _ => (below_one w5 _).block z hz) (by simp) (fun z hz hF => ⟨by simp; omega, hF.2.1, hF.2.2⟩)⟩
              have HFN : Hid ((fun z => q2 ≤ z) (w5.alloc (.cells #[.int .i64 V.1, .slice x lx cx] 26)).heap.size) := by show q2 ≤ _; simp; omega
              clear hE
              go_wp2_with (at_builtin; refine wpList_appendI rfl (.tmp 26) (.tmp 28) 65 rfl stays_val elem_val rfl HON.out rfl HBN.out rfl ?c1 V HXN.out HFN.out ?c2 ?c3 ?_)
              case c1 => first | exact ⟨rfl, rfl⟩ | (intro u hu; simp at hu; rcases hu with rfl | rfl <;> rfl)
              case c2 => rw [HLl.out]; unfold maxLen; omega
              case c3 => rw [HLl.out]; omega
              intro v4 w7 ho7 hK7 hv7
              have hK57 : Kept (fun z => u6.ownBlock = some z) w5 w7 := (kept_of (below_one w5 _)).trans hK7 (fun i hi e => e)
              have hfar : ∀ z, u6.ownBlock = some z → q2 ≤ z := fun z hz => (HO5.out.lt z hz).1
              have HR7 : Hid (Rd w7 p (stepR setR Sl)) := by rw [HSY.out.1]; exact HR5.out.kept hK57 (fun z hz e => by have := hfar z e; omega)
              have HA7 : Hid (OwnI 65 1 VRow w7 (fun z => q ≤ z ∧ z < q2) u5 acc) := HA5.out.apart stays_row hK57 (fun z _ hz e => by have := hfar z e; omega)
              have HO7 : Hid (OwnI 26 2 VVal w7 (fun z => q2 ≤ z) v4 (ac2 ++ [(setR Sl.1).val])) := by rw [HVAL.out]; exact ho7
              have HK7 : Hid (Kept (fun z => z = p) wo w7) := HK5.out.trans hK57 (fun i hi e => by have := hfar i e; have := HQ2.out; omega)
              have HL7 : Hid ((ac2 ++ [(setR Sl.1).val]).length = l + 1) := by show _ = _; rw [List.length_append, HLl.out]; rfl
              clear hK57 hfar ho7 hK7 hv7
              go_wp2_with fail
              go_roundw
              case rel => exact ⟨l + 1, stepR setR Sl, _, by omega, by go_num, HR7, HO7, HA7, HL7, HNX, HK7, HEN⟩
              case measure => simp [intOf]; omega
            · have HSE : Hid (stepR valueR Sl = stepR setR Sl) := (set_err hE).symm
              have HEE : Hid ((stepR setR Sl).2 ≠ 0) := by rw [← HSE.out]; exact hE
              have HRR : Hid (R = stepR setR Sl) := by
                have h1 := loop_halt HJl.out hlt3 HEE.out
                have h2 := loop_halt HIk.out hlt2 (by rw [HR2E.out.1, h1]; exact HEE.out)
                rw [HR2E.out.1, h1] at h2
                exact h2
              have t1 : ((stepR valueR Sl).2 != 0) = true := by simpa using hE
              clear hE
              go_wp2_with fail
              try rw [Exit.noGoto_ret]
              go_ret
              refine ⟨_, acc, rfl, ?_, HA5.out.sub stays_row (fun z _ hz => by have := HQE.out; omega), fun hh => ?_, HKk.out.trans HK5.out (fun i hi e => e)⟩
              · rw [HRE.out.1, HRR.out, ← HSE.out]; exact HR5
              · rw [HRE.out.1, HRR.out] at hh; exact absurd hh HEE.out
        · have HDN : Hid (R2 = Sl ∧ (R2.2 = 0 → ac2 = L2)) := loop_done HRl.out.nrm HJl.out (by omega)
          have HR2 : Hid (R2.2 = 0) := by rw [HDN.out.1]; exact HEl.out
          have HVAL : Hid ((loopR setR n Sk.1).val = ac2) := by show _ = _; rw [HR2E.out.2]; exact (HDN.out.2 HR2.out).symm
          have HNX : Hid _ := loop_next HIk.out hlt2 (by rw [HR2E.out.1]; exact HR2.out)
          obtain ⟨ra, rc, hrow⟩ := HOl.out.shape
          rw [HLl.out] at hrow
          subst hrow
          have HBN : Hid ((wr.alloc (.cells #[.slice ra l rc] 65)).heap[wr.heap.size]? = some (.cells [Value.slice ra l rc].toArray 65 (0, 0))) := heap_alloc_new wr _
          have HON : Hid (OwnI 65 1 VRow (wr.alloc (.cells #[.slice ra l rc] 65)) (fun z => q ≤ z ∧ z < q2) u5 acc) := HAl.out.old stays_row (below_one _ _)
          have HON2 : Hid (OwnI 65 1 VRow (wr.alloc (.cells #[.slice ra l rc] 65)) (fun z => q ≤ z) u5 acc) := HON.out.sub stays_row (fun z _ hz => hz.1)
          have HXN : Hid (VRow (fun z => z < (wr.alloc (.cells #[.slice ra l rc] 65)).heap.size ∧ u5.ownBlock ≠ some z ∧ q ≤ z) (wr.alloc (.cells #[.slice ra l rc] 65)) ac2 (fun j => ([Value.slice ra l rc] : List Value).getD j default)) :=
            (HOl.out.old stays_val (below_one wr (.cells #[.slice ra l rc] 65))).sub stays_val (fun z h1 hz => ⟨h1, fun e => by have := (HAl.out.lt z e).1; omega, by omega⟩)
          have HFN : Hid ((fun z => q ≤ z) (wr.alloc (.cells #[.slice ra l rc] 65)).heap.size) := by show q ≤ _; simp; omega
          have HSE : Hid (Sl = stepR (loopR setR n) Sk) := by show _ = _; rw [HR2E.out.1, HDN.out.1]
          go_wp2_with (at_builtin; refine wpList_appendI rfl (.tmp 31) (.tmp 33) 27 rfl stays_row elem_row rfl HON2.out rfl HBN.out rfl ?c1 ac2 HXN.out HFN.out ?c2 ?c3 ?_)
          case c1 => first | rfl | (intro u hu; simp at hu; rw [hu]; rfl)
          case c2 => rw [HLk.out]; unfold maxLen; omega
          case c3 => rw [HLk.out]; omega
          intro v4 w7 ho7 hK7 hv7
          have hK57 : Kept (fun z => u5.ownBlock = some z) wr w7 := (kept_of (below_one wr _)).trans hK7 (fun i hi e => e)
          have hfar : ∀ z, u5.ownBlock = some z → q ≤ z := fun z hz => (HAl.out.lt z hz).1.1
          have HR7 : Hid (Rd w7 p (stepR (loopR setR n) Sk)) := by rw [← HSE.out]; exact HRl.out.kept hK57 (fun z hz e => by have := hfar z e; omega)
          have HO7 : Hid (OwnI 65 1 VRow w7 (fun z => q ≤ z) v4 (acc ++ [(loopR setR n Sk.1).val])) := by rw [HVAL.out]; exact ho7
          have HK7 : Hid (Kept (fun z => z = p) w w7) := (HKk.out.trans HKl.out (fun i hi e => e)).trans hK57 (fun i hi e => by have := hfar i e; have := HQE.out; omega)
          have HL7 : Hid ((acc ++ [(loopR setR n Sk.1).val]).length = k + 1) := by show _ = _; rw [List.length_append, HLk.out]; rfl
          have HE7 : Hid (k + 1 < M → (stepR (loopR setR n) Sk).2 = 0) := fun _ => by rw [HR2E.out.1]; exact HR2.out
          clear hK57 hfar ho7 hK7 hv7
          go_wp2_with fail
          go_roundw
          case rel => exact ⟨k + 1, stepR (loopR setR n) Sk, _, by omega, by go_num, HR7, HO7, HL7, HNX, HK7, HE7⟩
          case measure => simp [intOf]; omega
    · have HDN : Hid (R = Sk ∧ (R.2 = 0 → acc = L)) := loop_done HRk.out.nrm HIk.out (by omega)
      go_wp2_with fail
      try rw [Exit.noGoto_ret]
      go_ret
      refine ⟨_, acc, rfl, ?_, ?_, fun hh => ?_, HKk⟩
      · rw [HRE.out.1, HDN.out.1]; exact HRk
      · exact HO.out.sub stays_row (fun z _ hz => by have := HQE.out; omega)
      · rw [HRE.out.1] at hh; rw [HRE.out.2 hh]; exact HDN.out.2 hh

end Go.Proofs.YtnapeecmlkkolaaDoor

namespace Go.Proofs.YtnapeecmlkkolaaDoor
open Go.RowKit
set_option maxRecDepth 100000
set_option linter.unusedVariables false
set_option linter.unusedSimpArgs false

theorem blk6 {w : World} {p : Nat} {a b c d e f : Value} {t : TypeId} (h : w.heap[p]? = some (.cells #[a, b, c, d, e, f] t (0, 0))) :
    (w.cell? ⟨p, 0, none⟩ = some a ∧ w.cell? ⟨p, 1, none⟩ = some b ∧ w.cell? ⟨p, 2, none⟩ = some c ∧ w.cell? ⟨p, 3, none⟩ = some d ∧ w.cell? ⟨p, 4, none⟩ = some e ∧ w.cell? ⟨p, 5, none⟩ = some f) ∧
    (w.frozen? ⟨p, 0, none⟩ = false ∧ w.frozen? ⟨p, 1, none⟩ = false ∧ w.frozen? ⟨p, 2, none⟩ = false ∧ w.frozen? ⟨p, 3, none⟩ = false ∧ w.frozen? ⟨p, 4, none⟩ = false ∧ w.frozen? ⟨p, 5, none⟩ = false) :=
  ⟨⟨blk_cell h 0, blk_cell h 1, blk_cell h 2, blk_cell h 3, blk_cell h 4, blk_cell h 5⟩, ⟨blk_frozen h 0, blk_frozen h 1, blk_frozen h 2, blk_frozen h 3, blk_frozen h 4, blk_frozen h 5⟩⟩

theorem IsBF.apart {F K : Nat → Prop} {w W : World} {a : Option Addr} {l c : Nat} {zs : List Int} (h : IsBF F w a l c zs) (hK : Kept K w W) (hn : ∀ k, k < w.heap.size → F k → ¬ K k) : IsBF F W a l c zs :=
  h.stay (fun k hk hf => hK.block k hk (hn k hk hf)) hK.size (fun _ _ hf => hf)
theorem isBF_nil (F : Nat → Prop) (w : World) : IsBF F w none 0 0 [] := ⟨isB_nil _, fun q hq => by cases hq⟩

theorem table_step (f n : Int) (S : BE) : stepR (tableR f n) S = stepR (optR (!bitX f 4) [] (colsR n.toNat (bitX f 1))) (stepR (optR (bitX f 2) v0 valueR) S) := by
  rw [tableR, step_bind, step_bind, step_pure2]
theorem table_val {f n : Int} {S : BE} (h : (stepR (tableR f n) S).2 = 0) :
    (tableR f n S.1).val = (n, (optR (!bitX f 4) [] (colsR n.toNat (bitX f 1)) (stepR (optR (bitX f 2) v0 valueR) S).1).val, bitX f 2, (optR (bitX f 2) v0 valueR S.1).val, []) := by
  rw [tableR] at h ⊢
  rw [bind_val _ _ _ h]
  rw [step_bind] at h
  rw [bind_val _ _ _ h]
  rfl
theorem sNums_empty : sNums ByteArray.empty = [] := rfl

set_option maxHeartbeats 2000000 in
theorem rtable_n_no {w : World} {p : Nat} {S : BE} (h : Rd w p S) (hT : Tab w) (hp0 : 0 < p) {f : Int} {n : Nat} (hn : n ≤ 4096) (h2 : bitX f 2 = false) (h4 : bitX f 4 = true) :
    Calls Tryd.prog 21 #[.pointer (some ⟨p, 0, none⟩), .int .i64 f, .int .i64 n] w fun e w' => ∃ (ca : Option Addr) (cl cc : Nat) (L : List Col) (V : Vl) (x : Option Addr) (lx cx : Nat), e = .returned (.agg #[.int .i64 n, .slice ca cl cc, .bool false, .int .i64 V.1, .slice x lx cx, .slice none 0 0]) ∧ Hid (Rd w' p (stepR (tableR f n) S)) ∧ Hid (OwnI 64 8 (VCol 20) w' (fun k => w.heap.size ≤ k) (.slice ca cl cc) L) ∧ Hid (IsBF (fun k => w.heap.size ≤ k) w' x lx cx (sNums V.2)) ∧
      Hid ((stepR (tableR f n) S).2 = 0 → (((n : Nat) : Int), L, false, V, []) = (tableR f n S.1).val) ∧ Hid (Kept (fun k => k = p) w w') := by
  have hlt := h.lt
  obtain ⟨q, hq⟩ : ∃ q, q = w.heap.size := ⟨_, rfl⟩
  have HQE : Hid (w.heap.size = q) := hq.symm
  obtain ⟨w0, hw0⟩ : ∃ w0, w0 = (w.alloc (.cells #[.int .i64 0, .slice none 0 0, .bool false, .int .i64 0, .slice none 0 0, .slice none 0 0] 29)).alloc (.cells #[.int .i64 n, .slice none 0 0, .bool false, .int .i64 0, .slice none 0 0, .slice none 0 0] 29) := ⟨_, rfl⟩
  have HW0 : Hid ((w.alloc (.cells #[.int .i64 0, .slice none 0 0, .bool false, .int .i64 0, .slice none 0 0, .slice none 0 0] 29)).alloc (.cells #[.int .i64 n, .slice none 0 0, .bool false, .int .i64 0, .slice none 0 0, .slice none 0 0] 29) = w0) := hw0.symm
  have hB0 : Below w.heap.size w w0 := by rw [hw0]; exact (below_one _ _).alloc (by simp) _
  have hz0 : w0.heap[q]? = some (.cells #[.int .i64 0, .slice none 0 0, .bool false, .int .i64 0, .slice none 0 0, .slice none 0 0] 29 (0, 0)) := by
    rw [hw0, hq]
    exact ((below_one (w.alloc (.cells #[.int .i64 0, .slice none 0 0, .bool false, .int .i64 0, .slice none 0 0, .slice none 0 0] 29)) _).block w.heap.size (by simp)).trans (heap_alloc_new w _)
  have ht0 : w0.heap[q + 1]? = some (.cells #[.int .i64 n, .slice none 0 0, .bool false, .int .i64 0, .slice none 0 0, .slice none 0 0] 29 (0, 0)) := by
    rw [hw0, hq]
    have := heap_alloc_new (w.alloc (.cells #[.int .i64 0, .slice none 0 0, .bool false, .int .i64 0, .slice none 0 0, .slice none 0 0] 29)) (.cells #[.int .i64 n, .slice none 0 0, .bool false, .int .i64 0, .slice none 0 0, .slice none 0 0] 29)
    simpa using this
  have HZ0 : Hid _ := hz0
  have HT0 : Hid _ := ht0
  have HB0 : Hid (Below w.heap.size w w0) := hB0
  have HR0 : Hid (Rd w0 p S) := h.new hB0
  have HTB : Hid (Tab w0) := hT.old hB0
  have hpq : p < q := by omega
  obtain ⟨⟨a0, a1, a2, a3, a4, a5⟩, af0, af1, af2, af3, af4, af5⟩ := blk6 hz0
  obtain ⟨⟨b0, b1, b2, b3, b4, b5⟩, bf0, bf1, bf2, bf3, bf4, bf5⟩ := blk6 ht0
  have hla := block_lt hz0
  have hlb := block_lt ht0
  have HH2 : Hid _ := h2
  have HH4 : Hid _ := h4
  have t2 : (bits .and .i64 f 2 != 0) = false := h2
  have t4 : (bits .and .i64 f 4 == 0) = false := by have := h4; unfold bitX at this; simpa using this
  clear h hT hw0 hB0 hq h2 h4 hz0 ht0
  go_enter Tryd.func21, Tryd.ntmps21
  go_upto_region 2 with fail
  rw [HW0.out]
  clear HW0
  (try rw [HQE.out])
  obtain ⟨w2, hw2⟩ : ∃ w2, w2 = w0 := ⟨_, rfl⟩
  rw [← hw2] at HZ0 HT0 HR0 HTB HB0 hla hlb a0 a1 a2 a3 a4 a5 af0 af1 af2 af3 af4 af5 b0 b1 b2 b3 b4 b5 bf0 bf1 bf2 bf3 bf4 bf5 ⊢
  clear hw2
  have HZ2 := HZ0
  have HT2 := HT0
  have HR2 := HR0
  have HTB2 := HTB
  have HK2 : Hid (Kept (fun k => k = p) w w2) := kept_of HB0.out
  have hla2 := hla
  have hlb2 := hlb
  have HX2 : Hid (IsBF (fun k => q + 1 < k) w2 none 0 0 (sNums v0.2)) := isBF_nil _ _
  obtain ⟨S1, hS1⟩ : ∃ S1, S1 = S := ⟨_, rfl⟩
  have HSS : Hid (stepR (optR (bitX f 2) v0 valueR) S = S1) := by rw [HH2.out, hS1]; exact step_opt_no _ _ HR0.out.nrm
  have HVV : Hid (S1.2 = 0 → v0 = (optR (bitX f 2) v0 valueR S.1).val) := by rw [HH2.out]; exact fun _ => rfl
  rw [← hS1] at HR2
  clear hS1 HZ0 HT0 HR0 HTB HB0
  go_wp2_with fail
  have hKC : Kept (fun k => k = q) w2 ((((((w2.setCell ⟨q, 0, none⟩ (.int .i64 n)).setCell ⟨q, 1, none⟩ (.slice none 0 0)).setCell ⟨q, 2, none⟩ (.bool false)).setCell ⟨q, 3, none⟩ (.int .i64 0)).setCell ⟨q, 4, none⟩ (.slice none 0 0)).setCell ⟨q, 5, none⟩ (.slice none 0 0)) := ((((((Kept.refl (fun k => k = q) w2).setCell (p := ⟨q, 0, none⟩) (fun _ => rfl) _).setCell (p := ⟨q, 1, none⟩) (fun _ => rfl) _).setCell (p := ⟨q, 2, none⟩) (fun _ => rfl) _).setCell (p := ⟨q, 3, none⟩) (fun _ => rfl) _).setCell (p := ⟨q, 4, none⟩) (fun _ => rfl) _).setCell (p := ⟨q, 5, none⟩) (fun _ => rfl) _
  have hzC : ((((((w2.setCell ⟨q, 0, none⟩ (.int .i64 n)).setCell ⟨q, 1, none⟩ (.slice none 0 0)).setCell ⟨q, 2, none⟩ (.bool false)).setCell ⟨q, 3, none⟩ (.int .i64 0)).setCell ⟨q, 4, none⟩ (.slice none 0 0)).setCell ⟨q, 5, none⟩ (.slice none 0 0)).heap[q]? = some (.cells #[.int .i64 n, .slice none 0 0, .bool false, .int .i64 0, .slice none 0 0, .slice none 0 0] 29 (0, 0)) := blk_set ((blk_set ((blk_set ((blk_set ((blk_set ((blk_set (HZ2.out) 0 (.int .i64 n))) 1 (.slice none 0 0))) 2 (.bool false))) 3 (.int .i64 0))) 4 (.slice none 0 0))) 5 (.slice none 0 0)
  generalize (((((w2.setCell ⟨q, 0, none⟩ (.int .i64 n)).setCell ⟨q, 1, none⟩ (.slice none 0 0)).setCell ⟨q, 2, none⟩ (.bool false)).setCell ⟨q, 3, none⟩ (.int .i64 0)).setCell ⟨q, 4, none⟩ (.slice none 0 0)).setCell ⟨q, 5, none⟩ (.slice none 0 0) = wC at hKC hzC ⊢
  obtain ⟨⟨z0, z1, z2, z3, z4, z5⟩, _⟩ := blk6 hzC
  refine bodyPost_ret (v := .agg #[.int .i64 n, .slice none 0 0, .bool false, .int .i64 0, .slice none 0 0, .slice none 0 0]) (by simp [results, Tryd.results21, go_sem, z0, z1, z2, z3, z4, z5]) rfl ?_
  have e2 : stepR (optR (!bitX f 4) [] (colsR (n : Int).toNat (bitX f 1))) S1 = S1 := by rw [HH4.out]; exact step_opt_no _ _ HR2.out.nrm
  have e1 : stepR (tableR f n) S = S1 := by rw [table_step, HSS.out]; exact e2
  refine ⟨none, 0, 0, [], v0, none, 0, 0, rfl, ?_, ownI_nil _ _ _ _ _, ?_, fun hh => ?_, HK2.out.trans hKC (fun i hi e => by have := HQE.out; omega)⟩
  · rw [e1]; exact HR2.out.kept hKC (fun k hk e => by omega)
  · exact (HX2.out.apart hKC (fun k _ hk e => by omega)).stay (fun _ _ _ => rfl) (Nat.le_refl _) (fun k _ hk => by have := HQE.out; omega)
  · rw [table_val hh, HH2.out, HH4.out, HVV.out (by rw [← e1]; exact hh), HH2.out]; rfl

set_option maxHeartbeats 2000000 in
theorem rtable_n_true {w : World} {p : Nat} {S : BE} (h : Rd w p S) (hT : Tab w) (hp0 : 0 < p) {f : Int} {n : Nat} (hn : n ≤ 4096) (h2 : bitX f 2 = false) (h4 : bitX f 4 = false) (h1 : bitX f 1 = true) :
    Calls Tryd.prog 21 #[.pointer (some ⟨p, 0, none⟩), .int .i64 f, .int .i64 n] w fun e w' => ∃ (ca : Option Addr) (cl cc : Nat) (L : List Col) (V : Vl) (x : Option Addr) (lx cx : Nat), e = .returned (.agg #[.int .i64 n, .slice ca cl cc, .bool false, .int .i64 V.1, .slice x lx cx, .slice none 0 0]) ∧ Hid (Rd w' p (stepR (tableR f n) S)) ∧ Hid (OwnI 64 8 (VCol 20) w' (fun k => w.heap.size ≤ k) (.slice ca cl cc) L) ∧ Hid (IsBF (fun k => w.heap.size ≤ k) w' x lx cx (sNums V.2)) ∧
      Hid ((stepR (tableR f n) S).2 = 0 → (((n : Nat) : Int), L, false, V, []) = (tableR f n S.1).val) ∧ Hid (Kept (fun k => k = p) w w') := by
  have hlt := h.lt
  obtain ⟨q, hq⟩ : ∃ q, q = w.heap.size := ⟨_, rfl⟩
  have HQE : Hid (w.heap.size = q) := hq.symm
  obtain ⟨w0, hw0⟩ : ∃ w0, w0 = (w.alloc (.cells #[.int .i64 0, .slice none 0 0, .bool false, .int .i64 0, .slice none 0 0, .slice none 0 0] 29)).alloc (.cells #[.int .i64 n, .slice none 0 0, .bool false, .int .i64 0, .slice none 0 0, .slice none 0 0] 29) := ⟨_, rfl⟩
  have HW0 : Hid ((w.alloc (.cells #[.int .i64 0, .slice none 0 0, .bool false, .int .i64 0, .slice none 0 0, .slice none 0 0] 29)).alloc (.cells #[.int .i64 n, .slice none 0 0, .bool false, .int .i64 0, .slice none 0 0, .slice none 0 0] 29) = w0) := hw0.symm
  have hB0 : Below w.heap.size w w0 := by rw [hw0]; exact (below_one _ _).alloc (by simp) _
  have hz0 : w0.heap[q]? = some (.cells #[.int .i64 0, .slice none 0 0, .bool false, .int .i64 0, .slice none 0 0, .slice none 0 0] 29 (0, 0)) := by
    rw [hw0, hq]
    exact ((below_one (w.alloc (.cells #[.int .i64 0, .slice none 0 0, .bool false, .int .i64 0, .slice none 0 0, .slice none 0 0] 29)) _).block w.heap.size (by simp)).trans (heap_alloc_new w _)
  have ht0 : w0.heap[q + 1]? = some (.cells #[.int .i64 n, .slice none 0 0, .bool false, .int .i64 0, .slice none 0 0, .slice none 0 0] 29 (0, 0)) := by
    rw [hw0, hq]
    have := heap_alloc_new (w.alloc (.cells #[.int .i64 0, .slice none 0 0, .bool false, .int .i64 0, .slice none 0 0, .slice none 0 0] 29)) (.cells #[.int .i64 n, .slice none 0 0, .bool false, .int .i64 0, .slice none 0 0, .slice none 0 0] 29)
    simpa using this
  have HZ0 : Hid _ := hz0
  have HT0 : Hid _ := ht0
  have HB0 : Hid (Below w.heap.size w w0) := hB0
  have HR0 : Hid (Rd w0 p S) := h.new hB0
  have HTB : Hid (Tab w0) := hT.old hB0
  have hpq : p < q := by omega
  obtain ⟨⟨a0, a1, a2, a3, a4, a5⟩, af0, af1, af2, af3, af4, af5⟩ := blk6 hz0
  obtain ⟨⟨b0, b1, b2, b3, b4, b5⟩, bf0, bf1, bf2, bf3, bf4, bf5⟩ := blk6 ht0
  have hla := block_lt hz0
  have hlb := block_lt ht0
  have HH2 : Hid _ := h2
  have HH4 : Hid _ := h4
  have HH1 : Hid _ := h1
  have t2 : (bits .and .i64 f 2 != 0) = false := h2
  have t4 : (bits .and .i64 f 4 == 0) = true := by have := h4; unfold bitX at this; simpa using this
  have t1 : (bits .and .i64 f 1 != 0) = true := h1
  clear h hT hw0 hB0 hq h2 h4 hz0 ht0 h1
  go_enter Tryd.func21, Tryd.ntmps21
  go_upto_region 2 with fail
  rw [HW0.out]
  clear HW0
  (try rw [HQE.out])
  obtain ⟨w2, hw2⟩ : ∃ w2, w2 = w0 := ⟨_, rfl⟩
  rw [← hw2] at HZ0 HT0 HR0 HTB HB0 hla hlb a0 a1 a2 a3 a4 a5 af0 af1 af2 af3 af4 af5 b0 b1 b2 b3 b4 b5 bf0 bf1 bf2 bf3 bf4 bf5 ⊢
  clear hw2
  have HZ2 := HZ0
  have HT2 := HT0
  have HR2 := HR0
  have HTB2 := HTB
  have HK2 : Hid (Kept (fun k => k = p) w w2) := kept_of HB0.out
  have hla2 := hla
  have hlb2 := hlb
  have HX2 : Hid (IsBF (fun k => q + 1 < k) w2 none 0 0 (sNums v0.2)) := isBF_nil _ _
  obtain ⟨S1, hS1⟩ : ∃ S1, S1 = S := ⟨_, rfl⟩
  have HSS : Hid (stepR (optR (bitX f 2) v0 valueR) S = S1) := by rw [HH2.out, hS1]; exact step_opt_no _ _ HR0.out.nrm
  have HVV : Hid (S1.2 = 0 → v0 = (optR (bitX f 2) v0 valueR S.1).val) := by rw [HH2.out]; exact fun _ => rfl
  rw [← hS1] at HR2
  clear hS1 HZ0 HT0 HR0 HTB HB0
  go_wp2_with fail
  refine (rcolumns_true HR2.out HTB2.out hp0 hn).mono ?_
  rintro r w3 ⟨v, L, rfl, HR3, HO3, HL3, HK3⟩
  obtain ⟨ca, cc, hv⟩ := HO3.out.shape
  obtain ⟨cl, hcl⟩ : ∃ cl, cl = L.length := ⟨_, rfl⟩
  rw [← hcl] at hv
  subst hv
  have hz3 : w3.heap[q]? = some (.cells #[.int .i64 0, .slice none 0 0, .bool false, .int .i64 0, .slice none 0 0, .slice none 0 0] 29 (0, 0)) := (HK3.out.block q hla2 (by omega)).trans HZ2.out
  have ht3 : w3.heap[q + 1]? = some (.cells #[.int .i64 n, .slice none 0 0, .bool false, .int .i64 0, .slice none 0 0, .slice none 0 0] 29 (0, 0)) := (HK3.out.block (q + 1) hlb2 (by omega)).trans HT2.out
  have HZ3 : Hid _ := hz3
  have HT3 : Hid _ := ht3
  obtain ⟨⟨a0, a1, a2, a3, a4, a5⟩, af0, af1, af2, af3, af4, af5⟩ := blk6 hz3
  obtain ⟨⟨b0, b1, b2, b3, b4, b5⟩, bf0, bf1, bf2, bf3, bf4, bf5⟩ := blk6 ht3
  have hla3 := block_lt hz3
  have hlb3 := block_lt ht3
  have hs3 := HK3.out.size
  clear hz3 ht3 hcl
  go_upto_region 6 with fail
  have hKA : Kept (fun k => k = q + 1) w3 (w3.setCell ⟨q + 1, 1, none⟩ (.slice ca cl cc)) := one_kept w3 (q + 1) 1 _
  have ht4 : (w3.setCell ⟨q + 1, 1, none⟩ (.slice ca cl cc)).heap[q + 1]? = some (.cells #[.int .i64 n, .slice ca cl cc, .bool false, .int .i64 0, .slice none 0 0, .slice none 0 0] 29 (0, 0)) := blk_set HT3.out 1 _
  generalize w3.setCell ⟨q + 1, 1, none⟩ (.slice ca cl cc) = w4 at hKA ht4 ⊢
  have hz4 : w4.heap[q]? = some (.cells #[.int .i64 0, .slice none 0 0, .bool false, .int .i64 0, .slice none 0 0, .slice none 0 0] 29 (0, 0)) := (hKA.block q hla3 (by omega)).trans HZ3.out
  have HZ4 : Hid _ := hz4
  have HKA : Hid _ := hKA
  obtain ⟨⟨a0, a1, a2, a3, a4, a5⟩, af0, af1, af2, af3, af4, af5⟩ := blk6 hz4
  obtain ⟨⟨b0, b1, b2, b3, b4, b5⟩, bf0, bf1, bf2, bf3, bf4, bf5⟩ := blk6 ht4
  have hla4 := block_lt hz4
  have hlb4 := block_lt ht4
  clear hz4 ht4 hKA
  go_wp2_with fail
  have hKC : Kept (fun k => k = q) w4 ((((((w4.setCell ⟨q, 0, none⟩ (.int .i64 n)).setCell ⟨q, 1, none⟩ (.slice ca cl cc)).setCell ⟨q, 2, none⟩ (.bool false)).setCell ⟨q, 3, none⟩ (.int .i64 0)).setCell ⟨q, 4, none⟩ (.slice none 0 0)).setCell ⟨q, 5, none⟩ (.slice none 0 0)) := ((((((Kept.refl (fun k => k = q) w4).setCell (p := ⟨q, 0, none⟩) (fun _ => rfl) _).setCell (p := ⟨q, 1, none⟩) (fun _ => rfl) _).setCell (p := ⟨q, 2, none⟩) (fun _ => rfl) _).setCell (p := ⟨q, 3, none⟩) (fun _ => rfl) _).setCell (p := ⟨q, 4, none⟩) (fun _ => rfl) _).setCell (p := ⟨q, 5, none⟩) (fun _ => rfl) _
  have hzC : ((((((w4.setCell ⟨q, 0, none⟩ (.int .i64 n)).setCell ⟨q, 1, none⟩ (.slice ca cl cc)).setCell ⟨q, 2, none⟩ (.bool false)).setCell ⟨q, 3, none⟩ (.int .i64 0)).setCell ⟨q, 4, none⟩ (.slice none 0 0)).setCell ⟨q, 5, none⟩ (.slice none 0 0)).heap[q]? = some (.cells #[.int .i64 n, .slice ca cl cc, .bool false, .int .i64 0, .slice none 0 0, .slice none 0 0] 29 (0, 0)) := blk_set ((blk_set ((blk_set ((blk_set ((blk_set ((blk_set (HZ4.out) 0 (.int .i64 n))) 1 (.slice ca cl cc))) 2 (.bool false))) 3 (.int .i64 0))) 4 (.slice none 0 0))) 5 (.slice none 0 0)
  generalize (((((w4.setCell ⟨q, 0, none⟩ (.int .i64 n)).setCell ⟨q, 1, none⟩ (.slice ca cl cc)).setCell ⟨q, 2, none⟩ (.bool false)).setCell ⟨q, 3, none⟩ (.int .i64 0)).setCell ⟨q, 4, none⟩ (.slice none 0 0)).setCell ⟨q, 5, none⟩ (.slice none 0 0) = wC at hKC hzC ⊢
  obtain ⟨⟨z0, z1, z2, z3, z4, z5⟩, _⟩ := blk6 hzC
  have hKAC : Kept (fun k => k = q ∨ k = q + 1) w3 wC := (HKA.out.wider (fun k e => .inr e)).trans hKC (fun i hi e => .inl e)
  have e1 : stepR (tableR f n) S = stepR (colsR n true) S1 := by rw [table_step, HSS.out, HH4.out, HH1.out, Int.toNat_natCast]; rfl
  refine bodyPost_ret (v := .agg #[.int .i64 n, .slice ca cl cc, .bool false, .int .i64 0, .slice none 0 0, .slice none 0 0]) (by simp [results, Tryd.results21, go_sem, z0, z1, z2, z3, z4, z5]) rfl ?_
  refine ⟨ca, cl, cc, L, v0, none, 0, 0, rfl, ?_, ?_, ?_, fun hh => ?_, (HK2.out.trans HK3.out (fun i hi e => e)).trans hKAC (fun i hi e => by have := HQE.out; rcases e with e | e <;> omega)⟩
  · rw [e1]; exact HR3.out.kept hKAC (fun k hk e => by rcases e with e | e <;> omega)
  · exact (HO3.out.apart (stays_col 20) hKAC (fun k _ hk e => by rcases e with e | e <;> omega)).sub (stays_col 20) (fun k _ hk => by have := HQE.out; omega)
  · exact ((HX2.out.apart HK3.out (fun k _ hk e => by omega)).apart hKAC (fun k _ hk e => by rcases e with e | e <;> omega)).stay (fun _ _ _ => rfl) (Nat.le_refl _) (fun k _ hk => by have := HQE.out; omega)
  · have hh2 := hh
    rw [e1] at hh2
    rw [table_val hh, HSS.out, ← HVV.out (step_fine hh2), HL3.out hh2, HH2.out, HH4.out, HH1.out, Int.toNat_natCast]
    rfl

set_option maxHeartbeats 2000000 in
theorem rtable_n_false {w : World} {p : Nat} {S : BE} (h : Rd w p S) (hT : Tab w) (hp0 : 0 < p) {f : Int} {n : Nat} (hn : n ≤ 4096) (h2 : bitX f 2 = false) (h4 : bitX f 4 = false) (h1 : bitX f 1 = false) :
    Calls Tryd.prog 21 #[.pointer (some ⟨p, 0, none⟩), .int .i64 f, .int .i64 n] w fun e w' => ∃ (ca : Option Addr) (cl cc : Nat) (L : List Col) (V : Vl) (x : Option Addr) (lx cx : Nat), e = .returned (.agg #[.int .i64 n, .slice ca cl cc, .bool false, .int .i64 V.1, .slice x lx cx, .slice none 0 0]) ∧ Hid (Rd w' p (stepR (tableR f n) S)) ∧ Hid (OwnI 64 8 (VCol 20) w' (fun k => w.heap.size ≤ k) (.slice ca cl cc) L) ∧ Hid (IsBF (fun k => w.heap.size ≤ k) w' x lx cx (sNums V.2)) ∧
      Hid ((stepR (tableR f n) S).2 = 0 → (((n : Nat) : Int), L, false, V, []) = (tableR f n S.1).val) ∧ Hid (Kept (fun k => k = p) w w') := by
  have hlt := h.lt
  obtain ⟨q, hq⟩ : ∃ q, q = w.heap.size := ⟨_, rfl⟩
  have HQE : Hid (w.heap.size = q) := hq.symm
  obtain ⟨w0, hw0⟩ : ∃ w0, w0 = (w.alloc (.cells #[.int .i64 0, .slice none 0 0, .bool false, .int .i64 0, .slice none 0 0, .slice none 0 0] 29)).alloc (.cells #[.int .i64 n, .slice none 0 0, .bool false, .int .i64 0, .slice none 0 0, .slice none 0 0] 29) := ⟨_, rfl⟩
  have HW0 : Hid ((w.alloc (.cells #[.int .i64 0, .slice none 0 0, .bool false, .int .i64 0, .slice none 0 0, .slice none 0 0] 29)).alloc (.cells #[.int .i64 n, .slice none 0 0, .bool false, .int .i64 0, .slice none 0 0, .slice none 0 0] 29) = w0) := hw0.symm
  have hB0 : Below w.heap.size w w0 := by rw [hw0]; exact (below_one _ _).alloc (by simp) _
  have hz0 : w0.heap[q]? = some (.cells #[.int .i64 0, .slice none 0 0, .bool false, .int .i64 0, .slice none 0 0, .slice none 0 0] 29 (0, 0)) := by
    rw [hw0, hq]
    exact ((below_one (w.alloc (.cells #[.int .i64 0, .slice none 0 0, .bool false, .int .i64 0, .slice none 0 0, .slice none 0 0] 29)) _).block w.heap.size (by simp)).trans (heap_alloc_new w _)
  have ht0 : w0.heap[q + 1]? = some (.cells #[.int .i64 n, .slice none 0 0, .bool false, .int .i64 0, .slice none 0 0, .slice none 0 0] 29 (0, 0)) := by
    rw [hw0, hq]
    have := heap_alloc_new (w.alloc (.cells #[.int .i64 0, .slice none 0 0, .bool false, .int .i64 0, .slice none 0 0, .slice none 0 0] 29)) (.cells #[.int .i64 n, .slice none 0 0, .bool false, .int .i64 0, .slice none 0 0, .slice none 0 0] 29)
    simpa using this
  have HZ0 : Hid _ := hz0
  have HT0 : Hid _ := ht0
  have HB0 : Hid (Below w.heap.size w w0) := hB0
  have HR0 : Hid (Rd w0 p S) := h.new hB0
  have HTB : Hid (Tab w0) := hT.old hB0
  have hpq : p < q := by omega
  obtain ⟨⟨a0, a1, a2, a3, a4, a5⟩, af0, af1, af2, af3, af4, af5⟩ := blk6 hz0
  obtain ⟨⟨b0, b1, b2, b3, b4, b5⟩, bf0, bf1, bf2, bf3, bf4, bf5⟩ := blk6 ht0
  have hla := block_lt hz0
  have hlb := block_lt ht0
  have HH2 : Hid _ := h2
  have HH4 : Hid _ := h4
  have HH1 : Hid _ := h1
  have t2 : (bits .and .i64 f 2 != 0) = false := h2
  have t4 : (bits .and .i64 f 4 == 0) = true := by have := h4; unfold bitX at this; simpa using this
  have t1 : (bits .and .i64 f 1 != 0) = false := h1
  clear h hT hw0 hB0 hq h2 h4 hz0 ht0 h1
  go_enter Tryd.func21, Tryd.ntmps21
  go_upto_region 2 with fail
  rw [HW0.out]
  clear HW0
  (try rw [HQE.out])
  obtain ⟨w2, hw2⟩ : ∃ w2, w2 = w0 := ⟨_, rfl⟩
  rw [← hw2] at HZ0 HT0 HR0 HTB HB0 hla hlb a0 a1 a2 a3 a4 a5 af0 af1 af2 af3 af4 af5 b0 b1 b2 b3 b4 b5 bf0 bf1 bf2 bf3 bf4 bf5 ⊢
  clear hw2
  have HZ2 := HZ0
  have HT2 := HT0
  have HR2 := HR0
  have HTB2 := HTB
  have HK2 : Hid (Kept (fun k => k = p) w w2) := kept_of HB0.out
  have hla2 := hla
  have hlb2 := hlb
  have HX2 : Hid (IsBF (fun k => q + 1 < k) w2 none 0 0 (sNums v0.2)) := isBF_nil _ _
  obtain ⟨S1, hS1⟩ : ∃ S1, S1 = S := ⟨_, rfl⟩
  have HSS : Hid (stepR (optR (bitX f 2) v0 valueR) S = S1) := by rw [HH2.out, hS1]; exact step_opt_no _ _ HR0.out.nrm
  have HVV : Hid (S1.2 = 0 → v0 = (optR (bitX f 2) v0 valueR S.1).val) := by rw [HH2.out]; exact fun _ => rfl
  rw [← hS1] at HR2
  clear hS1 HZ0 HT0 HR0 HTB HB0
  go_wp2_with fail
  refine (rcolumns_false HR2.out HTB2.out hp0 hn).mono ?_
  rintro r w3 ⟨v, L, rfl, HR3, HO3, HL3, HK3⟩
  obtain ⟨ca, cc, hv⟩ := HO3.out.shape
  obtain ⟨cl, hcl⟩ : ∃ cl, cl = L.length := ⟨_, rfl⟩
  rw [← hcl] at hv
  subst hv
  have hz3 : w3.heap[q]? = some (.cells #[.int .i64 0, .slice none 0 0, .bool false, .int .i64 0, .slice none 0 0, .slice none 0 0] 29 (0, 0)) := (HK3.out.block q hla2 (by omega)).trans HZ2.out
  have ht3 : w3.heap[q + 1]? = some (.cells #[.int .i64 n, .slice none 0 0, .bool false, .int .i64 0, .slice none 0 0, .slice none 0 0] 29 (0, 0)) := (HK3.out.block (q + 1) hlb2 (by omega)).trans HT2.out
  have HZ3 : Hid _ := hz3
  have HT3 : Hid _ := ht3
  obtain ⟨⟨a0, a1, a2, a3, a4, a5⟩, af0, af1, af2, af3, af4, af5⟩ := blk6 hz3
  obtain ⟨⟨b0, b1, b2, b3, b4, b5⟩, bf0, bf1, bf2, bf3, bf4, bf5⟩ := blk6 ht3
  have hla3 := block_lt hz3
  have hlb3 := block_lt ht3
  have hs3 := HK3.out.size
  clear hz3 ht3 hcl
  go_upto_region 6 with fail
  have hKA : Kept (fun k => k = q + 1) w3 (w3.setCell ⟨q + 1, 1, none⟩ (.slice ca cl cc)) := one_kept w3 (q + 1) 1 _
  have ht4 : (w3.setCell ⟨q + 1, 1, none⟩ (.slice ca cl cc)).heap[q + 1]? = some (.cells #[.int .i64 n, .slice ca cl cc, .bool false, .int .i64 0, .slice none 0 0, .slice none 0 0] 29 (0, 0)) := blk_set HT3.out 1 _
  generalize w3.setCell ⟨q + 1, 1, none⟩ (.slice ca cl cc) = w4 at hKA ht4 ⊢
  have hz4 : w4.heap[q]? = some (.cells #[.int .i64 0, .slice none 0 0, .bool false, .int .i64 0, .slice none 0 0, .slice none 0 0] 29 (0, 0)) := (hKA.block q hla3 (by omega)).trans HZ3.out
  have HZ4 : Hid _ := hz4
  have HKA : Hid _ := hKA
  obtain ⟨⟨a0, a1, a2, a3, a4, a5⟩, af0, af1, af2, af3, af4, af5⟩ := blk6 hz4
  obtain ⟨⟨b0, b1, b2, b3, b4, b5⟩, bf0, bf1, bf2, bf3, bf4, bf5⟩ := blk6 ht4
  have hla4 := block_lt hz4
  have hlb4 := block_lt ht4
  clear hz4 ht4 hKA
  go_wp2_with fail
  have hKC : Kept (fun k => k = q) w4 ((((((w4.setCell ⟨q, 0, none⟩ (.int .i64 n)).setCell ⟨q, 1, none⟩ (.slice ca cl cc)).setCell ⟨q, 2, none⟩ (.bool false)).setCell ⟨q, 3, none⟩ (.int .i64 0)).setCell ⟨q, 4, none⟩ (.slice none 0 0)).setCell ⟨q, 5, none⟩ (.slice none 0 0)) := ((((((Kept.refl (fun k => k = q) w4).setCell (p := ⟨q, 0, none⟩) (fun _ => rfl) _).setCell (p := ⟨q, 1, none⟩) (fun _ => rfl) _).setCell (p := ⟨q, 2, none⟩) (fun _ => rfl) _).setCell (p := ⟨q, 3, none⟩) (fun _ => rfl) _).setCell (p := ⟨q, 4, none⟩) (fun _ => rfl) _).setCell (p := ⟨q, 5, none⟩) (fun _ => rfl) _
  have hzC : ((((((w4.setCell ⟨q, 0, none⟩ (.int .i64 n)).setCell ⟨q, 1, none⟩ (.slice ca cl cc)).setCell ⟨q, 2, none⟩ (.bool false)).setCell ⟨q, 3, none⟩ (.int .i64 0)).setCell ⟨q, 4, none⟩ (.slice none 0 0)).setCell ⟨q, 5, none⟩ (.slice none 0 0)).heap[q]? = some (.cells #[.int .i64 n, .slice ca cl cc, .bool false, .int .i64 0, .slice none 0 0, .slice none 0 0] 29 (0, 0)) := blk_set ((blk_set ((blk_set ((blk_set ((blk_set ((blk_set (HZ4.out) 0 (.int .i64 n))) 1 (.slice ca cl cc))) 2 (.bool false))) 3 (.int .i64 0))) 4 (.slice none 0 0))) 5 (.slice none 0 0)
  generalize (((((w4.setCell ⟨q, 0, none⟩ (.int .i64 n)).setCell ⟨q, 1, none⟩ (.slice ca cl cc)).setCell ⟨q, 2, none⟩ (.bool false)).setCell ⟨q, 3, none⟩ (.int .i64 0)).setCell ⟨q, 4, none⟩ (.slice none 0 0)).setCell ⟨q, 5, none⟩ (.slice none 0 0) = wC at hKC hzC ⊢
  obtain ⟨⟨z0, z1, z2, z3, z4, z5⟩, _⟩ := blk6 hzC
  have hKAC : Kept (fun k => k = q ∨ k = q + 1) w3 wC := (HKA.out.wider (fun k e => .inr e)).trans hKC (fun i hi e => .inl e)
  have e1 : stepR (tableR f n) S = stepR (colsR n false) S1 := by rw [table_step, HSS.out, HH4.out, HH1.out, Int.toNat_natCast]; rfl
  refine bodyPost_ret (v := .agg #[.int .i64 n, .slice ca cl cc, .bool false, .int .i64 0, .slice none 0 0, .slice none 0 0]) (by simp [results, Tryd.results21, go_sem, z0, z1, z2, z3, z4, z5]) rfl ?_
  refine ⟨ca, cl, cc, L, v0, none, 0, 0, rfl, ?_, ?_, ?_, fun hh => ?_, (HK2.out.trans HK3.out (fun i hi e => e)).trans hKAC (fun i hi e => by have := HQE.out; rcases e with e | e <;> omega)⟩
  · rw [e1]; exact HR3.out.kept hKAC (fun k hk e => by rcases e with e | e <;> omega)
  · exact (HO3.out.apart (stays_col 20) hKAC (fun k _ hk e => by rcases e with e | e <;> omega)).sub (stays_col 20) (fun k _ hk => by have := HQE.out; omega)
  · exact ((HX2.out.apart HK3.out (fun k _ hk e => by omega)).apart hKAC (fun k _ hk e => by rcases e with e | e <;> omega)).stay (fun _ _ _ => rfl) (Nat.le_refl _) (fun k _ hk => by have := HQE.out; omega)
  · have hh2 := hh
    rw [e1] at hh2
    rw [table_val hh, HSS.out, ← HVV.out (step_fine hh2), HL3.out hh2, HH2.out, HH4.out, HH1.out, Int.toNat_natCast]
    rfl

set_option maxHeartbeats 2000000 in
theorem rtable_m_no {w : World} {p : Nat} {S : BE} (h : Rd w p S) (hT : Tab w) (hp0 : 0 < p) {f : Int} {n : Nat} (hn : n ≤ 4096) (h2 : bitX f 2 = true) (h4 : bitX f 4 = true) :
    Calls Tryd.prog 21 #[.pointer (some ⟨p, 0, none⟩), .int .i64 f, .int .i64 n] w fun e w' => ∃ (ca : Option Addr) (cl cc : Nat) (L : List Col) (V : Vl) (x : Option Addr) (lx cx : Nat), e = .returned (.agg #[.int .i64 n, .slice ca cl cc, .bool true, .int .i64 V.1, .slice x lx cx, .slice none 0 0]) ∧ Hid (Rd w' p (stepR (tableR f n) S)) ∧ Hid (OwnI 64 8 (VCol 20) w' (fun k => w.heap.size ≤ k) (.slice ca cl cc) L) ∧ Hid (IsBF (fun k => w.heap.size ≤ k) w' x lx cx (sNums V.2)) ∧
      Hid ((stepR (tableR f n) S).2 = 0 → (((n : Nat) : Int), L, true, V, []) = (tableR f n S.1).val) ∧ Hid (Kept (fun k => k = p) w w') := by
  have hlt := h.lt
  obtain ⟨q, hq⟩ : ∃ q, q = w.heap.size := ⟨_, rfl⟩
  have HQE : Hid (w.heap.size = q) := hq.symm
  obtain ⟨w0, hw0⟩ : ∃ w0, w0 = (w.alloc (.cells #[.int .i64 0, .slice none 0 0, .bool false, .int .i64 0, .slice none 0 0, .slice none 0 0] 29)).alloc (.cells #[.int .i64 n, .slice none 0 0, .bool true, .int .i64 0, .slice none 0 0, .slice none 0 0] 29) := ⟨_, rfl⟩
  have HW0 : Hid ((w.alloc (.cells #[.int .i64 0, .slice none 0 0, .bool false, .int .i64 0, .slice none 0 0, .slice none 0 0] 29)).alloc (.cells #[.int .i64 n, .slice none 0 0, .bool true, .int .i64 0, .slice none 0 0, .slice none 0 0] 29) = w0) := hw0.symm
  have hB0 : Below w.heap.size w w0 := by rw [hw0]; exact (below_one _ _).alloc (by simp) _
  have hz0 : w0.heap[q]? = some (.cells #[.int .i64 0, .slice none 0 0, .bool false, .int .i64 0, .slice none 0 0, .slice none 0 0] 29 (0, 0)) := by
    rw [hw0, hq]
    exact ((below_one (w.alloc (.cells #[.int .i64 0, .slice none 0 0, .bool false, .int .i64 0, .slice none 0 0, .slice none 0 0] 29)) _).block w.heap.size (by simp)).trans (heap_alloc_new w _)
  have ht0 : w0.heap[q + 1]? = some (.cells #[.int .i64 n, .slice none 0 0, .bool true, .int .i64 0, .slice none 0 0, .slice none 0 0] 29 (0, 0)) := by
    rw [hw0, hq]
    have := heap_alloc_new (w.alloc (.cells #[.int .i64 0, .slice none 0 0, .bool false, .int .i64 0, .slice none 0 0, .slice none 0 0] 29)) (.cells #[.int .i64 n, .slice none 0 0, .bool true, .int .i64 0, .slice none 0 0, .slice none 0 0] 29)
    simpa using this
  have HZ0 : Hid _ := hz0
  have HT0 : Hid _ := ht0
  have HB0 : Hid (Below w.heap.size w w0) := hB0
  have HR0 : Hid (Rd w0 p S) := h.new hB0
  have HTB : Hid (Tab w0) := hT.old hB0
  have hpq : p < q := by omega
  obtain ⟨⟨a0, a1, a2, a3, a4, a5⟩, af0, af1, af2, af3, af4, af5⟩ := blk6 hz0
  obtain ⟨⟨b0, b1, b2, b3, b4, b5⟩, bf0, bf1, bf2, bf3, bf4, bf5⟩ := blk6 ht0
  have hla := block_lt hz0
  have hlb := block_lt ht0
  have HH2 : Hid _ := h2
  have HH4 : Hid _ := h4
  have t2 : (bits .and .i64 f 2 != 0) = true := h2
  have t4 : (bits .and .i64 f 4 == 0) = false := by have := h4; unfold bitX at this; simpa using this
  clear h hT hw0 hB0 hq h2 h4 hz0 ht0
  go_enter Tryd.func21, Tryd.ntmps21
  go_upto_region 2 with fail
  rw [HW0.out]
  clear HW0
  (try rw [HQE.out])
  go_wp2_with fail
  refine (read_value HR0.out).mono ?_
  rintro r w1 ⟨V, x, lx, cx, rfl, HR1, HX1, hF1, HV1, HK1⟩
  have hz1 : w1.heap[q]? = some (.cells #[.int .i64 0, .slice none 0 0, .bool false, .int .i64 0, .slice none 0 0, .slice none 0 0] 29 (0, 0)) := (HK1.out.block q hla (by omega)).trans HZ0.out
  have ht1 : w1.heap[q + 1]? = some (.cells #[.int .i64 n, .slice none 0 0, .bool true, .int .i64 0, .slice none 0 0, .slice none 0 0] 29 (0, 0)) := (HK1.out.block (q + 1) hlb (by omega)).trans HT0.out
  have HZ1 : Hid _ := hz1
  have HT1 : Hid _ := ht1
  obtain ⟨⟨a0, a1, a2, a3, a4, a5⟩, af0, af1, af2, af3, af4, af5⟩ := blk6 hz1
  obtain ⟨⟨b0, b1, b2, b3, b4, b5⟩, bf0, bf1, bf2, bf3, bf4, bf5⟩ := blk6 ht1
  have hla1 := block_lt hz1
  have hlb1 := block_lt ht1
  have hs1 := HK1.out.size
  have hs0 := HB0.out.size
  have HK1w : Hid (Kept (fun k => k = p) w w1) := (kept_of HB0.out).trans HK1.out (fun i hi e => e)
  have HX1b : Hid (IsBF (fun k => q + 1 < k) w1 x lx cx (sNums V.2)) := ⟨HX1.out, fun z hz _ => by have h1 := hF1 z hz; exact ⟨by omega, by omega⟩⟩
  have HTB1 : Hid (Tab w1) := HTB.out.kept HK1.out (by omega)
  clear hz1 ht1 hF1 HX1 HK1
  go_upto_region 4 with fail
  have hKA : Kept (fun k => k = q + 1) w1 ((w1.setCell ⟨q + 1, 3, none⟩ (.int .i64 V.1)).setCell ⟨q + 1, 4, none⟩ (.slice x lx cx)) := ((Kept.refl (fun k => k = q + 1) w1).setCell (p := ⟨q + 1, 3, none⟩) (fun _ => rfl) _).setCell (p := ⟨q + 1, 4, none⟩) (fun _ => rfl) _
  have ht2 : ((w1.setCell ⟨q + 1, 3, none⟩ (.int .i64 V.1)).setCell ⟨q + 1, 4, none⟩ (.slice x lx cx)).heap[q + 1]? = some (.cells #[.int .i64 n, .slice none 0 0, .bool true, .int .i64 V.1, .slice x lx cx, .slice none 0 0] 29 (0, 0)) := blk_set ((blk_set (HT1.out) 3 (.int .i64 V.1))) 4 (.slice x lx cx)
  generalize (w1.setCell ⟨q + 1, 3, none⟩ (.int .i64 V.1)).setCell ⟨q + 1, 4, none⟩ (.slice x lx cx) = w2 at hKA ht2 ⊢
  have HR2 : Hid (Rd w2 p (stepR valueR S)) := HR1.out.kept hKA (fun k hk e => by omega)
  have HX2 : Hid (IsBF (fun k => q + 1 < k) w2 x lx cx (sNums V.2)) := HX1b.out.apart hKA (fun k _ hk e => by omega)
  have HTB2 : Hid (Tab w2) := HTB1.out.kept hKA (by omega)
  have hz2 : w2.heap[q]? = some (.cells #[.int .i64 0, .slice none 0 0, .bool false, .int .i64 0, .slice none 0 0, .slice none 0 0] 29 (0, 0)) := (hKA.block q hla1 (by omega)).trans HZ1.out
  have HK2 : Hid (Kept (fun k => k = p) w w2) := HK1w.out.trans hKA (fun i hi e => by have := HQE.out; omega)
  have HSS : Hid (stepR (optR (bitX f 2) v0 valueR) S = stepR valueR S) := by rw [HH2.out]; rfl
  have HVV : Hid ((stepR valueR S).2 = 0 → V = (optR (bitX f 2) v0 valueR S.1).val) := by rw [HH2.out]; exact HV1.out
  have HZ2 : Hid _ := hz2
  have HT2 : Hid _ := ht2
  obtain ⟨⟨a0, a1, a2, a3, a4, a5⟩, af0, af1, af2, af3, af4, af5⟩ := blk6 hz2
  obtain ⟨⟨b0, b1, b2, b3, b4, b5⟩, bf0, bf1, bf2, bf3, bf4, bf5⟩ := blk6 ht2
  have hla2 := block_lt hz2
  have hlb2 := block_lt ht2
  obtain ⟨S1, hS1⟩ : ∃ S1, S1 = stepR valueR S := ⟨_, rfl⟩
  rw [← hS1] at HR2 HSS HVV
  clear hKA hz2 ht2 hS1 HR1 HV1 HX1b HTB1 HK1w HZ1 HT1 HZ0 HT0 HR0 HTB HB0
  go_wp2_with fail
  have hKC : Kept (fun k => k = q) w2 ((((((w2.setCell ⟨q, 0, none⟩ (.int .i64 n)).setCell ⟨q, 1, none⟩ (.slice none 0 0)).setCell ⟨q, 2, none⟩ (.bool true)).setCell ⟨q, 3, none⟩ (.int .i64 V.1)).setCell ⟨q, 4, none⟩ (.slice x lx cx)).setCell ⟨q, 5, none⟩ (.slice none 0 0)) := ((((((Kept.refl (fun k => k = q) w2).setCell (p := ⟨q, 0, none⟩) (fun _ => rfl) _).setCell (p := ⟨q, 1, none⟩) (fun _ => rfl) _).setCell (p := ⟨q, 2, none⟩) (fun _ => rfl) _).setCell (p := ⟨q, 3, none⟩) (fun _ => rfl) _).setCell (p := ⟨q, 4, none⟩) (fun _ => rfl) _).setCell (p := ⟨q, 5, none⟩) (fun _ => rfl) _
  have hzC : ((((((w2.setCell ⟨q, 0, none⟩ (.int .i64 n)).setCell ⟨q, 1, none⟩ (.slice none 0 0)).setCell ⟨q, 2, none⟩ (.bool true)).setCell ⟨q, 3, none⟩ (.int .i64 V.1)).setCell ⟨q, 4, none⟩ (.slice x lx cx)).setCell ⟨q, 5, none⟩ (.slice none 0 0)).heap[q]? = some (.cells #[.int .i64 n, .slice none 0 0, .bool true, .int .i64 V.1, .slice x lx cx, .slice none 0 0] 29 (0, 0)) := blk_set ((blk_set ((blk_set ((blk_set ((blk_set ((blk_set (HZ2.out) 0 (.int .i64 n))) 1 (.slice none 0 0))) 2 (.bool true))) 3 (.int .i64 V.1))) 4 (.slice x lx cx))) 5 (.slice none 0 0)
  generalize (((((w2.setCell ⟨q, 0, none⟩ (.int .i64 n)).setCell ⟨q, 1, none⟩ (.slice none 0 0)).setCell ⟨q, 2, none⟩ (.bool true)).setCell ⟨q, 3, none⟩ (.int .i64 V.1)).setCell ⟨q, 4, none⟩ (.slice x lx cx)).setCell ⟨q, 5, none⟩ (.slice none 0 0) = wC at hKC hzC ⊢
  obtain ⟨⟨z0, z1, z2, z3, z4, z5⟩, _⟩ := blk6 hzC
  refine bodyPost_ret (v := .agg #[.int .i64 n, .slice none 0 0, .bool true, .int .i64 V.1, .slice x lx cx, .slice none 0 0]) (by simp [results, Tryd.results21, go_sem, z0, z1, z2, z3, z4, z5]) rfl ?_
  have e2 : stepR (optR (!bitX f 4) [] (colsR (n : Int).toNat (bitX f 1))) S1 = S1 := by rw [HH4.out]; exact step_opt_no _ _ HR2.out.nrm
  have e1 : stepR (tableR f n) S = S1 := by rw [table_step, HSS.out]; exact e2
  refine ⟨none, 0, 0, [], V, x, lx, cx, rfl, ?_, ownI_nil _ _ _ _ _, ?_, fun hh => ?_, HK2.out.trans hKC (fun i hi e => by have := HQE.out; omega)⟩
  · rw [e1]; exact HR2.out.kept hKC (fun k hk e => by omega)
  · exact (HX2.out.apart hKC (fun k _ hk e => by omega)).stay (fun _ _ _ => rfl) (Nat.le_refl _) (fun k _ hk => by have := HQE.out; omega)
  · rw [table_val hh, HH2.out, HH4.out, HVV.out (by rw [← e1]; exact hh), HH2.out]; rfl

set_option maxHeartbeats 2000000 in
theorem rtable_m_true {w : World} {p : Nat} {S : BE} (h : Rd w p S) (hT : Tab w) (hp0 : 0 < p) {f : Int} {n : Nat} (hn : n ≤ 4096) (h2 : bitX f 2 = true) (h4 : bitX f 4 = false) (h1 : bitX f 1 = true) :
    Calls Tryd.prog 21 #[.pointer (some ⟨p, 0, none⟩), .int .i64 f, .int .i64 n] w fun e w' => ∃ (ca : Option Addr) (cl cc : Nat) (L : List Col) (V : Vl) (x : Option Addr) (lx cx : Nat), e = .returned (.agg #[.int .i64 n, .slice ca cl cc, .bool true, .int .i64 V.1, .slice x lx cx, .slice none 0 0]) ∧ Hid (Rd w' p (stepR (tableR f n) S)) ∧ Hid (OwnI 64 8 (VCol 20) w' (fun k => w.heap.size ≤ k) (.slice ca cl cc) L) ∧ Hid (IsBF (fun k => w.heap.size ≤ k) w' x lx cx (sNums V.2)) ∧
      Hid ((stepR (tableR f n) S).2 = 0 → (((n : Nat) : Int), L, true, V, []) = (tableR f n S.1).val) ∧ Hid (Kept (fun k => k = p) w w') := by
  have hlt := h.lt
  obtain ⟨q, hq⟩ : ∃ q, q = w.heap.size := ⟨_, rfl⟩
  have HQE : Hid (w.heap.size = q) := hq.symm
  obtain ⟨w0, hw0⟩ : ∃ w0, w0 = (w.alloc (.cells #[.int .i64 0, .slice none 0 0, .bool false, .int .i64 0, .slice none 0 0, .slice none 0 0] 29)).alloc (.cells #[.int .i64 n, .slice none 0 0, .bool true, .int .i64 0, .slice none 0 0, .slice none 0 0] 29) := ⟨_, rfl⟩
  have HW0 : Hid ((w.alloc (.cells #[.int .i64 0, .slice none 0 0, .bool false, .int .i64 0, .slice none 0 0, .slice none 0 0] 29)).alloc (.cells #[.int .i64 n, .slice none 0 0, .bool true, .int .i64 0, .slice none 0 0, .slice none 0 0] 29) = w0) := hw0.symm
  have hB0 : Below w.heap.size w w0 := by rw [hw0]; exact (below_one _ _).alloc (by simp) _
  have hz0 : w0.heap[q]? = some (.cells #[.int .i64 0, .slice none 0 0, .bool false, .int .i64 0, .slice none 0 0, .slice none 0 0] 29 (0, 0)) := by
    rw [hw0, hq]
    exact ((below_one (w.alloc (.cells #[.int .i64 0, .slice none 0 0, .bool false, .int .i64 0, .slice none 0 0, .slice none 0 0] 29)) _).block w.heap.size (by simp)).trans (heap_alloc_new w _)
  have ht0 : w0.heap[q + 1]? = some (.cells #[.int .i64 n, .slice none 0 0, .bool true, .int .i64 0, .slice none 0 0, .slice none 0 0] 29 (0, 0)) := by
    rw [hw0, hq]
    have := heap_alloc_new (w.alloc (.cells #[.int .i64 0, .slice none 0 0, .bool false, .int .i64 0, .slice none 0 0, .slice none 0 0] 29)) (.cells #[.int .i64 n, .slice none 0 0, .bool true, .int .i64 0, .slice none 0 0, .slice none 0 0] 29)
    simpa using this
  have HZ0 : Hid _ := hz0
  have HT0 : Hid _ := ht0
  have HB0 : Hid (Below w.heap.size w w0) := hB0
  have HR0 : Hid (Rd w0 p S) := h.new hB0
  have HTB : Hid (Tab w0) := hT.old hB0
  have hpq : p < q := by omega
  obtain ⟨⟨a0, a1, a2, a3, a4, a5⟩, af0, af1, af2, af3, af4, af5⟩ := blk6 hz0
  obtain ⟨⟨b0, b1, b2, b3, b4, b5⟩, bf0, bf1, bf2, bf3, bf4, bf5⟩ := blk6 ht0
  have hla := block_lt hz0
  have hlb := block_lt ht0
  have HH2 : Hid _ := h2
  have HH4 : Hid _ := h4
  have HH1 : Hid _ := h1
  have t2 : (bits .and .i64 f 2 != 0) = true := h2
  have t4 : (bits .and .i64 f 4 == 0) = true := by have := h4; unfold bitX at this; simpa using this
  have t1 : (bits .and .i64 f 1 != 0) = true := h1
  clear h hT hw0 hB0 hq h2 h4 hz0 ht0 h1
  go_enter Tryd.func21, Tryd.ntmps21
  go_upto_region 2 with fail
  rw [HW0.out]
  clear HW0
  (try rw [HQE.out])
  go_wp2_with fail
  refine (read_value HR0.out).mono ?_
  rintro r w1 ⟨V, x, lx, cx, rfl, HR1, HX1, hF1, HV1, HK1⟩
  have hz1 : w1.heap[q]? = some (.cells #[.int .i64 0, .slice none 0 0, .bool false, .int .i64 0, .slice none 0 0, .slice none 0 0] 29 (0, 0)) := (HK1.out.block q hla (by omega)).trans HZ0.out
  have ht1 : w1.heap[q + 1]? = some (.cells #[.int .i64 n, .slice none 0 0, .bool true, .int .i64 0, .slice none 0 0, .slice none 0 0] 29 (0, 0)) := (HK1.out.block (q + 1) hlb (by omega)).trans HT0.out
  have HZ1 : Hid _ := hz1
  have HT1 : Hid _ := ht1
  obtain ⟨⟨a0, a1, a2, a3, a4, a5⟩, af0, af1, af2, af3, af4, af5⟩ := blk6 hz1
  obtain ⟨⟨b0, b1, b2, b3, b4, b5⟩, bf0, bf1, bf2, bf3, bf4, bf5⟩ := blk6 ht1
  have hla1 := block_lt hz1
  have hlb1 := block_lt ht1
  have hs1 := HK1.out.size
  have hs0 := HB0.out.size
  have HK1w : Hid (Kept (fun k => k = p) w w1) := (kept_of HB0.out).trans HK1.out (fun i hi e => e)
  have HX1b : Hid (IsBF (fun k => q + 1 < k) w1 x lx cx (sNums V.2)) := ⟨HX1.out, fun z hz _ => by have h1 := hF1 z hz; exact ⟨by omega, by omega⟩⟩
  have HTB1 : Hid (Tab w1) := HTB.out.kept HK1.out (by omega)
  clear hz1 ht1 hF1 HX1 HK1
  go_upto_region 4 with fail
  have hKA : Kept (fun k => k = q + 1) w1 ((w1.setCell ⟨q + 1, 3, none⟩ (.int .i64 V.1)).setCell ⟨q + 1, 4, none⟩ (.slice x lx cx)) := ((Kept.refl (fun k => k = q + 1) w1).setCell (p := ⟨q + 1, 3, none⟩) (fun _ => rfl) _).setCell (p := ⟨q + 1, 4, none⟩) (fun _ => rfl) _
  have ht2 : ((w1.setCell ⟨q + 1, 3, none⟩ (.int .i64 V.1)).setCell ⟨q + 1, 4, none⟩ (.slice x lx cx)).heap[q + 1]? = some (.cells #[.int .i64 n, .slice none 0 0, .bool true, .int .i64 V.1, .slice x lx cx, .slice none 0 0] 29 (0, 0)) := blk_set ((blk_set (HT1.out) 3 (.int .i64 V.1))) 4 (.slice x lx cx)
  generalize (w1.setCell ⟨q + 1, 3, none⟩ (.int .i64 V.1)).setCell ⟨q + 1, 4, none⟩ (.slice x lx cx) = w2 at hKA ht2 ⊢
  have HR2 : Hid (Rd w2 p (stepR valueR S)) := HR1.out.kept hKA (fun k hk e => by omega)
  have HX2 : Hid (IsBF (fun k => q + 1 < k) w2 x lx cx (sNums V.2)) := HX1b.out.apart hKA (fun k _ hk e => by omega)
  have HTB2 : Hid (Tab w2) := HTB1.out.kept hKA (by omega)
  have hz2 : w2.heap[q]? = some (.cells #[.int .i64 0, .slice none 0 0, .bool false, .int .i64 0, .slice none 0 0, .slice none 0 0] 29 (0, 0)) := (hKA.block q hla1 (by omega)).trans HZ1.out
  have HK2 : Hid (Kept (fun k => k = p) w w2) := HK1w.out.trans hKA (fun i hi e => by have := HQE.out; omega)
  have HSS : Hid (stepR (optR (bitX f 2) v0 valueR) S = stepR valueR S) := by rw [HH2.out]; rfl
  have HVV : Hid ((stepR valueR S).2 = 0 → V = (optR (bitX f 2) v0 valueR S.1).val) := by rw [HH2.out]; exact HV1.out
  have HZ2 : Hid _ := hz2
  have HT2 : Hid _ := ht2
  obtain ⟨⟨a0, a1, a2, a3, a4, a5⟩, af0, af1, af2, af3, af4, af5⟩ := blk6 hz2
  obtain ⟨⟨b0, b1, b2, b3, b4, b5⟩, bf0, bf1, bf2, bf3, bf4, bf5⟩ := blk6 ht2
  have hla2 := block_lt hz2
  have hlb2 := block_lt ht2
  obtain ⟨S1, hS1⟩ : ∃ S1, S1 = stepR valueR S := ⟨_, rfl⟩
  rw [← hS1] at HR2 HSS HVV
  clear hKA hz2 ht2 hS1 HR1 HV1 HX1b HTB1 HK1w HZ1 HT1 HZ0 HT0 HR0 HTB HB0
  go_wp2_with fail
  refine (rcolumns_true HR2.out HTB2.out hp0 hn).mono ?_
  rintro r w3 ⟨v, L, rfl, HR3, HO3, HL3, HK3⟩
  obtain ⟨ca, cc, hv⟩ := HO3.out.shape
  obtain ⟨cl, hcl⟩ : ∃ cl, cl = L.length := ⟨_, rfl⟩
  rw [← hcl] at hv
  subst hv
  have hz3 : w3.heap[q]? = some (.cells #[.int .i64 0, .slice none 0 0, .bool false, .int .i64 0, .slice none 0 0, .slice none 0 0] 29 (0, 0)) := (HK3.out.block q hla2 (by omega)).trans HZ2.out
  have ht3 : w3.heap[q + 1]? = some (.cells #[.int .i64 n, .slice none 0 0, .bool true, .int .i64 V.1, .slice x lx cx, .slice none 0 0] 29 (0, 0)) := (HK3.out.block (q + 1) hlb2 (by omega)).trans HT2.out
  have HZ3 : Hid _ := hz3
  have HT3 : Hid _ := ht3
  obtain ⟨⟨a0, a1, a2, a3, a4, a5⟩, af0, af1, af2, af3, af4, af5⟩ := blk6 hz3
  obtain ⟨⟨b0, b1, b2, b3, b4, b5⟩, bf0, bf1, bf2, bf3, bf4, bf5⟩ := blk6 ht3
  have hla3 := block_lt hz3
  have hlb3 := block_lt ht3
  have hs3 := HK3.out.size
  clear hz3 ht3 hcl
  go_upto_region 6 with fail
  have hKA : Kept (fun k => k = q + 1) w3 (w3.setCell ⟨q + 1, 1, none⟩ (.slice ca cl cc)) := one_kept w3 (q + 1) 1 _
  have ht4 : (w3.setCell ⟨q + 1, 1, none⟩ (.slice ca cl cc)).heap[q + 1]? = some (.cells #[.int .i64 n, .slice ca cl cc, .bool true, .int .i64 V.1, .slice x lx cx, .slice none 0 0] 29 (0, 0)) := blk_set HT3.out 1 _
  generalize w3.setCell ⟨q + 1, 1, none⟩ (.slice ca cl cc) = w4 at hKA ht4 ⊢
  have hz4 : w4.heap[q]? = some (.cells #[.int .i64 0, .slice none 0 0, .bool false, .int .i64 0, .slice none 0 0, .slice none 0 0] 29 (0, 0)) := (hKA.block q hla3 (by omega)).trans HZ3.out
  have HZ4 : Hid _ := hz4
  have HKA : Hid _ := hKA
  obtain ⟨⟨a0, a1, a2, a3, a4, a5⟩, af0, af1, af2, af3, af4, af5⟩ := blk6 hz4
  obtain ⟨⟨b0, b1, b2, b3, b4, b5⟩, bf0, bf1, bf2, bf3, bf4, bf5⟩ := blk6 ht4
  have hla4 := block_lt hz4
  have hlb4 := block_lt ht4
  clear hz4 ht4 hKA
  go_wp2_with fail
  have hKC : Kept (fun k => k = q) w4 ((((((w4.setCell ⟨q, 0, none⟩ (.int .i64 n)).setCell ⟨q, 1, none⟩ (.slice ca cl cc)).setCell ⟨q, 2, none⟩ (.bool true)).setCell ⟨q, 3, none⟩ (.int .i64 V.1)).setCell ⟨q, 4, none⟩ (.slice x lx cx)).setCell ⟨q, 5, none⟩ (.slice none 0 0)) := ((((((Kept.refl (fun k => k = q) w4).setCell (p := ⟨q, 0, none⟩) (fun _ => rfl) _).setCell (p := ⟨q, 1, none⟩) (fun _ => rfl) _).setCell (p := ⟨q, 2, none⟩) (fun _ => rfl) _).setCell (p := ⟨q, 3, none⟩) (fun _ => rfl) _).setCell (p := ⟨q, 4, none⟩) (fun _ => rfl) _).setCell (p := ⟨q, 5, none⟩) (fun _ => rfl) _
  have hzC : ((((((w4.setCell ⟨q, 0, none⟩ (.int .i64 n)).setCell ⟨q, 1, none⟩ (.slice ca cl cc)).setCell ⟨q, 2, none⟩ (.bool true)).setCell ⟨q, 3, none⟩ (.int .i64 V.1)).setCell ⟨q, 4, none⟩ (.slice x lx cx)).setCell ⟨q, 5, none⟩ (.slice none 0 0)).heap[q]? = some (.cells #[.int .i64 n, .slice ca cl cc, .bool true, .int .i64 V.1, .slice x lx cx, .slice none 0 0] 29 (0, 0)) := blk_set ((blk_set ((blk_set ((blk_set ((blk_set ((blk_set (HZ4.out) 0 (.int .i64 n))) 1 (.slice ca cl cc))) 2 (.bool true))) 3 (.int .i64 V.1))) 4 (.slice x lx cx))) 5 (.slice none 0 0)
  generalize (((((w4.setCell ⟨q, 0, none⟩ (.int .i64 n)).setCell ⟨q, 1, none⟩ (.slice ca cl cc)).setCell ⟨q, 2, none⟩ (.bool true)).setCell ⟨q, 3, none⟩ (.int .i64 V.1)).setCell ⟨q, 4, none⟩ (.slice x lx cx)).setCell ⟨q, 5, none⟩ (.slice none 0 0) = wC at hKC hzC ⊢
  obtain ⟨⟨z0, z1, z2, z3, z4, z5⟩, _⟩ := blk6 hzC
  have hKAC : Kept (fun k => k = q ∨ k = q + 1) w3 wC := (HKA.out.wider (fun k e => .inr e)).trans hKC (fun i hi e => .inl e)
  have e1 : stepR (tableR f n) S = stepR (colsR n true) S1 := by rw [table_step, HSS.out, HH4.out, HH1.out, Int.toNat_natCast]; rfl
  refine bodyPost_ret (v := .agg #[.int .i64 n, .slice ca cl cc, .bool true, .int .i64 V.1, .slice x lx cx, .slice none 0 0]) (by simp [results, Tryd.results21, go_sem, z0, z1, z2, z3, z4, z5]) rfl ?_
  refine ⟨ca, cl, cc, L, V, x, lx, cx, rfl, ?_, ?_, ?_, fun hh => ?_, (HK2.out.trans HK3.out (fun i hi e => e)).trans hKAC (fun i hi e => by have := HQE.out; rcases e with e | e <;> omega)⟩
  · rw [e1]; exact HR3.out.kept hKAC (fun k hk e => by rcases e with e | e <;> omega)
  · exact (HO3.out.apart (stays_col 20) hKAC (fun k _ hk e => by rcases e with e | e <;> omega)).sub (stays_col 20) (fun k _ hk => by have := HQE.out; omega)
  · exact ((HX2.out.apart HK3.out (fun k _ hk e => by omega)).apart hKAC (fun k _ hk e => by rcases e with e | e <;> omega)).stay (fun _ _ _ => rfl) (Nat.le_refl _) (fun k _ hk => by have := HQE.out; omega)
  · have hh2 := hh
    rw [e1] at hh2
    rw [table_val hh, HSS.out, ← HVV.out (step_fine hh2), HL3.out hh2, HH2.out, HH4.out, HH1.out, Int.toNat_natCast]
    rfl

set_option maxHeartbeats 2000000 in
theorem rtable_m_false {w : World} {p : Nat} {S : BE} (h : Rd w p S) (hT : Tab w) (hp0 : 0 < p) {f : Int} {n : Nat} (hn : n ≤ 4096) (h2 : bitX f 2 = true) (h4 : bitX f 4 = false) (h1 : bitX f 1 = false) :
    Calls Tryd.prog 21 #[.pointer (some ⟨p, 0, none⟩), .int .i64 f, .int .i64 n] w fun e w' => ∃ (ca : Option Addr) (cl cc : Nat) (L : List Col) (V : Vl) (x : Option Addr) (lx cx : Nat), e = .returned (.agg #[.int .i64 n, .slice ca cl cc, .bool true, .int .i64 V.1, .slice x lx cx, .slice none 0 0]) ∧ Hid (Rd w' p (stepR (tableR f n) S)) ∧ Hid (OwnI 64 8 (VCol 20) w' (fun k => w.heap.size ≤ k) (.slice ca cl cc) L) ∧ Hid (IsBF (fun k => w.heap.size ≤ k) w' x lx cx (sNums V.2)) ∧
      Hid ((stepR (tableR f n) S).2 = 0 → (((n : Nat) : Int), L, true, V, []) = (tableR f n S.1).val) ∧ Hid (Kept (fun k => k = p) w w') := by
  have hlt := h.lt
  obtain ⟨q, hq⟩ : ∃ q, q = w.heap.size := ⟨_, rfl⟩
  have HQE : Hid (w.heap.size = q) := hq.symm
  obtain ⟨w0, hw0⟩ : ∃ w0, w0 = (w.alloc (.cells #[.int .i64 0, .slice none 0 0, .bool false, .int .i64 0, .slice none 0 0, .slice none 0 0] 29)).alloc (.cells #[.int .i64 n, .slice none 0 0, .bool true, .int .i64 0, .slice none 0 0, .slice none 0 0] 29) := ⟨_, rfl⟩
  have HW0 : Hid ((w.alloc (.cells #[.int .i64 0, .slice none 0 0, .bool false, .int .i64 0, .slice none 0 0, .slice none 0 0] 29)).alloc (.cells #[.int .i64 n, .slice none 0 0, .bool true, .int .i64 0, .slice none 0 0, .slice none 0 0] 29) = w0) := hw0.symm
  have hB0 : Below w.heap.size w w0 := by rw [hw0]; exact (below_one _ _).alloc (by simp) _
  have hz0 : w0.heap[q]? = some (.cells #[.int .i64 0, .slice none 0 0, .bool false, .int .i64 0, .slice none 0 0, .slice none 0 0] 29 (0, 0)) := by
    rw [hw0, hq]
    exact ((below_one (w.alloc (.cells #[.int .i64 0, .slice none 0 0, .bool false, .int .i64 0, .slice none 0 0, .slice none 0 0] 29)) _).block w.heap.size (by simp)).trans (heap_alloc_new w _)
  have ht0 : w0.heap[q + 1]? = some (.cells #[.int .i64 n, .slice none 0 0, .bool true, .int .i64 0, .slice none 0 0, .slice none 0 0] 29 (0, 0)) := by
    rw [hw0, hq]
    have := heap_alloc_new (w.alloc (.cells #[.int .i64 0, .slice none 0 0, .bool false, .int .i64 0, .slice none 0 0, .slice none 0 0] 29)) (.cells #[.int .i64 n, .slice none 0 0, .bool true, .int .i64 0, .slice none 0 0, .slice none 0 0] 29)
    simpa using this
  have HZ0 : Hid _ := hz0
  have HT0 : Hid _ := ht0
  have HB0 : Hid (Below w.heap.size w w0) := hB0
  have HR0 : Hid (Rd w0 p S) := h.new hB0
  have HTB : Hid (Tab w0) := hT.old hB0
  have hpq : p < q := by omega
  obtain ⟨⟨a0, a1, a2, a3, a4, a5⟩, af0, af1, af2, af3, af4, af5⟩ := blk6 hz0
  obtain ⟨⟨b0, b1, b2, b3, b4, b5⟩, bf0, bf1, bf2, bf3, bf4, bf5⟩ := blk6 ht0
  have hla := block_lt hz0
  have hlb := block_lt ht0
  have HH2 : Hid _ := h2
  have HH4 : Hid _ := h4
  have HH1 : Hid _ := h1
  have t2 : (bits .and .i64 f 2 != 0) = true := h2
  have t4 : (bits .and .i64 f 4 == 0) = true := by have := h4; unfold bitX at this; simpa using this
  have t1 : (bits .and .i64 f 1 != 0) = false := h1
  clear h hT hw0 hB0 hq h2 h4 hz0 ht0 h1
  go_enter Tryd.func21, Tryd.ntmps21
  go_upto_region 2 with fail
  rw [HW0.out]
  clear HW0
  (try rw [HQE.out])
  go_wp2_with fail
  refine (read_value HR0.out).mono ?_
  rintro r w1 ⟨V, x, lx, cx, rfl, HR1, HX1, hF1, HV1, HK1⟩
  have hz1 : w1.heap[q]? = some (.cells #[.int .i64 0, .slice none 0 0, .bool false, .int .i64 0, .slice none 0 0, .slice none 0 0] 29 (0, 0)) := (HK1.out.block q hla (by omega)).trans HZ0.out
  have ht1 : w1.heap[q + 1]? = some (.cells #[.int .i64 n, .slice none 0 0, .bool true, .int .i64 0, .slice none 0 0, .slice none 0 0] 29 (0, 0)) := (HK1.out.block (q + 1) hlb (by omega)).trans HT0.out
  have HZ1 : Hid _ := hz1
  have HT1 : Hid _ := ht1
  obtain ⟨⟨a0, a1, a2, a3, a4, a5⟩, af0, af1, af2, af3, af4, af5⟩ := blk6 hz1
  obtain ⟨⟨b0, b1, b2, b3, b4, b5⟩, bf0, bf1, bf2, bf3, bf4, bf5⟩ := blk6 ht1
  have hla1 := block_lt hz1
  have hlb1 := block_lt ht1
  have hs1 := HK1.out.size
  have hs0 := HB0.out.size
  have HK1w : Hid (Kept (fun k => k = p) w w1) := (kept_of HB0.out).trans HK1.out (fun i hi e => e)
  have HX1b : Hid (IsBF (fun k => q + 1 < k) w1 x lx cx (sNums V.2)) := ⟨HX1.out, fun z hz _ => by have h1 := hF1 z hz; exact ⟨by omega, by omega⟩⟩
  have HTB1 : Hid (Tab w1) := HTB.out.kept HK1.out (by omega)
  clear hz1 ht1 hF1 HX1 HK1
  go_upto_region 4 with fail
  have hKA : Kept (fun k => k = q + 1) w1 ((w1.setCell ⟨q + 1, 3, none⟩ (.int .i64 V.1)).setCell ⟨q + 1, 4, none⟩ (.slice x lx cx)) := ((Kept.refl (fun k => k = q + 1) w1).setCell (p := ⟨q + 1, 3, none⟩) (fun _ => rfl) _).setCell (p := ⟨q + 1, 4, none⟩) (fun _ => rfl) _
  have ht2 : ((w1.setCell ⟨q + 1, 3, none⟩ (.int .i64 V.1)).setCell ⟨q + 1, 4, none⟩ (.slice x lx cx)).heap[q + 1]? = some (.cells #[.int .i64 n, .slice none 0 0, .bool true, .int .i64 V.1, .slice x lx cx, .slice none 0 0] 29 (0, 0)) := blk_set ((blk_set (HT1.out) 3 (.int .i64 V.1))) 4 (.slice x lx cx)
  generalize (w1.setCell ⟨q + 1, 3, none⟩ (.int .i64 V.1)).setCell ⟨q + 1, 4, none⟩ (.slice x lx cx) = w2 at hKA ht2 ⊢
  have HR2 : Hid (Rd w2 p (stepR valueR S)) := HR1.out.kept hKA (fun k hk e => by omega)
  have HX2 : Hid (IsBF (fun k => q + 1 < k) w2 x lx cx (sNums V.2)) := HX1b.out.apart hKA (fun k _ hk e => by omega)
  have HTB2 : Hid (Tab w2) := HTB1.out.kept hKA (by omega)
  have hz2 : w2.heap[q]? = some (.cells #[.int .i64 0, .slice none 0 0, .bool false, .int .i64 0, .slice none 0 0, .slice none 0 0] 29 (0, 0)) := (hKA.block q hla1 (by omega)).trans HZ1.out
  have HK2 : Hid (Kept (fun k => k = p) w w2) := HK1w.out.trans hKA (fun i hi e => by have := HQE.out; omega)
  have HSS : Hid (stepR (optR (bitX f 2) v0 valueR) S = stepR valueR S) := by rw [HH2.out]; rfl
  have HVV : Hid ((stepR valueR S).2 = 0 → V = (optR (bitX f 2) v0 valueR S.1).val) := by rw [HH2.out]; exact HV1.out
  have HZ2 : Hid _ := hz2
  have HT2 : Hid _ := ht2
  obtain ⟨⟨a0, a1, a2, a3, a4, a5⟩, af0, af1, af2, af3, af4, af5⟩ := blk6 hz2
  obtain ⟨⟨b0, b1, b2, b3, b4, b5⟩, bf0, bf1, bf2, bf3, bf4, bf5⟩ := blk6 ht2
  have hla2 := block_lt hz2
  have hlb2 := block_lt ht2
  obtain ⟨S1, hS1⟩ : ∃ S1, S1 = stepR valueR S := ⟨_, rfl⟩
  rw [← hS1] at HR2 HSS HVV
  clear hKA hz2 ht2 hS1 HR1 HV1 HX1b HTB1 HK1w HZ1 HT1 HZ0 HT0 HR0 HTB HB0
  go_wp2_with fail
  refine (rcolumns_false HR2.out HTB2.out hp0 hn).mono ?_
  rintro r w3 ⟨v, L, rfl, HR3, HO3, HL3, HK3⟩
  obtain ⟨ca, cc, hv⟩ := HO3.out.shape
  obtain ⟨cl, hcl⟩ : ∃ cl, cl = L.length := ⟨_, rfl⟩
  rw [← hcl] at hv
  subst hv
  have hz3 : w3.heap[q]? = some (.cells #[.int .i64 0, .slice none 0 0, .bool false, .int .i64 0, .slice none 0 0, .slice none 0 0] 29 (0, 0)) := (HK3.out.block q hla2 (by omega)).trans HZ2.out
  have ht3 : w3.heap[q + 1]? = some (.cells #[.int .i64 n, .slice none 0 0, .bool true, .int .i64 V.1, .slice x lx cx, .slice none 0 0] 29 (0, 0)) := (HK3.out.block (q + 1) hlb2 (by omega)).trans HT2.out
  have HZ3 : Hid _ := hz3
  have HT3 : Hid _ := ht3
  obtain ⟨⟨a0, a1, a2, a3, a4, a5⟩, af0, af1, af2, af3, af4, af5⟩ := blk6 hz3
  obtain ⟨⟨b0, b1, b2, b3, b4, b5⟩, bf0, bf1, bf2, bf3, bf4, bf5⟩ := blk6 ht3
  have hla3 := block_lt hz3
  have hlb3 := block_lt ht3
  have hs3 := HK3.out.size
  clear hz3 ht3 hcl
  go_upto_region 6 with fail
  have hKA : Kept (fun k => k = q + 1) w3 (w3.setCell ⟨q + 1, 1, none⟩ (.slice ca cl cc)) := one_kept w3 (q + 1) 1 _
  have ht4 : (w3.setCell ⟨q + 1, 1, none⟩ (.slice ca cl cc)).heap[q + 1]? = some (.cells #[.int .i64 n, .slice ca cl cc, .bool true, .int .i64 V.1, .slice x lx cx, .slice none 0 0] 29 (0, 0)) := blk_set HT3.out 1 _
  generalize w3.setCell ⟨q + 1, 1, none⟩ (.slice ca cl cc) = w4 at hKA ht4 ⊢
  have hz4 : w4.heap[q]? = some (.cells #[.int .i64 0, .slice none 0 0, .bool false, .int .i64 0, .slice none 0 0, .slice none 0 0] 29 (0, 0)) := (hKA.block q hla3 (by omega)).trans HZ3.out
  have HZ4 : Hid _ := hz4
  have HKA : Hid _ := hKA
  obtain ⟨⟨a0, a1, a2, a3, a4, a5⟩, af0, af1, af2, af3, af4, af5⟩ := blk6 hz4
  obtain ⟨⟨b0, b1, b2, b3, b4, b5⟩, bf0, bf1, bf2, bf3, bf4, bf5⟩ := blk6 ht4
  have hla4 := block_lt hz4
  have hlb4 := block_lt ht4
  clear hz4 ht4 hKA
  go_wp2_with fail
  have hKC : Kept (fun k => k = q) w4 ((((((w4.setCell ⟨q, 0, none⟩ (.int .i64 n)).setCell ⟨q, 1, none⟩ (.slice ca cl cc)).setCell ⟨q, 2, none⟩ (.bool true)).setCell ⟨q, 3, none⟩ (.int .i64 V.1)).setCell ⟨q, 4, none⟩ (.slice x lx cx)).setCell ⟨q, 5, none⟩ (.slice none 0 0)) := ((((((Kept.refl (fun k => k = q) w4).setCell (p := ⟨q, 0, none⟩) (fun _ => rfl) _).setCell (p := ⟨q, 1, none⟩) (fun _ => rfl) _).setCell (p := ⟨q, 2, none⟩) (fun _ => rfl) _).setCell (p := ⟨q, 3, none⟩) (fun _ => rfl) _).setCell (p := ⟨q, 4, none⟩) (fun _ => rfl) _).setCell (p := ⟨q, 5, none⟩) (fun _ => rfl) _
  have hzC : ((((((w4.setCell ⟨q, 0, none⟩ (.int .i64 n)).setCell ⟨q, 1, none⟩ (.slice ca cl cc)).setCell ⟨q, 2, none⟩ (.bool true)).setCell ⟨q, 3, none⟩ (.int .i64 V.1)).setCell ⟨q, 4, none⟩ (.slice x lx cx)).setCell ⟨q, 5, none⟩ (.slice none 0 0)).heap[q]? = some (.cells #[.int .i64 n, .slice ca cl cc, .bool true, .int .i64 V.1, .slice x lx cx, .slice none 0 0] 29 (0, 0)) := blk_set ((blk_set ((blk_set ((blk_set ((blk_set ((blk_set (HZ4.out) 0 (.int .i64 n))) 1 (.slice ca cl cc))) 2 (.bool true))) 3 (.int .i64 V.1))) 4 (.slice x lx cx))) 5 (.slice none 0 0)
  generalize (((((w4.setCell ⟨q, 0, none⟩ (.int .i64 n)).setCell ⟨q, 1, none⟩ (.slice ca cl cc)).setCell ⟨q, 2, none⟩ (.bool true)).setCell ⟨q, 3, none⟩ (.int .i64 V.1)).setCell ⟨q, 4, none⟩ (.slice x lx cx)).setCell ⟨q, 5, none⟩ (.slice none 0 0) = wC at hKC hzC ⊢
  obtain ⟨⟨z0, z1, z2, z3, z4, z5⟩, _⟩ := blk6 hzC
  have hKAC : Kept (fun k => k = q ∨ k = q + 1) w3 wC := (HKA.out.wider (fun k e => .inr e)).trans hKC (fun i hi e => .inl e)
  have e1 : stepR (tableR f n) S = stepR (colsR n false) S1 := by rw [table_step, HSS.out, HH4.out, HH1.out, Int.toNat_natCast]; rfl
  refine bodyPost_ret (v := .agg #[.int .i64 n, .slice ca cl cc, .bool true, .int .i64 V.1, .slice x lx cx, .slice none 0 0]) (by simp [results, Tryd.results21, go_sem, z0, z1, z2, z3, z4, z5]) rfl ?_
  refine ⟨ca, cl, cc, L, V, x, lx, cx, rfl, ?_, ?_, ?_, fun hh => ?_, (HK2.out.trans HK3.out (fun i hi e => e)).trans hKAC (fun i hi e => by have := HQE.out; rcases e with e | e <;> omega)⟩
  · rw [e1]; exact HR3.out.kept hKAC (fun k hk e => by rcases e with e | e <;> omega)
  · exact (HO3.out.apart (stays_col 20) hKAC (fun k _ hk e => by rcases e with e | e <;> omega)).sub (stays_col 20) (fun k _ hk => by have := HQE.out; omega)
  · exact ((HX2.out.apart HK3.out (fun k _ hk e => by omega)).apart hKAC (fun k _ hk e => by rcases e with e | e <;> omega)).stay (fun _ _ _ => rfl) (Nat.le_refl _) (fun k _ hk => by have := HQE.out; omega)
  · have hh2 := hh
    rw [e1] at hh2
    rw [table_val hh, HSS.out, ← HVV.out (step_fine hh2), HL3.out hh2, HH2.out, HH4.out, HH1.out, Int.toNat_natCast]
    rfl

theorem rtable {w : World} {p : Nat} {S : BE} (h : Rd w p S) (hT : Tab w) (hp0 : 0 < p) {f : Int} {n : Nat} (hn : n ≤ 4096) :
    Calls Tryd.prog 21 #[.pointer (some ⟨p, 0, none⟩), .int .i64 f, .int .i64 n] w fun e w' => ∃ (ca : Option Addr) (cl cc : Nat) (L : List Col) (m : Bool) (V : Vl) (x : Option Addr) (lx cx : Nat), e = .returned (.agg #[.int .i64 n, .slice ca cl cc, .bool m, .int .i64 V.1, .slice x lx cx, .slice none 0 0]) ∧ Hid (Rd w' p (stepR (tableR f n) S)) ∧ Hid (OwnI 64 8 (VCol 20) w' (fun k => w.heap.size ≤ k) (.slice ca cl cc) L) ∧ Hid (IsBF (fun k => w.heap.size ≤ k) w' x lx cx (sNums V.2)) ∧
      Hid ((stepR (tableR f n) S).2 = 0 → (((n : Nat) : Int), L, m, V, []) = (tableR f n S.1).val) ∧ Hid (Kept (fun k => k = p) w w') := by
  cases h2 : bitX f 2 <;> cases h4 : bitX f 4 <;> cases h1 : bitX f 1
  · exact (rtable_n_false h hT hp0 hn h2 h4 h1).mono (fun e w' ⟨ca, cl, cc, L, V, x, lx, cx, hh⟩ => ⟨ca, cl, cc, L, _, V, x, lx, cx, hh⟩)
  · exact (rtable_n_true h hT hp0 hn h2 h4 h1).mono (fun e w' ⟨ca, cl, cc, L, V, x, lx, cx, hh⟩ => ⟨ca, cl, cc, L, _, V, x, lx, cx, hh⟩)
  · exact (rtable_n_no h hT hp0 hn h2 h4).mono (fun e w' ⟨ca, cl, cc, L, V, x, lx, cx, hh⟩ => ⟨ca, cl, cc, L, _, V, x, lx, cx, hh⟩)
  · exact (rtable_n_no h hT hp0 hn h2 h4).mono (fun e w' ⟨ca, cl, cc, L, V, x, lx, cx, hh⟩ => ⟨ca, cl, cc, L, _, V, x, lx, cx, hh⟩)
  · exact (rtable_m_false h hT hp0 hn h2 h4 h1).mono (fun e w' ⟨ca, cl, cc, L, V, x, lx, cx, hh⟩ => ⟨ca, cl, cc, L, _, V, x, lx, cx, hh⟩)
  · exact (rtable_m_true h hT hp0 hn h2 h4 h1).mono (fun e w' ⟨ca, cl, cc, L, V, x, lx, cx, hh⟩ => ⟨ca, cl, cc, L, _, V, x, lx, cx, hh⟩)
  · exact (rtable_m_no h hT hp0 hn h2 h4).mono (fun e w' ⟨ca, cl, cc, L, V, x, lx, cx, hh⟩ => ⟨ca, cl, cc, L, _, V, x, lx, cx, hh⟩)
  · exact (rtable_m_no h hT hp0 hn h2 h4).mono (fun e w' ⟨ca, cl, cc, L, V, x, lx, cx, hh⟩ => ⟨ca, cl, cc, L, _, V, x, lx, cx, hh⟩)

end Go.Proofs.YtnapeecmlkkolaaDoor

namespace Go.Proofs.YtnapeecmlkkolaaDoor
open Go.RowKit
set_option maxRecDepth 100000
set_option linter.unusedVariables false
set_option linter.unusedSimpArgs false

theorem numX2_bounds {S : BE} (hr : Rng S.1) : 0 ≤ numX 2 S ∧ numX 2 S < 65536 := by
  unfold numX
  split
  · rename_i h0
    have h2 := (step_ok h0).2.1
    have hl : 2 ≤ S.1.length := by
      unfold numR at h2
      split at h2
      · exact absurd h2 (by decide)
      · omega
    have h := numTo_bound S.1 hr 2 hl
    exact ⟨h.1, Int.lt_of_lt_of_le h.2 (by decide)⟩
  · omega

theorem numX_val {S : BE} (h : (stepR (numR 2) S).2 = 0) : numX 2 S = (numR 2 S.1).val := by
  have h2 := (step_ok h).2.1
  unfold numX
  rw [if_pos h]
  unfold numR at h2 ⊢
  split
  · rename_i hl; rw [if_pos hl] at h2; exact absurd h2 (by decide)
  · rfl

/-- One more, with an error or without. -/
theorem loop_any {α : Type} {P : Ps α} {n k : Nat} {S R : BE} {acc L : List α} {x : α} (h : stepR (loopR P (n - k)) S = R ∧ (R.2 = 0 → acc ++ (loopR P (n - k) S.1).val = L)) (hk : k < n) (hx : (stepR P S).2 = 0 → x = (P S.1).val) :
    stepR (loopR P (n - (k + 1))) (stepR P S) = R ∧ (R.2 = 0 → (acc ++ [x]) ++ (loopR P (n - (k + 1)) (stepR P S).1).val = L) := by
  by_cases he : (stepR P S).2 = 0
  · rw [hx he]; exact loop_next h hk he
  · have hr := loop_halt h hk he
    exact ⟨by rw [step_err _ he (step_nrm _ _), hr], fun hh => absurd (by rw [← hr]; exact hh) he⟩

def kbad (n : Int) (l : List Int) : Bool := l.any (fun k => decide (n ≤ k))
theorem kbad_snoc (n : Int) (l : List Int) (x : Int) : kbad n (l ++ [x]) = (kbad n l || decide (n ≤ x)) := by simp [kbad, List.any_append]

set_option maxHeartbeats 2000000 in
theorem rkeys {w : World} {p : Nat} {S : BE} (h : Rd w p S) {n : Int} (hn : 0 ≤ n ∧ n ≤ 4096) :
    Calls Tryd.prog 28 #[.pointer (some ⟨p, 0, none⟩), .int .i64 n] w fun e w' => ∃ v ks, e = .returned v ∧ Hid (Rd w' p (stepR (keysR n) S)) ∧ Hid (OwnI 51 1 VKey w' (fun k => w.heap.size ≤ k) v ks) ∧ Hid ((stepR (keysR n) S).2 = 0 → ks = (keysR n S.1).val) ∧ Hid (Kept (fun k => k = p) w w') := by
  obtain ⟨q, hq⟩ : ∃ q, q = w.heap.size := ⟨_, rfl⟩
  have HQE : Hid (q = w.heap.size) := hq
  have hlt := h.lt
  have hpq : p < q := by omega
  have HR0 : Hid (Rd w p S) := h
  obtain ⟨M, hM⟩ : ∃ M : Nat, M = (manyX S).toNat := ⟨_, rfl⟩
  have hmb := manyX_bounds S
  have HM : Hid (((M : Nat) : Int) = manyX S) := by show _ = _; omega
  have hM2 : M ≤ 4096 := by omega
  obtain ⟨S1, hS1⟩ : ∃ S1, S1 = stepR manyR S := ⟨_, rfl⟩
  obtain ⟨R, hR⟩ : ∃ R, R = stepR (loopR (numR 2) M) S1 := ⟨_, rfl⟩
  obtain ⟨L, hL⟩ : ∃ L, L = (loopR (numR 2) M S1.1).val := ⟨_, rfl⟩
  have hN1 : Nrm S1 := by rw [hS1]; exact step_nrm _ _
  have HRR : Hid (Nrm R) := by rw [hR]; exact step_nrm _ _
  have HRE : Hid ((R.2 ≠ 0 → stepR (keysR n) S = R) ∧ (R.2 = 0 → (kbad n L = true → stepR (keysR n) S = stepR (failR (0 : Int) 11) R) ∧ (kbad n L = false → stepR (keysR n) S = R ∧ (keysR n S.1).val = L))) := by
    have e1 : stepR (keysR n) S = stepR (bindR (loopR (numR 2) (manyR S.1).val.toNat) fun l => if kbad n l = true then failR l 11 else pureR l) S1 := by rw [keysR, step_bind, ← hS1]; rfl
    by_cases h1 : S1.2 = 0
    · have h2 : (manyR S.1).val.toNat = M := by rw [hM, many_val (by rw [← hS1]; exact h1)]
      rw [h2, step_bind, ← hR, ← hL] at e1
      refine ⟨fun hh => by rw [e1, step_err _ hh HRR.out], fun hh => ⟨fun hb => by rw [e1, if_pos hb]; rfl, fun hb => ?_⟩⟩
      have e2 : stepR (keysR n) S = R := by rw [e1, hb, if_neg (by decide), step_pure _ HRR.out]
      refine ⟨e2, ?_⟩
      have h3 : (stepR (keysR n) S).2 = 0 := by rw [e2]; exact hh
      rw [keysR] at h3 ⊢
      rw [bind_val _ _ _ h3, ← hS1, h2]
      rw [step_bind, ← hS1, h2] at h3
      rw [bind_val _ _ _ h3, ← hL]
      show ((if kbad n L = true then failR L 11 else pureR L) _).val = L
      rw [hb, if_neg (by decide)]
      rfl
    · have e2 : stepR (keysR n) S = S1 := by rw [e1, step_err _ h1 hN1]
      have e3 : R = S1 := by rw [hR, step_err _ h1 hN1]
      exact ⟨fun _ => by rw [e2, e3], fun hh => absurd (by rw [← e3]; exact hh) h1⟩
  have HI0 : Hid (stepR (loopR (numR 2) (M - 0)) S1 = R ∧ (R.2 = 0 → [] ++ (loopR (numR 2) (M - 0) S1.1).val = L)) := ⟨hR.symm, fun _ => hL.symm⟩
  have HS1 : Hid (stepR manyR S = S1) := hS1.symm
  clear hR hL hS1 h hq hM hmb hN1
  go_enter Tryd.func28, Tryd.ntmps28
  go_wp2_with fail
  refine (rmany HR0.out HM.out).mono ?_
  rintro r w1 ⟨rfl, HR1, HK1⟩
  rw [HS1.out] at HR1
  go_wp2_with fail
  go_loopw [5, 6, 10] (fun v g i wr => ∃ (k : Nat) (Sk : BE) (acc : List Int) (gb : Bool), k ≤ M ∧ i = .int .i64 k ∧ g = .bool gb ∧ Hid (gb = kbad n acc) ∧ Hid (Rd wr p Sk) ∧ Hid (OwnI 51 1 VKey wr (fun z => q ≤ z) v acc) ∧ Hid (acc.length = k) ∧ Hid (stepR (loopR (numR 2) (M - k)) Sk = R ∧ (R.2 = 0 → acc ++ (loopR (numR 2) (M - k) Sk.1).val = L)) ∧ Hid (Kept (fun z => z = p) w wr)) (fun _ _ i _ => M - (intOf i).toNat)
  case atStart => exact ⟨0, S1, [], false, by omega, rfl, rfl, rfl, HR1, ownI_nil _ _ _ _ _, rfl, HI0, HK1⟩
  case round =>
    obtain ⟨k, Sk, acc, gb, hk, rfl, rfl, HGB, HRk, HO, HLk, HIk, HKk⟩ := hrel
    by_cases hlt2 : k < M
    · have hnb := numX2_bounds HRk.out.rng
      obtain ⟨t, ht⟩ : ∃ t, t = numX 2 Sk := ⟨_, rfl⟩
      rw [← ht] at hnb
      have hw16 : IntKind.u16.wrap t = t := by rw [IntKind.wrap_u16]; omega
      have HTE : Hid (t = numX 2 Sk) := ht
      obtain ⟨d, hd⟩ : ∃ d, decide (n ≤ t) = d := ⟨_, rfl⟩
      have HD : Hid (decide (n ≤ t) = d) := hd
      have HNX : Hid _ := loop_any (x := t) HIk.out hlt2 (fun he => by rw [ht]; exact numX_val he)
      clear ht
      have HGN : Hid ((gb || d) = kbad n (acc ++ [t])) := by show _ = _; rw [kbad_snoc, ← HGB.out, HD.out]
      cases gb <;> cases d
      all_goals
        go_wp2_with fail
        refine (read_short HRk.out).mono ?_
        rintro r w2 ⟨t', rfl, HR2, HPL, HT', HK2⟩
        obtain rfl : t' = t := by rw [HT'.out, HTE.out]
        have HO2 : Hid (OwnI 51 1 VKey w2 (fun z => q ≤ z) u5 acc) := HO.out.apart stays_key HK2.out (fun z _ hz e => by omega)
        have HK2w : Hid (Kept (fun z => z = p) w w2) := HKk.out.trans HK2.out (fun i hi e => e)
        have hs2 : q ≤ w2.heap.size := by have := HK2w.out.size; have := HQE.out; omega
        have HBN : Hid ((w2.alloc (.cells #[.int .u16 t'] 51)).heap[w2.heap.size]? = some (.cells [Value.int .u16 t'].toArray 51 (0, 0))) := heap_alloc_new w2 _
        have HON : Hid (OwnI 51 1 VKey (w2.alloc (.cells #[.int .u16 t'] 51)) (fun z => q ≤ z) u5 acc) := HO2.out.old stays_key (below_one _ _)
        have HXN : Hid (VKey (fun z => z < (w2.alloc (.cells #[.int .u16 t'] 51)).heap.size ∧ u5.ownBlock ≠ some z ∧ q ≤ z) (w2.alloc (.cells #[.int .u16 t'] 51)) t' (fun j => ([Value.int .u16 t'] : List Value).getD j default)) := rfl
        have HFN : Hid ((fun z => q ≤ z) (w2.alloc (.cells #[.int .u16 t'] 51)).heap.size) := by show q ≤ _; simp; omega
        go_wp2_with (at_builtin; refine wpList_appendI rfl (.tmp 22) (.tmp 24) 44 rfl stays_key elem_key rfl HON.out rfl HBN.out rfl ?c1 t' HXN.out HFN.out ?c2 ?c3 ?_)
        case c1 => first | rfl | (intro u hu; simp at hu; rw [hu]; rfl)
        case c2 => rw [HLk.out]; unfold maxLen; omega
        case c3 => rw [HLk.out]; omega
        intro v4 w7 ho7 hK7 hv7
        have hK57 : Kept (fun z => u5.ownBlock = some z) w2 w7 := (kept_of (below_one w2 _)).trans hK7 (fun i hi e => e)
        have hfar : ∀ z, u5.ownBlock = some z → q ≤ z := fun z hz => (HO2.out.lt z hz).1
        have HR7 : Hid (Rd w7 p (stepR (numR 2) Sk)) := HR2.out.kept hK57 (fun z hz e => by have := hfar z e; omega)
        have HO7 : Hid (OwnI 51 1 VKey w7 (fun z => q ≤ z) v4 (acc ++ [t'])) := ho7
        have HK7 : Hid (Kept (fun z => z = p) w w7) := HK2w.out.trans hK57 (fun i hi e => by have := hfar i e; have := HQE.out; omega)
        have HL7 : Hid ((acc ++ [t']).length = k + 1) := by show _ = _; rw [List.length_append, HLk.out]; rfl
        clear hK57 hfar ho7 hK7 hv7
        go_wp2_with fail
        go_roundw
        case rel => exact ⟨k + 1, _, _, _, by omega, by go_num, rfl, HGN, HR7, HO7, HL7, HNX, HK7⟩
        case measure => simp [intOf]; omega
    · have HDN : Hid (R = Sk ∧ (R.2 = 0 → acc = L)) := loop_done HRk.out.nrm HIk.out (by omega)
      have HOF : Hid (OwnI 51 1 VKey wr (fun z => w.heap.size ≤ z) u5 acc) := HO.out.sub stays_key (fun z _ hz => by have := HQE.out; omega)
      cases gb with
      | false =>
        go_wp2_with fail
        go_ret
        have hE : stepR (keysR n) S = R := by
          by_cases h0 : R.2 = 0
          · exact ((HRE.out.2 h0).2 (by rw [← HDN.out.2 h0]; exact HGB.out.symm)).1
          · exact HRE.out.1 h0
        refine ⟨_, acc, rfl, ?_, HOF, fun hh => ?_, HKk⟩
        · rw [hE, HDN.out.1]; exact HRk
        · rw [hE] at hh
          rw [((HRE.out.2 hh).2 (by rw [← HDN.out.2 hh]; exact HGB.out.symm)).2]
          exact HDN.out.2 hh
      | true =>
        go_wp2_with fail
        refine (rfail HRk.out 11 (by decide)).mono ?_
        rintro r w2 ⟨rfl, HR2, HK2⟩
        have HOF2 : Hid (OwnI 51 1 VKey w2 (fun z => w.heap.size ≤ z) u5 acc) := HOF.out.apart stays_key HK2.out (fun z _ hz e => by have := HQE.out; omega)
        go_wp2_with fail
        go_ret
        have hE : stepR (keysR n) S = stepR (failR (0 : Int) 11) R ∧ (stepR (keysR n) S).2 ≠ 0 := by
          by_cases h0 : R.2 = 0
          · have e := (HRE.out.2 h0).1 (by rw [← HDN.out.2 h0]; exact HGB.out.symm)
            exact ⟨e, by rw [e, step_fail _ _ h0 (by decide)]; decide⟩
          · have e := HRE.out.1 h0
            exact ⟨by rw [e, step_err _ h0 HRR.out], by rw [e]; exact h0⟩
        refine ⟨_, acc, rfl, ?_, HOF2, fun hh => absurd hh hE.2, HKk.out.trans HK2.out (fun i hi e => e)⟩
        rw [hE.1, HDN.out.1]; exact HR2

end Go.Proofs.YtnapeecmlkkolaaDoor
