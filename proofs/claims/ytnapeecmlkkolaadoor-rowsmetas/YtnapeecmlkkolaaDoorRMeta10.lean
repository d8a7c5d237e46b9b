/-
  The document's own GetMeta.
-/
import Derived.Test.YtnapeecmlkkolaaDoorCol11
import Derived.Test.YtnapeecmlkkolaaDoorRGet10
import Derived.Test.YtnapeecmlkkolaaDoorMeta10
namespace Go.Proofs.YtnapeecmlkkolaaDoor
open Go.RowKit
set_option maxRecDepth 100000
set_option linter.unusedVariables false
set_option linter.unusedSimpArgs false

theorem meta_cols : Eqv metaR (bindR (colsP true) fun a => bindR (colsP false) fun b => pureR (a.1, a.2, b.2)) := by
  refine Eqv.symm ?_
  refine (bind_assoc _ _ _).trans (bind_congr (fun h => ?_))
  refine (show Eqv (bindR (bindR (keysR h.2) _) _) _ from bind_assoc _ _ _).trans (bind_congr (fun ks => ?_))
  refine (bind_assoc _ _ _).trans (bind_congr (fun t => ?_))
  refine pure_bind.trans ?_
  refine (bind_assoc _ _ _).trans (bind_congr (fun h2 => ?_))
  refine (bind_assoc _ _ _).trans ((show Eqv (bindR (pureR ([] : List Int)) _) _ from pure_bind).trans ?_)
  exact (bind_assoc _ _ _).trans (bind_congr (fun u => pure_bind))

theorem end_of_meta {zs : List Int} {X : Res (List Int × Tb × Tb)} (hX : X = metaR zs) : endE metaR zs = if X.err = 0 then (if X.done < zs.length then 23 else 0) else X.err := by subst hX; rfl

theorem table_rr {f n : Int} {Z : List Int} {Y : Res Tb} (hY : Y = tableR f n Z) (h : Y.err = 0) : Y.val.2.2.2.2 = [] := by
  have hR : Reads Y Z 0 (bindR (optR (bitX f 2) v0 valueR) fun s => bindR (optR (!bitX f 4) [] (colsR n.toNat (bitX f 1))) fun l => pureR ((n, l, bitX f 2, s, []) : Tb)) 0 id := reads_start (tableR f n) (by simpa using hY)
  by_cases h1 : (optR (bitX f 2) v0 valueR (Z.drop 0)).err = 0
  · have hR2 := reads_ok hR h1
    by_cases h2 : (optR (!bitX f 4) [] (colsR n.toNat (bitX f 1)) (Z.drop (0 + (optR (bitX f 2) v0 valueR (Z.drop 0)).done))).err = 0
    · have hR3 := reads_ok hR2 h2
      obtain ⟨_, _, h5⟩ := reads_pure hR3
      rw [h5]; rfl
    · exact absurd (h.symm.trans (reads_err hR2 h2)).symm h2
  · exact absurd (h.symm.trans (reads_err hR h1)).symm h1

theorem cols_rr {b : Bool} {Z : List Int} {Y : Res (List Int × Tb)} (hY : Y = colsP b Z) (h : Y.err = 0) : Y.val.2.2.2.2.2 = [] := by
  have hR : Reads Y Z 0 (bindR headR fun h => bindR (optR b [] (keysR h.2)) fun ks => bindR (tableR h.1 h.2) fun t => pureR (ks, t)) 0 id := reads_start (colsP b) (by simpa using hY)
  by_cases h1 : (headR (Z.drop 0)).err = 0
  · have hR1 := reads_ok hR h1
    by_cases hk : (optR b [] (keysR (headR (Z.drop 0)).val.2) (Z.drop (0 + (headR (Z.drop 0)).done))).err = 0
    · have hR2 := reads_ok hR1 hk
      by_cases h2 : (tableR (headR (Z.drop 0)).val.1 (headR (Z.drop 0)).val.2 (Z.drop (0 + (headR (Z.drop 0)).done + (optR b [] (keysR (headR (Z.drop 0)).val.2) (Z.drop (0 + (headR (Z.drop 0)).done))).done))).err = 0
      · have hR3 := reads_ok hR2 h2
        obtain ⟨_, _, h5⟩ := reads_pure hR3
        rw [h5]
        exact table_rr rfl h2
      · exact absurd (h.symm.trans (reads_err hR2 h2)).symm h2
    · exact absurd (h.symm.trans (reads_err hR1 hk)).symm hk
  · exact absurd (h.symm.trans (reads_err hR h1)).symm h1

/-- What the document's GetMeta answers. -/
def MetE (w : World) (zs : List Int) (e : Ending) (w' : World) : Prop :=
  ∃ (ks : List Int) (T U : Tb) (ca : Option Addr) (cc : Nat) (ca2 : Option Addr) (cc2 : Nat) (ja : Option Addr) (jc : Nat), e = .returned (.tuple #[.agg #[.int .i64 T.1, .slice ca T.2.1.length cc, .bool T.2.2.1, .int .i64 T.2.2.2.1.1, .string T.2.2.2.1.2, .slice none 0 0], .agg #[.int .i64 U.1, .slice ca2 U.2.1.length cc2, .bool U.2.2.1, .int .i64 U.2.2.2.1.1, .string U.2.2.2.1.2, .slice none 0 0], .slice ja ks.length jc, .int .i64 (endE metaR zs)]) ∧
    Hid (OwnI 83 8 (VCol 20) w' (fun z => w.heap.size ≤ z) (.slice ca T.2.1.length cc) T.2.1) ∧ Hid (OwnI 83 8 (VCol 20) w' (fun z => w.heap.size ≤ z) (.slice ca2 U.2.1.length cc2) U.2.1) ∧ Hid (OwnI 51 1 VKey w' (fun z => w.heap.size ≤ z) (.slice ja ks.length jc) ks) ∧
    Hid ((ks, T, U) = if endE metaR zs = 0 then (metaR zs).val else ([], tb0, tb0)) ∧ Hid (Below w.heap.size w w')

set_option maxHeartbeats 8000000 in
theorem mget_any {w : World} {a : Option Addr} {len cap : Nat} {zs : List Int} (h : IsB w a len cap zs) (hsm : len ≤ 1000000) :
    Calls Tryd.prog 15 #[.slice a len cap] w fun e w' => MetE w zs e w' := by
  obtain ⟨r, hr⟩ : ∃ r, r = w.heap.size := ⟨_, rfl⟩
  have HRE : Hid (w.heap.size = r) := hr.symm
  obtain ⟨r2, hr2⟩ : ∃ r2, r2 = r + 1 := ⟨_, rfl⟩
  have HR2E : Hid (r + 1 = r2) := hr2.symm
  obtain ⟨w0, hw0⟩ : ∃ w0, w0 = (w.alloc (.cells #[.int .i64 0, .slice none 0 0, .bool false, .int .i64 0, .string ⟨#[]⟩, .slice none 0 0] 38)).alloc (.cells #[.int .i64 0, .slice none 0 0, .bool false, .int .i64 0, .string ⟨#[]⟩, .slice none 0 0] 38) := ⟨_, rfl⟩
  have HW0 : Hid ((w.alloc (.cells #[.int .i64 0, .slice none 0 0, .bool false, .int .i64 0, .string ⟨#[]⟩, .slice none 0 0] 38)).alloc (.cells #[.int .i64 0, .slice none 0 0, .bool false, .int .i64 0, .string ⟨#[]⟩, .slice none 0 0] 38) = w0) := hw0.symm
  have HB0 : Hid (Below w.heap.size w w0) := by rw [hw0]; exact (below_one _ _).alloc (by simp) _
  have HZ0 : Hid (w0.heap[r]? = some (.cells #[.int .i64 0, .slice none 0 0, .bool false, .int .i64 0, .string ⟨#[]⟩, .slice none 0 0] 38 (0, 0))) := by
    show _ = _
    rw [hw0, hr]
    exact ((below_one (w.alloc (.cells #[.int .i64 0, .slice none 0 0, .bool false, .int .i64 0, .string ⟨#[]⟩, .slice none 0 0] 38)) _).block w.heap.size (by simp)).trans (heap_alloc_new w _)
  have HY0 : Hid (w0.heap[r2]? = some (.cells #[.int .i64 0, .slice none 0 0, .bool false, .int .i64 0, .string ⟨#[]⟩, .slice none 0 0] 38 (0, 0))) := by
    show _ = _
    rw [hw0, hr2, hr]
    have hsz : (w.alloc (.cells #[.int .i64 0, .slice none 0 0, .bool false, .int .i64 0, .string ⟨#[]⟩, .slice none 0 0] 38)).heap.size = w.heap.size + 1 := by simp
    rw [← hsz]
    exact heap_alloc_new _ _
  have HS0 : Hid (r2 < w0.heap.size) := block_lt HY0.out
  have HI : Hid (IsB w a len cap zs) := h
  have H0 : Hid (IsB w0 a len cap zs) := h.old HB0.out
  have HZL : Hid (zs.length = len) := h.1
  have hlm : len ≤ 1000000 := hsm
  obtain ⟨X, hX⟩ : ∃ X, X = metaR zs := ⟨_, rfl⟩
  have HEND : Hid (endE metaR zs = if X.err = 0 then (if X.done < zs.length then 23 else 0) else X.err) := end_of_meta hX
  have HXV : Hid (X = metaR zs) := hX
  have HR1 : Hid (Reads X zs 0 (bindR (colsP true) fun a => bindR (colsP false) fun b => pureR (a.1, a.2, b.2)) 0 id) := reads_eqv (reads_start metaR (by simpa using hX)) meta_cols
  obtain ⟨Y1, hY1⟩ : ∃ Y1, Y1 = colsP true (zs.drop 0) := ⟨_, rfl⟩
  have HYA : Hid (Y1 = colsP true (zs.drop 0)) := hY1
  clear hr hr2 hw0 h hX hY1
  go_enter Tryd.func15, Tryd.ntmps15
  go_upto_region 1 with fail
  (try rw [HRE.out])
  (try rw [HR2E.out])
  rw [HW0.out]
  clear HW0
  go_wp2_with fail
  refine (cols_yes H0.out hsm 0 (Nat.zero_le _) 0 rfl HYA.out).mono ?_
  rintro e w1 ⟨n0, ca, cl, cc, mo, sk, sb, ja, jl, jc, rfl, HBC, HD1, HV1⟩
  have hb1 := HBC.out
  have HZ1 : Hid (w1.heap[r]? = some (.cells #[.int .i64 0, .slice none 0 0, .bool false, .int .i64 0, .string ⟨#[]⟩, .slice none 0 0] 38 (0, 0))) := (hb1.block r (block_lt HZ0.out)).trans HZ0.out
  have HY1 : Hid (w1.heap[r2]? = some (.cells #[.int .i64 0, .slice none 0 0, .bool false, .int .i64 0, .string ⟨#[]⟩, .slice none 0 0] 38 (0, 0))) := (hb1.block r2 (block_lt HY0.out)).trans HY0.out
  have HB1 : Hid (Below w.heap.size w w1) := HB0.out.trans (hb1.mono HB0.out.size)
  have H1 : Hid (IsB w1 a len cap zs) := HI.out.old HB1.out
  obtain ⟨g, hg⟩ : ∃ g, g = w1.heap.size := ⟨_, rfl⟩
  have HGE : Hid (w1.heap.size = g) := hg.symm
  have HRG : Hid (r2 < g) := by show r2 < g; rw [hg]; exact block_lt HY1.out
  obtain ⟨w2, hw2⟩ : ∃ w2, w2 = w1.alloc (.cells #[.int .i64 n0, .slice ca cl cc, .bool mo, .int .i64 sk, .string sb, .slice none 0 0] 38) := ⟨_, rfl⟩
  have HW2 : Hid (w1.alloc (.cells #[.int .i64 n0, .slice ca cl cc, .bool mo, .int .i64 sk, .string sb, .slice none 0 0] 38) = w2) := hw2.symm
  have HG2 : Hid (w2.heap[g]? = some (.cells #[.int .i64 n0, .slice ca cl cc, .bool mo, .int .i64 sk, .string sb, .slice none 0 0] 38 (0, 0))) := by rw [hw2, hg]; exact heap_alloc_new w1 _
  have hb2 : Below w1.heap.size w1 w2 := by rw [hw2]; exact below_one _ _
  have HKB : Hid (Below w1.heap.size w1 w2) := hb2
  have HZ2 : Hid (w2.heap[r]? = some (.cells #[.int .i64 0, .slice none 0 0, .bool false, .int .i64 0, .string ⟨#[]⟩, .slice none 0 0] 38 (0, 0))) := (hb2.block r (block_lt HZ1.out)).trans HZ1.out
  have HY2 : Hid (w2.heap[r2]? = some (.cells #[.int .i64 0, .slice none 0 0, .bool false, .int .i64 0, .string ⟨#[]⟩, .slice none 0 0] 38 (0, 0))) := (hb2.block r2 (block_lt HY1.out)).trans HY1.out
  have HB2 : Hid (Below w.heap.size w w2) := HB1.out.trans (hb2.mono HB1.out.size)
  have H2 : Hid (IsB w2 a len cap zs) := HI.out.old HB2.out
  clear hb1 hb2 hg hw2 H0 HB0 HZ0 HY0 HZ1 HB1 H1
  go_upto_if 20 with fail
  rw [HW2.out]
  (try rw [HGE.out])
  clear HW2
  by_cases e1 : Y1.err = 0
  case neg =>
    have hx : X.err = Y1.err := (reads_err HR1.out (by rw [← HYA.out]; exact e1)).trans (by rw [← HYA.out])
    obtain ⟨ce, hce⟩ : ∃ ce, ce = Y1.err := ⟨_, rfl⟩
    have hce0 : (ce != 0) = true := by rw [hce]; simpa using e1
    have HCE : Hid (Y1.err = ce) := hce.symm
    have HNZ : Hid (ce ≠ 0) := by show ce ≠ 0; rw [hce]; exact e1
    have HEX : Hid (endE metaR zs = ce) := by show _ = _; rw [HEND.out, if_neg (by rw [hx, ← hce]; exact HNZ.out), hx, hce]
    have HPY : Hid (place 0 Y1 = 0) := place_err e1
    clear hx hce
    rw [HCE.out]
    (try rw [HPY.out])
    clear e1
    obtain ⟨wE, hwE, hE6, hKE⟩ := fill6 HZ2.out (.int .i64 0) (.slice none 0 0) (.bool false) (.int .i64 0) (.string ⟨#[]⟩) (.slice none 0 0)
    have hY2 := (hKE.block r2 (block_lt HY2.out) (by have := HR2E.out; omega)).trans HY2.out
    obtain ⟨wF, hwF, hF6, hKF⟩ := fill6 hY2 (.int .i64 0) (.slice none 0 0) (.bool false) (.int .i64 0) (.string ⟨#[]⟩) (.slice none 0 0)
    have HWE : Hid _ := hwE
    have HWF : Hid _ := hwF
    have HF6 : Hid _ := hF6
    have HE6 : Hid _ := (hKF.block r (block_lt hE6) (by have := HR2E.out; omega)).trans hE6
    have hKA : Kept (fun k => k = r ∨ k = r2) w2 wF := (hKE.wider (fun k e => .inl e)).trans hKF (fun k _ e => .inr e)
    have HBF : Hid (Below w.heap.size w wF) := HB2.out.trans (hKA.below HB2.out.size (fun z _ e => by have := HRE.out; have := HR2E.out; omega))
    have HEE : Hid (endE metaR zs = ce) := HEX.out
    obtain ⟨_, f0, f1, f2, f3, f4, f5⟩ := blk6 HZ2.out
    obtain ⟨_, f6, f7, f8, f9, f10, f11⟩ := blk6 HY2.out
    have hlr := block_lt HZ2.out
    have hly := block_lt HY2.out
    have hne1 : ¬ r2 = r := by have := HR2E.out; omega
    have hne2 : ¬ r = r2 := by have := HR2E.out; omega
    clear hwE hE6 hKE hY2 hwF hF6 hKF hKA
    go_wp2_with fail
    rw [HWE.out, HWF.out]
    obtain ⟨⟨p0, p1, p2, p3, p4, p5⟩, _⟩ := blk6 HE6.out
    obtain ⟨⟨p6, p7, p8, p9, p10, p11⟩, _⟩ := blk6 HF6.out
    exact bodyPost_ret (v := .tuple #[.agg #[.int .i64 0, .slice none 0 0, .bool false, .int .i64 0, .string ⟨#[]⟩, .slice none 0 0], .agg #[.int .i64 0, .slice none 0 0, .bool false, .int .i64 0, .string ⟨#[]⟩, .slice none 0 0], .slice none 0 0, .int .i64 ce]) (by simp [results, Tryd.results15, go_sem, p0, p1, p2, p3, p4, p5, p6, p7, p8, p9, p10, p11]) rfl
      ⟨[], tb0, tb0, none, 0, none, 0, none, 0, by rw [HEE.out]; rfl, ownI_nil _ _ _ _ _, ownI_nil _ _ _ _ _, ownI_nil _ _ _ _ _, by show (([] : List Int), tb0, tb0) = _; rw [if_neg (by rw [HEE.out]; exact HNZ.out)], HBF⟩
  case pos =>
    obtain ⟨hn0, hcl, hmo, hsk, hsb, hjl, hoc, hok⟩ := HV1.out e1
    have hd1 := HD1.out e1
    have hR2 := reads_ok HR1.out (by rw [← HYA.out]; exact e1)
    rw [← HYA.out] at hR2
    have HP1 : Hid (place 0 Y1 = ((0 + Y1.done : Nat) : Int)) := place_ok e1
    have HE1 : Hid (Y1.err = 0) := e1
    (try rw [HE1.out])
    rw [HP1.out]
    obtain ⟨⟨ks, tn, L, mo', ⟨vk', vb'⟩, rr⟩, hks⟩ : ∃ z, z = Y1.val := ⟨_, rfl⟩
    rw [← hks] at hn0 hcl hmo hsk hsb hjl hoc hok hR2
    simp only at hn0 hcl hmo hsk hsb hjl hoc hok
    subst hn0 hcl hmo hsk hsb hjl
    have HC2 : Hid (OwnI 83 8 (VCol 20) w2 (fun z => r2 < z) (.slice ca L.length cc) L) := (hoc.sub (stays_col 20) (fun z hz hf => by have := HS0.out; omega)).old (stays_col 20) HKB.out
    have HU2 : Hid (OwnI 51 1 VKey w2 (fun z => r2 < z) (.slice ja ks.length jc) ks) := (hok.sub stays_key (fun z hz hf => by have := HS0.out; omega)).old stays_key HKB.out
    have HR2 : Hid (Reads X zs 0 (bindR (colsP false) fun b => pureR (ks, (n0, L, mo, (sk, sb), rr), b.2)) (0 + Y1.done) id) := hR2
    obtain ⟨pos, hpos⟩ : ∃ pos, pos = 0 + Y1.done := ⟨_, rfl⟩
    have hpl : pos ≤ len := by omega
    rw [← hpos] at HR2 ⊢
    obtain ⟨Y2, hY2⟩ : ∃ Y2, Y2 = colsP false (zs.drop pos) := ⟨_, rfl⟩
    have HY2v : Hid (Y2 = colsP false (zs.drop pos)) := hY2
    have HRR : Hid (rr = []) := by
      have h9 := cols_rr HYA.out e1
      rw [← hks] at h9
      exact h9
    clear hks hoc hok hR2 hd1 hpos e1 HE1 HP1 HV1 HD1 HYA HR1 HBC hY2
    go_wp2_with fail
    refine (cols_no H2.out hsm pos hpl _ rfl HY2v.out).mono ?_
    rintro e w3 ⟨n2, ca2, cl2, cc2, mo2, sk2, sb2, ja2, jl2, jc2, rfl, HBC, HD2, HV2⟩
    have hb3 := HBC.out
    have HZ3 : Hid (w3.heap[r]? = some (.cells #[.int .i64 0, .slice none 0 0, .bool false, .int .i64 0, .string ⟨#[]⟩, .slice none 0 0] 38 (0, 0))) := (hb3.block r (block_lt HZ2.out)).trans HZ2.out
    have HY3 : Hid (w3.heap[r2]? = some (.cells #[.int .i64 0, .slice none 0 0, .bool false, .int .i64 0, .string ⟨#[]⟩, .slice none 0 0] 38 (0, 0))) := (hb3.block r2 (block_lt HY2.out)).trans HY2.out
    have HG3 : Hid (w3.heap[g]? = some (.cells #[.int .i64 n0, .slice ca L.length cc, .bool mo, .int .i64 sk, .string sb, .slice none 0 0] 38 (0, 0))) := (hb3.block g (block_lt HG2.out)).trans HG2.out
    have HB3 : Hid (Below w.heap.size w w3) := HB2.out.trans (hb3.mono HB2.out.size)
    have H3 : Hid (IsB w3 a len cap zs) := HI.out.old HB3.out
    have HC3 : Hid (OwnI 83 8 (VCol 20) w3 (fun z => r2 < z) (.slice ca L.length cc) L) := HC2.out.old (stays_col 20) hb3
    have HU3 : Hid (OwnI 51 1 VKey w3 (fun z => r2 < z) (.slice ja ks.length jc) ks) := HU2.out.old stays_key hb3
    have HS2 : Hid (r2 < w2.heap.size) := block_lt HY2.out
    obtain ⟨k, hk⟩ : ∃ k, k = w3.heap.size := ⟨_, rfl⟩
    have HKE : Hid (w3.heap.size = k) := hk.symm
    have HRK : Hid (r2 < k) := by show r2 < k; rw [hk]; exact block_lt HY3.out
    obtain ⟨w4, hw4⟩ : ∃ w4, w4 = w3.alloc (.cells #[.int .i64 n2, .slice ca2 cl2 cc2, .bool mo2, .int .i64 sk2, .string sb2, .slice none 0 0] 38) := ⟨_, rfl⟩
    have HW4 : Hid (w3.alloc (.cells #[.int .i64 n2, .slice ca2 cl2 cc2, .bool mo2, .int .i64 sk2, .string sb2, .slice none 0 0] 38) = w4) := hw4.symm
    have HK4 : Hid (w4.heap[k]? = some (.cells #[.int .i64 n2, .slice ca2 cl2 cc2, .bool mo2, .int .i64 sk2, .string sb2, .slice none 0 0] 38 (0, 0))) := by rw [hw4, hk]; exact heap_alloc_new w3 _
    have hb4 : Below w3.heap.size w3 w4 := by rw [hw4]; exact below_one _ _
    have HKB4 : Hid (Below w3.heap.size w3 w4) := hb4
    have HZ4 : Hid (w4.heap[r]? = some (.cells #[.int .i64 0, .slice none 0 0, .bool false, .int .i64 0, .string ⟨#[]⟩, .slice none 0 0] 38 (0, 0))) := (hb4.block r (block_lt HZ3.out)).trans HZ3.out
    have HY4 : Hid (w4.heap[r2]? = some (.cells #[.int .i64 0, .slice none 0 0, .bool false, .int .i64 0, .string ⟨#[]⟩, .slice none 0 0] 38 (0, 0))) := (hb4.block r2 (block_lt HY3.out)).trans HY3.out
    have HG4 : Hid (w4.heap[g]? = some (.cells #[.int .i64 n0, .slice ca L.length cc, .bool mo, .int .i64 sk, .string sb, .slice none 0 0] 38 (0, 0))) := (hb4.block g (block_lt HG3.out)).trans HG3.out
    have HB4 : Hid (Below w.heap.size w w4) := HB3.out.trans (hb4.mono HB3.out.size)
    have H4 : Hid (IsB w4 a len cap zs) := HI.out.old HB4.out
    have HC4 : Hid (OwnI 83 8 (VCol 20) w4 (fun z => r2 < z) (.slice ca L.length cc) L) := HC3.out.old (stays_col 20) hb4
    have HU4 : Hid (OwnI 51 1 VKey w4 (fun z => r2 < z) (.slice ja ks.length jc) ks) := HU3.out.old stays_key hb4
    clear hb3 hb4 hk hw4 HZ2 HY2 HG2 HB2 H2 HC2 HU2 HKB HZ3 HY3 HG3 HB3 H3 HC3 HU3
    go_upto_if 33 with fail
    rw [HW4.out]
    (try rw [HKE.out])
    clear HW4
    by_cases e2 : Y2.err = 0
    case neg =>
      have hx : X.err = Y2.err := (reads_err HR2.out (by rw [← HY2v.out]; exact e2)).trans (by rw [← HY2v.out])
      obtain ⟨ce, hce⟩ : ∃ ce, ce = Y2.err := ⟨_, rfl⟩
      have hce0 : (ce != 0) = true := by rw [hce]; simpa using e2
      have HCE : Hid (Y2.err = ce) := hce.symm
      have HNZ : Hid (ce ≠ 0) := by show ce ≠ 0; rw [hce]; exact e2
      have HEX : Hid (endE metaR zs = ce) := by show _ = _; rw [HEND.out, if_neg (by rw [hx, ← hce]; exact HNZ.out), hx, hce]
      have HPY : Hid (place pos Y2 = 0) := place_err e2
      clear hx hce
      rw [HCE.out]
      (try rw [HPY.out])
      clear e2
      obtain ⟨wE, hwE, hE6, hKE⟩ := fill6 HZ4.out (.int .i64 0) (.slice none 0 0) (.bool false) (.int .i64 0) (.string ⟨#[]⟩) (.slice none 0 0)
      have hY2 := (hKE.block r2 (block_lt HY4.out) (by have := HR2E.out; omega)).trans HY4.out
      obtain ⟨wF, hwF, hF6, hKF⟩ := fill6 hY2 (.int .i64 0) (.slice none 0 0) (.bool false) (.int .i64 0) (.string ⟨#[]⟩) (.slice none 0 0)
      have HWE : Hid _ := hwE
      have HWF : Hid _ := hwF
      have HF6 : Hid _ := hF6
      have HE6 : Hid _ := (hKF.block r (block_lt hE6) (by have := HR2E.out; omega)).trans hE6
      have hKA : Kept (fun k => k = r ∨ k = r2) w4 wF := (hKE.wider (fun k e => .inl e)).trans hKF (fun k _ e => .inr e)
      have HBF : Hid (Below w.heap.size w wF) := HB4.out.trans (hKA.below HB4.out.size (fun z _ e => by have := HRE.out; have := HR2E.out; omega))
      have HEE : Hid (endE metaR zs = ce) := HEX.out
      obtain ⟨_, f0, f1, f2, f3, f4, f5⟩ := blk6 HZ4.out
      obtain ⟨_, f6, f7, f8, f9, f10, f11⟩ := blk6 HY4.out
      have hlr := block_lt HZ4.out
      have hly := block_lt HY4.out
      have hne1 : ¬ r2 = r := by have := HR2E.out; omega
      have hne2 : ¬ r = r2 := by have := HR2E.out; omega
      clear hwE hE6 hKE hY2 hwF hF6 hKF hKA
      go_wp2_with fail
      rw [HWE.out, HWF.out]
      obtain ⟨⟨p0, p1, p2, p3, p4, p5⟩, _⟩ := blk6 HE6.out
      obtain ⟨⟨p6, p7, p8, p9, p10, p11⟩, _⟩ := blk6 HF6.out
      exact bodyPost_ret (v := .tuple #[.agg #[.int .i64 0, .slice none 0 0, .bool false, .int .i64 0, .string ⟨#[]⟩, .slice none 0 0], .agg #[.int .i64 0, .slice none 0 0, .bool false, .int .i64 0, .string ⟨#[]⟩, .slice none 0 0], .slice none 0 0, .int .i64 ce]) (by simp [results, Tryd.results15, go_sem, p0, p1, p2, p3, p4, p5, p6, p7, p8, p9, p10, p11]) rfl
        ⟨[], tb0, tb0, none, 0, none, 0, none, 0, by rw [HEE.out]; rfl, ownI_nil _ _ _ _ _, ownI_nil _ _ _ _ _, ownI_nil _ _ _ _ _, by show (([] : List Int), tb0, tb0) = _; rw [if_neg (by rw [HEE.out]; exact HNZ.out)], HBF⟩
    case pos =>
      obtain ⟨hn2, hcl2, hmo2, hsk2, hsb2, _, hoc2, _⟩ := HV2.out e2
      have hd2 := HD2.out e2
      have hR3 := reads_ok HR2.out (by rw [← HY2v.out]; exact e2)
      rw [← HY2v.out] at hR3
      have HP2 : Hid (place pos Y2 = ((pos + Y2.done : Nat) : Int)) := place_ok e2
      have HE2 : Hid (Y2.err = 0) := e2
      (try rw [HE2.out])
      rw [HP2.out]
      have HRR2 : Hid (Y2.val.2.2.2.2.2 = []) := cols_rr HY2v.out e2
      obtain ⟨⟨ks2, tn2, L2, mo2', ⟨vk2', vb2'⟩, rr2⟩, hks2⟩ : ∃ z, z = Y2.val := ⟨_, rfl⟩
      rw [← hks2] at hn2 hcl2 hmo2 hsk2 hsb2 hoc2 hR3 HRR2
      simp only at hn2 hcl2 hmo2 hsk2 hsb2 hoc2
      subst hn2 hcl2 hmo2 hsk2 hsb2
      have hrr2 : rr2 = [] := HRR2.out
      have hrr : rr = [] := HRR.out
      subst hrr2 hrr
      have HD4 : Hid (OwnI 83 8 (VCol 20) w4 (fun z => r2 < z) (.slice ca2 L2.length cc2) L2) := (hoc2.sub (stays_col 20) (fun z hz hf => by have := HS2.out; omega)).old (stays_col 20) HKB4.out
      obtain ⟨x1, x2, x3⟩ := reads_pure hR3
      replace x3 : X.val = (ks, (n0, L, mo, (sk, sb), []), (n2, L2, mo2, (sk2, sb2), [])) := x3
      obtain ⟨ps, hps⟩ : ∃ ps, ps = pos + Y2.done := ⟨_, rfl⟩
      have hpsl : ps ≤ len := by omega
      rw [← hps] at x2 ⊢
      clear hks2 hoc2 hR3 hd2 hps e2 HE2 HP2 HV2 HD2 HY2v HR2 HBC HRR HRR2
      by_cases hz : ps = len
      case neg =>
        have hpn : ((ps : Int) != (len : Int)) = true := by simp; omega
        have HNZ : Hid ((23 : Int) ≠ 0) := by show (23 : Int) ≠ 0; decide
        have HEX : Hid (endE metaR zs = 23) := by show _ = _; rw [HEND.out, if_pos x1, if_pos (by rw [HZL.out]; omega)]
        clear x1 x2 x3
        obtain ⟨wE, hwE, hE6, hKE⟩ := fill6 HZ4.out (.int .i64 0) (.slice none 0 0) (.bool false) (.int .i64 0) (.string ⟨#[]⟩) (.slice none 0 0)
        have hY2 := (hKE.block r2 (block_lt HY4.out) (by have := HR2E.out; omega)).trans HY4.out
        obtain ⟨wF, hwF, hF6, hKF⟩ := fill6 hY2 (.int .i64 0) (.slice none 0 0) (.bool false) (.int .i64 0) (.string ⟨#[]⟩) (.slice none 0 0)
        have HWE : Hid _ := hwE
        have HWF : Hid _ := hwF
        have HF6 : Hid _ := hF6
        have HE6 : Hid _ := (hKF.block r (block_lt hE6) (by have := HR2E.out; omega)).trans hE6
        have hKA : Kept (fun k => k = r ∨ k = r2) w4 wF := (hKE.wider (fun k e => .inl e)).trans hKF (fun k _ e => .inr e)
        have HBF : Hid (Below w.heap.size w wF) := HB4.out.trans (hKA.below HB4.out.size (fun z _ e => by have := HRE.out; have := HR2E.out; omega))
        have HEE : Hid (endE metaR zs = 23) := HEX.out
        obtain ⟨_, f0, f1, f2, f3, f4, f5⟩ := blk6 HZ4.out
        obtain ⟨_, f6, f7, f8, f9, f10, f11⟩ := blk6 HY4.out
        have hlr := block_lt HZ4.out
        have hly := block_lt HY4.out
        have hne1 : ¬ r2 = r := by have := HR2E.out; omega
        have hne2 : ¬ r = r2 := by have := HR2E.out; omega
        clear hwE hE6 hKE hY2 hwF hF6 hKF hKA
        go_wp2_with fail
        rw [HWE.out, HWF.out]
        obtain ⟨⟨p0, p1, p2, p3, p4, p5⟩, _⟩ := blk6 HE6.out
        obtain ⟨⟨p6, p7, p8, p9, p10, p11⟩, _⟩ := blk6 HF6.out
        exact bodyPost_ret (v := .tuple #[.agg #[.int .i64 0, .slice none 0 0, .bool false, .int .i64 0, .string ⟨#[]⟩, .slice none 0 0], .agg #[.int .i64 0, .slice none 0 0, .bool false, .int .i64 0, .string ⟨#[]⟩, .slice none 0 0], .slice none 0 0, .int .i64 23]) (by simp [results, Tryd.results15, go_sem, p0, p1, p2, p3, p4, p5, p6, p7, p8, p9, p10, p11]) rfl
          ⟨[], tb0, tb0, none, 0, none, 0, none, 0, by rw [HEE.out]; rfl, ownI_nil _ _ _ _ _, ownI_nil _ _ _ _ _, ownI_nil _ _ _ _ _, by show (([] : List Int), tb0, tb0) = _; rw [if_neg (by rw [HEE.out]; exact HNZ.out)], HBF⟩
      case pos =>
        subst hz
        have HEX : Hid (endE metaR zs = 0) := by show _ = _; rw [HEND.out, if_pos x1, if_neg (by rw [HZL.out]; omega)]
        have HXT : Hid ((metaR zs).val = (ks, (n0, L, mo, (sk, sb), []), (n2, L2, mo2, (sk2, sb2), []))) := by show _ = _; rw [← HXV.out]; exact x3
        have HFIN : Hid (∀ wF : World, Kept (fun k => k = r ∨ k = r2) w4 wF → wF.heap[r]? = some (.cells #[.int .i64 n0, .slice ca L.length cc, .bool mo, .int .i64 sk, .string sb, .slice none 0 0] 38 (0, 0)) → wF.heap[r2]? = some (.cells #[.int .i64 n2, .slice ca2 L2.length cc2, .bool mo2, .int .i64 sk2, .string sb2, .slice none 0 0] 38 (0, 0)) → MetE w zs (.returned (.tuple #[.agg #[.int .i64 n0, .slice ca L.length cc, .bool mo, .int .i64 sk, .string sb, .slice none 0 0], .agg #[.int .i64 n2, .slice ca2 L2.length cc2, .bool mo2, .int .i64 sk2, .string sb2, .slice none 0 0], .slice ja ks.length jc, .int .i64 0])) wF) := by
          intro wF hK h1 h2
          have hne : ∀ z, z < w4.heap.size → r2 < z → ¬ (z = r ∨ z = r2) := fun z _ hf e => by have := HR2E.out; omega
          have hsub : ∀ z, z < wF.heap.size → r2 < z → w.heap.size ≤ z := fun z _ hf => by have := HR2E.out; have := HRE.out; omega
          exact ⟨ks, (n0, L, mo, (sk, sb), []), (n2, L2, mo2, (sk2, sb2), []), ca, cc, ca2, cc2, ja, jc, by rw [HEX.out], (HC4.out.apart (stays_col 20) hK hne).sub (stays_col 20) hsub, (HD4.out.apart (stays_col 20) hK hne).sub (stays_col 20) hsub, (HU4.out.apart stays_key hK hne).sub stays_key hsub,
            by show _ = _; rw [if_pos HEX.out]; exact HXT.out.symm, HB4.out.trans (hK.below HB4.out.size (fun z _ e => by have := HR2E.out; have := HRE.out; omega))⟩
        obtain ⟨_, f0, f1, f2, f3, f4, f5⟩ := blk6 HZ4.out
        obtain ⟨_, f6, f7, f8, f9, f10, f11⟩ := blk6 HY4.out
        obtain ⟨⟨g0, g1, g2, g3, g4, g5⟩, _⟩ := blk6 HG4.out
        obtain ⟨⟨k0, k1, k2, k3, k4, k5⟩, _⟩ := blk6 HK4.out
        have hlr := block_lt HZ4.out
        have hly := block_lt HY4.out
        have hlg := block_lt HG4.out
        have hlk := block_lt HK4.out
        have hne1 : ¬ r2 = r := by have := HR2E.out; omega
        have hne2 : ¬ r = r2 := by have := HR2E.out; omega
        have hne3 : ¬ g = r := by have := HR2E.out; have := HRG.out; omega
        have hne4 : ¬ g = r2 := by have := HRG.out; omega
        have hne5 : ¬ k = r := by have := HR2E.out; have := HRK.out; omega
        have hne6 : ¬ k = r2 := by have := HRK.out; omega
        clear x1 x2 x3 HEX HXT
        go_upto_region 9 with fail
        obtain ⟨wE, hwE, hE6, hKE⟩ := fill6 HZ4.out (.int .i64 n0) (.slice ca L.length cc) (.bool mo) (.int .i64 sk) (.string sb) (.slice none 0 0)
        have hY2 := (hKE.block r2 (block_lt HY4.out) (by have := HR2E.out; omega)).trans HY4.out
        obtain ⟨wF, hwF, hF6, hKF⟩ := fill6 hY2 (.int .i64 n2) (.slice ca2 L2.length cc2) (.bool mo2) (.int .i64 sk2) (.string sb2) (.slice none 0 0)
        have HWE : Hid _ := hwE
        have HWF : Hid _ := hwF
        have HF6 : Hid _ := hF6
        have HE6 : Hid _ := (hKF.block r (block_lt hE6) (by have := HR2E.out; omega)).trans hE6
        have hKA : Kept (fun k => k = r ∨ k = r2) w4 wF := (hKE.wider (fun k e => .inl e)).trans hKF (fun k _ e => .inr e)
        have HBF : Hid (Below w.heap.size w wF) := HB4.out.trans (hKA.below HB4.out.size (fun z _ e => by have := HRE.out; have := HR2E.out; omega))
        have HKA : Hid (Kept (fun k => k = r ∨ k = r2) w4 wF) := hKA
        clear hwE hE6 hKE hY2 hwF hF6 hKF hKA
        go_region
        rw [HWE.out, HWF.out]
        go_wp2_with fail
        obtain ⟨⟨p0, p1, p2, p3, p4, p5⟩, _⟩ := blk6 HE6.out
        obtain ⟨⟨p6, p7, p8, p9, p10, p11⟩, _⟩ := blk6 HF6.out
        have hDR : Below wF.heap.size wF wF.drew := (Below.refl _ _).drew
        exact bodyPost_ret (v := .tuple #[.agg #[.int .i64 n0, .slice ca L.length cc, .bool mo, .int .i64 sk, .string sb, .slice none 0 0], .agg #[.int .i64 n2, .slice ca2 L2.length cc2, .bool mo2, .int .i64 sk2, .string sb2, .slice none 0 0], .slice ja ks.length jc, .int .i64 0]) (by simp [results, Tryd.results15, go_sem, p0, p1, p2, p3, p4, p5, p6, p7, p8, p9, p10, p11]) rfl
          (HFIN.out _ (HKA.out.new hDR) ((hDR.block r (block_lt HE6.out)).trans HE6.out) ((hDR.block r2 (block_lt HF6.out)).trans HF6.out))
end Go.Proofs.YtnapeecmlkkolaaDoor
