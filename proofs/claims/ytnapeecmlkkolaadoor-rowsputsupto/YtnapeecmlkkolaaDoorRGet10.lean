/-
  The document's own Get of rows.
-/
import Derived.Test.YtnapeecmlkkolaaDoorCol10
import Derived.Test.YtnapeecmlkkolaaDoorGot10
namespace Go.Proofs.YtnapeecmlkkolaaDoor
open Go.RowKit
set_option maxRecDepth 100000
set_option linter.unusedVariables false
set_option linter.unusedSimpArgs false

theorem bind_congr2 {α γ : Type} {p : Ps γ} {f g : γ → Ps α} (h : ∀ Z, (p Z).err = 0 → Eqv (f (p Z).val) (g (p Z).val)) : Eqv (bindR p f) (bindR p g) := by
  intro Z
  unfold bindR
  by_cases hp : (p Z).err = 0
  · rw [if_pos hp, if_pos hp]
    obtain ⟨k1, k2⟩ := h Z hp (Z.drop (p Z).done)
    by_cases hf : (f (p Z).val (Z.drop (p Z).done)).err = 0
    · have hg := k1.symm.trans hf
      obtain ⟨k3, k4⟩ := k2 hf
      rw [if_pos hf, if_pos hg]
      exact ⟨rfl, fun _ => ⟨by simp only [k3], k4⟩⟩
    · have hg : ¬ (g (p Z).val (Z.drop (p Z).done)).err = 0 := fun e => hf (k1.trans e)
      rw [if_neg hf, if_neg hg]
      exact ⟨k1, fun e => absurd e hf⟩
  · rw [if_neg hp, if_neg hp]; exact ⟨rfl, fun e => absurd e hp⟩

theorem table_fst {f n : Int} {Z : List Int} {Y : Res Tb} (hY : Y = tableR f n Z) (h : Y.err = 0) : Y.val.1 = n := by
  have hR : Reads Y Z 0 (bindR (optR (bitX f 2) v0 valueR) fun s => bindR (optR (!bitX f 4) [] (colsR n.toNat (bitX f 1))) fun l => pureR ((n, l, bitX f 2, s, []) : Tb)) 0 id := reads_start (tableR f n) (by simpa using hY)
  by_cases h1 : (optR (bitX f 2) v0 valueR (Z.drop 0)).err = 0
  · have hR2 := reads_ok hR h1
    by_cases h2 : (optR (!bitX f 4) [] (colsR n.toNat (bitX f 1)) (Z.drop (0 + (optR (bitX f 2) v0 valueR (Z.drop 0)).done))).err = 0
    · have hR3 := reads_ok hR2 h2
      obtain ⟨_, _, h5⟩ := reads_pure hR3
      rw [h5]; rfl
    · exact absurd (h.symm.trans (reads_err hR2 h2)).symm h2
  · exact absurd (h.symm.trans (reads_err hR h1)).symm h1

/-- What is behind the columns of a table. -/
def behind (t : Tb) : Ps Tb := bindR (rowsR t.1.toNat) fun r => pureR (t.1, t.2.1, t.2.2.1, t.2.2.2.1, r)

theorem tab_cols : Eqv tabR (bindR (colsP false) fun k => behind k.2) := by
  refine Eqv.symm ?_
  refine (bind_assoc _ _ _).trans (bind_congr (fun h => ?_))
  refine (bind_assoc _ _ _).trans ((show Eqv (bindR (pureR ([] : List Int)) _) _ from pure_bind).trans ?_)
  refine (bind_assoc _ _ _).trans (bind_congr2 (fun Z hZ => ?_))
  refine pure_bind.trans ?_
  have e := table_fst rfl hZ
  intro Z2
  unfold behind
  simp only [e]
  exact ⟨trivial, fun _ => ⟨trivial, trivial⟩⟩

theorem end_of {zs : List Int} {X : Res Tb} (hX : X = tabR zs) : endE tabR zs = if X.err = 0 then (if X.done < zs.length then 23 else 0) else X.err := by subst hX; rfl

theorem head_n {Z : List Int} {Y : Res (Int × Int)} (hY : Y = headR Z) (h : Y.err = 0) : 0 ≤ Y.val.2 ∧ Y.val.2 ≤ 4096 := by
  have hR : Reads Y Z 0 (bindR int4R fun f => if f < 0 ∨ 7 < f then failR (f, 0) 21 else bindR manyR fun n => pureR (f, n)) 0 id := reads_start headR (by simpa using hY)
  by_cases h1 : (int4R (Z.drop 0)).err = 0
  · have hR2 := reads_ok hR h1
    by_cases h2 : (int4R (Z.drop 0)).val < 0 ∨ 7 < (int4R (Z.drop 0)).val
    · rw [if_pos h2] at hR2
      exact absurd (h.symm.trans (reads_fail hR2)) (by decide)
    · rw [if_neg h2] at hR2
      by_cases h3 : (manyR (Z.drop (0 + (int4R (Z.drop 0)).done))).err = 0
      · have hR3 := reads_ok hR2 h3
        obtain ⟨_, _, h5⟩ := reads_pure hR3
        rw [h5]
        exact (manyR_done rfl h3).2
      · exact absurd (h.symm.trans (reads_err hR2 h3)).symm h3
  · exact absurd (h.symm.trans (reads_err hR h1)).symm h1

theorem cols_n {Z : List Int} {Y : Res (List Int × Tb)} (hY : Y = colsP false Z) (h : Y.err = 0) : 0 ≤ Y.val.2.1 ∧ Y.val.2.1 ≤ 4096 := by
  have hR : Reads Y Z 0 (bindR headR fun h => bindR (optR false [] (keysR h.2)) fun ks => bindR (tableR h.1 h.2) fun t => pureR (ks, t)) 0 id := reads_start (colsP false) (by simpa using hY)
  by_cases h1 : (headR (Z.drop 0)).err = 0
  · have hR1 := reads_ok hR h1
    have hR2 := reads_bpure (show Reads Y Z 0 (bindR (pureR ([] : List Int)) _) _ id from hR1)
    by_cases h2 : (tableR (headR (Z.drop 0)).val.1 (headR (Z.drop 0)).val.2 (Z.drop (0 + (headR (Z.drop 0)).done))).err = 0
    · have hR3 := reads_ok hR2 h2
      obtain ⟨_, _, h5⟩ := reads_pure hR3
      have e1 := table_fst rfl h2
      rw [h5]
      show 0 ≤ (tableR _ _ _).val.1 ∧ (tableR _ _ _).val.1 ≤ 4096
      rw [e1]
      exact head_n rfl h1
    · exact absurd (h.symm.trans (reads_err hR2 h2)).symm h2
  · exact absurd (h.symm.trans (reads_err hR h1)).symm h1

theorem blk2 {w : World} {p : Nat} {a b : Value} {t : TypeId} (h : w.heap[p]? = some (.cells #[a, b] t (0, 0))) :
    (w.cell? ⟨p, 0, none⟩ = some a ∧ w.cell? ⟨p, 1, none⟩ = some b) ∧ (w.frozen? ⟨p, 0, none⟩ = false ∧ w.frozen? ⟨p, 1, none⟩ = false) :=
  ⟨⟨blk_cell h 0, blk_cell h 1⟩, ⟨blk_frozen h 0, blk_frozen h 1⟩⟩

/-- What the document's Get answers. -/
def GetE (w : World) (zs : List Int) (e : Ending) (w' : World) : Prop :=
  ∃ (T : Tb) (ca : Option Addr) (cc : Nat) (ra : Option Addr) (rc : Nat), e = .returned (.tuple #[.agg #[.int .i64 T.1, .slice ca T.2.1.length cc, .bool T.2.2.1, .int .i64 T.2.2.2.1.1, .string T.2.2.2.1.2, .slice ra T.2.2.2.2.length rc], .int .i64 (endE tabR zs)]) ∧
    Hid (DtO 20 w' (fun z => w.heap.size ≤ z) (T.2.1, T.2.2.2.2) ca T.2.1.length cc ra T.2.2.2.2.length rc) ∧ Hid (T = if endE tabR zs = 0 then (tabR zs).val else tb0) ∧ Hid (Below w.heap.size w w')

set_option maxHeartbeats 8000000 in
theorem rget_any {w : World} {a : Option Addr} {len cap : Nat} {zs : List Int} (h : IsB w a len cap zs) (hsm : len ≤ 8000000000) :
    Calls Tryd.prog 11 #[.slice a len cap] w fun e w' => GetE w zs e w' := by
  obtain ⟨r, hr⟩ : ∃ r, r = w.heap.size := ⟨_, rfl⟩
  have HRE : Hid (w.heap.size = r) := hr.symm
  obtain ⟨w0, hw0⟩ : ∃ w0, w0 = w.alloc (.cells #[.int .i64 0, .slice none 0 0, .bool false, .int .i64 0, .string ⟨#[]⟩, .slice none 0 0] 38) := ⟨_, rfl⟩
  have HW0 : Hid (w.alloc (.cells #[.int .i64 0, .slice none 0 0, .bool false, .int .i64 0, .string ⟨#[]⟩, .slice none 0 0] 38) = w0) := hw0.symm
  have HB0 : Hid (Below w.heap.size w w0) := by rw [hw0]; exact below_one _ _
  have HZ0 : Hid (w0.heap[r]? = some (.cells #[.int .i64 0, .slice none 0 0, .bool false, .int .i64 0, .string ⟨#[]⟩, .slice none 0 0] 38 (0, 0))) := by
    show _ = _
    rw [hw0, hr]
    exact heap_alloc_new w _
  have HI : Hid (IsB w a len cap zs) := h
  have H0 : Hid (IsB w0 a len cap zs) := h.old HB0.out
  have HZL : Hid (zs.length = len) := h.1
  have hlm : len ≤ 8000000000 := hsm
  obtain ⟨X, hX⟩ : ∃ X, X = tabR zs := ⟨_, rfl⟩
  have HEND : Hid (endE tabR zs = if X.err = 0 then (if X.done < zs.length then 23 else 0) else X.err) := end_of hX
  have HXV : Hid (X = tabR zs) := hX
  have HR1 : Hid (Reads X zs 0 (bindR (colsP false) fun k => behind k.2) 0 id) := reads_eqv (reads_start tabR (by simpa using hX)) tab_cols
  obtain ⟨Y1, hY1⟩ : ∃ Y1, Y1 = colsP false (zs.drop 0) := ⟨_, rfl⟩
  have HY1 : Hid (Y1 = colsP false (zs.drop 0)) := hY1
  clear hr hw0 h hX hY1
  go_enter Tryd.func11, Tryd.ntmps11
  go_upto_region 1 with fail
  (try rw [HRE.out])
  rw [HW0.out]
  clear HW0
  go_wp2_with fail
  refine (cols_no H0.out hsm 0 (Nat.zero_le _) 0 rfl HY1.out).mono ?_
  rintro e w1 ⟨n0, ca, cl, cc, mo, sk, sb, ka, kl, kc, rfl, HBC, HD1, HV1⟩
  have hb1 := HBC.out
  have HZ1 : Hid (w1.heap[r]? = some (.cells #[.int .i64 0, .slice none 0 0, .bool false, .int .i64 0, .string ⟨#[]⟩, .slice none 0 0] 38 (0, 0))) := (hb1.block r (block_lt HZ0.out)).trans HZ0.out
  have HB1 : Hid (Below w.heap.size w w1) := HB0.out.trans (hb1.mono HB0.out.size)
  have H1 : Hid (IsB w1 a len cap zs) := HI.out.old HB1.out
  obtain ⟨g, hg⟩ : ∃ g, g = w1.heap.size := ⟨_, rfl⟩
  have HGE : Hid (w1.heap.size = g) := hg.symm
  have HRG : Hid (r < g) := by show r < g; rw [hg]; exact block_lt HZ1.out
  obtain ⟨w2, hw2⟩ : ∃ w2, w2 = w1.alloc (.cells #[.int .i64 n0, .slice ca cl cc, .bool mo, .int .i64 sk, .string sb, .slice none 0 0] 38) := ⟨_, rfl⟩
  have HW2 : Hid (w1.alloc (.cells #[.int .i64 n0, .slice ca cl cc, .bool mo, .int .i64 sk, .string sb, .slice none 0 0] 38) = w2) := hw2.symm
  have HG2 : Hid (w2.heap[g]? = some (.cells #[.int .i64 n0, .slice ca cl cc, .bool mo, .int .i64 sk, .string sb, .slice none 0 0] 38 (0, 0))) := by rw [hw2, hg]; exact heap_alloc_new w1 _
  have hb2 : Below w1.heap.size w1 w2 := by rw [hw2]; exact below_one _ _
  have HKB : Hid (Below w1.heap.size w1 w2) := hb2
  have HZ2 : Hid (w2.heap[r]? = some (.cells #[.int .i64 0, .slice none 0 0, .bool false, .int .i64 0, .string ⟨#[]⟩, .slice none 0 0] 38 (0, 0))) := (hb2.block r (block_lt HZ1.out)).trans HZ1.out
  have HB2 : Hid (Below w.heap.size w w2) := HB1.out.trans (hb2.mono HB1.out.size)
  have H2 : Hid (IsB w2 a len cap zs) := HI.out.old HB2.out
  have HS0 : Hid (r < w0.heap.size) := block_lt HZ0.out
  clear hb1 hb2 hg hw2 H0 HB0 HZ0 HZ1 HB1 H1
  go_upto_if 21 with fail
  rw [HW2.out]
  (try rw [HGE.out])
  clear HW2
  by_cases e1 : Y1.err = 0
  case neg =>
    have hx : X.err = Y1.err := (reads_err HR1.out (by rw [← HY1.out]; exact e1)).trans (by rw [← HY1.out])
    obtain ⟨ce, hce⟩ : ∃ ce, ce = Y1.err := ⟨_, rfl⟩
    have hce0 : (ce != 0) = true := by rw [hce]; simpa using e1
    have HCE : Hid (Y1.err = ce) := hce.symm
    have HNZ : Hid (ce ≠ 0) := by show ce ≠ 0; rw [hce]; exact e1
    have HEX : Hid (endE tabR zs = ce) := by show _ = _; rw [HEND.out, if_neg (by rw [hx, ← hce]; exact HNZ.out), hx, hce]
    have HPY : Hid (place 0 Y1 = 0) := place_err e1
    clear hx hce
    rw [HCE.out]
    clear e1
    obtain ⟨wF, hwF, hF6, hKF⟩ := fill6 HZ2.out (.int .i64 0) (.slice none 0 0) (.bool false) (.int .i64 0) (.string ⟨#[]⟩) (.slice none 0 0)
    have HWF : Hid _ := hwF
    have HF6 : Hid _ := hF6
    have HEE : Hid (endE tabR zs = ce) := HEX.out
    have HBF : Hid (Below w.heap.size w wF) := HB2.out.trans (hKF.below HB2.out.size (fun z _ e => by have := HRE.out; omega))
    obtain ⟨_, f0, f1, f2, f3, f4, f5⟩ := blk6 HZ2.out
    have hlr := block_lt HZ2.out
    clear hwF hF6 hKF
    go_wp2_with fail
    rw [HWF.out]
    obtain ⟨⟨p0, p1, p2, p3, p4, p5⟩, _⟩ := blk6 HF6.out
    exact bodyPost_ret (v := .tuple #[.agg #[.int .i64 0, .slice none 0 0, .bool false, .int .i64 0, .string ⟨#[]⟩, .slice none 0 0], .int .i64 ce]) (by simp [results, Tryd.results11, go_sem, p0, p1, p2, p3, p4, p5]) rfl
      ⟨tb0, none, 0, none, 0, by rw [HEE.out]; rfl, dtO_nil _ _ _, by show tb0 = _; rw [if_neg (by rw [HEE.out]; exact HNZ.out)], HBF⟩
  case pos =>
    obtain ⟨hn0, hcl, hmo, hsk, hsb, hkl, hoc, _⟩ := HV1.out e1
    obtain ⟨hc0, hc1⟩ := cols_n HY1.out e1
    have hd1 := HD1.out e1
    have hR2 := reads_ok HR1.out (by rw [← HY1.out]; exact e1)
    rw [← HY1.out] at hR2
    have HP1 : Hid (place 0 Y1 = ((0 + Y1.done : Nat) : Int)) := place_ok e1
    have HE1 : Hid (Y1.err = 0) := e1
    (try rw [HE1.out])
    rw [HP1.out]
    obtain ⟨⟨ks, tn, L, mo', ⟨vk', vb'⟩, rr⟩, hks⟩ : ∃ z, z = Y1.val := ⟨_, rfl⟩
    rw [← hks] at hn0 hcl hmo hsk hsb hkl hoc hR2 hc0 hc1
    simp only at hn0 hcl hmo hsk hsb hkl hoc hc0 hc1
    subst hn0 hcl hmo hsk hsb hkl
    obtain ⟨n, hn⟩ := Int.eq_ofNat_of_zero_le hc0
    subst hn
    have hn4 : n ≤ 4096 := by omega
    have HC2 : Hid (OwnI 83 8 (VCol 20) w2 (fun z => r < z ∧ z < g) (.slice ca L.length cc) L) := (hoc.sub (stays_col 20) (fun z hz hf => ⟨by have := HS0.out; omega, by have := HGE.out; omega⟩)).old (stays_col 20) HKB.out
    have HR2 : Hid (Reads X zs 0 (bindR manyR fun k => bindR (loopR (loopR setR n) k.toNat) fun l => pureR (((n : Int), L, mo, (sk, sb), l) : Tb)) (0 + Y1.done) id) := reads_assoc (show Reads X zs 0 (bindR (bindR manyR fun k => loopR (loopR setR n) k.toNat) fun l => pureR (((n : Int), L, mo, (sk, sb), l) : Tb)) (0 + Y1.done) id from hR2)
    obtain ⟨pos, hpos⟩ : ∃ pos, pos = 0 + Y1.done := ⟨_, rfl⟩
    have hpl : pos ≤ len := by omega
    rw [← hpos] at HR2 ⊢
    obtain ⟨Y2, hY2⟩ : ∃ Y2, Y2 = manyR (zs.drop pos) := ⟨_, rfl⟩
    have HY2 : Hid (Y2 = manyR (zs.drop pos)) := hY2
    clear hks hoc hR2 hc0 hc1 hd1 hpos e1 HE1 HP1 HV1 HD1 HY1 HR1 HBC hY2
    go_wp2_with fail
    refine (count_at H2.out pos hpl _ rfl HY2.out).mono ?_
    rintro e w3 ⟨rfl, hb3⟩
    have HZ3 : Hid (w3.heap[r]? = some (.cells #[.int .i64 0, .slice none 0 0, .bool false, .int .i64 0, .string ⟨#[]⟩, .slice none 0 0] 38 (0, 0))) := (hb3.block r (block_lt HZ2.out)).trans HZ2.out
    have HG3 : Hid (w3.heap[g]? = some (.cells #[.int .i64 n, .slice ca L.length cc, .bool mo, .int .i64 sk, .string sb, .slice none 0 0] 38 (0, 0))) := (hb3.block g (block_lt HG2.out)).trans HG2.out
    have HB3 : Hid (Below w.heap.size w w3) := HB2.out.trans (hb3.mono HB2.out.size)
    have H3 : Hid (IsB w3 a len cap zs) := HI.out.old HB3.out
    have HC3 : Hid (OwnI 83 8 (VCol 20) w3 (fun z => r < z ∧ z < g) (.slice ca L.length cc) L) := HC2.out.old (stays_col 20) hb3
    have HS3 : Hid (g < w3.heap.size) := block_lt HG3.out
    clear hb3 HZ2 HG2 HB2 H2 HC2 HKB
    by_cases e2 : Y2.err = 0
    case neg =>
      have hx : X.err = Y2.err := (reads_err HR2.out (by rw [← HY2.out]; exact e2)).trans (by rw [← HY2.out])
      obtain ⟨ce, hce⟩ : ∃ ce, ce = Y2.err := ⟨_, rfl⟩
      have hce0 : (ce != 0) = true := by rw [hce]; simpa using e2
      have HCE : Hid (Y2.err = ce) := hce.symm
      have HNZ : Hid (ce ≠ 0) := by show ce ≠ 0; rw [hce]; exact e2
      have HEX : Hid (endE tabR zs = ce) := by show _ = _; rw [HEND.out, if_neg (by rw [hx, ← hce]; exact HNZ.out), hx, hce]
      have HPY : Hid (place pos Y2 = 0) := place_err e2
      clear hx hce
      rw [HCE.out, HPY.out]
      clear e2
      obtain ⟨wF, hwF, hF6, hKF⟩ := fill6 HZ3.out (.int .i64 0) (.slice none 0 0) (.bool false) (.int .i64 0) (.string ⟨#[]⟩) (.slice none 0 0)
      have HWF : Hid _ := hwF
      have HF6 : Hid _ := hF6
      have HEE : Hid (endE tabR zs = ce) := HEX.out
      have HBF : Hid (Below w.heap.size w wF) := HB3.out.trans (hKF.below HB3.out.size (fun z _ e => by have := HRE.out; omega))
      obtain ⟨_, f0, f1, f2, f3, f4, f5⟩ := blk6 HZ3.out
      have hlr := block_lt HZ3.out
      clear hwF hF6 hKF
      go_wp2_with fail
      rw [HWF.out]
      obtain ⟨⟨p0, p1, p2, p3, p4, p5⟩, _⟩ := blk6 HF6.out
      exact bodyPost_ret (v := .tuple #[.agg #[.int .i64 0, .slice none 0 0, .bool false, .int .i64 0, .string ⟨#[]⟩, .slice none 0 0], .int .i64 ce]) (by simp [results, Tryd.results11, go_sem, p0, p1, p2, p3, p4, p5]) rfl
        ⟨tb0, none, 0, none, 0, by rw [HEE.out]; rfl, dtO_nil _ _ _, by show tb0 = _; rw [if_neg (by rw [HEE.out]; exact HNZ.out)], HBF⟩
    case pos =>
      obtain ⟨hd2, hm0, hm1⟩ := manyR_done HY2.out e2
      rw [List.length_drop, HZL.out] at hd2
      have hR3 := reads_ok HR2.out (by rw [← HY2.out]; exact e2)
      rw [← HY2.out] at hR3
      have HP2 : Hid (place pos Y2 = ((pos + Y2.done : Nat) : Int)) := place_ok e2
      have HE2 : Hid (Y2.err = 0) := e2
      rw [HE2.out, HP2.out]
      obtain ⟨m, hm⟩ := Int.eq_ofNat_of_zero_le hm0
      rw [hm] at hR3 hm1 ⊢
      have hm4 : m ≤ 4096 := by omega
      obtain ⟨pos2, hpos2⟩ : ∃ pos2, pos2 = pos + Y2.done := ⟨_, rfl⟩
      have HPL2 : Hid (pos2 ≤ len) := by show pos2 ≤ len; omega
      rw [← hpos2] at hR3 ⊢
      have HR3 : Hid (Reads X zs 0 (bindR (loopR (loopR setR n) (m - 0)) fun l => pureR (((n : Int), L, mo, (sk, sb), [] ++ l) : Tb)) pos2 id) := hR3
      clear hm hpos2 hd2 e2 HE2 HP2 HY2 HR2 hR3 hm0 hm1 hpl
      go_wp2_with fail
      go_loopw [6, 9] (fun pv t wr => ∃ (i pos : Nat) (xa : Option Addr) (xc : Nat) (acc : List (List Vl)), i ≤ m ∧ t = .int .i64 i ∧ pv = .int .i64 pos ∧ Hid (pos ≤ len) ∧ Hid (acc.length = i) ∧ Hid (Reads X zs 0 (bindR (loopR (loopR setR n) (m - i)) fun l => pureR (((n : Int), L, mo, (sk, sb), acc ++ l) : Tb)) pos id) ∧
        Hid (wr.heap[r]? = some (.cells #[.int .i64 0, .slice none 0 0, .bool false, .int .i64 0, .string ⟨#[]⟩, .slice none 0 0] 38 (0, 0))) ∧ Hid (wr.heap[g]? = some (.cells #[.int .i64 n, .slice ca L.length cc, .bool mo, .int .i64 sk, .string sb, .slice xa i xc] 38 (0, 0))) ∧ Hid (OwnI 83 8 (VCol 20) wr (fun z => r < z ∧ z < g) (.slice ca L.length cc) L) ∧ Hid (OwnI 80 1 VRs wr (fun z => g < z) (.slice xa i xc) acc) ∧ Hid (Below w.heap.size w wr)) (fun _ t _ => m - (intOf t).toNat)
      case atStart => exact ⟨0, pos2, none, 0, [], by omega, rfl, rfl, HPL2, rfl, HR3, HZ3, HG3, HC3, ownI_nil _ _ _ _ _, HB3⟩
      case round =>
        obtain ⟨i, ps, xa, xc, acc, hi, rfl, rfl, HPi, HLi, HRi, HZ10, HG10, HC10, HO10, HB10⟩ := hrel
        obtain ⟨w10, hw10⟩ : ∃ x, x = wr := ⟨_, rfl⟩
        subst hw10
        clear HR3 HPL2 HZ3 HG3 HC3 HB3 H3
        by_cases hlt : i < m
        case neg =>
          obtain rfl : i = m := by omega
          have hRa := HRi.out
          rw [Nat.sub_self] at hRa
          obtain ⟨x1, x2, x3⟩ := reads_pure (reads_bpure (show Reads X zs 0 (bindR (pureR ([] : List (List Vl))) _) ps id from hRa))
          replace x3 : X.val = ((n : Int), L, mo, (sk, sb), acc) := x3.trans (by simp [pureR])
          clear hRa HRi
          by_cases hz : ps = len
          case neg =>
            have hpn : ((ps : Int) != (len : Int)) = true := by simp; omega
            have HNZ : Hid ((23 : Int) ≠ 0) := by show (23 : Int) ≠ 0; decide
            have HEX : Hid (endE tabR zs = 23) := by show _ = _; rw [HEND.out, if_pos x1, if_pos (by rw [HZL.out]; have := HPi.out; omega)]
            clear x1 x2 x3
            obtain ⟨wF, hwF, hF6, hKF⟩ := fill6 HZ10.out (.int .i64 0) (.slice none 0 0) (.bool false) (.int .i64 0) (.string ⟨#[]⟩) (.slice none 0 0)
            have HWF : Hid _ := hwF
            have HF6 : Hid _ := hF6
            have HEE : Hid (endE tabR zs = 23) := HEX.out
            have HBF : Hid (Below w.heap.size w wF) := HB10.out.trans (hKF.below HB10.out.size (fun z _ e => by have := HRE.out; omega))
            obtain ⟨_, f0, f1, f2, f3, f4, f5⟩ := blk6 HZ10.out
            have hlr := block_lt HZ10.out
            clear hwF hF6 hKF
            go_wp2_with fail
            rw [HWF.out]
            obtain ⟨⟨p0, p1, p2, p3, p4, p5⟩, _⟩ := blk6 HF6.out
            exact bodyPost_ret (v := .tuple #[.agg #[.int .i64 0, .slice none 0 0, .bool false, .int .i64 0, .string ⟨#[]⟩, .slice none 0 0], .int .i64 23]) (by simp [results, Tryd.results11, go_sem, p0, p1, p2, p3, p4, p5]) rfl
              ⟨tb0, none, 0, none, 0, by rw [HEE.out]; rfl, dtO_nil _ _ _, by show tb0 = _; rw [if_neg (by rw [HEE.out]; exact HNZ.out)], HBF⟩
          case pos =>
            subst hz
            have HEX : Hid (endE tabR zs = 0) := by show _ = _; rw [HEND.out, if_pos x1, if_neg (by rw [HZL.out]; omega)]
            have HXT : Hid ((tabR zs).val = ((n : Int), L, mo, (sk, sb), acc)) := by show _ = _; rw [← HXV.out]; exact x3
            obtain ⟨wF, hwF, hF6, hKF⟩ := fill6 HZ10.out (.int .i64 n) (.slice ca L.length cc) (.bool mo) (.int .i64 sk) (.string sb) (.slice xa i xc)
            have HWF : Hid _ := hwF
            have HF6 : Hid _ := hF6
            have HBF : Hid (Below w.heap.size w wF) := HB10.out.trans (hKF.below HB10.out.size (fun z _ e => by have := HRE.out; omega))
            have HCF : Hid (OwnI 83 8 (VCol 20) wF (fun z => w.heap.size ≤ z) (.slice ca L.length cc) L) := (HC10.out.apart (stays_col 20) hKF (fun z _ hf e => by omega)).sub (stays_col 20) (fun z _ hf => by have := HRE.out; omega)
            have HOF : Hid (OwnI 80 1 VRs wF (fun z => w.heap.size ≤ z) (.slice xa i xc) acc) := (HO10.out.apart stays_rs hKF (fun z _ hf e => by have := HRG.out; omega)).sub stays_rs (fun z _ hf => by have := HRE.out; have := HRG.out; omega)
            obtain ⟨_, f0, f1, f2, f3, f4, f5⟩ := blk6 HZ10.out
            obtain ⟨⟨g0, g1, g2, g3, g4, g5⟩, _⟩ := blk6 HG10.out
            have hlr := block_lt HZ10.out
            have hlg := block_lt HG10.out
            clear hwF hF6 hKF x1 x2 x3
            go_wp2_with fail
            rw [HWF.out]
            obtain ⟨⟨p0, p1, p2, p3, p4, p5⟩, _⟩ := blk6 HF6.out
            exact bodyPost_ret (v := .tuple #[.agg #[.int .i64 n, .slice ca L.length cc, .bool mo, .int .i64 sk, .string sb, .slice xa i xc], .int .i64 0]) (by simp [results, Tryd.results11, go_sem, p0, p1, p2, p3, p4, p5]) rfl
              ⟨((n : Int), L, mo, (sk, sb), acc), ca, cc, xa, xc, by rw [HEX.out, HLi.out], ⟨HCF.out, by rw [HLi.out]; exact HOF.out⟩, by rw [if_pos HEX.out]; exact HXT.out.symm, HBF⟩
        case pos =>
          obtain ⟨k, hk⟩ : ∃ k, m - i = k + 1 := ⟨m - i - 1, by omega⟩
          have hRa := HRi.out
          rw [hk] at hRa
          have HRb : Hid (Reads X zs 0 (bindR (loopR setR (n - 0)) fun l2 => bindR (loopR (loopR setR n) k) fun l => pureR (((n : Int), L, mo, (sk, sb), acc ++ ([] ++ l2) :: l) : Tb)) ps id) := reads_loop hRa
          have HK : Hid (k = m - (i + 1)) := by show _ = _; omega
          obtain ⟨q2, hq2⟩ : ∃ q2, q2 = w10.heap.size := ⟨_, rfl⟩
          have HQ2 : Hid (w10.heap.size = q2) := hq2.symm
          have HGQ : Hid (g < q2) := by show g < q2; rw [hq2]; exact block_lt HG10.out
          obtain ⟨⟨g0, g1, g2, g3, g4, g5⟩, _⟩ := blk6 HG10.out
          clear hRa HRi hk hq2
          go_wp2_with fail
          go_loopw [6, 10, 11] (fun pv v t wz => ∃ (j pos : Nat) (ya : Option Addr) (yc : Nat) (row : List Vl), j ≤ n ∧ t = .int .i64 j ∧ pv = .int .i64 pos ∧ v = .slice ya j yc ∧ Hid (pos ≤ len) ∧ Hid (row.length = j) ∧ Hid (Reads X zs 0 (bindR (loopR setR (n - j)) fun l2 => bindR (loopR (loopR setR n) k) fun l => pureR (((n : Int), L, mo, (sk, sb), acc ++ (row ++ l2) :: l) : Tb)) pos id) ∧
            Hid (OwnI 35 2 VVs wz (fun z => q2 ≤ z) (.slice ya j yc) row) ∧ Hid (Below q2 w10 wz)) (fun _ _ t _ => n - (intOf t).toNat)
          case atStart => exact ⟨0, ps, none, 0, [], by omega, rfl, rfl, rfl, HPi, rfl, HRb, ownI_nil _ _ _ _ _, Below.refl _ _⟩
          case round =>
            obtain ⟨j, pj, ya, yc, row, hj, rfl, rfl, rfl, HPj, HLj, HRj, HOj, HBj⟩ := hrel
            obtain ⟨w11, hw11⟩ : ∃ x, x = wr := ⟨_, rfl⟩
            subst hw11
            clear HRb g0 g1 g2 g3 g4 g5
            have HG11 : Hid (w11.heap[g]? = some (.cells #[.int .i64 n, .slice ca L.length cc, .bool mo, .int .i64 sk, .string sb, .slice xa i xc] 38 (0, 0))) := (HBj.out.block g HGQ.out).trans HG10.out
            obtain ⟨⟨g0, g1, g2, g3, g4, g5⟩, _⟩ := blk6 HG11.out
            by_cases hlt2 : j < n
            case pos =>
              obtain ⟨k2, hk2⟩ : ∃ k2, n - j = k2 + 1 := ⟨n - j - 1, by omega⟩
              have hRa := HRj.out
              rw [hk2] at hRa
              have HRc : Hid (Reads X zs 0 (bindR valueR _) pj id) := reads_assoc (show Reads X zs 0 (bindR (bindR valueR _) _) pj id from reads_loop hRa)
              have HK2 : Hid (k2 = n - (j + 1)) := by show _ = _; omega
              obtain ⟨c, hc⟩ : ∃ c, c = w11.heap.size := ⟨_, rfl⟩
              have HCE : Hid (w11.heap.size = c) := hc.symm
              have HQC : Hid (q2 ≤ c) := by show q2 ≤ c; rw [hc, ← HQ2.out]; exact HBj.out.size
              obtain ⟨w12, hw12⟩ : ∃ w12, w12 = w11.alloc (.cells #[.int .i64 0, .string ⟨#[]⟩] 35) := ⟨_, rfl⟩
              have HW12 : Hid (w11.alloc (.cells #[.int .i64 0, .string ⟨#[]⟩] 35) = w12) := hw12.symm
              have HV12 : Hid (w12.heap[c]? = some (.cells #[.int .i64 0, .string ⟨#[]⟩] 35 (0, 0))) := by rw [hw12, hc]; exact heap_alloc_new w11 _
              have hb12 : Below w11.heap.size w11 w12 := by rw [hw12]; exact below_one _ _
              have HO12 : Hid (OwnI 35 2 VVs w12 (fun z => q2 ≤ z ∧ z < c) (.slice ya j yc) row) := (HOj.out.sub stays_vs (fun z hz hf => ⟨hf, by rw [hc]; exact hz⟩)).old stays_vs hb12
              have HB12 : Hid (Below q2 w10 w12) := HBj.out.trans (hb12.mono (by rw [HCE.out]; exact HQC.out))
              have H12 : Hid (IsB w12 a len cap zs) := HI.out.old (HB10.out.trans (HB12.out.mono (by rw [← HQ2.out]; exact HB10.out.size)))
              obtain ⟨Y3, hY3⟩ : ∃ Y3, Y3 = valueR (zs.drop pj) := ⟨_, rfl⟩
              have HY3 : Hid (Y3 = valueR (zs.drop pj)) := hY3
              clear hRa HRj hk2 hc hw12 hb12 hY3
              go_upto_region 15 with fail
              rw [HW12.out]
              (try rw [HCE.out])
              clear HW12
              go_wp2_with fail
              refine (rgetValue_at H12.out pj HPj.out _ rfl HY3.out).mono ?_
              rintro e w13 ⟨rfl, hb13⟩
              have HV13 : Hid (w13.heap[c]? = some (.cells #[.int .i64 0, .string ⟨#[]⟩] 35 (0, 0))) := (hb13.block c (block_lt HV12.out)).trans HV12.out
              have HO13 : Hid (OwnI 35 2 VVs w13 (fun z => q2 ≤ z ∧ z < c) (.slice ya j yc) row) := HO12.out.old stays_vs hb13
              have HB13 : Hid (Below q2 w10 w13) := HB12.out.trans (hb13.mono (by have := HB12.out.size; have := HQ2.out; omega))
              obtain ⟨_, c0, c1⟩ := blk2 HV13.out
              obtain ⟨w14, hw14⟩ : ∃ w14, w14 = (w13.setCell ⟨c, 0, none⟩ (.int .i64 Y3.val.1)).setCell ⟨c, 1, none⟩ (.string Y3.val.2) := ⟨_, rfl⟩
              have HW14 : Hid ((w13.setCell ⟨c, 0, none⟩ (.int .i64 Y3.val.1)).setCell ⟨c, 1, none⟩ (.string Y3.val.2) = w14) := hw14.symm
              have hK14 : Kept (fun z => z = c) w13 w14 := by rw [hw14]; exact (one_kept _ c 0 _).trans (one_kept _ c 1 _) (fun i _ e => e)
              have HV14 : Hid (w14.heap[c]? = some (.cells #[.int .i64 Y3.val.1, .string Y3.val.2] 35 (0, 0))) := by rw [hw14]; exact blk_set (blk_set HV13.out 0 _) 1 _
              have HO14 : Hid (OwnI 35 2 VVs w14 (fun z => q2 ≤ z ∧ z < c) (.slice ya j yc) row) := HO13.out.apart stays_vs hK14 (fun z _ hf e => by omega)
              have HB14 : Hid (Below q2 w10 w14) := HB13.out.trans (hK14.below (by have := HB13.out.size; have := HQ2.out; omega) (fun z _ e => by have := HQC.out; omega))
              have hB0 : Below w10.heap.size w10 w14 := by rw [HQ2.out]; exact HB14.out
              have HZ14 : Hid (w14.heap[r]? = some (.cells #[.int .i64 0, .slice none 0 0, .bool false, .int .i64 0, .string ⟨#[]⟩, .slice none 0 0] 38 (0, 0))) := (hB0.block r (block_lt HZ10.out)).trans HZ10.out
              have HG14 : Hid (w14.heap[g]? = some (.cells #[.int .i64 n, .slice ca L.length cc, .bool mo, .int .i64 sk, .string sb, .slice xa i xc] 38 (0, 0))) := (hB0.block g (block_lt HG10.out)).trans HG10.out
              have HBw14 : Hid (Below w.heap.size w w14) := HB10.out.trans (hB0.mono HB10.out.size)
              clear hw14 hK14 hb13 HV12 HO12 HB12 H12 HV13 HO13 HB13 hB0 HOj HBj
              go_upto_if 54 with fail
              rw [HW14.out]
              clear HW14 c0 c1
              by_cases e3 : Y3.err = 0
              case neg =>
                have hx : X.err = Y3.err := (reads_err HRc.out (by rw [← HY3.out]; exact e3)).trans (by rw [← HY3.out])
                obtain ⟨ce, hce⟩ : ∃ ce, ce = Y3.err := ⟨_, rfl⟩
                have hce0 : (ce != 0) = true := by rw [hce]; simpa using e3
                have HCEE : Hid (Y3.err = ce) := hce.symm
                have HNZ : Hid (ce ≠ 0) := by show ce ≠ 0; rw [hce]; exact e3
                have HEX : Hid (endE tabR zs = ce) := by show _ = _; rw [HEND.out, if_neg (by rw [hx, ← hce]; exact HNZ.out), hx, hce]
                have HPY : Hid (place pj Y3 = 0) := place_err e3
                clear hx hce
                rw [HCEE.out, HPY.out]
                clear e3
                obtain ⟨wF, hwF, hF6, hKF⟩ := fill6 HZ14.out (.int .i64 0) (.slice none 0 0) (.bool false) (.int .i64 0) (.string ⟨#[]⟩) (.slice none 0 0)
                have HWF : Hid _ := hwF
                have HF6 : Hid _ := hF6
                have HEE : Hid (endE tabR zs = ce) := HEX.out
                have HBF : Hid (Below w.heap.size w wF) := HBw14.out.trans (hKF.below HBw14.out.size (fun z _ e => by have := HRE.out; omega))
                obtain ⟨_, f0, f1, f2, f3, f4, f5⟩ := blk6 HZ14.out
                have hlr := block_lt HZ14.out
                clear hwF hF6 hKF
                go_wp2_with fail
                rw [HWF.out]
                obtain ⟨⟨p0, p1, p2, p3, p4, p5⟩, _⟩ := blk6 HF6.out
                exact bodyPost_ret (v := .tuple #[.agg #[.int .i64 0, .slice none 0 0, .bool false, .int .i64 0, .string ⟨#[]⟩, .slice none 0 0], .int .i64 ce]) (by simp [results, Tryd.results11, go_sem, p0, p1, p2, p3, p4, p5]) rfl
                  ⟨tb0, none, 0, none, 0, by rw [HEE.out]; rfl, dtO_nil _ _ _, by show tb0 = _; rw [if_neg (by rw [HEE.out]; exact HNZ.out)], HBF⟩
              case pos =>
                have hd3 := valueR_done HY3.out e3
                rw [List.length_drop, HZL.out] at hd3
                have hRd := reads_ok HRc.out (by rw [← HY3.out]; exact e3)
                rw [← HY3.out] at hRd
                have HP3 : Hid (place pj Y3 = ((pj + Y3.done : Nat) : Int)) := place_ok e3
                have HE3 : Hid (Y3.err = 0) := e3
                rw [HE3.out, HP3.out]
                obtain ⟨pk, hpk⟩ : ∃ pk, pk = pj + Y3.done := ⟨_, rfl⟩
                have HPk : Hid (pk ≤ len) := by have := HPj.out; show pk ≤ len; omega
                rw [← hpk] at hRd ⊢
                obtain ⟨⟨y0, y1⟩, _⟩ := blk2 HV14.out
                clear hpk hd3 e3 HE3 HP3 HY3 HRc
                by_cases hv1 : Y3.val.1 = 1
                case pos =>
                  have hv1t : (Y3.val.1 == 1) = true := by simpa using hv1
                  rw [if_pos hv1] at hRd
                  have hx := reads_bfail hRd (by decide)
                  have HNZ : Hid ((11 : Int) ≠ 0) := by show (11 : Int) ≠ 0; decide
                  have HEX : Hid (endE tabR zs = 11) := by show _ = _; rw [HEND.out, if_neg (by rw [hx]; decide), hx]
                  clear hx hRd hv1
                  obtain ⟨wF, hwF, hF6, hKF⟩ := fill6 HZ14.out (.int .i64 0) (.slice none 0 0) (.bool false) (.int .i64 0) (.string ⟨#[]⟩) (.slice none 0 0)
                  have HWF : Hid _ := hwF
                  have HF6 : Hid _ := hF6
                  have HEE : Hid (endE tabR zs = 11) := HEX.out
                  have HBF : Hid (Below w.heap.size w wF) := HBw14.out.trans (hKF.below HBw14.out.size (fun z _ e => by have := HRE.out; omega))
                  obtain ⟨_, f0, f1, f2, f3, f4, f5⟩ := blk6 HZ14.out
                  have hlr := block_lt HZ14.out
                  clear hwF hF6 hKF
                  go_wp2_with fail
                  rw [HWF.out]
                  obtain ⟨⟨p0, p1, p2, p3, p4, p5⟩, _⟩ := blk6 HF6.out
                  exact bodyPost_ret (v := .tuple #[.agg #[.int .i64 0, .slice none 0 0, .bool false, .int .i64 0, .string ⟨#[]⟩, .slice none 0 0], .int .i64 11]) (by simp [results, Tryd.results11, go_sem, p0, p1, p2, p3, p4, p5]) rfl
                    ⟨tb0, none, 0, none, 0, by rw [HEE.out]; rfl, dtO_nil _ _ _, by show tb0 = _; rw [if_neg (by rw [HEE.out]; exact HNZ.out)], HBF⟩
                case neg =>
                  have hv1t : (Y3.val.1 == 1) = false := by simpa using hv1
                  rw [if_neg hv1] at hRd
                  have hRe := reads_bpure hRd
                  have hF9 : ∀ (l2 : List Vl) (l : List (List Vl)), acc ++ (row ++ Y3.val :: l2) :: l = acc ++ ((row ++ [Y3.val]) ++ l2) :: l := fun l2 l => by simp
                  have HRe : Hid (Reads X zs 0 (bindR (loopR setR (n - (j + 1))) fun l2 => bindR (loopR (loopR setR n) k) fun l => pureR (((n : Int), L, mo, (sk, sb), acc ++ ((row ++ [Y3.val]) ++ l2) :: l) : Tb)) pk id) := by
                    show Reads _ _ _ _ _ _
                    simp only [← hF9]
                    rw [← HK2.out]
                    exact hRe
                  have hBw : Below w14.heap.size w14 (w14.alloc (.cells #[.int .i64 Y3.val.1, .string Y3.val.2] 35)) := below_one _ _
                  have HBN : Hid ((w14.alloc (.cells #[.int .i64 Y3.val.1, .string Y3.val.2] 35)).heap[w14.heap.size]? = some (.cells [Value.int .i64 Y3.val.1, Value.string Y3.val.2].toArray 35 (0, 0))) := heap_alloc_new w14 _
                  have HON : Hid (OwnI 35 2 VVs (w14.alloc (.cells #[.int .i64 Y3.val.1, .string Y3.val.2] 35)) (fun z => q2 ≤ z) (.slice ya j yc) row) := (HO14.out.old stays_vs hBw).sub stays_vs (fun z _ hf => hf.1)
                  have HFN : Hid ((fun z => q2 ≤ z) (w14.alloc (.cells #[.int .i64 Y3.val.1, .string Y3.val.2] 35)).heap.size) := by have := HQC.out; have := block_lt HV14.out; show q2 ≤ _; simp; omega
                  clear hRd hRe hF9 hv1
                  go_wp2_with (at_builtin; refine wpList_appendI rfl (.tmp 61) (.tmp 63) 80 rfl stays_vs elem_vs rfl HON.out rfl HBN.out rfl ?c1 Y3.val ⟨rfl, rfl⟩ HFN.out ?c2 ?c3 ?_)
                  case c1 => first | exact ⟨rfl, rfl⟩ | (intro u hu; simp at hu; rcases hu with rfl | rfl <;> rfl)
                  case c2 => rw [HLj.out]; unfold maxLen; omega
                  case c3 => rw [HLj.out]; omega
                  intro v4 w15 ho4 hK15 hv4
                  obtain ⟨ya4, yc4, hv4e⟩ := ho4.shape
                  have hlen4 : (row ++ [Y3.val]).length = j + 1 := by rw [List.length_append, HLj.out]; rfl
                  have HL4 : Hid ((row ++ [Y3.val]).length = j + 1) := hlen4
                  rw [hlen4] at hv4e
                  subst hv4e
                  have HO15 : Hid (OwnI 35 2 VVs w15 (fun z => q2 ≤ z) (.slice ya4 (j + 1) yc4) (row ++ [Y3.val])) := ho4
                  have HB15 : Hid (Below q2 w10 w15) := (HB14.out.trans (hBw.mono (by have := HB14.out.size; have := HQ2.out; omega))).trans (hK15.below (Nat.le_trans (by have := HB14.out.size; have := HQ2.out; omega) hBw.size) (fun z _ e => (HO14.out.lt z e).1.1))
                  clear ho4 hK15 hv4 hlen4 hBw y0 y1 g0 g1 g2 g3 g4 g5
                  go_wp2_with fail
                  go_roundw
                  case rel => exact ⟨j + 1, pk, _, _, _, by omega, by go_num, rfl, rfl, HPk, HL4, HRe, HO15, HB15⟩
                  case measure => simp [intOf]; omega
            case neg =>
              obtain rfl : j = n := by omega
              have hRa := HRj.out
              rw [Nat.sub_self] at hRa
              have hRb := reads_bpure (show Reads X zs 0 (bindR (pureR ([] : List Vl)) _) pj id from hRa)
              have hF8 : ∀ l : List (List Vl), acc ++ (row ++ []) :: l = (acc ++ [row]) ++ l := fun l => by simp
              have HRc : Hid (Reads X zs 0 (bindR (loopR (loopR setR j) (m - (i + 1))) fun l => pureR (((j : Int), L, mo, (sk, sb), (acc ++ [row]) ++ l) : Tb)) pj id) := by
                show Reads _ _ _ _ _ _
                simp only [← hF8]
                rw [← HK.out]
                exact hRb
              have hB0 : Below w10.heap.size w10 w11 := by rw [HQ2.out]; exact HBj.out
              have HZ11 : Hid (w11.heap[r]? = some (.cells #[.int .i64 0, .slice none 0 0, .bool false, .int .i64 0, .string ⟨#[]⟩, .slice none 0 0] 38 (0, 0))) := (hB0.block r (block_lt HZ10.out)).trans HZ10.out
              have HC11 : Hid (OwnI 83 8 (VCol 20) w11 (fun z => r < z ∧ z < g) (.slice ca L.length cc) L) := HC10.out.old (stays_col 20) hB0
              have HO11 : Hid (OwnI 80 1 VRs w11 (fun z => g < z ∧ z < q2) (.slice xa i xc) acc) := (HO10.out.sub stays_rs (fun z hz hf => ⟨hf, by have := HQ2.out; omega⟩)).old stays_rs hB0
              have HB11 : Hid (Below w.heap.size w w11) := HB10.out.trans (hB0.mono HB10.out.size)
              have hQS : q2 ≤ w11.heap.size := by rw [← HQ2.out]; exact HBj.out.size
              have HQS : Hid (q2 ≤ w11.heap.size) := hQS
              have hAB : Below w11.heap.size w11 (w11.alloc (.cells #[.slice ya j yc] 80)) := below_one _ _
              have HBN : Hid ((w11.alloc (.cells #[.slice ya j yc] 80)).heap[w11.heap.size]? = some (.cells [Value.slice ya j yc].toArray 80 (0, 0))) := heap_alloc_new w11 _
              have HON : Hid (OwnI 80 1 VRs (w11.alloc (.cells #[.slice ya j yc] 80)) (fun z => g < z) (.slice xa i xc) acc) := (HO11.out.old stays_rs hAB).sub stays_rs (fun z _ hf => hf.1)
              have HXN : Hid (VRs (fun z => z < (w11.alloc (.cells #[.slice ya j yc] 80)).heap.size ∧ (Value.slice xa i xc).ownBlock ≠ some z ∧ g < z) (w11.alloc (.cells #[.slice ya j yc] 80)) row (fun j0 => ([Value.slice ya j yc] : List Value).getD j0 default)) :=
                (HOj.out.old stays_vs hAB).sub stays_vs (fun z h1 hz => ⟨h1, fun e => by have := (HO11.out.lt z e).1.2; omega, by have := HGQ.out; omega⟩)
              have HFN : Hid ((fun z => g < z) (w11.alloc (.cells #[.slice ya j yc] 80)).heap.size) := by have := HGQ.out; show g < _; simp; omega
              have hlg11 := block_lt HG11.out
              clear hRa hRb hF8 hB0 HRj
              clear g1 g2 g3 g4
              go_wp2_with (at_builtin; refine wpList_appendI rfl (.tmp 66) (.tmp 68) 36 rfl stays_rs elem_rs rfl HON.out rfl HBN.out rfl ?c1 row HXN.out HFN.out ?c2 ?c3 ?_)
              (try (case c1 => rfl))
              case c2 => rw [HLi.out]; unfold maxLen; omega
              case c3 => rw [HLi.out]; omega
              intro v8 w16 ho8 hK16 hv8
              obtain ⟨xa8, xc8, hv8e⟩ := ho8.shape
              have hlen8 : (acc ++ [row]).length = i + 1 := by rw [List.length_append, HLi.out]; rfl
              have HL8 : Hid ((acc ++ [row]).length = i + 1) := hlen8
              rw [hlen8] at hv8e
              subst hv8e
              have hvq : ∀ z, (Value.slice xa i xc).ownBlock = some z → g < z := fun z e => (HO11.out.lt z e).1.1
              have HO16 : Hid (OwnI 80 1 VRs w16 (fun z => g < z) (.slice xa8 (i + 1) xc8) (acc ++ [row])) := ho8
              have HG16 : Hid (w16.heap[g]? = some (.cells #[.int .i64 j, .slice ca L.length cc, .bool mo, .int .i64 sk, .string sb, .slice xa i xc] 38 (0, 0))) := (hK16.block g (Nat.lt_of_lt_of_le hlg11 hAB.size) (fun e => by have := hvq g e; omega)).trans ((hAB.block g hlg11).trans HG11.out)
              have HZ16 : Hid (w16.heap[r]? = some (.cells #[.int .i64 0, .slice none 0 0, .bool false, .int .i64 0, .string ⟨#[]⟩, .slice none 0 0] 38 (0, 0))) := (hK16.block r (Nat.lt_of_lt_of_le (block_lt HZ11.out) hAB.size) (fun e => by have := hvq r e; have := HRG.out; omega)).trans ((hAB.block r (block_lt HZ11.out)).trans HZ11.out)
              have HC16 : Hid (OwnI 83 8 (VCol 20) w16 (fun z => r < z ∧ z < g) (.slice ca L.length cc) L) := (HC11.out.old (stays_col 20) hAB).apart (stays_col 20) hK16 (fun z hz hf e => by have := hvq z e; omega)
              have HB16 : Hid (Below w.heap.size w w16) := (HB11.out.trans (hAB.mono HB11.out.size)).trans (hK16.below (Nat.le_trans HB11.out.size hAB.size) (fun z _ e => by have := hvq z e; have := HRG.out; have := HRE.out; omega))
              have hK17 := one_kept w16 g 5 (.slice xa8 (i + 1) xc8)
              have HG17 : Hid ((w16.setCell ⟨g, 5, none⟩ (.slice xa8 (i + 1) xc8)).heap[g]? = some (.cells #[.int .i64 j, .slice ca L.length cc, .bool mo, .int .i64 sk, .string sb, .slice xa8 (i + 1) xc8] 38 (0, 0))) := blk_set HG16.out 5 _
              have HZ17 : Hid ((w16.setCell ⟨g, 5, none⟩ (.slice xa8 (i + 1) xc8)).heap[r]? = some (.cells #[.int .i64 0, .slice none 0 0, .bool false, .int .i64 0, .string ⟨#[]⟩, .slice none 0 0] 38 (0, 0))) := (hK17.block r (block_lt HZ16.out) (by have := HRG.out; omega)).trans HZ16.out
              have HC17 : Hid (OwnI 83 8 (VCol 20) (w16.setCell ⟨g, 5, none⟩ (.slice xa8 (i + 1) xc8)) (fun z => r < z ∧ z < g) (.slice ca L.length cc) L) := HC16.out.apart (stays_col 20) hK17 (fun z hz hf e => by omega)
              have HO17 : Hid (OwnI 80 1 VRs (w16.setCell ⟨g, 5, none⟩ (.slice xa8 (i + 1) xc8)) (fun z => g < z) (.slice xa8 (i + 1) xc8) (acc ++ [row])) := HO16.out.apart stays_rs hK17 (fun z hz hf e => by omega)
              have HB17 : Hid (Below w.heap.size w (w16.setCell ⟨g, 5, none⟩ (.slice xa8 (i + 1) xc8))) := HB16.out.trans (hK17.below HB16.out.size (fun z _ e => by have := HRG.out; have := HRE.out; omega))
              have hlg16 := block_lt HG16.out
              obtain ⟨⟨d0, d1, d2, d3, d4, d5⟩, e0, e1, e2, e3, e4, e5⟩ := blk6 HG16.out
              clear d0 d1 d2 d3 d4 e0 e1 e2 e3 e4 g0 g5 ho8 hK16 hv8 hlen8 hvq hAB hK17
              go_wp2_with fail
              go_roundw
              case rel => exact ⟨i + 1, pj, _, _, _, by omega, by go_num, rfl, HPj, HL8, HRc, HZ17, HG17, HC17, HO17, HB17⟩
              case measure => simp [intOf]; omega
end Go.Proofs.YtnapeecmlkkolaaDoor
