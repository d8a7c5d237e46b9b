/-
  The document's own columns, with places of keys.
-/
import Derived.Test.YtnapeecmlkkolaaDoorCol10
namespace Go.Proofs.YtnapeecmlkkolaaDoor
open Go.RowKit
set_option maxRecDepth 100000
set_option linter.unusedVariables false
set_option linter.unusedSimpArgs false

/-- What stands behind the state. -/
def StK (w : World) (r g : Nat) (X : Res (List Int × Tb)) (zs : List Int) (d len : Nat) (f : Int) (n : Nat) (kb : Nat) (ja : Option Addr) (jc : Nat) (ks : List Int) (pv : Value) (wc : World) : Prop :=
  ∃ (pos : Nat) (s : Vl), pv = .int .i64 pos ∧ Hid (pos ≤ len) ∧ Hid (Reads X zs d (bindR (optR (!bitX f 4) [] (colsR n (bitX f 1))) fun l => pureR (ks, (((n : Int), l, bitX f 2, s, []) : Tb))) pos id) ∧
    Hid (wc.heap[r]? = some (.cells #[.int .i64 0, .slice none 0 0, .bool false, .int .i64 0, .string ⟨#[]⟩, .slice none 0 0] 38 (0, 0))) ∧ Hid (wc.heap[g]? = some (.cells #[.int .i64 n, .slice none 0 0, .bool (bitX f 2), .int .i64 s.1, .string s.2, .slice none 0 0] 38 (0, 0))) ∧ Hid (Below w.heap.size w wc) ∧
    Hid (OwnI 51 1 VKey wc (fun z => g < z ∧ z < kb) (.slice ja ks.length jc) ks) ∧ Hid (kb ≤ wc.heap.size)

/-- What stands ahead of each round over the columns. -/
def LpK (w : World) (r g q : Nat) (X : Res (List Int × Tb)) (zs : List Int) (d len : Nat) (gl m : Bool) (o : ByteArray × ByteArray) (s : Vl) (n : Nat) (kb : Nat) (ja : Option Addr) (jc : Nat) (ks : List Int) (pv t : Value) (wc : World) : Prop :=
  ∃ (i pos : Nat) (xa : Option Addr) (xc : Nat) (acc : List Col), i ≤ n ∧ t = .int .i64 i ∧ pv = .int .i64 pos ∧ Hid (pos ≤ len) ∧ Hid (acc.length = i) ∧ Hid (Reads X zs d (bindR (loopR (colR gl o) (n - i)) fun l => pureR (ks, (((n : Int), acc ++ l, m, s, []) : Tb))) pos id) ∧
    Hid (wc.heap[r]? = some (.cells #[.int .i64 0, .slice none 0 0, .bool false, .int .i64 0, .string ⟨#[]⟩, .slice none 0 0] 38 (0, 0))) ∧ Hid (wc.heap[g]? = some (.cells #[.int .i64 n, .slice xa i xc, .bool m, .int .i64 s.1, .string s.2, .slice none 0 0] 38 (0, 0))) ∧ Hid (wc.heap[q]? = some (.cells #[.string o.1, .string o.2, .string ⟨#[]⟩, .int .u16 0, .string ⟨#[]⟩, .string ⟨#[]⟩, .slice none 0 0, .slice none 0 0] 83 (0, 0))) ∧
    Hid (OwnI 83 8 (VCol 20) wc (fun z => q < z) (.slice xa i xc) acc) ∧ Hid (Below w.heap.size w wc) ∧ Hid (OwnI 51 1 VKey wc (fun z => g < z ∧ z < kb) (.slice ja ks.length jc) ks)

/-- What stands ahead of each round over the places. -/
def KyR (w : World) (r g : Nat) (X : Res (List Int × Tb)) (zs : List Int) (d len : Nat) (f : Int) (n m : Nat) (kv pv bv t : Value) (wc : World) : Prop :=
  ∃ (i pos : Nat) (b : Bool) (xa : Option Addr) (xc : Nat) (acc : List Int), i ≤ m ∧ t = .int .i64 i ∧ pv = .int .i64 pos ∧ bv = .bool b ∧ kv = .slice xa i xc ∧ Hid (pos ≤ len) ∧ Hid (acc.length = i) ∧ Hid (b = acc.any (fun k => decide ((n : Int) ≤ k))) ∧
    Hid (Reads X zs d (bindR (loopR (numR 2) (m - i)) fun l => bindR (if (acc ++ l).any (fun k => decide ((n : Int) ≤ k)) then failR (acc ++ l) 11 else pureR (acc ++ l)) fun ks => bindR (tableR f n) fun t => pureR (ks, t)) pos id) ∧
    Hid (wc.heap[r]? = some (.cells #[.int .i64 0, .slice none 0 0, .bool false, .int .i64 0, .string ⟨#[]⟩, .slice none 0 0] 38 (0, 0))) ∧ Hid (wc.heap[g]? = some (.cells #[.int .i64 n, .slice none 0 0, .bool false, .int .i64 0, .string ⟨#[]⟩, .slice none 0 0] 38 (0, 0))) ∧ Hid (OwnI 51 1 VKey wc (fun z => g < z) (.slice xa i xc) acc) ∧ Hid (Below w.heap.size w wc)

theorem num2_ok {Z : List Int} (hr : ∀ j : Nat, 0 ≤ Z[j]?.getD 0 ∧ Z[j]?.getD 0 ≤ 255) {Y : Res Int} (hY : Y = numR 2 Z) (h : Y.err = 0) : Y.done = 2 ∧ 2 ≤ Z.length ∧ 0 ≤ Y.val ∧ Y.val < 65536 := by
  rw [hY] at h ⊢
  unfold numR at h ⊢
  by_cases hl : Z.length < 2
  · rw [if_pos hl] at h; exact absurd h (by decide)
  · rw [if_neg hl]
    have hb := numTo_bound Z hr 2 (by omega)
    exact ⟨rfl, by omega, hb.1, by simpa using hb.2⟩

/-- A number of two bytes, from a place on, as a parser has it. -/
theorem rnum2_at {w : World} {a : Option Addr} {len cap : Nat} {zs : List Int} (h : IsB w a len cap zs) (d : Nat) (hd : d ≤ len) (p : Int) (hp : p = d) {X : Res Int} (hX : X = numR 2 (zs.drop d)) :
    Calls Tryd.prog 51 #[.slice a len cap, .int .i64 p, .int .i64 2] w fun e w' => e = .returned (.tuple #[.int .u64 X.val, .int .i64 (place d X), .int .i64 X.err]) ∧ w' = w := by
  subst hp
  have hm : len ≤ maxLen := Nat.le_trans h.2.1 h.2.2.1
  have hzl : (zs.drop d).length = len - d := by rw [List.length_drop, h.1]
  by_cases hl : len < d + 2
  · have hX2 : X = ⟨0, 0, 10⟩ := by rw [hX, numR, if_pos (by omega)]
    subst hX2
    exact rget_at_short a len cap d 2 w (by omega) (by omega) hd hm hl _ _ rfl rfl
  · obtain ⟨b, off, rfl, hR⟩ := h.2.2.2.2 (by omega)
    have hX2 : X = ⟨numTo (zs.drop d) 2, 2, 0⟩ := by rw [hX, numR, if_neg (by omega)]
    subst hX2
    exact rget_at_yes hR d 2 (by omega) (by omega) (by omega) _ _ rfl rfl

theorem isB_rng {w : World} {a : Option Addr} {len cap : Nat} {zs : List Int} (h : IsB w a len cap zs) : ∀ j : Nat, 0 ≤ zs[j]?.getD 0 ∧ zs[j]?.getD 0 ≤ 255 := by
  by_cases hl : 0 < len
  · obtain ⟨b, off, rfl, hR⟩ := h.2.2.2.2 hl
    exact hR.rng
  · obtain rfl : zs = [] := List.eq_nil_of_length_eq_zero (by have := h.1; omega)
    intro j; simp

set_option maxHeartbeats 8000000 in
theorem cols_yes {w : World} {a : Option Addr} {len cap : Nat} {zs : List Int} (h : IsB w a len cap zs) (hsm : len ≤ 1000000) (d : Nat) (hd : d ≤ len) (p : Int) (hp : p = d) {X : Res (List Int × Tb)} (hX : X = colsP true (zs.drop d)) :
    Calls Tryd.prog 25 #[.slice a len cap, .int .i64 p, .bool true] w fun e w' => ColsE w X d len e w' := by
  subst hp
  obtain ⟨r, hr⟩ : ∃ r, r = w.heap.size := ⟨_, rfl⟩
  have HRE : Hid (w.heap.size = r) := hr.symm
  obtain ⟨g, hg⟩ : ∃ g, g = r + 1 := ⟨_, rfl⟩
  have HGE : Hid (r + 1 = g) := hg.symm
  obtain ⟨w0, hw0⟩ : ∃ w0, w0 = (w.alloc (.cells #[.int .i64 0, .slice none 0 0, .bool false, .int .i64 0, .string ⟨#[]⟩, .slice none 0 0] 38)).alloc (.cells #[.int .i64 0, .slice none 0 0, .bool false, .int .i64 0, .string ⟨#[]⟩, .slice none 0 0] 38) := ⟨_, rfl⟩
  have HW0 : Hid ((w.alloc (.cells #[.int .i64 0, .slice none 0 0, .bool false, .int .i64 0, .string ⟨#[]⟩, .slice none 0 0] 38)).alloc (.cells #[.int .i64 0, .slice none 0 0, .bool false, .int .i64 0, .string ⟨#[]⟩, .slice none 0 0] 38) = w0) := hw0.symm
  have HB0 : Hid (Below w.heap.size w w0) := by rw [hw0]; exact (below_one _ _).alloc (by simp) _
  have HZ0 : Hid (w0.heap[r]? = some (.cells #[.int .i64 0, .slice none 0 0, .bool false, .int .i64 0, .string ⟨#[]⟩, .slice none 0 0] 38 (0, 0))) := by
    show _ = _
    rw [hw0, hr]
    exact ((below_one (w.alloc (.cells #[.int .i64 0, .slice none 0 0, .bool false, .int .i64 0, .string ⟨#[]⟩, .slice none 0 0] 38)) _).block w.heap.size (by simp)).trans (heap_alloc_new w _)
  have HG0 : Hid (w0.heap[g]? = some (.cells #[.int .i64 0, .slice none 0 0, .bool false, .int .i64 0, .string ⟨#[]⟩, .slice none 0 0] 38 (0, 0))) := by
    show _ = _
    rw [hw0, hg, hr]
    have hsz : (w.alloc (.cells #[.int .i64 0, .slice none 0 0, .bool false, .int .i64 0, .string ⟨#[]⟩, .slice none 0 0] 38)).heap.size = w.heap.size + 1 := by simp
    rw [← hsz]
    exact heap_alloc_new _ _
  have HI : Hid (IsB w a len cap zs) := h
  have H0 : Hid (IsB w0 a len cap zs) := h.old HB0.out
  have hzl : zs.length = len := h.1
  have HZL : Hid (zs.length = len) := hzl
  obtain ⟨Y1, hY1⟩ : ∃ Y1, Y1 = int4R (zs.drop d) := ⟨_, rfl⟩
  have HY1 : Hid (Y1 = int4R (zs.drop d)) := hY1
  have hR1 := reads_assoc (f := fun f => if f < 0 ∨ 7 < f then failR (f, 0) 21 else bindR manyR fun n => pureR (f, n)) (reads_start (colsP true) hX)
  have HR1 : Hid (Reads X zs d _ d id) := hR1
  clear hr hg hw0 h hX hzl hR1 hY1
  go_enter Tryd.func25, Tryd.ntmps25
  go_upto_region 2 with fail
  (try rw [HRE.out])
  (try rw [HGE.out])
  rw [HW0.out]
  clear HW0
  go_wp2_with fail
  refine (rnum_at H0.out d hd _ rfl HY1.out).mono ?_
  rintro e w1 ⟨rfl, hb1⟩
  have HB1 : Hid (Below w.heap.size w w1) := HB0.out.trans (hb1.mono HB0.out.size)
  have HZ1 : Hid (w1.heap[r]? = some (.cells #[.int .i64 0, .slice none 0 0, .bool false, .int .i64 0, .string ⟨#[]⟩, .slice none 0 0] 38 (0, 0))) := (hb1.block r (block_lt HZ0.out)).trans HZ0.out
  have HG1 : Hid (w1.heap[g]? = some (.cells #[.int .i64 0, .slice none 0 0, .bool false, .int .i64 0, .string ⟨#[]⟩, .slice none 0 0] 38 (0, 0))) := (hb1.block g (block_lt HG0.out)).trans HG0.out
  have H1 : Hid (IsB w1 a len cap zs) := HI.out.old HB1.out
  clear hb1 H0 HB0 HZ0 HG0
  by_cases e1 : Y1.err = 0
  case neg =>
    have hx : X.err = Y1.err := (reads_err HR1.out (by rw [← HY1.out]; exact e1)).trans (by rw [← HY1.out])
    obtain ⟨ce, hce⟩ : ∃ ce, ce = Y1.err := ⟨_, rfl⟩
    have hce0 : (ce != 0) = true := by rw [hce]; simpa using e1
    have HCE : Hid (Y1.err = ce) := hce.symm
    have HXE : Hid (X.err = ce) := hx.trans hce.symm
    have HXN : Hid (X.err ≠ 0) := by show X.err ≠ 0; rw [hx]; exact e1
    have HPX : Hid (place d X = 0) := place_err HXN.out
    have HPY : Hid (place d Y1 = 0) := place_err e1
    clear hx hce
    rw [HCE.out, HPY.out]
    clear e1
    obtain ⟨wF, hwF, hF6, hKF⟩ := fill6 HZ1.out (.int .i64 0) (.slice none 0 0) (.bool false) (.int .i64 0) (.string ⟨#[]⟩) (.slice none 0 0)
    have HWF : Hid _ := hwF
    have HF6 : Hid _ := hF6
    have HBF : Hid (Below w.heap.size w wF) := HB1.out.trans (hKF.below HB1.out.size (fun z _ e => by have := HRE.out; omega))
    obtain ⟨_, f0, f1, f2, f3, f4, f5⟩ := blk6 HZ1.out
    obtain ⟨⟨g0, g1, g2, g3, g4, g5⟩, _⟩ := blk6 HG1.out
    have hlr := block_lt HZ1.out
    have hlg := block_lt HG1.out
    clear hwF hF6 hKF
    go_wp2_with fail
    rw [HWF.out]
    obtain ⟨⟨p0, p1, p2, p3, p4, p5⟩, _⟩ := blk6 HF6.out
    exact bodyPost_ret (v := .tuple #[.agg #[.int .i64 0, .slice none 0 0, .bool false, .int .i64 0, .string ⟨#[]⟩, .slice none 0 0], .slice none 0 0, .int .i64 0, .int .i64 ce]) (by simp [results, Tryd.results25, go_sem, p0, p1, p2, p3, p4, p5]) rfl
      ⟨_, _, _, _, _, _, _, _, _, _, by rw [HXE.out, HPX.out], HBF, fun e => absurd e HXN.out, fun e => absurd e HXN.out⟩
  case pos =>
    obtain ⟨hd1, hv1, hv2⟩ := int4R_done HY1.out e1
    rw [List.length_drop, HZL.out] at hd1
    have hR2 := reads_ok HR1.out (by rw [← HY1.out]; exact e1)
    rw [← HY1.out] at hR2
    have HP1 : Hid (place d Y1 = ((d + Y1.done : Nat) : Int)) := place_ok e1
    have HE1 : Hid (Y1.err = 0) := e1
    rw [HE1.out, HP1.out]
    obtain ⟨f, hf⟩ : ∃ f, f = Y1.val := ⟨_, rfl⟩
    rw [← hf] at hR2 hv1 hv2 ⊢
    obtain ⟨pos, hpos⟩ : ∃ pos, pos = d + Y1.done := ⟨_, rfl⟩
    have hpl : pos ≤ len := by omega
    rw [← hpos] at hR2 ⊢
    clear hf hpos hd1 e1 HE1 HP1 HY1 HR1
    by_cases hfl : f < 0 ∨ 7 < f
    · rw [if_pos hfl] at hR2
      have HXE : Hid (X.err = 21) := reads_bfail hR2 (by decide)
      have HXN : Hid (X.err ≠ 0) := by show X.err ≠ 0; rw [HXE.out]; decide
      have HPX : Hid (place d X = 0) := place_err HXN.out
      clear hR2
      rcases hfl with hfl | hfl
      · have hfn : decide (f < 0) = true := by simpa using hfl
        obtain ⟨wF, hwF, hF6, hKF⟩ := fill6 HZ1.out (.int .i64 0) (.slice none 0 0) (.bool false) (.int .i64 0) (.string ⟨#[]⟩) (.slice none 0 0)
        have HWF : Hid _ := hwF
        have HF6 : Hid _ := hF6
        have HBF : Hid (Below w.heap.size w wF) := HB1.out.trans (hKF.below HB1.out.size (fun z _ e => by have := HRE.out; omega))
        obtain ⟨_, f0, f1, f2, f3, f4, f5⟩ := blk6 HZ1.out
        obtain ⟨⟨g0, g1, g2, g3, g4, g5⟩, _⟩ := blk6 HG1.out
        have hlr := block_lt HZ1.out
        have hlg := block_lt HG1.out
        clear hwF hF6 hKF
        go_wp2_with fail
        rw [HWF.out]
        obtain ⟨⟨p0, p1, p2, p3, p4, p5⟩, _⟩ := blk6 HF6.out
        exact bodyPost_ret (v := .tuple #[.agg #[.int .i64 0, .slice none 0 0, .bool false, .int .i64 0, .string ⟨#[]⟩, .slice none 0 0], .slice none 0 0, .int .i64 0, .int .i64 21]) (by simp [results, Tryd.results25, go_sem, p0, p1, p2, p3, p4, p5]) rfl
          ⟨_, _, _, _, _, _, _, _, _, _, by rw [HXE.out, HPX.out], HBF, fun e => absurd e HXN.out, fun e => absurd e HXN.out⟩
      · have hfn : decide (f < 0) = false := by simp; omega
        have hfp : decide (7 < f) = true := by simpa using hfl
        obtain ⟨wF, hwF, hF6, hKF⟩ := fill6 HZ1.out (.int .i64 0) (.slice none 0 0) (.bool false) (.int .i64 0) (.string ⟨#[]⟩) (.slice none 0 0)
        have HWF : Hid _ := hwF
        have HF6 : Hid _ := hF6
        have HBF : Hid (Below w.heap.size w wF) := HB1.out.trans (hKF.below HB1.out.size (fun z _ e => by have := HRE.out; omega))
        obtain ⟨_, f0, f1, f2, f3, f4, f5⟩ := blk6 HZ1.out
        obtain ⟨⟨g0, g1, g2, g3, g4, g5⟩, _⟩ := blk6 HG1.out
        have hlr := block_lt HZ1.out
        have hlg := block_lt HG1.out
        clear hwF hF6 hKF
        go_wp2_with fail
        rw [HWF.out]
        obtain ⟨⟨p0, p1, p2, p3, p4, p5⟩, _⟩ := blk6 HF6.out
        exact bodyPost_ret (v := .tuple #[.agg #[.int .i64 0, .slice none 0 0, .bool false, .int .i64 0, .string ⟨#[]⟩, .slice none 0 0], .slice none 0 0, .int .i64 0, .int .i64 21]) (by simp [results, Tryd.results25, go_sem, p0, p1, p2, p3, p4, p5]) rfl
          ⟨_, _, _, _, _, _, _, _, _, _, by rw [HXE.out, HPX.out], HBF, fun e => absurd e HXN.out, fun e => absurd e HXN.out⟩
    · rw [if_neg hfl] at hR2
      have hf0 : 0 ≤ f := by omega
      have hf7 : f ≤ 7 := by omega
      have hfn : decide (f < 0) = false := by simp; omega
      have hfp : decide (7 < f) = false := by simp; omega
      obtain ⟨Y2, hY2⟩ : ∃ Y2, Y2 = manyR (zs.drop pos) := ⟨_, rfl⟩
      have HY2 : Hid (Y2 = manyR (zs.drop pos)) := hY2
      have HR2 : Hid (Reads X zs d _ pos id) := reads_assoc hR2
      clear hR2 hY2 hfl hv1 hv2
      go_wp2_with fail
      refine (count_at H1.out pos hpl _ rfl HY2.out).mono ?_
      rintro e w2 ⟨rfl, hb2⟩
      have HB2 : Hid (Below w.heap.size w w2) := HB1.out.trans (hb2.mono HB1.out.size)
      have HZ2 : Hid (w2.heap[r]? = some (.cells #[.int .i64 0, .slice none 0 0, .bool false, .int .i64 0, .string ⟨#[]⟩, .slice none 0 0] 38 (0, 0))) := (hb2.block r (block_lt HZ1.out)).trans HZ1.out
      have HG2 : Hid (w2.heap[g]? = some (.cells #[.int .i64 0, .slice none 0 0, .bool false, .int .i64 0, .string ⟨#[]⟩, .slice none 0 0] 38 (0, 0))) := (hb2.block g (block_lt HG1.out)).trans HG1.out
      have H2 : Hid (IsB w2 a len cap zs) := HI.out.old HB2.out
      clear hb2 H1 HB1 HZ1 HG1
      by_cases e2 : Y2.err = 0
      case neg =>
        have hx : X.err = Y2.err := (reads_err HR2.out (by rw [← HY2.out]; exact e2)).trans (by rw [← HY2.out])
        obtain ⟨ce, hce⟩ : ∃ ce, ce = Y2.err := ⟨_, rfl⟩
        have hce0 : (ce != 0) = true := by rw [hce]; simpa using e2
        have HCE : Hid (Y2.err = ce) := hce.symm
        have HXE : Hid (X.err = ce) := hx.trans hce.symm
        have HXN : Hid (X.err ≠ 0) := by show X.err ≠ 0; rw [hx]; exact e2
        have HPX : Hid (place d X = 0) := place_err HXN.out
        have HPY : Hid (place pos Y2 = 0) := place_err e2
        clear hx hce
        rw [HCE.out, HPY.out]
        clear e2
        obtain ⟨wF, hwF, hF6, hKF⟩ := fill6 HZ2.out (.int .i64 0) (.slice none 0 0) (.bool false) (.int .i64 0) (.string ⟨#[]⟩) (.slice none 0 0)
        have HWF : Hid _ := hwF
        have HF6 : Hid _ := hF6
        have HBF : Hid (Below w.heap.size w wF) := HB2.out.trans (hKF.below HB2.out.size (fun z _ e => by have := HRE.out; omega))
        obtain ⟨_, f0, f1, f2, f3, f4, f5⟩ := blk6 HZ2.out
        obtain ⟨⟨g0, g1, g2, g3, g4, g5⟩, _⟩ := blk6 HG2.out
        have hlr := block_lt HZ2.out
        have hlg := block_lt HG2.out
        clear hwF hF6 hKF
        go_wp2_with fail
        rw [HWF.out]
        obtain ⟨⟨p0, p1, p2, p3, p4, p5⟩, _⟩ := blk6 HF6.out
        exact bodyPost_ret (v := .tuple #[.agg #[.int .i64 0, .slice none 0 0, .bool false, .int .i64 0, .string ⟨#[]⟩, .slice none 0 0], .slice none 0 0, .int .i64 0, .int .i64 ce]) (by simp [results, Tryd.results25, go_sem, p0, p1, p2, p3, p4, p5]) rfl
          ⟨_, _, _, _, _, _, _, _, _, _, by rw [HXE.out, HPX.out], HBF, fun e => absurd e HXN.out, fun e => absurd e HXN.out⟩
      case pos =>
        obtain ⟨hd2, hn0, hn1⟩ := manyR_done HY2.out e2
        rw [List.length_drop, HZL.out] at hd2
        have hR2b := reads_ok HR2.out (by rw [← HY2.out]; exact e2)
        rw [← HY2.out] at hR2b
        have hR3 := reads_bpure hR2b
        clear hR2b
        have HP2 : Hid (place pos Y2 = ((pos + Y2.done : Nat) : Int)) := place_ok e2
        have HE2 : Hid (Y2.err = 0) := e2
        rw [HE2.out, HP2.out]
        obtain ⟨n, hn⟩ := Int.eq_ofNat_of_zero_le hn0
        rw [hn] at hR3 hn1 ⊢
        obtain ⟨pos1, hpos1⟩ : ∃ pos1, pos1 = pos + Y2.done := ⟨_, rfl⟩
        have hpl1 : pos1 ≤ len := by omega
        rw [← hpos1] at hR3 ⊢
        have HRk : Hid (Reads X zs d (bindR manyR fun m => bindR (bindR (loopR (numR 2) m.toNat) fun l => if l.any (fun k => decide ((n : Int) ≤ k)) then failR l 11 else pureR l) fun ks => bindR (tableR f n) fun t => pureR (ks, t)) pos1 id) := reads_assoc (show Reads X zs d (bindR (keysR n) fun ks => bindR (tableR f n) fun t => pureR (ks, t)) pos1 id from hR3)
        have hn4 : n ≤ 4096 := by omega
        clear hn hpos1 hd2 e2 HE2 HP2 HY2 HR2 hR3 hn0 hn1
        obtain ⟨_, f0, f1, f2, f3, f4, f5⟩ := blk6 HG2.out
        obtain ⟨w30, hw30⟩ : ∃ w30, w30 = (w2.setCell ⟨g, 0, none⟩ (.int .i64 n)) := ⟨_, rfl⟩
        have HW30 : Hid ((w2.setCell ⟨g, 0, none⟩ (.int .i64 n)) = w30) := hw30.symm
        have hK30 : Kept (fun k => k = g) w2 w30 := by rw [hw30]; exact (one_kept _ g 0 _)
        have HG30 : Hid (w30.heap[g]? = some (.cells #[.int .i64 n, .slice none 0 0, .bool false, .int .i64 0, .string ⟨#[]⟩, .slice none 0 0] 38 (0, 0))) := by rw [hw30]; exact (blk_set HG2.out 0 _)
        have HZ30 : Hid (w30.heap[r]? = some (.cells #[.int .i64 0, .slice none 0 0, .bool false, .int .i64 0, .string ⟨#[]⟩, .slice none 0 0] 38 (0, 0))) := (hK30.block r (block_lt HZ2.out) (by have := HGE.out; omega)).trans HZ2.out
        have HB30 : Hid (Below w.heap.size w w30) := HB2.out.trans (hK30.below HB2.out.size (fun z _ e => by have := HRE.out; have := HGE.out; omega))
        have H30 : Hid (IsB w30 a len cap zs) := HI.out.old HB30.out
        clear hw30 hK30
        obtain ⟨Yk, hYk⟩ : ∃ Yk, Yk = manyR (zs.drop pos1) := ⟨_, rfl⟩
        have HYk : Hid (Yk = manyR (zs.drop pos1)) := hYk
        clear hYk
        go_upto_region 14 with fail
        rw [HW30.out]
        clear HW30 f0 f1 f2 f3 f4 f5 HB2 HZ2 HG2 H2
        go_wp2_with fail
        refine (count_at H30.out pos1 hpl1 _ rfl HYk.out).mono ?_
        rintro e w31 ⟨rfl, hb31⟩
        have HB31 : Hid (Below w.heap.size w w31) := HB30.out.trans (hb31.mono HB30.out.size)
        have HZ31 : Hid (w31.heap[r]? = some (.cells #[.int .i64 0, .slice none 0 0, .bool false, .int .i64 0, .string ⟨#[]⟩, .slice none 0 0] 38 (0, 0))) := (hb31.block r (block_lt HZ30.out)).trans HZ30.out
        have HG31 : Hid (w31.heap[g]? = some (.cells #[.int .i64 n, .slice none 0 0, .bool false, .int .i64 0, .string ⟨#[]⟩, .slice none 0 0] 38 (0, 0))) := (hb31.block g (block_lt HG30.out)).trans HG30.out
        have H31 : Hid (IsB w31 a len cap zs) := HI.out.old HB31.out
        clear hb31 H30 HB30 HZ30 HG30
        by_cases ek : Yk.err = 0
        case neg =>
          have hx : X.err = Yk.err := (reads_err HRk.out (by rw [← HYk.out]; exact ek)).trans (by rw [← HYk.out])
          obtain ⟨ce, hce⟩ : ∃ ce, ce = Yk.err := ⟨_, rfl⟩
          have hce0 : (ce != 0) = true := by rw [hce]; simpa using ek
          have HCE : Hid (Yk.err = ce) := hce.symm
          have HXE : Hid (X.err = ce) := hx.trans hce.symm
          have HXN : Hid (X.err ≠ 0) := by show X.err ≠ 0; rw [hx]; exact ek
          have HPX : Hid (place d X = 0) := place_err HXN.out
          have HPY : Hid (place pos1 Yk = 0) := place_err ek
          clear hx hce
          rw [HCE.out, HPY.out]
          clear ek
          obtain ⟨wF, hwF, hF6, hKF⟩ := fill6 HZ31.out (.int .i64 n) (.slice none 0 0) (.bool false) (.int .i64 0) (.string ⟨#[]⟩) (.slice none 0 0)
          have HWF : Hid _ := hwF
          have HF6 : Hid _ := hF6
          have HBF : Hid (Below w.heap.size w wF) := HB31.out.trans (hKF.below HB31.out.size (fun z _ e => by have := HRE.out; omega))
          obtain ⟨_, f0, f1, f2, f3, f4, f5⟩ := blk6 HZ31.out
          obtain ⟨⟨g0, g1, g2, g3, g4, g5⟩, _⟩ := blk6 HG31.out
          have hlr := block_lt HZ31.out
          have hlg := block_lt HG31.out
          clear hwF hF6 hKF
          go_wp2_with fail
          rw [HWF.out]
          obtain ⟨⟨p0, p1, p2, p3, p4, p5⟩, _⟩ := blk6 HF6.out
          exact bodyPost_ret (v := .tuple #[.agg #[.int .i64 n, .slice none 0 0, .bool false, .int .i64 0, .string ⟨#[]⟩, .slice none 0 0], .slice none 0 0, .int .i64 0, .int .i64 ce]) (by simp [results, Tryd.results25, go_sem, p0, p1, p2, p3, p4, p5]) rfl
            ⟨_, _, _, _, _, _, _, _, _, _, by rw [HXE.out, HPX.out], HBF, fun e => absurd e HXN.out, fun e => absurd e HXN.out⟩
        case pos =>
          obtain ⟨hdk, hm0, hm1⟩ := manyR_done HYk.out ek
          rw [List.length_drop, HZL.out] at hdk
          have hRl := reads_ok HRk.out (by rw [← HYk.out]; exact ek)
          rw [← HYk.out] at hRl
          have HPk : Hid (place pos1 Yk = ((pos1 + Yk.done : Nat) : Int)) := place_ok ek
          have HEk : Hid (Yk.err = 0) := ek
          rw [HEk.out, HPk.out]
          obtain ⟨m, hm⟩ := Int.eq_ofNat_of_zero_le hm0
          rw [hm] at hRl hm1 ⊢
          have hm4 : m ≤ 4096 := by omega
          obtain ⟨p0, hp0⟩ : ∃ p0, p0 = pos1 + Yk.done := ⟨_, rfl⟩
          have HPL0 : Hid (p0 ≤ len) := by show p0 ≤ len; omega
          rw [← hp0] at hRl ⊢
          have HRl : Hid (Reads X zs d (bindR (loopR (numR 2) (m - 0)) fun l => bindR (if (([] : List Int) ++ l).any (fun k => decide ((n : Int) ≤ k)) then failR ([] ++ l) 11 else pureR ([] ++ l)) fun ks => bindR (tableR f n) fun t => pureR (ks, t)) p0 id) := reads_assoc (show Reads X zs d (bindR (bindR (loopR (numR 2) m) fun l => if l.any (fun k => decide ((n : Int) ≤ k)) then failR l 11 else pureR l) fun ks => bindR (tableR f n) fun t => pureR (ks, t)) p0 id from hRl)
          have HRNG : Hid (∀ k : Nat, ∀ j : Nat, 0 ≤ (zs.drop k)[j]?.getD 0 ∧ (zs.drop k)[j]?.getD 0 ≤ 255) := fun k => range_drop (isB_rng HI.out) k
          clear hm hp0 hdk ek HEk HPk HYk HRk hRl hm0 hm1 hpl1
          go_wp2_with fail
          go_loopw [11, 13, 17, 18] (fun kv pv bv t wr => KyR w r g X zs d len f n m kv pv bv t wr) (fun _ _ _ t _ => m - (intOf t).toNat)
          case atStart => exact ⟨0, p0, false, none, 0, [], by omega, rfl, rfl, rfl, rfl, HPL0, rfl, rfl, HRl, HZ31, HG31, ownI_nil _ _ _ _ _, HB31⟩
          case round =>
            obtain ⟨i, pos2, b, ja, jc, ks, hi, rfl, rfl, rfl, rfl, HPi, HLi, HBi, HRi, HZ40, HG40, HO40, HB40⟩ := hrel
            obtain ⟨w40, hw40⟩ : ∃ x, x = wr := ⟨_, rfl⟩
            subst hw40
            have H40 : Hid (IsB w40 a len cap zs) := HI.out.old HB40.out
            clear HRl HPL0 HZ31 HG31 HB31 H31
            by_cases hlt : i < m
            case pos =>
              obtain ⟨k, hk⟩ : ∃ k, m - i = k + 1 := ⟨m - i - 1, by omega⟩
              have hRa := HRi.out
              rw [hk] at hRa
              have HRb : Hid (Reads X zs d (bindR (numR 2) _) pos2 id) := reads_loop hRa
              have HMI : Hid (k = m - (i + 1)) := by show _ = _; omega
              obtain ⟨Y8, hY8⟩ : ∃ Y8, Y8 = numR 2 (zs.drop pos2) := ⟨_, rfl⟩
              have HY8 : Hid (Y8 = numR 2 (zs.drop pos2)) := hY8
              clear hRa hk hY8 HRi
              go_upto_region 22 with fail
              go_wp2_with fail
              refine (rnum2_at H40.out pos2 HPi.out _ rfl HY8.out).mono ?_
              rintro e w9x ⟨rfl, hw9⟩
              obtain rfl : w40 = w9x := hw9.symm
              by_cases e8 : Y8.err = 0
              case neg =>
                have hx : X.err = Y8.err := (reads_err HRb.out (by rw [← HY8.out]; exact e8)).trans (by rw [← HY8.out])
                obtain ⟨ce, hce⟩ : ∃ ce, ce = Y8.err := ⟨_, rfl⟩
                have hce0 : (ce != 0) = true := by rw [hce]; simpa using e8
                have HCE : Hid (Y8.err = ce) := hce.symm
                have HXE : Hid (X.err = ce) := hx.trans hce.symm
                have HXN : Hid (X.err ≠ 0) := by show X.err ≠ 0; rw [hx]; exact e8
                have HPX : Hid (place d X = 0) := place_err HXN.out
                have HPY : Hid (place pos2 Y8 = 0) := place_err e8
                clear hx hce
                rw [HCE.out, HPY.out]
                clear e8
                obtain ⟨wF, hwF, hF6, hKF⟩ := fill6 HZ40.out (.int .i64 n) (.slice none 0 0) (.bool false) (.int .i64 0) (.string ⟨#[]⟩) (.slice none 0 0)
                have HWF : Hid _ := hwF
                have HF6 : Hid _ := hF6
                have HBF : Hid (Below w.heap.size w wF) := HB40.out.trans (hKF.below HB40.out.size (fun z _ e => by have := HRE.out; omega))
                obtain ⟨_, f0, f1, f2, f3, f4, f5⟩ := blk6 HZ40.out
                obtain ⟨⟨g0, g1, g2, g3, g4, g5⟩, _⟩ := blk6 HG40.out
                have hlr := block_lt HZ40.out
                have hlg := block_lt HG40.out
                clear hwF hF6 hKF
                go_wp2_with fail
                rw [HWF.out]
                obtain ⟨⟨p0, p1, p2, p3, p4, p5⟩, _⟩ := blk6 HF6.out
                exact bodyPost_ret (v := .tuple #[.agg #[.int .i64 n, .slice none 0 0, .bool false, .int .i64 0, .string ⟨#[]⟩, .slice none 0 0], .slice none 0 0, .int .i64 0, .int .i64 ce]) (by simp [results, Tryd.results25, go_sem, p0, p1, p2, p3, p4, p5]) rfl
                  ⟨_, _, _, _, _, _, _, _, _, _, by rw [HXE.out, HPX.out], HBF, fun e => absurd e HXN.out, fun e => absurd e HXN.out⟩
              case pos =>
                obtain ⟨hd8, hl8, hx0, hx1⟩ := num2_ok (HRNG.out pos2) HY8.out e8
                rw [List.length_drop, HZL.out] at hl8
                have hRc := reads_ok HRb.out (by rw [← HY8.out]; exact e8)
                rw [← HY8.out, hd8] at hRc
                have HP8 : Hid (place pos2 Y8 = ((pos2 + 2 : Nat) : Int)) := by show _ = _; rw [place_ok e8, hd8]
                have HE8 : Hid (Y8.err = 0) := e8
                rw [HE8.out, HP8.out]
                have HPn : Hid (pos2 + 2 ≤ len) := by show pos2 + 2 ≤ len; omega
                obtain ⟨x, hx⟩ : ∃ x, x = Y8.val := ⟨_, rfl⟩
                rw [← hx] at hRc hx0 hx1 ⊢
                have hF9 : ∀ l : List Int, ks ++ x :: l = (ks ++ [x]) ++ l := fun l => by simp
                have HRd : Hid (Reads X zs d (bindR (loopR (numR 2) (m - (i + 1))) fun l => bindR (if ((ks ++ [x]) ++ l).any (fun k => decide ((n : Int) ≤ k)) then failR ((ks ++ [x]) ++ l) 11 else pureR ((ks ++ [x]) ++ l)) fun ks => bindR (tableR f n) fun t => pureR (ks, t)) (pos2 + 2) id) := by
                  show Reads _ _ _ _ _ _
                  simp only [← hF9]
                  rw [← HMI.out]
                  exact hRc
                obtain ⟨dd, hdd⟩ : ∃ dd, decide ((n : Int) ≤ x) = dd := ⟨_, rfl⟩
                have HDD : Hid (decide ((n : Int) ≤ x) = dd) := hdd
                have HBN2 : Hid ((b || dd) = (ks ++ [x]).any (fun k => decide ((n : Int) ≤ k))) := by show _ = _; rw [List.any_append, ← HBi.out, ← hdd]; simp
                have hw16 : IntKind.u16.wrap x = x := by rw [IntKind.wrap_u16]; omega
                have hBw : Below w40.heap.size w40 (w40.alloc (.cells #[.int .u16 x] 51)) := below_one _ _
                have HBN : Hid ((w40.alloc (.cells #[.int .u16 x] 51)).heap[w40.heap.size]? = some (.cells [Value.int .u16 x].toArray 51 (0, 0))) := heap_alloc_new w40 _
                have HON : Hid (OwnI 51 1 VKey (w40.alloc (.cells #[.int .u16 x] 51)) (fun z => g < z) (.slice ja i jc) ks) := HO40.out.old stays_key hBw
                have HXN : Hid (VKey (fun z => z < (w40.alloc (.cells #[.int .u16 x] 51)).heap.size ∧ (Value.slice ja i jc).ownBlock ≠ some z ∧ g < z) (w40.alloc (.cells #[.int .u16 x] 51)) x (fun j => ([Value.int .u16 x] : List Value).getD j default)) := rfl
                have HFN : Hid ((fun z => g < z) (w40.alloc (.cells #[.int .u16 x] 51)).heap.size) := by have := block_lt HG40.out; show g < _; simp; omega
                clear hRc hF9 hx hd8 hl8 e8 HE8 HP8 HY8 HRb
                cases b <;> cases dd
                all_goals
                  go_wp2_with (at_builtin; refine wpList_appendI rfl (.tmp 82) (.tmp 85) 44 rfl stays_key elem_key rfl HON.out rfl HBN.out rfl ?c1 x HXN.out HFN.out ?c2 ?c3 ?_)
                  case c1 => first | rfl | (intro u hu; simp at hu; rw [hu]; rfl)
                  case c2 => rw [HLi.out]; unfold maxLen; omega
                  case c3 => rw [HLi.out]; omega
                  intro v4 w41 ho4 hK41 hv4
                  obtain ⟨ja4, jc4, hv4e⟩ := ho4.shape
                  have hlen4 : (ks ++ [x]).length = i + 1 := by rw [List.length_append, HLi.out]; rfl
                  have HL4 : Hid ((ks ++ [x]).length = i + 1) := hlen4
                  rw [hlen4] at hv4e
                  subst hv4e
                  have hvq : ∀ z, (Value.slice ja i jc).ownBlock = some z → g < z := fun z e => (HO40.out.lt z e).1
                  have HO41 : Hid (OwnI 51 1 VKey w41 (fun z => g < z) (.slice ja4 (i + 1) jc4) (ks ++ [x])) := ho4
                  have HG41 : Hid (w41.heap[g]? = some (.cells #[.int .i64 n, .slice none 0 0, .bool false, .int .i64 0, .string ⟨#[]⟩, .slice none 0 0] 38 (0, 0))) := (hK41.block g (Nat.lt_of_lt_of_le (block_lt HG40.out) hBw.size) (fun e => by have := hvq g e; omega)).trans ((hBw.block g (block_lt HG40.out)).trans HG40.out)
                  have HZ41 : Hid (w41.heap[r]? = some (.cells #[.int .i64 0, .slice none 0 0, .bool false, .int .i64 0, .string ⟨#[]⟩, .slice none 0 0] 38 (0, 0))) := (hK41.block r (Nat.lt_of_lt_of_le (block_lt HZ40.out) hBw.size) (fun e => by have := hvq r e; have := HGE.out; omega)).trans ((hBw.block r (block_lt HZ40.out)).trans HZ40.out)
                  have HB41 : Hid (Below w.heap.size w w41) := (HB40.out.trans (hBw.mono HB40.out.size)).trans (hK41.below (Nat.le_trans HB40.out.size hBw.size) (fun z _ e => by have := hvq z e; have := HGE.out; have := HRE.out; omega))
                  clear ho4 hK41 hv4 hlen4 hvq hBw
                  go_wp2_with fail
                  go_roundw
                  case rel => exact ⟨i + 1, pos2 + 2, _, _, _, _, by omega, by go_num, by go_num, rfl, rfl, HPn, HL4, HBN2, HRd, HZ41, HG41, HO41, HB41⟩
                  case measure => simp [intOf]; omega
            case neg =>
              obtain rfl : i = m := by omega
              have hRa := HRi.out
              rw [Nat.sub_self] at hRa
              have hRb := reads_bpure (show Reads X zs d (bindR (pureR ([] : List Int)) _) pos2 id from hRa)
              rw [List.append_nil, ← HBi.out] at hRb
              cases b with
              | true =>
                have hRc : Reads X zs d (bindR (failR ks 11) _) pos2 id := hRb
                have HXE : Hid (X.err = 11) := reads_bfail hRc (by decide)
                have HXN : Hid (X.err ≠ 0) := by show X.err ≠ 0; rw [HXE.out]; decide
                have HPX : Hid (place d X = 0) := place_err HXN.out
                clear hRa hRb hRc
                obtain ⟨wF, hwF, hF6, hKF⟩ := fill6 HZ40.out (.int .i64 n) (.slice none 0 0) (.bool false) (.int .i64 0) (.string ⟨#[]⟩) (.slice none 0 0)
                have HWF : Hid _ := hwF
                have HF6 : Hid _ := hF6
                have HBF : Hid (Below w.heap.size w wF) := HB40.out.trans (hKF.below HB40.out.size (fun z _ e => by have := HRE.out; omega))
                obtain ⟨_, f0, f1, f2, f3, f4, f5⟩ := blk6 HZ40.out
                obtain ⟨⟨g0, g1, g2, g3, g4, g5⟩, _⟩ := blk6 HG40.out
                have hlr := block_lt HZ40.out
                have hlg := block_lt HG40.out
                clear hwF hF6 hKF
                go_wp2_with fail
                rw [HWF.out]
                obtain ⟨⟨p0, p1, p2, p3, p4, p5⟩, _⟩ := blk6 HF6.out
                exact bodyPost_ret (v := .tuple #[.agg #[.int .i64 n, .slice none 0 0, .bool false, .int .i64 0, .string ⟨#[]⟩, .slice none 0 0], .slice none 0 0, .int .i64 0, .int .i64 11]) (by simp [results, Tryd.results25, go_sem, p0, p1, p2, p3, p4, p5]) rfl
                  ⟨_, _, _, _, _, _, _, _, _, _, by rw [HXE.out, HPX.out], HBF, fun e => absurd e HXN.out, fun e => absurd e HXN.out⟩
              | false =>
                have hRc := reads_bpure (show Reads X zs d (bindR (pureR ks) _) pos2 id from hRb)
                have hR4 := reads_assoc (show Reads X zs d (bindR (bindR (optR (bitX f 2) v0 valueR) _) _) pos2 id from hRc)
                have HR4 : Hid (Reads X zs d _ pos2 id) := hR4
                obtain ⟨kb, hkb⟩ : ∃ kb, kb = w40.heap.size := ⟨_, rfl⟩
                have HUS3 : Hid (kb ≤ w40.heap.size) := Nat.le_of_eq hkb
                have HU3 : Hid (OwnI 51 1 VKey w40 (fun z => g < z ∧ z < kb) (.slice ja ks.length jc) ks) := by rw [HLi.out]; exact HO40.out.sub stays_key (fun z hz hf => ⟨hf, by rw [hkb]; exact hz⟩)
                obtain ⟨w3, hw3⟩ : ∃ x, x = w40 := ⟨_, rfl⟩
                subst hw3
                have HZ3 : Hid (w3.heap[r]? = some (.cells #[.int .i64 0, .slice none 0 0, .bool false, .int .i64 0, .string ⟨#[]⟩, .slice none 0 0] 38 (0, 0))) := HZ40
                have HG3 : Hid (w3.heap[g]? = some (.cells #[.int .i64 n, .slice none 0 0, .bool false, .int .i64 0, .string ⟨#[]⟩, .slice none 0 0] 38 (0, 0))) := HG40
                have HB3 : Hid (Below w.heap.size w w3) := HB40
                have H3 : Hid (IsB w3 a len cap zs) := H40
                have hpl2 : pos2 ≤ len := HPi.out
                have HKLE : Hid (ks.length = i) := HLi
                have hli : (i : Int) = ks.length := by rw [HLi.out]
                have hli2 := HLi.out
                subst hli2
                clear hRa hRb hRc hR4 hkb HRi HZ40 HG40 HO40 HB40 H40 hi hlt hli
                have HBT : Hid (bitX f 2 = decide (f / 2 % 2 = 1) ∧ bitX f 4 = decide (4 ≤ f) ∧ bitX f 1 = decide (f % 2 = 1)) := bit_facts hf0 hf7
                have hpl2c : pos2 ≤ len := hpl2
                go_upto_if 99 with fail
                go_cut [13, 14] (fun pv ev wc => StK w r g X zs d len f n kb ja jc ks pv wc)
                case first =>
                  by_cases hm : f / 2 % 2 = 1
                  · have hm1 : (f / 2 % 2 == 1) = true := by simpa using hm
                    have hm2 : bitX f 2 = true := by rw [HBT.out.1]; simpa using hm
                    have hR5 := HR4.out
                    rw [hm2] at hR5
                    have HR5 : Hid (Reads X zs d (bindR valueR _) pos2 id) := hR5
                    obtain ⟨Y3, hY3⟩ : ∃ Y3, Y3 = valueR (zs.drop pos2) := ⟨_, rfl⟩
                    have HY3 : Hid (Y3 = valueR (zs.drop pos2)) := hY3
                    obtain ⟨w4, hw4⟩ : ∃ w4, w4 = (w3.setCell ⟨g, 2, none⟩ (.bool true)) := ⟨_, rfl⟩
                    have HW4 : Hid ((w3.setCell ⟨g, 2, none⟩ (.bool true)) = w4) := hw4.symm
                    have hK4 : Kept (fun k => k = g) w3 w4 := by rw [hw4]; exact (one_kept _ g 2 _)
                    have HG4 : Hid (w4.heap[g]? = some (.cells #[.int .i64 n, .slice none 0 0, .bool true, .int .i64 0, .string ⟨#[]⟩, .slice none 0 0] 38 (0, 0))) := by rw [hw4]; exact (blk_set HG3.out 2 _)
                    have HZ4 : Hid (w4.heap[r]? = some (.cells #[.int .i64 0, .slice none 0 0, .bool false, .int .i64 0, .string ⟨#[]⟩, .slice none 0 0] 38 (0, 0))) := (hK4.block r (block_lt HZ3.out) (by have := HGE.out; omega)).trans HZ3.out
                    have HB4 : Hid (Below w.heap.size w w4) := HB3.out.trans (hK4.below HB3.out.size (fun z _ e => by have := HRE.out; have := HGE.out; omega))
                    have H4 : Hid (IsB w4 a len cap zs) := HI.out.old HB4.out
                    have HU4 : Hid (OwnI 51 1 VKey w4 (fun z => g < z ∧ z < kb) (.slice ja ks.length jc) ks) := HU3.out.apart stays_key hK4 (fun z _ hf e => by omega)
                    have HUS4 : Hid (kb ≤ w4.heap.size) := Nat.le_trans HUS3.out hK4.size
                    clear hw4 hK4
                    obtain ⟨_, f0, f1, f2, f3, f4, f5⟩ := blk6 HG3.out
                    clear hR5 hY3 HR4
                    go_wp2_with fail
                    rw [HW4.out]
                    refine (rgetValue_at H4.out pos2 hpl2c _ rfl HY3.out).mono ?_
                    rintro e w5 ⟨rfl, hb5⟩
                    have HB5 : Hid (Below w.heap.size w w5) := HB4.out.trans (hb5.mono HB4.out.size)
                    have HZ5 : Hid (w5.heap[r]? = some (.cells #[.int .i64 0, .slice none 0 0, .bool false, .int .i64 0, .string ⟨#[]⟩, .slice none 0 0] 38 (0, 0))) := (hb5.block r (block_lt HZ4.out)).trans HZ4.out
                    have HG5 : Hid (w5.heap[g]? = some (.cells #[.int .i64 n, .slice none 0 0, .bool true, .int .i64 0, .string ⟨#[]⟩, .slice none 0 0] 38 (0, 0))) := (hb5.block g (block_lt HG4.out)).trans HG4.out
                    have HU5 : Hid (OwnI 51 1 VKey w5 (fun z => g < z ∧ z < kb) (.slice ja ks.length jc) ks) := HU4.out.old stays_key hb5
                    have HUS5 : Hid (kb ≤ w5.heap.size) := Nat.le_trans HUS4.out hb5.size
                    have H5 : Hid (IsB w5 a len cap zs) := HI.out.old HB5.out
                    clear hb5 HW4 HB4 HZ4 HG4 H4 HB3 HZ3 HG3 H3 f0 f1 f2 f3 f4 f5
                    obtain ⟨w6, hw6⟩ : ∃ w6, w6 = ((w5.setCell ⟨g, 3, none⟩ (.int .i64 Y3.val.1)).setCell ⟨g, 4, none⟩ (.string Y3.val.2)) := ⟨_, rfl⟩
                    have HW6 : Hid (((w5.setCell ⟨g, 3, none⟩ (.int .i64 Y3.val.1)).setCell ⟨g, 4, none⟩ (.string Y3.val.2)) = w6) := hw6.symm
                    have hK6 : Kept (fun k => k = g) w5 w6 := by rw [hw6]; exact ((one_kept _ g 3 _).trans (one_kept _ g 4 _) (fun i _ e => e))
                    have HG6 : Hid (w6.heap[g]? = some (.cells #[.int .i64 n, .slice none 0 0, .bool true, .int .i64 Y3.val.1, .string Y3.val.2, .slice none 0 0] 38 (0, 0))) := by rw [hw6]; exact (blk_set (blk_set HG5.out 3 _) 4 _)
                    have HZ6 : Hid (w6.heap[r]? = some (.cells #[.int .i64 0, .slice none 0 0, .bool false, .int .i64 0, .string ⟨#[]⟩, .slice none 0 0] 38 (0, 0))) := (hK6.block r (block_lt HZ5.out) (by have := HGE.out; omega)).trans HZ5.out
                    have HB6 : Hid (Below w.heap.size w w6) := HB5.out.trans (hK6.below HB5.out.size (fun z _ e => by have := HRE.out; have := HGE.out; omega))
                    have H6 : Hid (IsB w6 a len cap zs) := HI.out.old HB6.out
                    have HU6 : Hid (OwnI 51 1 VKey w6 (fun z => g < z ∧ z < kb) (.slice ja ks.length jc) ks) := HU5.out.apart stays_key hK6 (fun z _ hf e => by omega)
                    have HUS6 : Hid (kb ≤ w6.heap.size) := Nat.le_trans HUS5.out hK6.size
                    clear hw6 hK6
                    obtain ⟨_, f0, f1, f2, f3, f4, f5⟩ := blk6 HG5.out
                    by_cases e3 : Y3.err = 0
                    · have hd3 := valueR_done HY3.out e3
                      rw [List.length_drop, HZL.out] at hd3
                      have hR6 := reads_ok HR5.out (by rw [← HY3.out]; exact e3)
                      rw [← HY3.out] at hR6
                      have hR7 := reads_assoc hR6
                      have HP3 : Hid (place pos2 Y3 = ((pos2 + Y3.done : Nat) : Int)) := place_ok e3
                      have HE3 : Hid (Y3.err = 0) := e3
                      rw [HE3.out, HP3.out]
                      have HSR : Hid (StK w r g X zs d len f n kb ja jc ks (.int .i64 ((pos2 + Y3.done : Nat) : Int)) w6) := by
                        refine ⟨pos2 + Y3.done, Y3.val, rfl, by show _ ≤ _; omega, ?_, HZ6, ?_, HB6, HU6, HUS6⟩
                        · show Reads _ _ _ _ _ _
                          rw [hm2]
                          exact reads_eqv hR7 (bind_congr (fun l => pure_bind))
                        · show _ = _
                          rw [hm2]; exact HG6.out
                      clear hR6 hR7 hd3 e3 HE3 HP3
                      go_wp2_with fail
                      rw [HW6.out]
                      go_meet
                      case rel => exact HSR.out
                    · skip
                      have hx : X.err = Y3.err := (reads_err HR5.out (by rw [← HY3.out]; exact e3)).trans (by rw [← HY3.out])
                      obtain ⟨ce, hce⟩ : ∃ ce, ce = Y3.err := ⟨_, rfl⟩
                      have hce0 : (ce != 0) = true := by rw [hce]; simpa using e3
                      have HCE : Hid (Y3.err = ce) := hce.symm
                      have HXE : Hid (X.err = ce) := hx.trans hce.symm
                      have HXN : Hid (X.err ≠ 0) := by show X.err ≠ 0; rw [hx]; exact e3
                      have HPX : Hid (place d X = 0) := place_err HXN.out
                      have HPY : Hid (place pos2 Y3 = 0) := place_err e3
                      clear hx hce
                      rw [HCE.out, HPY.out]
                      go_upto_if 110 with fail
                      rw [HW6.out]
                      clear e3 f0 f1 f2 f3 f4 f5
                      obtain ⟨wF, hwF, hF6, hKF⟩ := fill6 HZ6.out (.int .i64 n) (.slice none 0 0) (.bool true) (.int .i64 Y3.val.1) (.string Y3.val.2) (.slice none 0 0)
                      have HWF : Hid _ := hwF
                      have HF6 : Hid _ := hF6
                      have HBF : Hid (Below w.heap.size w wF) := HB6.out.trans (hKF.below HB6.out.size (fun z _ e => by have := HRE.out; omega))
                      obtain ⟨_, f0, f1, f2, f3, f4, f5⟩ := blk6 HZ6.out
                      obtain ⟨⟨g0, g1, g2, g3, g4, g5⟩, _⟩ := blk6 HG6.out
                      have hlr := block_lt HZ6.out
                      have hlg := block_lt HG6.out
                      clear hwF hF6 hKF
                      go_wp2_with fail
                      rw [HWF.out]
                      obtain ⟨⟨p0, p1, p2, p3, p4, p5⟩, _⟩ := blk6 HF6.out
                      exact bodyPost_ret (v := .tuple #[.agg #[.int .i64 n, .slice none 0 0, .bool true, .int .i64 Y3.val.1, .string Y3.val.2, .slice none 0 0], .slice none 0 0, .int .i64 0, .int .i64 ce]) (by simp [results, Tryd.results25, go_sem, p0, p1, p2, p3, p4, p5]) rfl
                        ⟨_, _, _, _, _, _, _, _, _, _, by rw [HXE.out, HPX.out], HBF, fun e => absurd e HXN.out, fun e => absurd e HXN.out⟩
                  · have hm1 : (f / 2 % 2 == 1) = false := by simpa using hm
                    have hm2 : bitX f 2 = false := by rw [HBT.out.1]; simpa using hm
                    have hR5 := HR4.out
                    rw [hm2] at hR5
                    have hR6 := reads_bpure (show Reads X zs d (bindR (pureR v0) _) pos2 id from hR5)
                    have HSR : Hid (StK w r g X zs d len f n kb ja jc ks (.int .i64 ((pos2 : Nat) : Int)) w3) := by
                      refine ⟨pos2, v0, rfl, hpl2c, ?_, HZ3, ?_, HB3, HU3, HUS3⟩
                      · show Reads _ _ _ _ _ _
                        rw [hm2]
                        exact reads_eqv (reads_assoc hR6) (bind_congr (fun l => pure_bind))
                      · show _ = _
                        rw [hm2]; exact HG3.out
                    clear hR5 hR6
                    go_wp2_with fail
                    go_meet
                    case rel => exact HSR.out
                case rest =>
                  obtain ⟨pos3, s, rfl, HP3, HR5, HZ7, HG7, HB7, HU7, HUS7⟩ := hcut
                  obtain ⟨w7, hw7⟩ : ∃ x, x = wc := ⟨_, rfl⟩
                  subst hw7
                  have H7 : Hid (IsB w7 a len cap zs) := HI.out.old HB7.out
                  by_cases h4 : 4 ≤ f
                  · have h4d : decide (4 ≤ f) = true := by simpa using h4
                    have hb4 : bitX f 4 = true := by rw [HBT.out.2.1]; simpa using h4
                    have hR6 := HR5.out
                    rw [hb4] at hR6
                    obtain ⟨x1, x2, x3⟩ := reads_pure (reads_bpure (show Reads X zs d (bindR (pureR ([] : List Col)) _) pos3 id from hR6))
                    clear hR6 HR5
                    obtain ⟨wF, hwF, hF6, hKF⟩ := fill6 HZ7.out (.int .i64 n) (.slice none 0 0) (.bool (bitX f 2)) (.int .i64 s.1) (.string s.2) (.slice none 0 0)
                    have HWF : Hid _ := hwF
                    have HF6 : Hid _ := hF6
                    have HBF : Hid (Below w.heap.size w wF) := HB7.out.trans (hKF.below HB7.out.size (fun z _ e => by have := HRE.out; omega))
                    have HXE : Hid (X.err = 0) := x1
                    have HXP : Hid (place d X = ((pos3 : Nat) : Int)) := by show _ = _; rw [place_ok x1]; congr 1; omega
                    have HXD : Hid (X.err = 0 → d + X.done ≤ len) := fun _ => by have := HP3.out; omega
                    have HXV : Hid (X.val = (ks, ((n : Int), [], bitX f 2, s, []))) := x3
                    have HUF : Hid (OwnI 51 1 VKey wF (fun z => w.heap.size ≤ z) (.slice ja ks.length jc) ks) := (HU7.out.apart stays_key hKF (fun z _ hf e => by have := HGE.out; omega)).sub stays_key (fun z _ hf => by have := HGE.out; have := HRE.out; omega)
                    have HVE : Hid ((0 : Nat) = ([] : List Col).length) := rfl
                    have HOF : Hid (OwnI 83 8 (VCol 20) wF (fun z => w.heap.size ≤ z) (.slice none 0 0) ([] : List Col)) := ownI_nil _ _ _ _ _
                    obtain ⟨_, f0, f1, f2, f3, f4, f5⟩ := blk6 HZ7.out
                    obtain ⟨⟨g0, g1, g2, g3, g4, g5⟩, _⟩ := blk6 HG7.out
                    have hlr := block_lt HZ7.out
                    have hlg := block_lt HG7.out
                    clear hwF hF6 hKF x1 x2 x3
                    go_wp2_with fail
                    rw [HWF.out]
                    obtain ⟨⟨p0, p1, p2, p3, p4, p5⟩, _⟩ := blk6 HF6.out
                    exact bodyPost_ret (v := .tuple #[.agg #[.int .i64 n, .slice none 0 0, .bool (bitX f 2), .int .i64 s.1, .string s.2, .slice none 0 0], .slice ja ks.length jc, .int .i64 pos3, .int .i64 0]) (by simp [results, Tryd.results25, go_sem, p0, p1, p2, p3, p4, p5]) rfl
                      ⟨_, _, _, _, _, _, _, _, _, _, by rw [HXE.out, HXP.out], HBF, HXD.out, fun _ => ⟨by rw [HXV.out], by rw [HXV.out]; exact HVE.out, by rw [HXV.out], by rw [HXV.out], by rw [HXV.out], by rw [HXV.out], by rw [HXV.out]; exact HOF.out, by rw [HXV.out]; exact HUF.out⟩⟩
                  · have h4d : decide (4 ≤ f) = false := by simpa using h4
                    have hb4 : bitX f 4 = false := by rw [HBT.out.2.1]; simpa using h4
                    have hR6 := HR5.out
                    rw [hb4] at hR6
                    have HR7 : Hid (Reads X zs d (bindR (optR (bitX f 1) (ByteArray.empty, ByteArray.empty) ownerR) _) pos3 id) := reads_assoc (show Reads X zs d (bindR (bindR (optR (bitX f 1) (ByteArray.empty, ByteArray.empty) ownerR) _) _) pos3 id from (show Reads X zs d (bindR (colsR n (bitX f 1)) _) pos3 id from hR6))
                    obtain ⟨q, hq⟩ : ∃ q, q = w7.heap.size := ⟨_, rfl⟩
                    have HQE : Hid (w7.heap.size = q) := hq.symm
                    have HGQ : Hid (g < q) := by show g < q; rw [hq]; exact block_lt HG7.out
                    have HKQ : Hid (kb ≤ q) := by show kb ≤ q; rw [hq]; exact HUS7.out
                    obtain ⟨w8, hw8⟩ : ∃ w8, w8 = w7.alloc (.cells #[.string ⟨#[]⟩, .string ⟨#[]⟩, .string ⟨#[]⟩, .int .u16 0, .string ⟨#[]⟩, .string ⟨#[]⟩, .slice none 0 0, .slice none 0 0] 83) := ⟨_, rfl⟩
                    have HW8 : Hid (w7.alloc (.cells #[.string ⟨#[]⟩, .string ⟨#[]⟩, .string ⟨#[]⟩, .int .u16 0, .string ⟨#[]⟩, .string ⟨#[]⟩, .slice none 0 0, .slice none 0 0] 83) = w8) := hw8.symm
                    have HA8 : Hid (w8.heap[q]? = some (.cells #[.string ⟨#[]⟩, .string ⟨#[]⟩, .string ⟨#[]⟩, .int .u16 0, .string ⟨#[]⟩, .string ⟨#[]⟩, .slice none 0 0, .slice none 0 0] 83 (0, 0))) := by rw [hw8, hq]; exact heap_alloc_new w7 _
                    have hb8 : Below w7.heap.size w7 w8 := by rw [hw8]; exact below_one _ _
                    have HZ8 : Hid (w8.heap[r]? = some (.cells #[.int .i64 0, .slice none 0 0, .bool false, .int .i64 0, .string ⟨#[]⟩, .slice none 0 0] 38 (0, 0))) := (hb8.block r (block_lt HZ7.out)).trans HZ7.out
                    have HG8 : Hid (w8.heap[g]? = some (.cells #[.int .i64 n, .slice none 0 0, .bool (bitX f 2), .int .i64 s.1, .string s.2, .slice none 0 0] 38 (0, 0))) := (hb8.block g (block_lt HG7.out)).trans HG7.out
                    have HB8 : Hid (Below w.heap.size w w8) := HB7.out.trans (hb8.mono HB7.out.size)
                    have H8 : Hid (IsB w8 a len cap zs) := HI.out.old HB8.out
                    have HU8 : Hid (OwnI 51 1 VKey w8 (fun z => g < z ∧ z < kb) (.slice ja ks.length jc) ks) := HU7.out.old stays_key hb8
                    clear hq hw8 hb8 hR6 HR5 HB7 HZ7 HG7 H7
                    go_upto_if 120 with fail
                    rw [HW8.out]
                    (try rw [HQE.out])
                    clear HW8 HQE
                    by_cases hg : f % 2 = 1
                    · have hg1 : (f % 2 == 1) = true := by simpa using hg
                      have hg0 : (f % 2 == 0) = false := by simp; omega
                      have hb1 : bitX f 1 = true := by rw [HBT.out.2.2]; simpa using hg
                      have hR8 := HR7.out
                      rw [hb1] at hR8
                      have HR8 : Hid (Reads X zs d (bindR ownerR _) pos3 id) := hR8
                      obtain ⟨Y4, hY4⟩ : ∃ Y4, Y4 = ownerR (zs.drop pos3) := ⟨_, rfl⟩
                      have HY4 : Hid (Y4 = ownerR (zs.drop pos3)) := hY4
                      clear hR8 hY4 HR7
                      go_wp2_with fail
                      refine (names_at H8.out pos3 HP3.out _ rfl HY4.out).mono ?_
                      rintro e w9 ⟨s4, t4, rfl, HV4, HD4, hb9⟩
                      have HZ9 : Hid (w9.heap[r]? = some (.cells #[.int .i64 0, .slice none 0 0, .bool false, .int .i64 0, .string ⟨#[]⟩, .slice none 0 0] 38 (0, 0))) := (hb9.block r (block_lt HZ8.out)).trans HZ8.out
                      have HG9 : Hid (w9.heap[g]? = some (.cells #[.int .i64 n, .slice none 0 0, .bool (bitX f 2), .int .i64 s.1, .string s.2, .slice none 0 0] 38 (0, 0))) := (hb9.block g (block_lt HG8.out)).trans HG8.out
                      have HA9 : Hid (w9.heap[q]? = some (.cells #[.string ⟨#[]⟩, .string ⟨#[]⟩, .string ⟨#[]⟩, .int .u16 0, .string ⟨#[]⟩, .string ⟨#[]⟩, .slice none 0 0, .slice none 0 0] 83 (0, 0))) := (hb9.block q (block_lt HA8.out)).trans HA8.out
                      have HB9 : Hid (Below w.heap.size w w9) := HB8.out.trans (hb9.mono HB8.out.size)
                      have H9 : Hid (IsB w9 a len cap zs) := HI.out.old HB9.out
                      have HU9 : Hid (OwnI 51 1 VKey w9 (fun z => g < z ∧ z < kb) (.slice ja ks.length jc) ks) := HU8.out.old stays_key hb9
                      obtain ⟨w10, hw10, hA10, hK10⟩ := fill8 HA9.out (.string s4) (.string t4) (.string ⟨#[]⟩) (.int .u16 0) (.string ⟨#[]⟩) (.string ⟨#[]⟩) (.slice none 0 0) (.slice none 0 0)
                      have HW10 : Hid _ := hw10
                      have HA10 : Hid (w10.heap[q]? = some (.cells #[.string s4, .string t4, .string ⟨#[]⟩, .int .u16 0, .string ⟨#[]⟩, .string ⟨#[]⟩, .slice none 0 0, .slice none 0 0] 83 (0, 0))) := hA10
                      have HZ10 : Hid (w10.heap[r]? = some (.cells #[.int .i64 0, .slice none 0 0, .bool false, .int .i64 0, .string ⟨#[]⟩, .slice none 0 0] 38 (0, 0))) := (hK10.block r (block_lt HZ9.out) (by have := HGQ.out; have := HGE.out; have := HRE.out; omega)).trans HZ9.out
                      have HG10 : Hid (w10.heap[g]? = some (.cells #[.int .i64 n, .slice none 0 0, .bool (bitX f 2), .int .i64 s.1, .string s.2, .slice none 0 0] 38 (0, 0))) := (hK10.block g (block_lt HG9.out) (by have := HGQ.out; have := HGE.out; have := HRE.out; omega)).trans HG9.out
                      have HB10 : Hid (Below w.heap.size w w10) := HB9.out.trans (hK10.below HB9.out.size (fun z _ e => by have := HGQ.out; have := HGE.out; have := HRE.out; omega))
                      have H10 : Hid (IsB w10 a len cap zs) := HI.out.old HB10.out
                      have HU10 : Hid (OwnI 51 1 VKey w10 (fun z => g < z ∧ z < kb) (.slice ja ks.length jc) ks) := HU9.out.apart stays_key hK10 (fun z _ hf e => by have := HKQ.out; have := HGQ.out; have := HGE.out; have := HRE.out; omega)
                      obtain ⟨_, z0, z1, z2, z3, z4, z5, z6, z7⟩ := blk8 HA9.out
                      clear hb9 hw10 hA10 hK10 HB8 HZ8 HG8 HA8 H8 HZ9 HG9 HB9 H9
                      by_cases e4 : Y4.err = 0
                      case neg =>
                        have hx : X.err = Y4.err := (reads_err HR8.out (by rw [← HY4.out]; exact e4)).trans (by rw [← HY4.out])
                        obtain ⟨ce, hce⟩ : ∃ ce, ce = Y4.err := ⟨_, rfl⟩
                        have hce0 : (ce != 0) = true := by rw [hce]; simpa using e4
                        have HCE : Hid (Y4.err = ce) := hce.symm
                        have HXE : Hid (X.err = ce) := hx.trans hce.symm
                        have HXN : Hid (X.err ≠ 0) := by show X.err ≠ 0; rw [hx]; exact e4
                        have HPX : Hid (place d X = 0) := place_err HXN.out
                        have HPY : Hid (place pos3 Y4 = 0) := place_err e4
                        clear hx hce
                        rw [HCE.out, HPY.out]
                        go_upto_if 129 with fail
                        rw [HW10.out]
                        clear e4 z0 z1 z2 z3 z4 z5 z6 z7
                        obtain ⟨wF, hwF, hF6, hKF⟩ := fill6 HZ10.out (.int .i64 n) (.slice none 0 0) (.bool (bitX f 2)) (.int .i64 s.1) (.string s.2) (.slice none 0 0)
                        have HWF : Hid _ := hwF
                        have HF6 : Hid _ := hF6
                        have HBF : Hid (Below w.heap.size w wF) := HB10.out.trans (hKF.below HB10.out.size (fun z _ e => by have := HRE.out; omega))
                        obtain ⟨_, f0, f1, f2, f3, f4, f5⟩ := blk6 HZ10.out
                        obtain ⟨⟨g0, g1, g2, g3, g4, g5⟩, _⟩ := blk6 HG10.out
                        have hlr := block_lt HZ10.out
                        have hlg := block_lt HG10.out
                        clear hwF hF6 hKF
                        go_wp2_with fail
                        rw [HWF.out]
                        obtain ⟨⟨p0, p1, p2, p3, p4, p5⟩, _⟩ := blk6 HF6.out
                        exact bodyPost_ret (v := .tuple #[.agg #[.int .i64 n, .slice none 0 0, .bool (bitX f 2), .int .i64 s.1, .string s.2, .slice none 0 0], .slice none 0 0, .int .i64 0, .int .i64 ce]) (by simp [results, Tryd.results25, go_sem, p0, p1, p2, p3, p4, p5]) rfl
                          ⟨_, _, _, _, _, _, _, _, _, _, by rw [HXE.out, HPX.out], HBF, fun e => absurd e HXN.out, fun e => absurd e HXN.out⟩
                      case pos =>
                        have hR9 := reads_ok HR8.out (by rw [← HY4.out]; exact e4)
                        rw [← HY4.out, HV4.out e4] at hR9
                        have hsz4 := owner_sz HY4.out e4 (HV4.out e4)
                        rw [List.length_drop, HZL.out] at hsz4
                        have HOSZ : Hid (s4.size ≤ maxLen ∧ t4.size ≤ maxLen) := ⟨by unfold maxLen; omega, by unfold maxLen; omega⟩
                        have HP4 : Hid (place pos3 Y4 = ((pos3 + Y4.done : Nat) : Int)) := place_ok e4
                        have HE4 : Hid (Y4.err = 0) := e4
                        have HDD4 : Hid (pos3 + Y4.done ≤ len) := HD4.out e4
                        go_upto_if 129 with fail
                        rw [HW10.out]
                        (try rw [HE4.out])
                        rw [HP4.out]
                        obtain ⟨pos4, hpos4⟩ : ∃ pos4, pos4 = pos3 + Y4.done := ⟨_, rfl⟩
                        rw [← hpos4] at hR9 HDD4 ⊢
                        have HR9 : Hid (Reads X zs d (bindR (loopR (colR true (s4, t4)) n) fun l => pureR (ks, (((n : Int), ([] : List Col) ++ l, bitX f 2, s, []) : Tb))) pos4 id) := hR9
                        clear hR9 z0 z1 z2 z3 z4 z5 z6 z7 hpos4 hsz4 e4 HE4 HP4 HD4 HV4 HY4 HR8 HW10 HA9
                        obtain ⟨o, ho⟩ : ∃ o : ByteArray × ByteArray, o = (s4, t4) := ⟨_, rfl⟩
                        have HAo : Hid (w10.heap[q]? = some (.cells #[.string o.1, .string o.2, .string ⟨#[]⟩, .int .u16 0, .string ⟨#[]⟩, .string ⟨#[]⟩, .slice none 0 0, .slice none 0 0] 83 (0, 0))) := by rw [ho]; exact HA10.out
                        have HRo : Hid (Reads X zs d (bindR (loopR (colR true o) n) fun l => pureR (ks, (((n : Int), ([] : List Col) ++ l, bitX f 2, s, []) : Tb))) pos4 id) := by rw [ho]; exact HR9.out
                        have HOS : Hid (o.1.size ≤ maxLen ∧ o.2.size ≤ maxLen) := by rw [ho]; exact HOSZ.out
                        clear ho HOSZ HA10
                        go_wp2_with fail
                        go_loopw [13, 21] (fun pv t wr => LpK w r g q X zs d len true (bitX f 2) o s n kb ja jc ks pv t wr) (fun _ t _ => n - (intOf t).toNat)
                        case atStart => exact ⟨0, pos4, none, 0, [], by omega, rfl, rfl, HDD4, rfl, HRo, HZ10, HG10, HAo, ownI_nil _ _ _ _ _, HB10, HU10⟩
                        case round =>
                          obtain ⟨i, ps, xa, xc, acc, hi, rfl, rfl, HPi, HLi, HRi, HZ20, HG20, HA20, HO20, HB20, HU20⟩ := hrel
                          obtain ⟨w20, hw20⟩ : ∃ x, x = wr := ⟨_, rfl⟩
                          subst hw20
                          by_cases hlt : i < n
                          · obtain ⟨m, hm⟩ : ∃ m, n - i = m + 1 := ⟨n - i - 1, by omega⟩
                            have hRa := HRi.out
                            rw [hm] at hRa
                            have hRb := reads_assoc (show Reads X zs d (bindR (bindR (optR (!true) o ownerR) _) _) ps id from reads_loop hRa)
                            obtain ⟨c, hc⟩ : ∃ c, c = w20.heap.size := ⟨_, rfl⟩
                            have HCE : Hid (w20.heap.size = c) := hc.symm
                            have HQC : Hid (q < c) := by show q < c; rw [hc]; exact block_lt HA20.out
                            obtain ⟨w21, hw21⟩ : ∃ w21, w21 = w20.alloc (.cells #[.string o.1, .string o.2, .string ⟨#[]⟩, .int .u16 0, .string ⟨#[]⟩, .string ⟨#[]⟩, .slice none 0 0, .slice none 0 0] 83) := ⟨_, rfl⟩
                            have HW21 : Hid (w20.alloc (.cells #[.string o.1, .string o.2, .string ⟨#[]⟩, .int .u16 0, .string ⟨#[]⟩, .string ⟨#[]⟩, .slice none 0 0, .slice none 0 0] 83) = w21) := hw21.symm
                            have HC21 : Hid (w21.heap[c]? = some (.cells #[.string o.1, .string o.2, .string ⟨#[]⟩, .int .u16 0, .string ⟨#[]⟩, .string ⟨#[]⟩, .slice none 0 0, .slice none 0 0] 83 (0, 0))) := by rw [hw21, hc]; exact heap_alloc_new w20 _
                            have hb21 : Below w20.heap.size w20 w21 := by rw [hw21]; exact below_one _ _
                            have HO21 : Hid (OwnI 83 8 (VCol 20) w21 (fun z => q < z ∧ z < c) (.slice xa i xc) acc) := (HO20.out.sub (stays_col 20) (fun z hz hf => ⟨hf, by rw [hc]; exact hz⟩)).old (stays_col 20) hb21
                            have HZ21 : Hid (w21.heap[r]? = some (.cells #[.int .i64 0, .slice none 0 0, .bool false, .int .i64 0, .string ⟨#[]⟩, .slice none 0 0] 38 (0, 0))) := (hb21.block r (block_lt HZ20.out)).trans HZ20.out
                            have HG21 : Hid (w21.heap[g]? = some (.cells #[.int .i64 n, .slice xa i xc, .bool (bitX f 2), .int .i64 s.1, .string s.2, .slice none 0 0] 38 (0, 0))) := (hb21.block g (block_lt HG20.out)).trans HG20.out
                            have HA21 : Hid (w21.heap[q]? = some (.cells #[.string o.1, .string o.2, .string ⟨#[]⟩, .int .u16 0, .string ⟨#[]⟩, .string ⟨#[]⟩, .slice none 0 0, .slice none 0 0] 83 (0, 0))) := (hb21.block q (block_lt HA20.out)).trans HA20.out
                            have HB21 : Hid (Below w.heap.size w w21) := HB20.out.trans (hb21.mono HB20.out.size)
                            have H21 : Hid (IsB w21 a len cap zs) := HI.out.old HB21.out
                            have HU21 : Hid (OwnI 51 1 VKey w21 (fun z => g < z ∧ z < kb) (.slice ja ks.length jc) ks) := HU20.out.old stays_key hb21
                            obtain ⟨⟨y0, y1, y2, y3, y4, y5, y6, y7⟩, _⟩ := blk8 HA20.out
                            clear hRa hc hw21 hb21 HRi HZ20 HG20 HB20 HO20
                            go_upto_if 140 with fail
                            rw [HW21.out]
                            (try rw [HCE.out])
                            clear HW21 y0 y1 y2 y3 y4 y5 y6 y7 HA20
                            have hRc := reads_bpure (show Reads X zs d (bindR (pureR o) _) ps id from hRb)
                            have HRd : Hid (Reads X zs d (bindR textR _) ps id) := reads_assoc hRc
                            obtain ⟨Y6, hY6⟩ : ∃ Y6, Y6 = textR (zs.drop ps) := ⟨_, rfl⟩
                            have HY6 : Hid (Y6 = textR (zs.drop ps)) := hY6
                            obtain ⟨w24, hw24⟩ : ∃ w24, w24 = w21.setCell ⟨c, 2, none⟩ (.string Y6.val) := ⟨_, rfl⟩
                            have HW24 : Hid (w21.setCell ⟨c, 2, none⟩ (.string Y6.val) = w24) := hw24.symm
                            have hK24 : Kept (fun k => k = c) w21 w24 := by rw [hw24]; exact one_kept _ c 2 _
                            have HC24 : Hid (w24.heap[c]? = some (.cells #[.string o.1, .string o.2, .string Y6.val, .int .u16 0, .string ⟨#[]⟩, .string ⟨#[]⟩, .slice none 0 0, .slice none 0 0] 83 (0, 0))) := by rw [hw24]; exact blk_set HC21.out 2 _
                            have HO24 : Hid (OwnI 83 8 (VCol 20) w24 (fun z => q < z ∧ z < c) (.slice xa i xc) acc) := HO21.out.apart (stays_col 20) hK24 (fun z _ hf e => by omega)
                            have HZ24 : Hid (w24.heap[r]? = some (.cells #[.int .i64 0, .slice none 0 0, .bool false, .int .i64 0, .string ⟨#[]⟩, .slice none 0 0] 38 (0, 0))) := (hK24.block r (block_lt HZ21.out) (by have := HQC.out; have := HGQ.out; have := HGE.out; have := HRE.out; omega)).trans HZ21.out
                            have HG24 : Hid (w24.heap[g]? = some (.cells #[.int .i64 n, .slice xa i xc, .bool (bitX f 2), .int .i64 s.1, .string s.2, .slice none 0 0] 38 (0, 0))) := (hK24.block g (block_lt HG21.out) (by have := HQC.out; have := HGQ.out; have := HGE.out; have := HRE.out; omega)).trans HG21.out
                            have HA24 : Hid (w24.heap[q]? = some (.cells #[.string o.1, .string o.2, .string ⟨#[]⟩, .int .u16 0, .string ⟨#[]⟩, .string ⟨#[]⟩, .slice none 0 0, .slice none 0 0] 83 (0, 0))) := (hK24.block q (block_lt HA21.out) (by have := HQC.out; have := HGQ.out; have := HGE.out; have := HRE.out; omega)).trans HA21.out
                            have HB24 : Hid (Below w.heap.size w w24) := HB21.out.trans (hK24.below HB21.out.size (fun z _ e => by have := HQC.out; have := HGQ.out; have := HGE.out; have := HRE.out; omega))
                            have H24 : Hid (IsB w24 a len cap zs) := HI.out.old HB24.out
                            have HU24 : Hid (OwnI 51 1 VKey w24 (fun z => g < z ∧ z < kb) (.slice ja ks.length jc) ks) := HU21.out.apart stays_key hK24 (fun z _ hf e => by have := HKQ.out; have := HQC.out; have := HGQ.out; have := HGE.out; have := HRE.out; omega)
                            obtain ⟨_, z0, z1, z2, z3, z4, z5, z6, z7⟩ := blk8 HC21.out
                            clear hRc hY6 hw24 hK24 HB21 HZ21 HG21 HA21 HO21
                            go_wp2_with fail
                            refine (rgetText_at H21.out ps HPi.out _ rfl HY6.out).mono ?_
                            rintro e w9x ⟨rfl, rfl⟩
                            go_upto_if 161 with fail
                            rw [HW24.out]
                            clear HW24 z0 z1 z2 z3 z4 z5 z6 z7 HC21 H21
                            by_cases e6 : Y6.err = 0
                            case neg =>
                              have hx : X.err = Y6.err := (reads_err HRd.out (by rw [← HY6.out]; exact e6)).trans (by rw [← HY6.out])
                              obtain ⟨ce, hce⟩ : ∃ ce, ce = Y6.err := ⟨_, rfl⟩
                              have hce0 : (ce != 0) = true := by rw [hce]; simpa using e6
                              have HCEE : Hid (Y6.err = ce) := hce.symm
                              have HXE : Hid (X.err = ce) := hx.trans hce.symm
                              have HXN : Hid (X.err ≠ 0) := by show X.err ≠ 0; rw [hx]; exact e6
                              have HPX : Hid (place d X = 0) := place_err HXN.out
                              have HPY : Hid (place ps Y6 = 0) := place_err e6
                              clear hx hce
                              rw [HCEE.out, HPY.out]
                              clear e6
                              obtain ⟨wF, hwF, hF6, hKF⟩ := fill6 HZ24.out (.int .i64 n) (.slice xa i xc) (.bool (bitX f 2)) (.int .i64 s.1) (.string s.2) (.slice none 0 0)
                              have HWF : Hid _ := hwF
                              have HF6 : Hid _ := hF6
                              have HBF : Hid (Below w.heap.size w wF) := HB24.out.trans (hKF.below HB24.out.size (fun z _ e => by have := HRE.out; omega))
                              obtain ⟨_, f0, f1, f2, f3, f4, f5⟩ := blk6 HZ24.out
                              obtain ⟨⟨g0, g1, g2, g3, g4, g5⟩, _⟩ := blk6 HG24.out
                              have hlr := block_lt HZ24.out
                              have hlg := block_lt HG24.out
                              clear hwF hF6 hKF
                              go_wp2_with fail
                              rw [HWF.out]
                              obtain ⟨⟨p0, p1, p2, p3, p4, p5⟩, _⟩ := blk6 HF6.out
                              exact bodyPost_ret (v := .tuple #[.agg #[.int .i64 n, .slice xa i xc, .bool (bitX f 2), .int .i64 s.1, .string s.2, .slice none 0 0], .slice none 0 0, .int .i64 0, .int .i64 ce]) (by simp [results, Tryd.results25, go_sem, p0, p1, p2, p3, p4, p5]) rfl
                                ⟨_, _, _, _, _, _, _, _, _, _, by rw [HXE.out, HPX.out], HBF, fun e => absurd e HXN.out, fun e => absurd e HXN.out⟩
                            case pos =>
                              have hd6 := textR_done e6 HY6.out
                              rw [List.length_drop, HZL.out] at hd6
                              have hsz6 := text_size (zs.drop ps)
                              rw [← HY6.out, List.length_drop, HZL.out] at hsz6
                              have hRe := reads_ok HRd.out (by rw [← HY6.out]; exact e6)
                              rw [← HY6.out] at hRe
                              have HP6 : Hid (place ps Y6 = ((ps + Y6.done : Nat) : Int)) := place_ok e6
                              have HE6 : Hid (Y6.err = 0) := e6
                              rw [HE6.out, HP6.out]
                              obtain ⟨ps6, hps6⟩ : ∃ ps6, ps6 = ps + Y6.done := ⟨_, rfl⟩
                              have HPS6 : Hid (ps6 ≤ len) := by have := HPi.out; show ps6 ≤ len; omega
                              rw [← hps6] at hRe ⊢
                              have HRf : Hid (Reads X zs d (bindR (tyR 20) _) ps6 id) := reads_assoc hRe
                              have HSZ6 : Hid (Y6.val.size ≤ maxLen) := by show _ ≤ _; unfold maxLen; omega
                              obtain ⟨Y7, hY7⟩ : ∃ Y7, Y7 = tyR 20 (zs.drop ps6) := ⟨_, rfl⟩
                              have HY7 : Hid (Y7 = tyR 20 (zs.drop ps6)) := hY7
                              clear hRe hps6 hd6 hsz6 hY7 e6 HE6 HP6 HY6 HRd
                              go_wp2_with fail
                              refine (getsRef 20 (Nat.le_refl _) w24 a len cap zs H24.out (by omega) ps6 HPS6.out Y7 HY7.out _ _ rfl (by decide)).mono ?_
                              rintro e w25 ⟨na, nl, nc, ka, kl, kc, rfl, HTY, HD7, hb25⟩
                              have HZ25 : Hid (w25.heap[r]? = some (.cells #[.int .i64 0, .slice none 0 0, .bool false, .int .i64 0, .string ⟨#[]⟩, .slice none 0 0] 38 (0, 0))) := (hb25.block r (block_lt HZ24.out)).trans HZ24.out
                              have HG25 : Hid (w25.heap[g]? = some (.cells #[.int .i64 n, .slice xa i xc, .bool (bitX f 2), .int .i64 s.1, .string s.2, .slice none 0 0] 38 (0, 0))) := (hb25.block g (block_lt HG24.out)).trans HG24.out
                              have HA25 : Hid (w25.heap[q]? = some (.cells #[.string o.1, .string o.2, .string ⟨#[]⟩, .int .u16 0, .string ⟨#[]⟩, .string ⟨#[]⟩, .slice none 0 0, .slice none 0 0] 83 (0, 0))) := (hb25.block q (block_lt HA24.out)).trans HA24.out
                              have HC25 : Hid (w25.heap[c]? = some (.cells #[.string o.1, .string o.2, .string Y6.val, .int .u16 0, .string ⟨#[]⟩, .string ⟨#[]⟩, .slice none 0 0, .slice none 0 0] 83 (0, 0))) := (hb25.block c (block_lt HC24.out)).trans HC24.out
                              have HB25 : Hid (Below w.heap.size w w25) := HB24.out.trans (hb25.mono HB24.out.size)
                              have H25 : Hid (IsB w25 a len cap zs) := HI.out.old HB25.out
                              have HU25 : Hid (OwnI 51 1 VKey w25 (fun z => g < z ∧ z < kb) (.slice ja ks.length jc) ks) := HU24.out.old stays_key hb25
                              have HO25 : Hid (OwnI 83 8 (VCol 20) w25 (fun z => q < z ∧ z < c) (.slice xa i xc) acc) := HO24.out.old (stays_col 20) hb25
                              have HS24 : Hid (c < w24.heap.size) := block_lt HC24.out
                              obtain ⟨w26, hw26, hC26, hK26⟩ := fill5 HC25.out (.int .u16 Y7.val.id) (.string Y7.val.space) (.string Y7.val.name) (.slice na nl nc) (.slice ka kl kc)
                              have HW26 : Hid _ := hw26
                              have HC26 : Hid (w26.heap[c]? = some (.cells #[.string o.1, .string o.2, .string Y6.val, .int .u16 Y7.val.id, .string Y7.val.space, .string Y7.val.name, .slice na nl nc, .slice ka kl kc] 83 (0, 0))) := hC26
                              have HK26 : Hid (Kept (fun k => k = c) w25 w26) := hK26
                              have HO26 : Hid (OwnI 83 8 (VCol 20) w26 (fun z => q < z ∧ z < c) (.slice xa i xc) acc) := HO25.out.apart (stays_col 20) hK26 (fun z _ hf e => by omega)
                              have HZ26 : Hid (w26.heap[r]? = some (.cells #[.int .i64 0, .slice none 0 0, .bool false, .int .i64 0, .string ⟨#[]⟩, .slice none 0 0] 38 (0, 0))) := (hK26.block r (block_lt HZ25.out) (by have := HQC.out; have := HGQ.out; have := HGE.out; have := HRE.out; omega)).trans HZ25.out
                              have HG26 : Hid (w26.heap[g]? = some (.cells #[.int .i64 n, .slice xa i xc, .bool (bitX f 2), .int .i64 s.1, .string s.2, .slice none 0 0] 38 (0, 0))) := (hK26.block g (block_lt HG25.out) (by have := HQC.out; have := HGQ.out; have := HGE.out; have := HRE.out; omega)).trans HG25.out
                              have HA26 : Hid (w26.heap[q]? = some (.cells #[.string o.1, .string o.2, .string ⟨#[]⟩, .int .u16 0, .string ⟨#[]⟩, .string ⟨#[]⟩, .slice none 0 0, .slice none 0 0] 83 (0, 0))) := (hK26.block q (block_lt HA25.out) (by have := HQC.out; have := HGQ.out; have := HGE.out; have := HRE.out; omega)).trans HA25.out
                              have HB26 : Hid (Below w.heap.size w w26) := HB25.out.trans (hK26.below HB25.out.size (fun z _ e => by have := HQC.out; have := HGQ.out; have := HGE.out; have := HRE.out; omega))
                              have H26 : Hid (IsB w26 a len cap zs) := HI.out.old HB26.out
                              have HU26 : Hid (OwnI 51 1 VKey w26 (fun z => g < z ∧ z < kb) (.slice ja ks.length jc) ks) := HU25.out.apart stays_key hK26 (fun z _ hf e => by have := HKQ.out; have := HQC.out; have := HGQ.out; have := HGE.out; have := HRE.out; omega)
                              obtain ⟨_, z0, z1, z2, z3, z4, z5, z6, z7⟩ := blk8 HC25.out
                              clear hb25 hw26 hC26 hK26 HB24 HZ24 HG24 HA24 H24 HC24 HO24 HO25 HA25 H25 HB25 HZ25 HG25
                              by_cases e7 : Y7.err = 0
                              case neg =>
                                have hx : X.err = Y7.err := (reads_err HRf.out (by rw [← HY7.out]; exact e7)).trans (by rw [← HY7.out])
                                obtain ⟨ce, hce⟩ : ∃ ce, ce = Y7.err := ⟨_, rfl⟩
                                have hce0 : (ce != 0) = true := by rw [hce]; simpa using e7
                                have HCEE : Hid (Y7.err = ce) := hce.symm
                                have HXE : Hid (X.err = ce) := hx.trans hce.symm
                                have HXN : Hid (X.err ≠ 0) := by show X.err ≠ 0; rw [hx]; exact e7
                                have HPX : Hid (place d X = 0) := place_err HXN.out
                                have HPY : Hid (place ps6 Y7 = 0) := place_err e7
                                clear hx hce
                                rw [HCEE.out, HPY.out]
                                go_upto_if 173 with fail
                                rw [HW26.out]
                                clear e7 z0 z1 z2 z3 z4 z5 z6 z7
                                obtain ⟨wF, hwF, hF6, hKF⟩ := fill6 HZ26.out (.int .i64 n) (.slice xa i xc) (.bool (bitX f 2)) (.int .i64 s.1) (.string s.2) (.slice none 0 0)
                                have HWF : Hid _ := hwF
                                have HF6 : Hid _ := hF6
                                have HBF : Hid (Below w.heap.size w wF) := HB26.out.trans (hKF.below HB26.out.size (fun z _ e => by have := HRE.out; omega))
                                obtain ⟨_, f0, f1, f2, f3, f4, f5⟩ := blk6 HZ26.out
                                obtain ⟨⟨g0, g1, g2, g3, g4, g5⟩, _⟩ := blk6 HG26.out
                                have hlr := block_lt HZ26.out
                                have hlg := block_lt HG26.out
                                clear hwF hF6 hKF
                                go_wp2_with fail
                                rw [HWF.out]
                                obtain ⟨⟨p0, p1, p2, p3, p4, p5⟩, _⟩ := blk6 HF6.out
                                exact bodyPost_ret (v := .tuple #[.agg #[.int .i64 n, .slice xa i xc, .bool (bitX f 2), .int .i64 s.1, .string s.2, .slice none 0 0], .slice none 0 0, .int .i64 0, .int .i64 ce]) (by simp [results, Tryd.results25, go_sem, p0, p1, p2, p3, p4, p5]) rfl
                                  ⟨_, _, _, _, _, _, _, _, _, _, by rw [HXE.out, HPX.out], HBF, fun e => absurd e HXN.out, fun e => absurd e HXN.out⟩
                              case pos =>
                                have hRg := reads_bpure (show Reads X zs d (bindR (pureR ((o.1, o.2, Y6.val, Y7.val) : Col)) _) (ps6 + Y7.done) id from (by have h9 := reads_ok HRf.out (by rw [← HY7.out]; exact e7); rw [← HY7.out] at h9; exact h9))
                                have hF9 : ∀ l : List Col, acc ++ ((o.1, o.2, Y6.val, Y7.val) : Col) :: l = (acc ++ [((o.1, o.2, Y6.val, Y7.val) : Col)]) ++ l := fun l => by simp
                                have HRh : Hid (Reads X zs d (bindR (loopR (colR true o) m) fun l => pureR (ks, (((n : Int), (acc ++ [((o.1, o.2, Y6.val, Y7.val) : Col)]) ++ l, bitX f 2, s, []) : Tb))) (ps6 + Y7.done) id) := by
                                  show Reads _ _ _ _ _ _
                                  simp only [← hF9]
                                  exact hRg
                                have HP7 : Hid (place ps6 Y7 = ((ps6 + Y7.done : Nat) : Int)) := place_ok e7
                                have HE7 : Hid (Y7.err = 0) := e7
                                have HDD7 : Hid (ps6 + Y7.done ≤ len) := HD7.out e7
                                go_upto_if 173 with fail
                                rw [HW26.out]
                                (try rw [HE7.out])
                                rw [HP7.out]
                                obtain ⟨ps7, hps7⟩ : ∃ ps7, ps7 = ps6 + Y7.done := ⟨_, rfl⟩
                                rw [← hps7] at HRh HDD7 ⊢
                                have HMI : Hid (m = n - (i + 1)) := by show _ = _; omega
                                clear hRg hF9 hps7 e7 HE7 HP7 HD7 HY7 HRf HW26 z0 z1 z2 z3 z4 z5 z6 z7
                                have hBw : Below w26.heap.size w26 (w26.alloc (.cells #[.string o.1, .string o.2, .string Y6.val, .int .u16 Y7.val.id, .string Y7.val.space, .string Y7.val.name, .slice na nl nc, .slice ka kl kc] 83)) := below_one _ _
                                have HBN : Hid ((w26.alloc (.cells #[.string o.1, .string o.2, .string Y6.val, .int .u16 Y7.val.id, .string Y7.val.space, .string Y7.val.name, .slice na nl nc, .slice ka kl kc] 83)).heap[w26.heap.size]? = some (.cells [Value.string o.1, Value.string o.2, Value.string Y6.val, Value.int .u16 Y7.val.id, Value.string Y7.val.space, Value.string Y7.val.name, Value.slice na nl nc, Value.slice ka kl kc].toArray 83 (0, 0))) := heap_alloc_new w26 _
                                have HON : Hid (OwnI 83 8 (VCol 20) (w26.alloc (.cells #[.string o.1, .string o.2, .string Y6.val, .int .u16 Y7.val.id, .string Y7.val.space, .string Y7.val.name, .slice na nl nc, .slice ka kl kc] 83)) (fun z => q < z) (.slice xa i xc) acc) := (HO26.out.old (stays_col 20) hBw).sub (stays_col 20) (fun z _ hf => hf.1)
                                have HS25 : Hid (w25.heap.size ≤ w26.heap.size) := HK26.out.size
                                have HXN : Hid (VCol 20 (fun z => z < (w26.alloc (.cells #[.string o.1, .string o.2, .string Y6.val, .int .u16 Y7.val.id, .string Y7.val.space, .string Y7.val.name, .slice na nl nc, .slice ka kl kc] 83)).heap.size ∧ (Value.slice xa i xc).ownBlock ≠ some z ∧ q < z) (w26.alloc (.cells #[.string o.1, .string o.2, .string Y6.val, .int .u16 Y7.val.id, .string Y7.val.space, .string Y7.val.name, .slice na nl nc, .slice ka kl kc] 83)) ((o.1, o.2, Y6.val, Y7.val) : Col) (fun j => ([Value.string o.1, Value.string o.2, Value.string Y6.val, Value.int .u16 Y7.val.id, Value.string Y7.val.space, Value.string Y7.val.name, Value.slice na nl nc, Value.slice ka kl kc] : List Value).getD j default)) := by
                                  have h9 : VCol 20 (New w24.heap.size w25) w25 ((o.1, o.2, Y6.val, Y7.val) : Col) (fun j => ([Value.string o.1, Value.string o.2, Value.string Y6.val, Value.int .u16 Y7.val.id, Value.string Y7.val.space, Value.string Y7.val.name, Value.slice na nl nc, Value.slice ka kl kc] : List Value).getD j default) := ⟨⟨rfl, HOS.out.1⟩, ⟨rfl, HOS.out.2⟩, ⟨rfl, HSZ6.out⟩, na, nl, nc, ka, kl, kc, rfl, rfl, rfl, rfl, rfl, HTY.out⟩
                                  refine stays_col 20 _ _ w25 _ _ _ _ h9 (fun _ _ => rfl) (fun z hz hf => ?_) (Nat.le_trans HS25.out hBw.size) (fun z hz hf => ⟨Nat.lt_of_lt_of_le hz (Nat.le_trans HS25.out hBw.size), fun e => ?_, ?_⟩)
                                  · exact (hBw.block z (Nat.lt_of_lt_of_le hz HS25.out)).trans (HK26.out.block z hz (fun e => by have := HS24.out; have := hf.1; omega))
                                  · have := (HO26.out.lt z e).1.2; have := HS24.out; have := hf.1; omega
                                  · have := HQC.out; have := HS24.out; have := hf.1; omega
                                have HFN : Hid ((fun z => q < z) (w26.alloc (.cells #[.string o.1, .string o.2, .string Y6.val, .int .u16 Y7.val.id, .string Y7.val.space, .string Y7.val.name, .slice na nl nc, .slice ka kl kc] 83)).heap.size) := by have := HQC.out; have := block_lt HC26.out; show q < _; simp; omega
                                obtain ⟨⟨y0, y1, y2, y3, y4, y5, y6, y7⟩, _⟩ := blk8 HC26.out
                                obtain ⟨⟨g0, g1, g2, g3, g4, g5⟩, k0, k1, k2, k3, k4, k5⟩ := blk6 HG26.out
                                have hlg26 := block_lt HG26.out
                                clear g0 g2 g3 g4 g5 k0 k2 k3 k4 k5
                                go_wp2_with (at_builtin; refine wpList_appendI rfl (.tmp 177) (.tmp 179) 33 rfl (stays_col 20) elem_cs rfl HON.out rfl HBN.out rfl ?c1 ((o.1, o.2, Y6.val, Y7.val) : Col) HXN.out HFN.out ?c2 ?c3 ?_)
                                case c1 => first | exact ⟨rfl, rfl, rfl, rfl, rfl, rfl, rfl, rfl⟩ | (intro u hu; simp at hu; rcases hu with rfl | rfl | rfl | rfl | rfl | rfl | rfl | rfl <;> rfl)
                                case c2 => rw [HLi.out]; unfold maxLen; omega
                                case c3 => rw [HLi.out]; omega
                                intro v4 w27 ho4 hK27 hv4
                                obtain ⟨xa4, xc4, hv4e⟩ := ho4.shape
                                have hlen4 : (acc ++ [((o.1, o.2, Y6.val, Y7.val) : Col)]).length = i + 1 := by rw [List.length_append, HLi.out]; rfl
                                have HL4 : Hid ((acc ++ [((o.1, o.2, Y6.val, Y7.val) : Col)]).length = i + 1) := hlen4
                                rw [hlen4] at hv4e
                                have HO27 : Hid (OwnI 83 8 (VCol 20) w27 (fun z => q < z) v4 (acc ++ [((o.1, o.2, Y6.val, Y7.val) : Col)])) := ho4
                                have hvq : ∀ z, (Value.slice xa i xc).ownBlock = some z → q < z := fun z e => (HO26.out.lt z e).1.1
                                have HG27 : Hid (w27.heap[g]? = some (.cells #[.int .i64 n, .slice xa i xc, .bool (bitX f 2), .int .i64 s.1, .string s.2, .slice none 0 0] 38 (0, 0))) := (hK27.block g (Nat.lt_of_lt_of_le hlg26 hBw.size) (fun e => by have := hvq g e; have := HGQ.out; omega)).trans ((hBw.block g hlg26).trans HG26.out)
                                have HZ27 : Hid (w27.heap[r]? = some (.cells #[.int .i64 0, .slice none 0 0, .bool false, .int .i64 0, .string ⟨#[]⟩, .slice none 0 0] 38 (0, 0))) := (hK27.block r (Nat.lt_of_lt_of_le (block_lt HZ26.out) hBw.size) (fun e => by have := hvq r e; have := HGQ.out; have := HGE.out; omega)).trans ((hBw.block r (block_lt HZ26.out)).trans HZ26.out)
                                have HA27 : Hid (w27.heap[q]? = some (.cells #[.string o.1, .string o.2, .string ⟨#[]⟩, .int .u16 0, .string ⟨#[]⟩, .string ⟨#[]⟩, .slice none 0 0, .slice none 0 0] 83 (0, 0))) := (hK27.block q (Nat.lt_of_lt_of_le (block_lt HA26.out) hBw.size) (fun e => by have := hvq q e; omega)).trans ((hBw.block q (block_lt HA26.out)).trans HA26.out)
                                have HB27 : Hid (Below w.heap.size w w27) := (HB26.out.trans (hBw.mono HB26.out.size)).trans (hK27.below (Nat.le_trans HB26.out.size hBw.size) (fun z _ e => by have := hvq z e; have := HGQ.out; have := HGE.out; have := HRE.out; omega))
                                have HU27 : Hid (OwnI 51 1 VKey w27 (fun z => g < z ∧ z < kb) (.slice ja ks.length jc) ks) := (HU26.out.old stays_key hBw).apart stays_key hK27 (fun z _ hf e => by have := hvq z e; have := HKQ.out; omega)
                                subst hv4e
                                obtain ⟨⟨d0, d1, d2, d3, d4, d5⟩, e0, e1, e2, e3, e4, e5⟩ := blk6 HG27.out
                                have HG28 : Hid ((w27.setCell ⟨g, 1, none⟩ (.slice xa4 (i + 1) xc4)).heap[g]? = some (.cells #[.int .i64 n, .slice xa4 (i + 1) xc4, .bool (bitX f 2), .int .i64 s.1, .string s.2, .slice none 0 0] 38 (0, 0))) := blk_set HG27.out 1 _
                                have hK28 := one_kept w27 g 1 (.slice xa4 (i + 1) xc4)
                                have HZ28 : Hid ((w27.setCell ⟨g, 1, none⟩ (.slice xa4 (i + 1) xc4)).heap[r]? = some (.cells #[.int .i64 0, .slice none 0 0, .bool false, .int .i64 0, .string ⟨#[]⟩, .slice none 0 0] 38 (0, 0))) := (hK28.block r (block_lt HZ27.out) (by have := HGE.out; omega)).trans HZ27.out
                                have HA28 : Hid ((w27.setCell ⟨g, 1, none⟩ (.slice xa4 (i + 1) xc4)).heap[q]? = some (.cells #[.string o.1, .string o.2, .string ⟨#[]⟩, .int .u16 0, .string ⟨#[]⟩, .string ⟨#[]⟩, .slice none 0 0, .slice none 0 0] 83 (0, 0))) := (hK28.block q (block_lt HA27.out) (by have := HGQ.out; omega)).trans HA27.out
                                have HO28 : Hid (OwnI 83 8 (VCol 20) (w27.setCell ⟨g, 1, none⟩ (.slice xa4 (i + 1) xc4)) (fun z => q < z) (.slice xa4 (i + 1) xc4) (acc ++ [((o.1, o.2, Y6.val, Y7.val) : Col)])) := HO27.out.apart (stays_col 20) hK28 (fun z _ hz e => by have := HGQ.out; omega)
                                have HB28 : Hid (Below w.heap.size w (w27.setCell ⟨g, 1, none⟩ (.slice xa4 (i + 1) xc4))) := HB27.out.trans (hK28.below HB27.out.size (fun z _ e => by have := HGE.out; have := HRE.out; omega))
                                have HU28 : Hid (OwnI 51 1 VKey (w27.setCell ⟨g, 1, none⟩ (.slice xa4 (i + 1) xc4)) (fun z => g < z ∧ z < kb) (.slice ja ks.length jc) ks) := HU27.out.apart stays_key hK28 (fun z _ hf e => by omega)
                                have HRZ : Hid (Reads X zs d (bindR (loopR (colR true o) (n - (i + 1))) fun l => pureR (ks, (((n : Int), (acc ++ [((o.1, o.2, Y6.val, Y7.val) : Col)]) ++ l, bitX f 2, s, []) : Tb))) ps7 id) := by rw [← HMI.out]; exact HRh.out
                                clear d0 d2 d3 d4 d5 e0 e2 e3 e4 e5 ho4 hK27 hv4 hlen4 hvq hBw hK28 y0 y1 y2 y3 y4 y5 y6 y7 g1 k1
                                go_wp2_with fail
                                go_roundw
                                case rel => exact ⟨i + 1, ps7, _, _, _, by omega, by go_num, rfl, HDD7, HL4, HRZ, HZ28, HG28, HA28, HO28, HB28, HU28⟩
                                case measure => simp [intOf]; omega
                          · obtain rfl : i = n := by omega
                            have hRa := HRi.out
                            rw [Nat.sub_self] at hRa
                            obtain ⟨x1, x2, x3⟩ := reads_pure (reads_bpure (show Reads X zs d (bindR (pureR ([] : List Col)) _) ps id from hRa))
                            replace x3 : X.val = (ks, ((i : Int), acc, bitX f 2, s, [])) := x3.trans (by simp [pureR])
                            have HVE : Hid (i = acc.length) := HLi.out.symm
                            have HOV : Hid (OwnI 83 8 (VCol 20) w20 (fun z => q < z) (.slice xa i xc) acc) := HO20.out
                            clear hRa HRi
                            obtain ⟨wF, hwF, hF6, hKF⟩ := fill6 HZ20.out (.int .i64 i) (.slice xa i xc) (.bool (bitX f 2)) (.int .i64 s.1) (.string s.2) (.slice none 0 0)
                            have HWF : Hid _ := hwF
                            have HF6 : Hid _ := hF6
                            have HBF : Hid (Below w.heap.size w wF) := HB20.out.trans (hKF.below HB20.out.size (fun z _ e => by have := HRE.out; omega))
                            have HXE : Hid (X.err = 0) := x1
                            have HXP : Hid (place d X = ((ps : Nat) : Int)) := by show _ = _; rw [place_ok x1]; congr 1; omega
                            have HXD : Hid (X.err = 0 → d + X.done ≤ len) := fun _ => by have := HPi.out; omega
                            have HXV : Hid (X.val = (ks, ((i : Int), acc, bitX f 2, s, []))) := x3
                            have HUF : Hid (OwnI 51 1 VKey wF (fun z => w.heap.size ≤ z) (.slice ja ks.length jc) ks) := (HU20.out.apart stays_key hKF (fun z _ hf e => by have := HGE.out; omega)).sub stays_key (fun z _ hf => by have := HGE.out; have := HRE.out; omega)
                            have HOF : Hid (OwnI 83 8 (VCol 20) wF (fun z => w.heap.size ≤ z) (.slice xa i xc) acc) := (HOV.out.apart (stays_col 20) hKF (fun z _ hf e => by have := HGQ.out; have := HGE.out; omega)).sub (stays_col 20) (fun z _ hf => by have := HGQ.out; have := HGE.out; have := HRE.out; omega)
                            obtain ⟨_, f0, f1, f2, f3, f4, f5⟩ := blk6 HZ20.out
                            obtain ⟨⟨g0, g1, g2, g3, g4, g5⟩, _⟩ := blk6 HG20.out
                            have hlr := block_lt HZ20.out
                            have hlg := block_lt HG20.out
                            clear hwF hF6 hKF x1 x2 x3
                            go_wp2_with fail
                            rw [HWF.out]
                            obtain ⟨⟨p0, p1, p2, p3, p4, p5⟩, _⟩ := blk6 HF6.out
                            exact bodyPost_ret (v := .tuple #[.agg #[.int .i64 i, .slice xa i xc, .bool (bitX f 2), .int .i64 s.1, .string s.2, .slice none 0 0], .slice ja ks.length jc, .int .i64 ps, .int .i64 0]) (by simp [results, Tryd.results25, go_sem, p0, p1, p2, p3, p4, p5]) rfl
                              ⟨_, _, _, _, _, _, _, _, _, _, by rw [HXE.out, HXP.out], HBF, HXD.out, fun _ => ⟨by rw [HXV.out], by rw [HXV.out]; exact HVE.out, by rw [HXV.out], by rw [HXV.out], by rw [HXV.out], by rw [HXV.out], by rw [HXV.out]; exact HOF.out, by rw [HXV.out]; exact HUF.out⟩⟩
                    · have hg1 : (f % 2 == 1) = false := by simpa using hg
                      have hg0 : (f % 2 == 0) = true := by simp; omega
                      have hb1 : bitX f 1 = false := by rw [HBT.out.2.2]; simpa using hg
                      have hR8 := HR7.out
                      rw [hb1] at hR8
                      have hR9 := reads_bpure (show Reads X zs d (bindR (pureR (ByteArray.empty, ByteArray.empty)) _) pos3 id from hR8)
                      have HR9 : Hid (Reads X zs d (bindR (loopR (colR false (ByteArray.empty, ByteArray.empty)) n) fun l => pureR (ks, (((n : Int), ([] : List Col) ++ l, bitX f 2, s, []) : Tb))) pos3 id) := hR9
                      have HOSZ : Hid (ByteArray.empty.size ≤ maxLen ∧ ByteArray.empty.size ≤ maxLen) := ⟨Nat.zero_le _, Nat.zero_le _⟩
                      clear hR8 hR9 HR7
                      obtain ⟨o, ho⟩ : ∃ o : ByteArray × ByteArray, o = (ByteArray.empty, ByteArray.empty) := ⟨_, rfl⟩
                      have HAo : Hid (w8.heap[q]? = some (.cells #[.string o.1, .string o.2, .string ⟨#[]⟩, .int .u16 0, .string ⟨#[]⟩, .string ⟨#[]⟩, .slice none 0 0, .slice none 0 0] 83 (0, 0))) := by rw [ho]; exact HA8.out
                      have HRo : Hid (Reads X zs d (bindR (loopR (colR false o) n) fun l => pureR (ks, (((n : Int), ([] : List Col) ++ l, bitX f 2, s, []) : Tb))) pos3 id) := by rw [ho]; exact HR9.out
                      have HOS : Hid (o.1.size ≤ maxLen ∧ o.2.size ≤ maxLen) := by rw [ho]; exact HOSZ.out
                      clear ho HOSZ HA8
                      go_wp2_with fail
                      go_loopw [13, 21] (fun pv t wr => LpK w r g q X zs d len false (bitX f 2) o s n kb ja jc ks pv t wr) (fun _ t _ => n - (intOf t).toNat)
                      case atStart => exact ⟨0, pos3, none, 0, [], by omega, rfl, rfl, HP3, rfl, HRo, HZ8, HG8, HAo, ownI_nil _ _ _ _ _, HB8, HU8⟩
                      case round =>
                        obtain ⟨i, ps, xa, xc, acc, hi, rfl, rfl, HPi, HLi, HRi, HZ20, HG20, HA20, HO20, HB20, HU20⟩ := hrel
                        obtain ⟨w20, hw20⟩ : ∃ x, x = wr := ⟨_, rfl⟩
                        subst hw20
                        by_cases hlt : i < n
                        · obtain ⟨m, hm⟩ : ∃ m, n - i = m + 1 := ⟨n - i - 1, by omega⟩
                          have hRa := HRi.out
                          rw [hm] at hRa
                          have hRb := reads_assoc (show Reads X zs d (bindR (bindR (optR (!false) o ownerR) _) _) ps id from reads_loop hRa)
                          obtain ⟨c, hc⟩ : ∃ c, c = w20.heap.size := ⟨_, rfl⟩
                          have HCE : Hid (w20.heap.size = c) := hc.symm
                          have HQC : Hid (q < c) := by show q < c; rw [hc]; exact block_lt HA20.out
                          obtain ⟨w21, hw21⟩ : ∃ w21, w21 = w20.alloc (.cells #[.string o.1, .string o.2, .string ⟨#[]⟩, .int .u16 0, .string ⟨#[]⟩, .string ⟨#[]⟩, .slice none 0 0, .slice none 0 0] 83) := ⟨_, rfl⟩
                          have HW21 : Hid (w20.alloc (.cells #[.string o.1, .string o.2, .string ⟨#[]⟩, .int .u16 0, .string ⟨#[]⟩, .string ⟨#[]⟩, .slice none 0 0, .slice none 0 0] 83) = w21) := hw21.symm
                          have HC21 : Hid (w21.heap[c]? = some (.cells #[.string o.1, .string o.2, .string ⟨#[]⟩, .int .u16 0, .string ⟨#[]⟩, .string ⟨#[]⟩, .slice none 0 0, .slice none 0 0] 83 (0, 0))) := by rw [hw21, hc]; exact heap_alloc_new w20 _
                          have hb21 : Below w20.heap.size w20 w21 := by rw [hw21]; exact below_one _ _
                          have HO21 : Hid (OwnI 83 8 (VCol 20) w21 (fun z => q < z ∧ z < c) (.slice xa i xc) acc) := (HO20.out.sub (stays_col 20) (fun z hz hf => ⟨hf, by rw [hc]; exact hz⟩)).old (stays_col 20) hb21
                          have HZ21 : Hid (w21.heap[r]? = some (.cells #[.int .i64 0, .slice none 0 0, .bool false, .int .i64 0, .string ⟨#[]⟩, .slice none 0 0] 38 (0, 0))) := (hb21.block r (block_lt HZ20.out)).trans HZ20.out
                          have HG21 : Hid (w21.heap[g]? = some (.cells #[.int .i64 n, .slice xa i xc, .bool (bitX f 2), .int .i64 s.1, .string s.2, .slice none 0 0] 38 (0, 0))) := (hb21.block g (block_lt HG20.out)).trans HG20.out
                          have HA21 : Hid (w21.heap[q]? = some (.cells #[.string o.1, .string o.2, .string ⟨#[]⟩, .int .u16 0, .string ⟨#[]⟩, .string ⟨#[]⟩, .slice none 0 0, .slice none 0 0] 83 (0, 0))) := (hb21.block q (block_lt HA20.out)).trans HA20.out
                          have HB21 : Hid (Below w.heap.size w w21) := HB20.out.trans (hb21.mono HB20.out.size)
                          have H21 : Hid (IsB w21 a len cap zs) := HI.out.old HB21.out
                          have HU21 : Hid (OwnI 51 1 VKey w21 (fun z => g < z ∧ z < kb) (.slice ja ks.length jc) ks) := HU20.out.old stays_key hb21
                          obtain ⟨⟨y0, y1, y2, y3, y4, y5, y6, y7⟩, _⟩ := blk8 HA20.out
                          clear hRa hc hw21 hb21 HRi HZ20 HG20 HB20 HO20
                          go_upto_if 140 with fail
                          rw [HW21.out]
                          (try rw [HCE.out])
                          clear HW21 y0 y1 y2 y3 y4 y5 y6 y7 HA20
                          have HRb : Hid (Reads X zs d (bindR ownerR _) ps id) := hRb
                          obtain ⟨Y5, hY5⟩ : ∃ Y5, Y5 = ownerR (zs.drop ps) := ⟨_, rfl⟩
                          have HY5 : Hid (Y5 = ownerR (zs.drop ps)) := hY5
                          clear hRb hY5
                          go_wp2_with fail
                          refine (names_at H21.out ps HPi.out _ rfl HY5.out).mono ?_
                          rintro e w22 ⟨s5, t5, rfl, HV5, HD5, hb22⟩
                          have HZ22 : Hid (w22.heap[r]? = some (.cells #[.int .i64 0, .slice none 0 0, .bool false, .int .i64 0, .string ⟨#[]⟩, .slice none 0 0] 38 (0, 0))) := (hb22.block r (block_lt HZ21.out)).trans HZ21.out
                          have HG22 : Hid (w22.heap[g]? = some (.cells #[.int .i64 n, .slice xa i xc, .bool (bitX f 2), .int .i64 s.1, .string s.2, .slice none 0 0] 38 (0, 0))) := (hb22.block g (block_lt HG21.out)).trans HG21.out
                          have HA22 : Hid (w22.heap[q]? = some (.cells #[.string o.1, .string o.2, .string ⟨#[]⟩, .int .u16 0, .string ⟨#[]⟩, .string ⟨#[]⟩, .slice none 0 0, .slice none 0 0] 83 (0, 0))) := (hb22.block q (block_lt HA21.out)).trans HA21.out
                          have HC22 : Hid (w22.heap[c]? = some (.cells #[.string o.1, .string o.2, .string ⟨#[]⟩, .int .u16 0, .string ⟨#[]⟩, .string ⟨#[]⟩, .slice none 0 0, .slice none 0 0] 83 (0, 0))) := (hb22.block c (block_lt HC21.out)).trans HC21.out
                          have HB22 : Hid (Below w.heap.size w w22) := HB21.out.trans (hb22.mono HB21.out.size)
                          have H22 : Hid (IsB w22 a len cap zs) := HI.out.old HB22.out
                          have HU22 : Hid (OwnI 51 1 VKey w22 (fun z => g < z ∧ z < kb) (.slice ja ks.length jc) ks) := HU21.out.old stays_key hb22
                          have HO22 : Hid (OwnI 83 8 (VCol 20) w22 (fun z => q < z ∧ z < c) (.slice xa i xc) acc) := HO21.out.old (stays_col 20) hb22
                          have hcs22 : w20.heap.size ≤ w22.heap.size := by have := HCE.out; have := block_lt HC22.out; omega
                          obtain ⟨w23, hw23, hC23, hK23⟩ := fill8 HC22.out (.string s5) (.string t5) (.string ⟨#[]⟩) (.int .u16 0) (.string ⟨#[]⟩) (.string ⟨#[]⟩) (.slice none 0 0) (.slice none 0 0)
                          have HW23 : Hid _ := hw23
                          have HC23 : Hid (w23.heap[c]? = some (.cells #[.string s5, .string t5, .string ⟨#[]⟩, .int .u16 0, .string ⟨#[]⟩, .string ⟨#[]⟩, .slice none 0 0, .slice none 0 0] 83 (0, 0))) := hC23
                          have HO23 : Hid (OwnI 83 8 (VCol 20) w23 (fun z => q < z ∧ z < c) (.slice xa i xc) acc) := HO22.out.apart (stays_col 20) hK23 (fun z _ hf e => by omega)
                          have HZ23 : Hid (w23.heap[r]? = some (.cells #[.int .i64 0, .slice none 0 0, .bool false, .int .i64 0, .string ⟨#[]⟩, .slice none 0 0] 38 (0, 0))) := (hK23.block r (block_lt HZ22.out) (by have := HQC.out; have := HGQ.out; have := HGE.out; have := HRE.out; omega)).trans HZ22.out
                          have HG23 : Hid (w23.heap[g]? = some (.cells #[.int .i64 n, .slice xa i xc, .bool (bitX f 2), .int .i64 s.1, .string s.2, .slice none 0 0] 38 (0, 0))) := (hK23.block g (block_lt HG22.out) (by have := HQC.out; have := HGQ.out; have := HGE.out; have := HRE.out; omega)).trans HG22.out
                          have HA23 : Hid (w23.heap[q]? = some (.cells #[.string o.1, .string o.2, .string ⟨#[]⟩, .int .u16 0, .string ⟨#[]⟩, .string ⟨#[]⟩, .slice none 0 0, .slice none 0 0] 83 (0, 0))) := (hK23.block q (block_lt HA22.out) (by have := HQC.out; have := HGQ.out; have := HGE.out; have := HRE.out; omega)).trans HA22.out
                          have HB23 : Hid (Below w.heap.size w w23) := HB22.out.trans (hK23.below HB22.out.size (fun z _ e => by have := HQC.out; have := HGQ.out; have := HGE.out; have := HRE.out; omega))
                          have H23 : Hid (IsB w23 a len cap zs) := HI.out.old HB23.out
                          have HU23 : Hid (OwnI 51 1 VKey w23 (fun z => g < z ∧ z < kb) (.slice ja ks.length jc) ks) := HU22.out.apart stays_key hK23 (fun z _ hf e => by have := HKQ.out; have := HQC.out; have := HGQ.out; have := HGE.out; have := HRE.out; omega)
                          obtain ⟨_, z0, z1, z2, z3, z4, z5, z6, z7⟩ := blk8 HC22.out
                          clear hb22 hw23 hC23 hK23 HB21 HZ21 HG21 HA21 H21 HC21 HO21 HO22 HA22 H22 HB22 HZ22 HG22
                          by_cases e5 : Y5.err = 0
                          case neg =>
                            have hx : X.err = Y5.err := (reads_err HRb.out (by rw [← HY5.out]; exact e5)).trans (by rw [← HY5.out])
                            obtain ⟨ce, hce⟩ : ∃ ce, ce = Y5.err := ⟨_, rfl⟩
                            have hce0 : (ce != 0) = true := by rw [hce]; simpa using e5
                            have HCEE : Hid (Y5.err = ce) := hce.symm
                            have HXE : Hid (X.err = ce) := hx.trans hce.symm
                            have HXN : Hid (X.err ≠ 0) := by show X.err ≠ 0; rw [hx]; exact e5
                            have HPX : Hid (place d X = 0) := place_err HXN.out
                            have HPY : Hid (place ps Y5 = 0) := place_err e5
                            clear hx hce
                            rw [HCEE.out, HPY.out]
                            go_upto_if 149 with fail
                            rw [HW23.out]
                            clear e5 z0 z1 z2 z3 z4 z5 z6 z7
                            obtain ⟨wF, hwF, hF6, hKF⟩ := fill6 HZ23.out (.int .i64 n) (.slice xa i xc) (.bool (bitX f 2)) (.int .i64 s.1) (.string s.2) (.slice none 0 0)
                            have HWF : Hid _ := hwF
                            have HF6 : Hid _ := hF6
                            have HBF : Hid (Below w.heap.size w wF) := HB23.out.trans (hKF.below HB23.out.size (fun z _ e => by have := HRE.out; omega))
                            obtain ⟨_, f0, f1, f2, f3, f4, f5⟩ := blk6 HZ23.out
                            obtain ⟨⟨g0, g1, g2, g3, g4, g5⟩, _⟩ := blk6 HG23.out
                            have hlr := block_lt HZ23.out
                            have hlg := block_lt HG23.out
                            clear hwF hF6 hKF
                            go_wp2_with fail
                            rw [HWF.out]
                            obtain ⟨⟨p0, p1, p2, p3, p4, p5⟩, _⟩ := blk6 HF6.out
                            exact bodyPost_ret (v := .tuple #[.agg #[.int .i64 n, .slice xa i xc, .bool (bitX f 2), .int .i64 s.1, .string s.2, .slice none 0 0], .slice none 0 0, .int .i64 0, .int .i64 ce]) (by simp [results, Tryd.results25, go_sem, p0, p1, p2, p3, p4, p5]) rfl
                              ⟨_, _, _, _, _, _, _, _, _, _, by rw [HXE.out, HPX.out], HBF, fun e => absurd e HXN.out, fun e => absurd e HXN.out⟩
                          case pos =>
                            have hRc := reads_ok HRb.out (by rw [← HY5.out]; exact e5)
                            rw [← HY5.out, HV5.out e5] at hRc
                            have hsz5 := owner_sz HY5.out e5 (HV5.out e5)
                            rw [List.length_drop, HZL.out] at hsz5
                            have HSZ5 : Hid (s5.size ≤ maxLen ∧ t5.size ≤ maxLen) := ⟨by unfold maxLen; omega, by unfold maxLen; omega⟩
                            have HP5 : Hid (place ps Y5 = ((ps + Y5.done : Nat) : Int)) := place_ok e5
                            have HE5 : Hid (Y5.err = 0) := e5
                            have HDD5 : Hid (ps + Y5.done ≤ len) := HD5.out e5
                            go_upto_if 149 with fail
                            rw [HW23.out]
                            (try rw [HE5.out])
                            rw [HP5.out]
                            obtain ⟨ps5, hps5⟩ : ∃ ps5, ps5 = ps + Y5.done := ⟨_, rfl⟩
                            rw [← hps5] at hRc HDD5 ⊢
                            clear z0 z1 z2 z3 z4 z5 z6 z7 hps5 hsz5 e5 HE5 HP5 HD5 HV5 HY5 HRb HW23 HC22
                            have HRd : Hid (Reads X zs d (bindR textR _) ps5 id) := reads_assoc hRc
                            obtain ⟨Y6, hY6⟩ : ∃ Y6, Y6 = textR (zs.drop ps5) := ⟨_, rfl⟩
                            have HY6 : Hid (Y6 = textR (zs.drop ps5)) := hY6
                            obtain ⟨w24, hw24⟩ : ∃ w24, w24 = w23.setCell ⟨c, 2, none⟩ (.string Y6.val) := ⟨_, rfl⟩
                            have HW24 : Hid (w23.setCell ⟨c, 2, none⟩ (.string Y6.val) = w24) := hw24.symm
                            have hK24 : Kept (fun k => k = c) w23 w24 := by rw [hw24]; exact one_kept _ c 2 _
                            have HC24 : Hid (w24.heap[c]? = some (.cells #[.string s5, .string t5, .string Y6.val, .int .u16 0, .string ⟨#[]⟩, .string ⟨#[]⟩, .slice none 0 0, .slice none 0 0] 83 (0, 0))) := by rw [hw24]; exact blk_set HC23.out 2 _
                            have HO24 : Hid (OwnI 83 8 (VCol 20) w24 (fun z => q < z ∧ z < c) (.slice xa i xc) acc) := HO23.out.apart (stays_col 20) hK24 (fun z _ hf e => by omega)
                            have HZ24 : Hid (w24.heap[r]? = some (.cells #[.int .i64 0, .slice none 0 0, .bool false, .int .i64 0, .string ⟨#[]⟩, .slice none 0 0] 38 (0, 0))) := (hK24.block r (block_lt HZ23.out) (by have := HQC.out; have := HGQ.out; have := HGE.out; have := HRE.out; omega)).trans HZ23.out
                            have HG24 : Hid (w24.heap[g]? = some (.cells #[.int .i64 n, .slice xa i xc, .bool (bitX f 2), .int .i64 s.1, .string s.2, .slice none 0 0] 38 (0, 0))) := (hK24.block g (block_lt HG23.out) (by have := HQC.out; have := HGQ.out; have := HGE.out; have := HRE.out; omega)).trans HG23.out
                            have HA24 : Hid (w24.heap[q]? = some (.cells #[.string o.1, .string o.2, .string ⟨#[]⟩, .int .u16 0, .string ⟨#[]⟩, .string ⟨#[]⟩, .slice none 0 0, .slice none 0 0] 83 (0, 0))) := (hK24.block q (block_lt HA23.out) (by have := HQC.out; have := HGQ.out; have := HGE.out; have := HRE.out; omega)).trans HA23.out
                            have HB24 : Hid (Below w.heap.size w w24) := HB23.out.trans (hK24.below HB23.out.size (fun z _ e => by have := HQC.out; have := HGQ.out; have := HGE.out; have := HRE.out; omega))
                            have H24 : Hid (IsB w24 a len cap zs) := HI.out.old HB24.out
                            have HU24 : Hid (OwnI 51 1 VKey w24 (fun z => g < z ∧ z < kb) (.slice ja ks.length jc) ks) := HU23.out.apart stays_key hK24 (fun z _ hf e => by have := HKQ.out; have := HQC.out; have := HGQ.out; have := HGE.out; have := HRE.out; omega)
                            obtain ⟨_, z0, z1, z2, z3, z4, z5, z6, z7⟩ := blk8 HC23.out
                            clear hRc hY6 hw24 hK24 HB23 HZ23 HG23 HA23 HO23
                            go_wp2_with fail
                            refine (rgetText_at H23.out ps5 HDD5.out _ rfl HY6.out).mono ?_
                            rintro e w9x ⟨rfl, rfl⟩
                            go_upto_if 161 with fail
                            rw [HW24.out]
                            clear HW24 z0 z1 z2 z3 z4 z5 z6 z7 HC23 H23
                            by_cases e6 : Y6.err = 0
                            case neg =>
                              have hx : X.err = Y6.err := (reads_err HRd.out (by rw [← HY6.out]; exact e6)).trans (by rw [← HY6.out])
                              obtain ⟨ce, hce⟩ : ∃ ce, ce = Y6.err := ⟨_, rfl⟩
                              have hce0 : (ce != 0) = true := by rw [hce]; simpa using e6
                              have HCEE : Hid (Y6.err = ce) := hce.symm
                              have HXE : Hid (X.err = ce) := hx.trans hce.symm
                              have HXN : Hid (X.err ≠ 0) := by show X.err ≠ 0; rw [hx]; exact e6
                              have HPX : Hid (place d X = 0) := place_err HXN.out
                              have HPY : Hid (place ps5 Y6 = 0) := place_err e6
                              clear hx hce
                              rw [HCEE.out, HPY.out]
                              clear e6
                              obtain ⟨wF, hwF, hF6, hKF⟩ := fill6 HZ24.out (.int .i64 n) (.slice xa i xc) (.bool (bitX f 2)) (.int .i64 s.1) (.string s.2) (.slice none 0 0)
                              have HWF : Hid _ := hwF
                              have HF6 : Hid _ := hF6
                              have HBF : Hid (Below w.heap.size w wF) := HB24.out.trans (hKF.below HB24.out.size (fun z _ e => by have := HRE.out; omega))
                              obtain ⟨_, f0, f1, f2, f3, f4, f5⟩ := blk6 HZ24.out
                              obtain ⟨⟨g0, g1, g2, g3, g4, g5⟩, _⟩ := blk6 HG24.out
                              have hlr := block_lt HZ24.out
                              have hlg := block_lt HG24.out
                              clear hwF hF6 hKF
                              go_wp2_with fail
                              rw [HWF.out]
                              obtain ⟨⟨p0, p1, p2, p3, p4, p5⟩, _⟩ := blk6 HF6.out
                              exact bodyPost_ret (v := .tuple #[.agg #[.int .i64 n, .slice xa i xc, .bool (bitX f 2), .int .i64 s.1, .string s.2, .slice none 0 0], .slice none 0 0, .int .i64 0, .int .i64 ce]) (by simp [results, Tryd.results25, go_sem, p0, p1, p2, p3, p4, p5]) rfl
                                ⟨_, _, _, _, _, _, _, _, _, _, by rw [HXE.out, HPX.out], HBF, fun e => absurd e HXN.out, fun e => absurd e HXN.out⟩
                            case pos =>
                              have hd6 := textR_done e6 HY6.out
                              rw [List.length_drop, HZL.out] at hd6
                              have hsz6 := text_size (zs.drop ps5)
                              rw [← HY6.out, List.length_drop, HZL.out] at hsz6
                              have hRe := reads_ok HRd.out (by rw [← HY6.out]; exact e6)
                              rw [← HY6.out] at hRe
                              have HP6 : Hid (place ps5 Y6 = ((ps5 + Y6.done : Nat) : Int)) := place_ok e6
                              have HE6 : Hid (Y6.err = 0) := e6
                              rw [HE6.out, HP6.out]
                              obtain ⟨ps6, hps6⟩ : ∃ ps6, ps6 = ps5 + Y6.done := ⟨_, rfl⟩
                              have HPS6 : Hid (ps6 ≤ len) := by have := HDD5.out; show ps6 ≤ len; omega
                              rw [← hps6] at hRe ⊢
                              have HRf : Hid (Reads X zs d (bindR (tyR 20) _) ps6 id) := reads_assoc hRe
                              have HSZ6 : Hid (Y6.val.size ≤ maxLen) := by show _ ≤ _; unfold maxLen; omega
                              obtain ⟨Y7, hY7⟩ : ∃ Y7, Y7 = tyR 20 (zs.drop ps6) := ⟨_, rfl⟩
                              have HY7 : Hid (Y7 = tyR 20 (zs.drop ps6)) := hY7
                              clear hRe hps6 hd6 hsz6 hY7 e6 HE6 HP6 HY6 HRd
                              go_wp2_with fail
                              refine (getsRef 20 (Nat.le_refl _) w24 a len cap zs H24.out (by omega) ps6 HPS6.out Y7 HY7.out _ _ rfl (by decide)).mono ?_
                              rintro e w25 ⟨na, nl, nc, ka, kl, kc, rfl, HTY, HD7, hb25⟩
                              have HZ25 : Hid (w25.heap[r]? = some (.cells #[.int .i64 0, .slice none 0 0, .bool false, .int .i64 0, .string ⟨#[]⟩, .slice none 0 0] 38 (0, 0))) := (hb25.block r (block_lt HZ24.out)).trans HZ24.out
                              have HG25 : Hid (w25.heap[g]? = some (.cells #[.int .i64 n, .slice xa i xc, .bool (bitX f 2), .int .i64 s.1, .string s.2, .slice none 0 0] 38 (0, 0))) := (hb25.block g (block_lt HG24.out)).trans HG24.out
                              have HA25 : Hid (w25.heap[q]? = some (.cells #[.string o.1, .string o.2, .string ⟨#[]⟩, .int .u16 0, .string ⟨#[]⟩, .string ⟨#[]⟩, .slice none 0 0, .slice none 0 0] 83 (0, 0))) := (hb25.block q (block_lt HA24.out)).trans HA24.out
                              have HC25 : Hid (w25.heap[c]? = some (.cells #[.string s5, .string t5, .string Y6.val, .int .u16 0, .string ⟨#[]⟩, .string ⟨#[]⟩, .slice none 0 0, .slice none 0 0] 83 (0, 0))) := (hb25.block c (block_lt HC24.out)).trans HC24.out
                              have HB25 : Hid (Below w.heap.size w w25) := HB24.out.trans (hb25.mono HB24.out.size)
                              have H25 : Hid (IsB w25 a len cap zs) := HI.out.old HB25.out
                              have HU25 : Hid (OwnI 51 1 VKey w25 (fun z => g < z ∧ z < kb) (.slice ja ks.length jc) ks) := HU24.out.old stays_key hb25
                              have HO25 : Hid (OwnI 83 8 (VCol 20) w25 (fun z => q < z ∧ z < c) (.slice xa i xc) acc) := HO24.out.old (stays_col 20) hb25
                              have HS24 : Hid (c < w24.heap.size) := block_lt HC24.out
                              obtain ⟨w26, hw26, hC26, hK26⟩ := fill5 HC25.out (.int .u16 Y7.val.id) (.string Y7.val.space) (.string Y7.val.name) (.slice na nl nc) (.slice ka kl kc)
                              have HW26 : Hid _ := hw26
                              have HC26 : Hid (w26.heap[c]? = some (.cells #[.string s5, .string t5, .string Y6.val, .int .u16 Y7.val.id, .string Y7.val.space, .string Y7.val.name, .slice na nl nc, .slice ka kl kc] 83 (0, 0))) := hC26
                              have HK26 : Hid (Kept (fun k => k = c) w25 w26) := hK26
                              have HO26 : Hid (OwnI 83 8 (VCol 20) w26 (fun z => q < z ∧ z < c) (.slice xa i xc) acc) := HO25.out.apart (stays_col 20) hK26 (fun z _ hf e => by omega)
                              have HZ26 : Hid (w26.heap[r]? = some (.cells #[.int .i64 0, .slice none 0 0, .bool false, .int .i64 0, .string ⟨#[]⟩, .slice none 0 0] 38 (0, 0))) := (hK26.block r (block_lt HZ25.out) (by have := HQC.out; have := HGQ.out; have := HGE.out; have := HRE.out; omega)).trans HZ25.out
                              have HG26 : Hid (w26.heap[g]? = some (.cells #[.int .i64 n, .slice xa i xc, .bool (bitX f 2), .int .i64 s.1, .string s.2, .slice none 0 0] 38 (0, 0))) := (hK26.block g (block_lt HG25.out) (by have := HQC.out; have := HGQ.out; have := HGE.out; have := HRE.out; omega)).trans HG25.out
                              have HA26 : Hid (w26.heap[q]? = some (.cells #[.string o.1, .string o.2, .string ⟨#[]⟩, .int .u16 0, .string ⟨#[]⟩, .string ⟨#[]⟩, .slice none 0 0, .slice none 0 0] 83 (0, 0))) := (hK26.block q (block_lt HA25.out) (by have := HQC.out; have := HGQ.out; have := HGE.out; have := HRE.out; omega)).trans HA25.out
                              have HB26 : Hid (Below w.heap.size w w26) := HB25.out.trans (hK26.below HB25.out.size (fun z _ e => by have := HQC.out; have := HGQ.out; have := HGE.out; have := HRE.out; omega))
                              have H26 : Hid (IsB w26 a len cap zs) := HI.out.old HB26.out
                              have HU26 : Hid (OwnI 51 1 VKey w26 (fun z => g < z ∧ z < kb) (.slice ja ks.length jc) ks) := HU25.out.apart stays_key hK26 (fun z _ hf e => by have := HKQ.out; have := HQC.out; have := HGQ.out; have := HGE.out; have := HRE.out; omega)
                              obtain ⟨_, z0, z1, z2, z3, z4, z5, z6, z7⟩ := blk8 HC25.out
                              clear hb25 hw26 hC26 hK26 HB24 HZ24 HG24 HA24 H24 HC24 HO24 HO25 HA25 H25 HB25 HZ25 HG25
                              by_cases e7 : Y7.err = 0
                              case neg =>
                                have hx : X.err = Y7.err := (reads_err HRf.out (by rw [← HY7.out]; exact e7)).trans (by rw [← HY7.out])
                                obtain ⟨ce, hce⟩ : ∃ ce, ce = Y7.err := ⟨_, rfl⟩
                                have hce0 : (ce != 0) = true := by rw [hce]; simpa using e7
                                have HCEE : Hid (Y7.err = ce) := hce.symm
                                have HXE : Hid (X.err = ce) := hx.trans hce.symm
                                have HXN : Hid (X.err ≠ 0) := by show X.err ≠ 0; rw [hx]; exact e7
                                have HPX : Hid (place d X = 0) := place_err HXN.out
                                have HPY : Hid (place ps6 Y7 = 0) := place_err e7
                                clear hx hce
                                rw [HCEE.out, HPY.out]
                                go_upto_if 173 with fail
                                rw [HW26.out]
                                clear e7 z0 z1 z2 z3 z4 z5 z6 z7
                                obtain ⟨wF, hwF, hF6, hKF⟩ := fill6 HZ26.out (.int .i64 n) (.slice xa i xc) (.bool (bitX f 2)) (.int .i64 s.1) (.string s.2) (.slice none 0 0)
                                have HWF : Hid _ := hwF
                                have HF6 : Hid _ := hF6
                                have HBF : Hid (Below w.heap.size w wF) := HB26.out.trans (hKF.below HB26.out.size (fun z _ e => by have := HRE.out; omega))
                                obtain ⟨_, f0, f1, f2, f3, f4, f5⟩ := blk6 HZ26.out
                                obtain ⟨⟨g0, g1, g2, g3, g4, g5⟩, _⟩ := blk6 HG26.out
                                have hlr := block_lt HZ26.out
                                have hlg := block_lt HG26.out
                                clear hwF hF6 hKF
                                go_wp2_with fail
                                rw [HWF.out]
                                obtain ⟨⟨p0, p1, p2, p3, p4, p5⟩, _⟩ := blk6 HF6.out
                                exact bodyPost_ret (v := .tuple #[.agg #[.int .i64 n, .slice xa i xc, .bool (bitX f 2), .int .i64 s.1, .string s.2, .slice none 0 0], .slice none 0 0, .int .i64 0, .int .i64 ce]) (by simp [results, Tryd.results25, go_sem, p0, p1, p2, p3, p4, p5]) rfl
                                  ⟨_, _, _, _, _, _, _, _, _, _, by rw [HXE.out, HPX.out], HBF, fun e => absurd e HXN.out, fun e => absurd e HXN.out⟩
                              case pos =>
                                have hRg := reads_bpure (show Reads X zs d (bindR (pureR ((s5, t5, Y6.val, Y7.val) : Col)) _) (ps6 + Y7.done) id from (by have h9 := reads_ok HRf.out (by rw [← HY7.out]; exact e7); rw [← HY7.out] at h9; exact h9))
                                have hF9 : ∀ l : List Col, acc ++ ((s5, t5, Y6.val, Y7.val) : Col) :: l = (acc ++ [((s5, t5, Y6.val, Y7.val) : Col)]) ++ l := fun l => by simp
                                have HRh : Hid (Reads X zs d (bindR (loopR (colR false o) m) fun l => pureR (ks, (((n : Int), (acc ++ [((s5, t5, Y6.val, Y7.val) : Col)]) ++ l, bitX f 2, s, []) : Tb))) (ps6 + Y7.done) id) := by
                                  show Reads _ _ _ _ _ _
                                  simp only [← hF9]
                                  exact hRg
                                have HP7 : Hid (place ps6 Y7 = ((ps6 + Y7.done : Nat) : Int)) := place_ok e7
                                have HE7 : Hid (Y7.err = 0) := e7
                                have HDD7 : Hid (ps6 + Y7.done ≤ len) := HD7.out e7
                                go_upto_if 173 with fail
                                rw [HW26.out]
                                (try rw [HE7.out])
                                rw [HP7.out]
                                obtain ⟨ps7, hps7⟩ : ∃ ps7, ps7 = ps6 + Y7.done := ⟨_, rfl⟩
                                rw [← hps7] at HRh HDD7 ⊢
                                have HMI : Hid (m = n - (i + 1)) := by show _ = _; omega
                                clear hRg hF9 hps7 e7 HE7 HP7 HD7 HY7 HRf HW26 z0 z1 z2 z3 z4 z5 z6 z7
                                have hBw : Below w26.heap.size w26 (w26.alloc (.cells #[.string s5, .string t5, .string Y6.val, .int .u16 Y7.val.id, .string Y7.val.space, .string Y7.val.name, .slice na nl nc, .slice ka kl kc] 83)) := below_one _ _
                                have HBN : Hid ((w26.alloc (.cells #[.string s5, .string t5, .string Y6.val, .int .u16 Y7.val.id, .string Y7.val.space, .string Y7.val.name, .slice na nl nc, .slice ka kl kc] 83)).heap[w26.heap.size]? = some (.cells [Value.string s5, Value.string t5, Value.string Y6.val, Value.int .u16 Y7.val.id, Value.string Y7.val.space, Value.string Y7.val.name, Value.slice na nl nc, Value.slice ka kl kc].toArray 83 (0, 0))) := heap_alloc_new w26 _
                                have HON : Hid (OwnI 83 8 (VCol 20) (w26.alloc (.cells #[.string s5, .string t5, .string Y6.val, .int .u16 Y7.val.id, .string Y7.val.space, .string Y7.val.name, .slice na nl nc, .slice ka kl kc] 83)) (fun z => q < z) (.slice xa i xc) acc) := (HO26.out.old (stays_col 20) hBw).sub (stays_col 20) (fun z _ hf => hf.1)
                                have HS25 : Hid (w25.heap.size ≤ w26.heap.size) := HK26.out.size
                                have HXN : Hid (VCol 20 (fun z => z < (w26.alloc (.cells #[.string s5, .string t5, .string Y6.val, .int .u16 Y7.val.id, .string Y7.val.space, .string Y7.val.name, .slice na nl nc, .slice ka kl kc] 83)).heap.size ∧ (Value.slice xa i xc).ownBlock ≠ some z ∧ q < z) (w26.alloc (.cells #[.string s5, .string t5, .string Y6.val, .int .u16 Y7.val.id, .string Y7.val.space, .string Y7.val.name, .slice na nl nc, .slice ka kl kc] 83)) ((s5, t5, Y6.val, Y7.val) : Col) (fun j => ([Value.string s5, Value.string t5, Value.string Y6.val, Value.int .u16 Y7.val.id, Value.string Y7.val.space, Value.string Y7.val.name, Value.slice na nl nc, Value.slice ka kl kc] : List Value).getD j default)) := by
                                  have h9 : VCol 20 (New w24.heap.size w25) w25 ((s5, t5, Y6.val, Y7.val) : Col) (fun j => ([Value.string s5, Value.string t5, Value.string Y6.val, Value.int .u16 Y7.val.id, Value.string Y7.val.space, Value.string Y7.val.name, Value.slice na nl nc, Value.slice ka kl kc] : List Value).getD j default) := ⟨⟨rfl, HSZ5.out.1⟩, ⟨rfl, HSZ5.out.2⟩, ⟨rfl, HSZ6.out⟩, na, nl, nc, ka, kl, kc, rfl, rfl, rfl, rfl, rfl, HTY.out⟩
                                  refine stays_col 20 _ _ w25 _ _ _ _ h9 (fun _ _ => rfl) (fun z hz hf => ?_) (Nat.le_trans HS25.out hBw.size) (fun z hz hf => ⟨Nat.lt_of_lt_of_le hz (Nat.le_trans HS25.out hBw.size), fun e => ?_, ?_⟩)
                                  · exact (hBw.block z (Nat.lt_of_lt_of_le hz HS25.out)).trans (HK26.out.block z hz (fun e => by have := HS24.out; have := hf.1; omega))
                                  · have := (HO26.out.lt z e).1.2; have := HS24.out; have := hf.1; omega
                                  · have := HQC.out; have := HS24.out; have := hf.1; omega
                                have HFN : Hid ((fun z => q < z) (w26.alloc (.cells #[.string s5, .string t5, .string Y6.val, .int .u16 Y7.val.id, .string Y7.val.space, .string Y7.val.name, .slice na nl nc, .slice ka kl kc] 83)).heap.size) := by have := HQC.out; have := block_lt HC26.out; show q < _; simp; omega
                                obtain ⟨⟨y0, y1, y2, y3, y4, y5, y6, y7⟩, _⟩ := blk8 HC26.out
                                obtain ⟨⟨g0, g1, g2, g3, g4, g5⟩, k0, k1, k2, k3, k4, k5⟩ := blk6 HG26.out
                                have hlg26 := block_lt HG26.out
                                clear g0 g2 g3 g4 g5 k0 k2 k3 k4 k5
                                go_wp2_with (at_builtin; refine wpList_appendI rfl (.tmp 177) (.tmp 179) 33 rfl (stays_col 20) elem_cs rfl HON.out rfl HBN.out rfl ?c1 ((s5, t5, Y6.val, Y7.val) : Col) HXN.out HFN.out ?c2 ?c3 ?_)
                                case c1 => first | exact ⟨rfl, rfl, rfl, rfl, rfl, rfl, rfl, rfl⟩ | (intro u hu; simp at hu; rcases hu with rfl | rfl | rfl | rfl | rfl | rfl | rfl | rfl <;> rfl)
                                case c2 => rw [HLi.out]; unfold maxLen; omega
                                case c3 => rw [HLi.out]; omega
                                intro v4 w27 ho4 hK27 hv4
                                obtain ⟨xa4, xc4, hv4e⟩ := ho4.shape
                                have hlen4 : (acc ++ [((s5, t5, Y6.val, Y7.val) : Col)]).length = i + 1 := by rw [List.length_append, HLi.out]; rfl
                                have HL4 : Hid ((acc ++ [((s5, t5, Y6.val, Y7.val) : Col)]).length = i + 1) := hlen4
                                rw [hlen4] at hv4e
                                have HO27 : Hid (OwnI 83 8 (VCol 20) w27 (fun z => q < z) v4 (acc ++ [((s5, t5, Y6.val, Y7.val) : Col)])) := ho4
                                have hvq : ∀ z, (Value.slice xa i xc).ownBlock = some z → q < z := fun z e => (HO26.out.lt z e).1.1
                                have HG27 : Hid (w27.heap[g]? = some (.cells #[.int .i64 n, .slice xa i xc, .bool (bitX f 2), .int .i64 s.1, .string s.2, .slice none 0 0] 38 (0, 0))) := (hK27.block g (Nat.lt_of_lt_of_le hlg26 hBw.size) (fun e => by have := hvq g e; have := HGQ.out; omega)).trans ((hBw.block g hlg26).trans HG26.out)
                                have HZ27 : Hid (w27.heap[r]? = some (.cells #[.int .i64 0, .slice none 0 0, .bool false, .int .i64 0, .string ⟨#[]⟩, .slice none 0 0] 38 (0, 0))) := (hK27.block r (Nat.lt_of_lt_of_le (block_lt HZ26.out) hBw.size) (fun e => by have := hvq r e; have := HGQ.out; have := HGE.out; omega)).trans ((hBw.block r (block_lt HZ26.out)).trans HZ26.out)
                                have HA27 : Hid (w27.heap[q]? = some (.cells #[.string o.1, .string o.2, .string ⟨#[]⟩, .int .u16 0, .string ⟨#[]⟩, .string ⟨#[]⟩, .slice none 0 0, .slice none 0 0] 83 (0, 0))) := (hK27.block q (Nat.lt_of_lt_of_le (block_lt HA26.out) hBw.size) (fun e => by have := hvq q e; omega)).trans ((hBw.block q (block_lt HA26.out)).trans HA26.out)
                                have HB27 : Hid (Below w.heap.size w w27) := (HB26.out.trans (hBw.mono HB26.out.size)).trans (hK27.below (Nat.le_trans HB26.out.size hBw.size) (fun z _ e => by have := hvq z e; have := HGQ.out; have := HGE.out; have := HRE.out; omega))
                                have HU27 : Hid (OwnI 51 1 VKey w27 (fun z => g < z ∧ z < kb) (.slice ja ks.length jc) ks) := (HU26.out.old stays_key hBw).apart stays_key hK27 (fun z _ hf e => by have := hvq z e; have := HKQ.out; omega)
                                subst hv4e
                                obtain ⟨⟨d0, d1, d2, d3, d4, d5⟩, e0, e1, e2, e3, e4, e5⟩ := blk6 HG27.out
                                have HG28 : Hid ((w27.setCell ⟨g, 1, none⟩ (.slice xa4 (i + 1) xc4)).heap[g]? = some (.cells #[.int .i64 n, .slice xa4 (i + 1) xc4, .bool (bitX f 2), .int .i64 s.1, .string s.2, .slice none 0 0] 38 (0, 0))) := blk_set HG27.out 1 _
                                have hK28 := one_kept w27 g 1 (.slice xa4 (i + 1) xc4)
                                have HZ28 : Hid ((w27.setCell ⟨g, 1, none⟩ (.slice xa4 (i + 1) xc4)).heap[r]? = some (.cells #[.int .i64 0, .slice none 0 0, .bool false, .int .i64 0, .string ⟨#[]⟩, .slice none 0 0] 38 (0, 0))) := (hK28.block r (block_lt HZ27.out) (by have := HGE.out; omega)).trans HZ27.out
                                have HA28 : Hid ((w27.setCell ⟨g, 1, none⟩ (.slice xa4 (i + 1) xc4)).heap[q]? = some (.cells #[.string o.1, .string o.2, .string ⟨#[]⟩, .int .u16 0, .string ⟨#[]⟩, .string ⟨#[]⟩, .slice none 0 0, .slice none 0 0] 83 (0, 0))) := (hK28.block q (block_lt HA27.out) (by have := HGQ.out; omega)).trans HA27.out
                                have HO28 : Hid (OwnI 83 8 (VCol 20) (w27.setCell ⟨g, 1, none⟩ (.slice xa4 (i + 1) xc4)) (fun z => q < z) (.slice xa4 (i + 1) xc4) (acc ++ [((s5, t5, Y6.val, Y7.val) : Col)])) := HO27.out.apart (stays_col 20) hK28 (fun z _ hz e => by have := HGQ.out; omega)
                                have HB28 : Hid (Below w.heap.size w (w27.setCell ⟨g, 1, none⟩ (.slice xa4 (i + 1) xc4))) := HB27.out.trans (hK28.below HB27.out.size (fun z _ e => by have := HGE.out; have := HRE.out; omega))
                                have HU28 : Hid (OwnI 51 1 VKey (w27.setCell ⟨g, 1, none⟩ (.slice xa4 (i + 1) xc4)) (fun z => g < z ∧ z < kb) (.slice ja ks.length jc) ks) := HU27.out.apart stays_key hK28 (fun z _ hf e => by omega)
                                have HRZ : Hid (Reads X zs d (bindR (loopR (colR false o) (n - (i + 1))) fun l => pureR (ks, (((n : Int), (acc ++ [((s5, t5, Y6.val, Y7.val) : Col)]) ++ l, bitX f 2, s, []) : Tb))) ps7 id) := by rw [← HMI.out]; exact HRh.out
                                clear d0 d2 d3 d4 d5 e0 e2 e3 e4 e5 ho4 hK27 hv4 hlen4 hvq hBw hK28 y0 y1 y2 y3 y4 y5 y6 y7 g1 k1
                                go_wp2_with fail
                                go_roundw
                                case rel => exact ⟨i + 1, ps7, _, _, _, by omega, by go_num, rfl, HDD7, HL4, HRZ, HZ28, HG28, HA28, HO28, HB28, HU28⟩
                                case measure => simp [intOf]; omega
                        · obtain rfl : i = n := by omega
                          have hRa := HRi.out
                          rw [Nat.sub_self] at hRa
                          obtain ⟨x1, x2, x3⟩ := reads_pure (reads_bpure (show Reads X zs d (bindR (pureR ([] : List Col)) _) ps id from hRa))
                          replace x3 : X.val = (ks, ((i : Int), acc, bitX f 2, s, [])) := x3.trans (by simp [pureR])
                          have HVE : Hid (i = acc.length) := HLi.out.symm
                          have HOV : Hid (OwnI 83 8 (VCol 20) w20 (fun z => q < z) (.slice xa i xc) acc) := HO20.out
                          clear hRa HRi
                          obtain ⟨wF, hwF, hF6, hKF⟩ := fill6 HZ20.out (.int .i64 i) (.slice xa i xc) (.bool (bitX f 2)) (.int .i64 s.1) (.string s.2) (.slice none 0 0)
                          have HWF : Hid _ := hwF
                          have HF6 : Hid _ := hF6
                          have HBF : Hid (Below w.heap.size w wF) := HB20.out.trans (hKF.below HB20.out.size (fun z _ e => by have := HRE.out; omega))
                          have HXE : Hid (X.err = 0) := x1
                          have HXP : Hid (place d X = ((ps : Nat) : Int)) := by show _ = _; rw [place_ok x1]; congr 1; omega
                          have HXD : Hid (X.err = 0 → d + X.done ≤ len) := fun _ => by have := HPi.out; omega
                          have HXV : Hid (X.val = (ks, ((i : Int), acc, bitX f 2, s, []))) := x3
                          have HUF : Hid (OwnI 51 1 VKey wF (fun z => w.heap.size ≤ z) (.slice ja ks.length jc) ks) := (HU20.out.apart stays_key hKF (fun z _ hf e => by have := HGE.out; omega)).sub stays_key (fun z _ hf => by have := HGE.out; have := HRE.out; omega)
                          have HOF : Hid (OwnI 83 8 (VCol 20) wF (fun z => w.heap.size ≤ z) (.slice xa i xc) acc) := (HOV.out.apart (stays_col 20) hKF (fun z _ hf e => by have := HGQ.out; have := HGE.out; omega)).sub (stays_col 20) (fun z _ hf => by have := HGQ.out; have := HGE.out; have := HRE.out; omega)
                          obtain ⟨_, f0, f1, f2, f3, f4, f5⟩ := blk6 HZ20.out
                          obtain ⟨⟨g0, g1, g2, g3, g4, g5⟩, _⟩ := blk6 HG20.out
                          have hlr := block_lt HZ20.out
                          have hlg := block_lt HG20.out
                          clear hwF hF6 hKF x1 x2 x3
                          go_wp2_with fail
                          rw [HWF.out]
                          obtain ⟨⟨p0, p1, p2, p3, p4, p5⟩, _⟩ := blk6 HF6.out
                          exact bodyPost_ret (v := .tuple #[.agg #[.int .i64 i, .slice xa i xc, .bool (bitX f 2), .int .i64 s.1, .string s.2, .slice none 0 0], .slice ja ks.length jc, .int .i64 ps, .int .i64 0]) (by simp [results, Tryd.results25, go_sem, p0, p1, p2, p3, p4, p5]) rfl
                            ⟨_, _, _, _, _, _, _, _, _, _, by rw [HXE.out, HXP.out], HBF, HXD.out, fun _ => ⟨by rw [HXV.out], by rw [HXV.out]; exact HVE.out, by rw [HXV.out], by rw [HXV.out], by rw [HXV.out], by rw [HXV.out], by rw [HXV.out]; exact HOF.out, by rw [HXV.out]; exact HUF.out⟩⟩
end Go.Proofs.YtnapeecmlkkolaaDoor
