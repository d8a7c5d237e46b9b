/-
  PrimsValues walked: it answers true, and turns nothing that was there.
-/
import Derived.Test.YtcceindlcheipaaTexts
namespace Go.Proofs.Ytcceindlcheipaa
open Go.RowKit
set_option linter.unusedVariables false
set_option linter.unusedSimpArgs false

/-- The bytes of a value that is put, and the error. -/
def valP (k : Int) (Z : List Int) : List Int := if k = 0 then [255, 255, 255, 255] else if k = 1 then [255, 255, 255, 254] else if k = 2 then putL Z.length 4 ++ Z else []
def valE (k : Int) : Int := if k = 0 then 0 else if k = 1 then 0 else if k = 2 then 0 else 1

theorem range_four (a b c d : Int) (ha : 0 ≤ a ∧ a ≤ 255) (hb : 0 ≤ b ∧ b ≤ 255) (hc : 0 ≤ c ∧ c ≤ 255) (hd : 0 ≤ d ∧ d ≤ 255) : ∀ j : Nat, 0 ≤ [a, b, c, d][j]?.getD 0 ∧ [a, b, c, d][j]?.getD 0 ≤ 255 := by
  intro j; rcases j with _ | _ | _ | _ | j <;> simp [ha, hb, hc, hd]

theorem nums_str (Z : List Int) (hr : ∀ j : Nat, 0 ≤ Z[j]?.getD 0 ∧ Z[j]?.getD 0 ≤ 255) : sNums (strOfNums Z) = Z := by
  unfold sNums
  rw [strOfNums_data, List.map_map]
  apply List.ext_getElem (by simp)
  intro i h1 h2
  have := hr i
  rw [List.getElem?_eq_getElem h2, Option.getD_some] at this
  simp only [List.getElem_map, Function.comp_apply]
  have h3 : (UInt8.ofNat Z[i].toNat).toNat = Z[i].toNat := by
    rw [UInt8.toNat_ofNat']
    exact Nat.mod_eq_of_lt (by simp; omega)
  rw [h3]
  omega

theorem OwnB.isB {w : World} {base : Nat} {v : Value} {n : Nat} {X : List Int} (h : OwnB w base v n X) (hp : 0 < n) (hr : ∀ j : Nat, 0 ≤ X[j]?.getD 0 ∧ X[j]?.getD 0 ≤ 255) :
    ∃ x cap, v = .slice x n cap ∧ Hid (IsB w x n cap X) := by
  obtain ⟨g, cap, hv, _, _, hR⟩ := h.row hp hr
  exact ⟨_, cap, hv, hR.isB⟩

theorem value_any (k : Int) {w : World} {a : Option Addr} {len cap : Nat} {Z : List Int} (h : IsB w a len cap Z) (hsm : len ≤ 3000) :
    Calls Try.prog 16 #[.agg #[.int .i64 k, .slice a len cap]] w fun e w' => ∃ x n c, e = .returned (.tuple #[.slice x n c, .int .i64 (valE k)]) ∧ Hid (IsB w' x n c (valP k Z)) ∧ Below w.heap.size w w' := by
  by_cases h0 : k = 0
  · subst h0
    refine (value_null a len cap w).mono ?_
    rintro e w' ⟨v, rfl, ho, hB⟩
    obtain ⟨x, c, rfl, HI⟩ := ho.isB (by omega) (range_four _ _ _ _ (by omega) (by omega) (by omega) (by omega))
    exact ⟨x, 4, c, rfl, HI, hB⟩
  by_cases h1 : k = 1
  · subst h1
    refine (value_unset a len cap w).mono ?_
    rintro e w' ⟨v, rfl, ho, hB⟩
    obtain ⟨x, c, rfl, HI⟩ := ho.isB (by omega) (range_four _ _ _ _ (by omega) (by omega) (by omega) (by omega))
    exact ⟨x, 4, c, rfl, HI, hB⟩
  by_cases h2 : k = 2
  · subst h2
    refine (value_set a len cap Z w h (by omega)).mono ?_
    rintro e w' ⟨v, rfl, ho, hB⟩
    obtain ⟨x, c, rfl, HI⟩ := ho.isB (by omega) (range_append (putL_range _ _) h.range)
    refine ⟨x, _, c, rfl, ?_, hB⟩
    rw [valP, if_neg (by decide), if_neg (by decide), if_pos rfl, h.1]
    exact HI
  · refine (value_none k a len cap w h0 h1 h2).mono ?_
    rintro e w' ⟨rfl, hB⟩
    refine ⟨none, 0, 0, ?_, ?_, hB⟩
    · rw [valE, if_neg h0, if_neg h1, if_neg h2]
    · rw [valP, if_neg h0, if_neg h1, if_neg h2]
      exact isB_nil _

theorem rvalue_any (k : Int) (Z : List Int) (hr : ∀ j : Nat, 0 ≤ Z[j]?.getD 0 ∧ Z[j]?.getD 0 ≤ 255) (w : World) (hsm : Z.length ≤ 3000) (T : ByteArray) (hT : T = strOfNums Z) :
    Calls Try.prog 17 #[.agg #[.int .i64 k, .string T]] w fun e w' => ∃ x n c, e = .returned (.tuple #[.slice x n c, .int .i64 (valE k)]) ∧ Hid (IsB w' x n c (valP k Z)) ∧ Below w.heap.size w w' := by
  subst hT
  by_cases h0 : k = 0
  · subst h0
    refine (rvalue_null _ w).mono ?_
    rintro e w' ⟨v, rfl, ho, hB⟩
    obtain ⟨x, c, rfl, HI⟩ := ho.isB (by omega) (range_four _ _ _ _ (by omega) (by omega) (by omega) (by omega))
    exact ⟨x, 4, c, rfl, HI, hB⟩
  by_cases h1 : k = 1
  · subst h1
    refine (rvalue_unset _ w).mono ?_
    rintro e w' ⟨v, rfl, ho, hB⟩
    obtain ⟨x, c, rfl, HI⟩ := ho.isB (by omega) (range_four _ _ _ _ (by omega) (by omega) (by omega) (by omega))
    exact ⟨x, 4, c, rfl, HI, hB⟩
  by_cases h2 : k = 2
  · subst h2
    refine (rvalue_set _ w (by rw [strOfNums_size]; omega)).mono ?_
    rintro e w' ⟨v, rfl, ho, hB⟩
    rw [nums_str Z hr, strOfNums_size] at ho
    obtain ⟨x, c, rfl, HI⟩ := ho.isB (by omega) (range_append (putL_range _ _) hr)
    refine ⟨x, _, c, rfl, ?_, hB⟩
    rw [valP, if_neg (by decide), if_neg (by decide), if_pos rfl]
    exact HI
  · refine (rvalue_none k _ w h0 h1 h2).mono ?_
    rintro e w' ⟨rfl, hB⟩
    refine ⟨none, 0, 0, ?_, ?_, hB⟩
    · rw [valE, if_neg h0, if_neg h1, if_neg h2]
    · rw [valP, if_neg h0, if_neg h1, if_neg h2]
      exact isB_nil _

/-- The cells of the box of a struct of two that stay, whatever is made later. -/
theorem box_on {w W : World} {u v : Value} {t : TypeId} (hB : Below (w.alloc (.cells #[u, v] t)).heap.size (w.alloc (.cells #[u, v] t)) W) :
    W.cell? ⟨w.heap.size, 0, none⟩ = some u ∧ W.cell? ⟨w.heap.size, 1, none⟩ = some v ∧ w.heap.size < W.heap.size := by
  have hs := hB.size
  simp at hs
  refine ⟨?_, ?_, by omega⟩
  · rw [hB.cell (by simp)]; simp [go_sem]
  · rw [hB.cell (by simp)]; simp [go_sem]

set_option maxHeartbeats 400000 in
theorem values_big (k : Int) (a1 : Option Addr) (l1 c1 : Nat) (a : Option Addr) (len cap : Nat) (w : World) (hs : l1 ≤ 9223372036854775807) (hc : len ≤ 9223372036854775807) (h : 3000 < l1 ∨ 3000 < len) :
    Calls Try.prog 4 #[.agg #[.int .i64 k, .slice a1 l1 c1], .slice a len cap] w fun e w' => e = .returned (.bool true) ∧ Below w.heap.size w w' := by
  by_cases h1 : 3000 < l1
  · go_enter Try.func4, Try.ntmps4
    go_wp2_with fail
    refine (awake_any _).mono ?_
    rintro e w1 ⟨rfl, hB1⟩
    obtain ⟨hx0, hx1, hsz⟩ := box_on hB1
    go_wp2_with fail
    go_ret
    exact ⟨rfl, (below_one _ _).trans (hB1.mono (by simp))⟩
  · have h2 : 3000 < len := by omega
    have h1' : decide ((3000 : Int) < l1) = false := by simp; omega
    go_enter Try.func4, Try.ntmps4
    go_wp2_with fail
    refine (awake_any _).mono ?_
    rintro e w1 ⟨rfl, hB1⟩
    obtain ⟨hx0, hx1, hsz⟩ := box_on hB1
    go_wp2_with fail
    go_ret
    exact ⟨rfl, (below_one _ _).trans (hB1.mono (by simp))⟩

set_option maxHeartbeats 2000000 in
theorem values_small (k : Int) (a1 : Option Addr) (l1 c1 : Nat) (Z : List Int) (a : Option Addr) (len cap : Nat) (zs : List Int) (w : World) (hv : IsB w a1 l1 c1 Z) (h : IsB w a len cap zs) (h1 : l1 ≤ 3000) (h2 : len ≤ 3000) :
    Calls Try.prog 4 #[.agg #[.int .i64 k, .slice a1 l1 c1], .slice a len cap] w fun e w' => e = .returned (.bool true) ∧ Below w.heap.size w w' := by
  have HV : Hid (IsB w a1 l1 c1 Z) := hv
  have H : Hid (IsB w a len cap zs) := h
  have t1 : decide ((3000 : Int) < l1) = false := by simp; omega
  have t2 : decide ((3000 : Int) < len) = false := by simp; omega
  have HZ : Hid (Z.length ≤ 3000) := (by rw [hv.1]; exact h1 : Z.length ≤ 3000)
  have HZr : Hid _ := hv.range
  obtain ⟨TZ, hTZ⟩ : ∃ T, T = strOfNums Z := ⟨_, rfl⟩
  have HTZ : Hid _ := hTZ
  clear h hv hTZ
  go_enter Try.func4, Try.ntmps4
  go_wp2_with fail
  refine (awake_any _).mono ?_
  rintro e w1 ⟨rfl, hB1⟩
  obtain ⟨hx0, hx1, hsz⟩ := box_on hB1
  have hA1 : Below w.heap.size w w1 := (below_one _ _).trans (hB1.mono (by simp))
  go_wp2_with fail
  refine (value_any k (HV.out.old hA1) h1).mono ?_
  rintro e w2 ⟨x2, n2, c2, rfl, HI2, hB2⟩
  have hB02 := hB1.trans (hB2.mono hB1.size)
  obtain ⟨hy0, hy1, hsz2⟩ := box_on hB02
  have hA2 : Below w.heap.size w w2 := hA1.trans (hB2.mono hA1.size)
  have hcz := (HV.out.old hA2).conv
  rw [← HTZ.out] at hcz
  clear hx0 hx1 hsz
  go_wp2_with fail
  refine (rvalue_any k Z HZr.out _ HZ.out TZ HTZ.out).mono ?_
  rintro e w3 ⟨x3, n3, c3, rfl, HI3, hB3⟩
  have hA3 : Below w.heap.size w w3 := hA2.trans (hB3.mono hA2.size)
  have hcv2 := (HI2.out.old hB3).conv
  have hcv3 := HI3.out.conv
  generalize strOfNums (valP k Z) = T at *
  clear hy0 hy1 hsz2 hcz HI2 HI3 hB1 hB2 hB02 hB3 hA1 hA2
  go_wp2_with fail
  refine (getValue_any (H.out.old hA3) (by omega)).mono ?_
  rintro e w4 ⟨r, lr, cr, x4, lx4, cx4, rfl, HX, HBe, hB4⟩
  have hA4 : Below w.heap.size w w4 := hA3.trans (hB4.mono hA3.size)
  have hA4' : Below w.heap.size w (w4.alloc (.cells #[.int .i64 (valueA zs).kind, .slice x4 lx4 cx4] 35)) := hA4.alloc hA4.size _
  go_wp2_with fail
  refine (rgetValue_any (H.out.old hA4')).mono ?_
  rintro e w5 ⟨rfl, hB5⟩
  obtain ⟨hy0, hy1, hsz5⟩ := box_on hB5
  have hC5 : Below w4.heap.size w4 w5 := (below_one _ _).trans (hB5.mono (by simp))
  have hA5 : Below w.heap.size w w5 := hA4.trans (hC5.mono hA4.size)
  have hA5' : Below w.heap.size w (w5.alloc (.cells #[.int .i64 (valueA zs).kind, .string (strOfNums (valueA zs).bytes)] 39)) := hA5.alloc hA5.size _
  have hC5' : Below w4.heap.size w4 (w5.alloc (.cells #[.int .i64 (valueA zs).kind, .string (strOfNums (valueA zs).bytes)] 39)) := hC5.alloc hC5.size _
  go_wp2_with fail
  refine (behind_any (H.out.old hA5') (HBe.out.old hC5')).mono ?_
  rintro e w6 ⟨rfl, hB6⟩
  obtain ⟨hz0, hz1, hsz6⟩ := box_on hB6
  have hu0 : w6.cell? ⟨w4.heap.size, 0, none⟩ = some (.int .i64 (valueA zs).kind) := (hB6.cell (by simp; omega)).trans ((World.cell?_alloc_past _ _ _ (by simpa using hsz5)).trans hy0)
  have hu1 : w6.cell? ⟨w4.heap.size, 1, none⟩ = some (.slice x4 lx4 cx4) := (hB6.cell (by simp; omega)).trans ((World.cell?_alloc_past _ _ _ (by simpa using hsz5)).trans hy1)
  have hA6 : Below w.heap.size w w6 := hA5'.trans (hB6.mono hA5'.size)
  have hC6 : Below w4.heap.size w4 w6 := hC5'.trans (hB6.mono hC5'.size)
  have hcx := (HX.out.old hC6).conv
  generalize strOfNums (valueA zs).bytes = TV at *
  clear hy0 hy1 hB4 hB5 hB6 hA3 hA4 hA4' hA5 hA5' hC5 hC5' hC6 HX HBe
  go_wp2_with fail
  go_ret
  exact ⟨by simp, hA6⟩

theorem values_walk (k : Int) (a1 : Option Addr) (l1 c1 : Nat) (Z : List Int) (a : Option Addr) (len cap : Nat) (zs : List Int) (w : World) (hv : IsRow .u8 w a1 l1 c1 Z) (h : IsRow .u8 w a len cap zs) :
    Calls Try.prog 4 #[.agg #[.int .i64 k, .slice a1 l1 c1], .slice a len cap] w fun e w' => e = .returned (.bool true) ∧ Below w.heap.size w w' := by
  have hle := h.le
  have hle1 := hv.le
  by_cases hbig : 3000 < l1 ∨ 3000 < len
  · unfold maxLen at hle hle1
    exact values_big k a1 l1 c1 a len cap w (by omega) (by omega) hbig
  · exact values_small k a1 l1 c1 _ a len cap _ w hv.isB h.isB (by omega) (by omega)
end Go.Proofs.Ytcceindlcheipaa
