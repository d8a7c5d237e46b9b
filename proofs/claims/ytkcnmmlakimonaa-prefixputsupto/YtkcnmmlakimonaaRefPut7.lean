/-
  The document's own putting of a prefix: its contract.
-/
import Derived.Test.YtkcnmmlakimonaaAppC
import Derived.Test.YtkcnmmlakimonaaCmp
import Derived.Test.YtkcnmmlakimonaaCutMath
namespace Go.Proofs.Ytkcnmmlakimonaa
open Go.RowKit
set_option maxRecDepth 100000
set_option linter.unusedVariables false
set_option linter.unusedSimpArgs false

theorem list_none {α : Type} {f : α → List Int × Int} {xs : List α} (h : xs.length = 0) : (listB f xs).2 = 0 := by
  obtain rfl : xs = [] := List.eq_nil_of_length_eq_zero h
  rfl

theorem wr0_arg {T : List Int} {ws : List ByteArray} {es : List En} (h0 : T.length ≠ 0) (h1 : T.length ≠ 16) : wr0 (T, ws, es) = ([], 0, 1) := by
  show (if T.length = 0 then _ else if (trB T).2 = 0 then _ else _) = _
  rw [if_neg h0, trB, if_neg h1]
  rfl

/-- The bytes and the flag of a tracing number that may be. -/
theorem wr0_then {T : List Int} {ws : List ByteArray} {es : List En} (h : T.length = 0 ∨ T.length = 16) : wr0 (T, ws, es) = wr1 ws es T (if T.length = 0 then 0 else 2) := by
  show (if T.length = 0 then _ else if (trB T).2 = 0 then _ else _) = _
  by_cases h0 : T.length = 0
  · obtain rfl : T = [] := List.eq_nil_of_length_eq_zero h0
    rfl
  · have e : trB T = (T, 0) := by rw [trB, if_pos (by omega)]
    rw [if_neg h0, if_neg h0, e, if_pos rfl]
    rfl

theorem wr1_err {ws : List ByteArray} {es : List En} {acc : List Int} {fl : Int} (h : (listB textB ws).2 ≠ 0) : wr1 ws es acc fl = ([], 0, (listB textB ws).2) := by
  unfold wr1
  rw [if_neg (fun h0 => h (list_none h0)), if_neg h]

theorem wr1_ok {ws : List ByteArray} {es : List En} {acc : List Int} {fl : Int} (h : (listB textB ws).2 = 0) : wr1 ws es acc fl = wr2 es (acc ++ (if ws.length = 0 then [] else (listB textB ws).1)) (fl + (if ws.length = 0 then 0 else 8)) := by
  unfold wr1
  by_cases h0 : ws.length = 0
  · rw [if_pos h0, if_pos h0, if_pos h0, List.append_nil, Int.add_zero]
  · rw [if_neg h0, if_neg h0, if_neg h0, if_pos h]

theorem wr2_err {es : List En} {acc : List Int} {fl : Int} (h : (listB (keyB valueB) es).2 ≠ 0) : wr2 es acc fl = ([], 0, (listB (keyB valueB) es).2) := by
  unfold wr2
  rw [if_neg (fun h0 => h (list_none h0)), if_neg h]

theorem wr2_ok {es : List En} {acc : List Int} {fl : Int} (h : (listB (keyB valueB) es).2 = 0) : wr2 es acc fl = (acc ++ (if es.length = 0 then [] else (listB (keyB valueB) es).1), fl + (if es.length = 0 then 0 else 4), 0) := by
  unfold wr2 wr3
  by_cases h0 : es.length = 0
  · rw [if_pos h0, if_pos h0, if_pos h0, List.append_nil, Int.add_zero]
  · rw [if_neg h0, if_neg h0, if_neg h0, if_pos h]

theorem rp0 {w : World} {a : Option Addr} {cap : Nat} {I : List It} {ws : List ByteArray} (hI : I = ws.map keyIt) (h : View 5 VI w a I.length cap I) (hs : ∀ s ∈ ws, s.size ≤ maxLen) {X : List Int × Int} (hX : X = listB textB ws) :
    Calls Try.prog 28 #[.int .i64 0, .slice a I.length cap] w fun e w' => ∃ a cp, e = .returned (.tuple #[.slice a X.1.length cp, .int .i64 X.2]) ∧ Hid (IsB w' a X.1.length cp X.1) ∧ Hid (Below w.heap.size w w') := by
  refine (rput0_any (Y := X) h (fun x hx => ?_) (by rw [hX, hI]; exact (put_texts ws).symm)).mono ?_
  · rw [hI] at hx
    obtain ⟨s, hs', rfl⟩ := List.mem_map.1 hx
    exact hs s hs'
  · rintro e w' ⟨a', cp, rfl, HP, hB⟩
    exact ⟨a', cp, rfl, HP.out.2, hB⟩

theorem rp3 {w : World} {a : Option Addr} {cap : Nat} {I : List It} {es : List En} (hI : I = es.map entryIt) (h : View 5 VI w a I.length cap I) (hs : ∀ y ∈ es, y.1.size ≤ maxLen ∧ y.2.2.size ≤ 1048576) (hl : es.length ≤ 50) {X : List Int × Int} (hX : X = listB (keyB valueB) es) :
    Calls Try.prog 28 #[.int .i64 3, .slice a I.length cap] w fun e w' => ∃ a cp, e = .returned (.tuple #[.slice a X.1.length cp, .int .i64 X.2]) ∧ Hid (IsB w' a X.1.length cp X.1) ∧ Hid (Below w.heap.size w w') := by
  have hlen : I.length = es.length := by rw [hI, List.length_map]
  have h2 : I.length * 1114117 ≤ 50 * 1114117 := Nat.mul_le_mul_right _ (by omega)
  refine (rput3_any (Y := X) h (fun x hx => ?_) 1114117 (fun x hx => ?_) (by omega) (by rw [hX, hI]; exact (put_entries es).symm)).mono ?_
  · rw [hI] at hx
    obtain ⟨y, hy, rfl⟩ := List.mem_map.1 hx
    exact ⟨(hs y hy).1, Nat.le_trans (hs y hy).2 (by omega)⟩
  · rw [hI] at hx
    obtain ⟨y, hy, rfl⟩ := List.mem_map.1 hx
    exact entry_len y (hs y hy).2
  · rintro e w' ⟨a', cp, rfl, HP, hB⟩
    exact ⟨a', cp, rfl, HP.out.2, hB⟩

theorem listB_two {α : Type} {f : α → List Int × Int} {xs : List α} (h : (listB f xs).2 = 0) : 2 ≤ (listB f xs).1.length := by
  obtain ⟨_, h2, _⟩ := listB_ok h
  rw [h2, List.length_append, putL_length]
  omega

theorem cells3_of0 {w W : World} {j : Nat} {x1 x2 x3 : Value} {t : TypeId} (h : w.heap[j]? = some (.cells #[x1, x2, x3] t (0, 0))) (hB : Below w.heap.size w W) : W.cell? ⟨j, 0, none⟩ = some x1 ∧ W.cell? ⟨j, 1, none⟩ = some x2 ∧ W.cell? ⟨j, 2, none⟩ = some x3 := by
  obtain ⟨k0, k1, k2, _⟩ := three_cells (blk_old h hB)
  exact ⟨k0, k1, k2⟩

set_option maxHeartbeats 16000000 in
theorem rput7 {w : World} {s : ByteArray} {a1 a2 : Option Addr} {c1 c2 : Nat} {I1 I2 : List It} {T : List Int} {ws : List ByteArray} {es : List En} (hT : sNums s = T) (hI1 : I1 = ws.map keyIt) (hI2 : I2 = es.map entryIt) (hsm : s.size ≤ 100) (h1 : View 5 VI w a1 I1.length c1 I1) (h2 : View 5 VI w a2 I2.length c2 I2) (hF : Fit7 (T, ws, es)) {Y : Wr} (hY : Y = wr0 (T, ws, es)) :
    Calls Try.prog 14 #[.agg #[.string s, .slice a1 I1.length c1, .slice a2 I2.length c2]] w fun e w' => ∃ a cp, e = .returned (.tuple #[.slice a Y.1.length cp, .int .u8 Y.2.1, .int .i64 Y.2.2]) ∧ Hid (IsB w' a Y.1.length cp Y.1) ∧ Hid (Below w.heap.size w w') := by
  have hTl : T.length = s.size := by rw [← hT, sNums_length]
  have hl1 : I1.length = ws.length := by rw [hI1, List.length_map]
  have hl2 : I2.length = es.length := by rw [hI2, List.length_map]
  have HT : Hid (sNums s = T) := hT
  have HI1 : Hid (I1 = ws.map keyIt) := hI1
  have HI2 : Hid (I2 = es.map entryIt) := hI2
  have H1 : Hid (View 5 VI w a1 I1.length c1 I1) := h1
  have H2 : Hid (View 5 VI w a2 I2.length c2 I2) := h2
  have HF : Hid (Fit7 (T, ws, es)) := hF
  have HY : Hid (Y = wr0 (T, ws, es)) := hY
  have HSM : Hid (s.size ≤ 100) := hsm
  have HLE : Hid (T.length = s.size ∧ I1.length = ws.length ∧ I2.length = es.length) := ⟨hTl, hl1, hl2⟩
  obtain ⟨w0, hw0⟩ : ∃ w0, w0 = w.alloc (.cells #[.string s, .slice a1 I1.length c1, .slice a2 I2.length c2] 33) := ⟨_, rfl⟩
  have HB0 : Hid (w0.heap[w.heap.size]? = some (.cells #[.string s, .slice a1 I1.length c1, .slice a2 I2.length c2] 33 (0, 0))) := by rw [hw0]; exact heap_alloc_new w _
  have HW0 : Hid (Below w.heap.size w w0) := by rw [hw0]; exact below_one w _
  obtain ⟨k0, k1, k2⟩ := cells3_of0 HB0.out (Below.refl w0.heap.size w0)
  clear h1 h2 hF hY hT hI1 hI2 hTl hl1 hl2 hsm
  go_enter Try.func14, Try.ntmps14
  go_upto_region 1 with fail
  rw [← hw0]
  clear hw0
  by_cases hbad : s.size ≠ 0 ∧ s.size ≠ 16
  · have HYA : Hid (Y = ([], 0, 1)) := by
      show _ = _
      rw [HY.out]; exact wr0_arg (by rw [HLE.out.1]; exact hbad.1) (by rw [HLE.out.1]; exact hbad.2)
    have t1 : ((s.size : Int) == 0) = false := by rw [beq_eq_false_iff_ne]; omega
    have t2 : ((s.size : Int) == 16) = false := by rw [beq_eq_false_iff_ne]; omega
    have t3 : ((s.size : Int) != 0) = true := by rw [bne_iff_ne]; omega
    have t4 : ((s.size : Int) != 16) = true := by rw [bne_iff_ne]; omega
    clear hbad
    go_wp2_with fail
    go_ret3
    exact ⟨none, 0, by rw [HYA.out]; rfl, by rw [HYA.out]; exact isB_nil _, HW0⟩
  · have hgood : s.size = 0 ∨ s.size = 16 := by omega
    have HG : Hid (s.size = 0 ∨ s.size = 16) := hgood
    have HY1 : Hid (Y = wr1 ws es T (if T.length = 0 then 0 else 2)) := by
      show _ = _
      rw [HY.out, wr0_then (by rw [HLE.out.1]; exact hgood)]
    obtain ⟨X0, hX0⟩ : ∃ X, X = listB textB ws := ⟨_, rfl⟩
    obtain ⟨X3, hX3⟩ : ∃ X, X = listB (keyB valueB) es := ⟨_, rfl⟩
    have HX0 : Hid (X0 = listB textB ws) := hX0
    have HX3 : Hid (X3 = listB (keyB valueB) es) := hX3
    clear hX0 hX3 hbad
    go_cut [20] (fun b wc => b = .bool false ∧ wc = w0)
    case first =>
      rcases hgood with hg | hg
      · have t1 : ((s.size : Int) == 0) = true := by rw [beq_iff_eq]; omega
        have t3 : ((s.size : Int) != 0) = false := by rw [bne_eq_false_iff_eq]; omega
        go_wp2_with fail
        go_meet
        exact ⟨by simp, rfl⟩
      · have t1 : ((s.size : Int) == 0) = false := by rw [beq_eq_false_iff_ne]; omega
        have t2 : ((s.size : Int) == 16) = true := by rw [beq_iff_eq]; omega
        have t3 : ((s.size : Int) != 0) = true := by rw [bne_iff_ne]; omega
        have t4 : ((s.size : Int) != 16) = false := by rw [bne_eq_false_iff_eq]; omega
        go_wp2_with fail
        go_meet
        exact ⟨by simp, rfl⟩
    case rest =>
      obtain ⟨rfl, rfl⟩ := hcut
      clear hgood
      go_wp2_with fail
      refine (rp0 HI1.out (H1.out.old stays_i HW0.out) HF.out.1 HX0.out).mono ?_
      rintro e w1 ⟨aw, cw, rfl, HIW, HB1⟩
      have HW1 : Hid (Below w.heap.size w w1) := HW0.out.trans (HB1.out.mono HW0.out.size)
      by_cases he0 : X0.2 = 0
      · clear k0 k1 k2
        obtain ⟨k0, k1, k2⟩ := cells3_of0 HB0.out HB1.out
        rw [he0]
        go_wp2_with fail
        refine (rp3 HI2.out (H2.out.old stays_i HW1.out) HF.out.2.1 HF.out.2.2 HX3.out).mono ?_
        rintro e w2 ⟨al, cl, rfl, HIL, HB2⟩
        have HW2 : Hid (Below w.heap.size w w2) := HW1.out.trans (HB2.out.mono HW1.out.size)
        have HB02 : Hid (Below wc.heap.size wc w2) := HB1.out.trans (HB2.out.mono HB1.out.size)
        clear k0 k1 k2
        obtain ⟨k0, k1, k2⟩ := cells3_of0 HB0.out HB02.out
        by_cases he3 : X3.2 = 0
        · obtain ⟨v9, w9, hcv, ho9, hb9⟩ := conv_own w2 s (by have := HSM.out; unfold maxLen; omega)
          have HO9 : Hid (OwnC w9 w2.heap.size v9 s.size (sNums s)) := ho9
          have HB9 : Hid (Below w2.heap.size w2 w9) := hb9
          clear k0 k1 k2 ho9 hb9
          obtain ⟨k0, k1, k2⟩ := cells3_of0 HB0.out HB02.out
          obtain ⟨n0, n1, n2⟩ := cells3_of0 HB0.out (HB02.out.trans (HB9.out.mono HB02.out.size))
          have HIW9 : Hid (IsB w9 aw X0.1.length cw X0.1) := (HIW.out.old HB2.out).old HB9.out
          have HIL9 : Hid (IsB w9 al X3.1.length cl X3.1) := HIL.out.old HB9.out
          have HIL2 : Hid (IsB w2 al X3.1.length cl X3.1) := HIL.out
          have HW9 : Hid (Below w.heap.size w w9) := HW2.out.trans (HB9.out.mono HW2.out.size)
          have HLW : Hid (2 ≤ X0.1.length ∧ X0.1.length ≤ 4294967297) := by
            refine ⟨?_, ?_⟩
            · rw [HX0.out]; exact listB_two (by rw [← HX0.out]; exact he0)
            · rw [HX0.out]; exact listB_textB_len ws
          have HLL : Hid (2 ≤ X3.1.length ∧ X3.1.length ≤ 55705852) := by
            refine ⟨?_, ?_⟩
            · rw [HX3.out]; exact listB_two (by rw [← HX3.out]; exact he3)
            · rw [HX3.out]; exact entries_len es HF.out.2.1 HF.out.2.2
          have HYF : Hid (Y = ((sNums s ++ (if I1.length = 0 then [] else X0.1)) ++ (if I2.length = 0 then [] else X3.1), (if s.size = 0 then 0 else 2) + (if I1.length = 0 then 0 else 8) + (if I2.length = 0 then 0 else 4), 0)) := by
            show _ = _
            rw [HY1.out, wr1_ok (by rw [← HX0.out]; exact he0), wr2_ok (by rw [← HX3.out]; exact he3), HLE.out.1, ← HLE.out.2.1, ← HLE.out.2.2, ← HX0.out, ← HX3.out, HT.out]
          rw [he3]
          clear he0 he3 HIW HIL HY1
          by_cases hz : s.size = 0
          · by_cases hw : I1.length = 0
            · by_cases hl : I2.length = 0
              · skip
                have t1 : decide ((0 : Int) < (s.size : Int)) = false := decide_eq_false (by omega)
                have t2 : decide ((0 : Int) < (I1.length : Int)) = false := decide_eq_false (by omega)
                have t3 : decide ((0 : Int) < (I2.length : Int)) = false := decide_eq_false (by omega)
                have u1 : decide (0 < s.size) = false := decide_eq_false (by omega)
                have u2 : decide (0 < I1.length) = false := decide_eq_false (by omega)
                have u3 : decide (0 < I2.length) = false := decide_eq_false (by omega)
                have HYG : Hid (Y = (sNums s, 0, 0)) := by
                  show _ = _
                  rw [HYF.out, if_pos hw, if_pos hl, if_pos hz, if_pos hw, if_pos hl]; simp
                clear HYF hw hl hz
                obtain ⟨ar, cr, hv9, hI9, hfr9⟩ := HO9.out.isB
                subst hv9
                have HR : Hid (IsB w9 ar s.size cr (sNums s)) := hI9
                clear hI9 hfr9 HO9
                go_wp2_with fail
                go_ret3
                exact ⟨ar, cr, by rw [HYG.out]; simp only [sNums_length]; rfl, by rw [HYG.out]; simp only [sNums_length]; exact HR, HW9⟩
              · skip
                have t1 : decide ((0 : Int) < (s.size : Int)) = false := decide_eq_false (by omega)
                have t2 : decide ((0 : Int) < (I1.length : Int)) = false := decide_eq_false (by omega)
                have t3 : decide ((0 : Int) < (I2.length : Int)) = true := decide_eq_true (by omega)
                have u1 : decide (0 < s.size) = false := decide_eq_false (by omega)
                have u2 : decide (0 < I1.length) = false := decide_eq_false (by omega)
                have u3 : decide (0 < I2.length) = true := decide_eq_true (by omega)
                have HYG : Hid (Y = ((sNums s ++ X3.1), 4, 0)) := by
                  show _ = _
                  rw [HYF.out, if_pos hw, if_neg hl, if_pos hz, if_pos hw, if_neg hl]; simp
                clear HYF hw hl hz
                have hs29 : w2.heap.size ≤ w9.heap.size := HB9.out.size
                go_wp2_with (at_builtin; refine wpList_append_c rfl (.tmp 59) (.tmp 60) rfl rfl HO9.out rfl HIL9.out ?cp1 ?cb1 ?cs1 ?_)
                case cp1 => have := HLL.out; omega
                case cb1 => have := HLW.out; have := HLL.out; have := HSM.out; omega
                case cs1 => omega
                intro va1 wa1 hoa1 hba1
                have HOa1 : Hid (OwnC wa1 w2.heap.size va1 (s.size + X3.1.length) (sNums s ++ X3.1)) := by first | exact hoa1 | (show OwnC _ _ _ _ _; rw [List.append_assoc]; exact hoa1)
                have HBa1 : Hid (Below w2.heap.size w9 wa1) := hba1
                have HWa1 : Hid (Below w.heap.size w wa1) := HW9.out.trans (hba1.mono HW2.out.size)
                have hsa1 : w2.heap.size ≤ wa1.heap.size := Nat.le_trans (by omega) hba1.size
                have HC1 : Hid (Below w2.heap.size w2 wa1) := HB9.out.trans hba1
                obtain ⟨z10, z11, z12⟩ := cells3_of0 HB0.out (HB02.out.trans (HC1.out.mono HB02.out.size))
                clear hoa1 hba1
                obtain ⟨ar, cr, hv9, hI9, hfr9⟩ := HOa1.out.isB
                subst hv9
                have HR : Hid (IsB wa1 ar (s.size + X3.1.length) cr (sNums s ++ X3.1)) := hI9
                clear hI9 hfr9 HOa1
                go_wp2_with fail
                go_ret3
                have hlen : ((sNums s ++ X3.1)).length = (s.size + X3.1.length) := HR.out.1
                exact ⟨ar, cr, by rw [HYG.out, hlen]; rfl, by rw [HYG.out, hlen]; exact HR, HWa1⟩
            · by_cases hl : I2.length = 0
              · skip
                have t1 : decide ((0 : Int) < (s.size : Int)) = false := decide_eq_false (by omega)
                have t2 : decide ((0 : Int) < (I1.length : Int)) = true := decide_eq_true (by omega)
                have t3 : decide ((0 : Int) < (I2.length : Int)) = false := decide_eq_false (by omega)
                have u1 : decide (0 < s.size) = false := decide_eq_false (by omega)
                have u2 : decide (0 < I1.length) = true := decide_eq_true (by omega)
                have u3 : decide (0 < I2.length) = false := decide_eq_false (by omega)
                have HYG : Hid (Y = ((sNums s ++ X0.1), 8, 0)) := by
                  show _ = _
                  rw [HYF.out, if_neg hw, if_pos hl, if_pos hz, if_neg hw, if_pos hl]; simp
                clear HYF hw hl hz
                have hs29 : w2.heap.size ≤ w9.heap.size := HB9.out.size
                go_wp2_with (at_builtin; refine wpList_append_c rfl (.tmp 50) (.tmp 51) rfl rfl HO9.out rfl HIW9.out ?cp1 ?cb1 ?cs1 ?_)
                case cp1 => have := HLW.out; omega
                case cb1 => have := HLW.out; have := HLL.out; have := HSM.out; omega
                case cs1 => omega
                intro va1 wa1 hoa1 hba1
                have HOa1 : Hid (OwnC wa1 w2.heap.size va1 (s.size + X0.1.length) (sNums s ++ X0.1)) := by first | exact hoa1 | (show OwnC _ _ _ _ _; rw [List.append_assoc]; exact hoa1)
                have HBa1 : Hid (Below w2.heap.size w9 wa1) := hba1
                have HWa1 : Hid (Below w.heap.size w wa1) := HW9.out.trans (hba1.mono HW2.out.size)
                have hsa1 : w2.heap.size ≤ wa1.heap.size := Nat.le_trans (by omega) hba1.size
                have HC1 : Hid (Below w2.heap.size w2 wa1) := HB9.out.trans hba1
                obtain ⟨z10, z11, z12⟩ := cells3_of0 HB0.out (HB02.out.trans (HC1.out.mono HB02.out.size))
                clear hoa1 hba1
                obtain ⟨ar, cr, hv9, hI9, hfr9⟩ := HOa1.out.isB
                subst hv9
                have HR : Hid (IsB wa1 ar (s.size + X0.1.length) cr (sNums s ++ X0.1)) := hI9
                clear hI9 hfr9 HOa1
                go_wp2_with fail
                go_ret3
                have hlen : ((sNums s ++ X0.1)).length = (s.size + X0.1.length) := HR.out.1
                exact ⟨ar, cr, by rw [HYG.out, hlen]; rfl, by rw [HYG.out, hlen]; exact HR, HWa1⟩
              · skip
                have t1 : decide ((0 : Int) < (s.size : Int)) = false := decide_eq_false (by omega)
                have t2 : decide ((0 : Int) < (I1.length : Int)) = true := decide_eq_true (by omega)
                have t3 : decide ((0 : Int) < (I2.length : Int)) = true := decide_eq_true (by omega)
                have u1 : decide (0 < s.size) = false := decide_eq_false (by omega)
                have u2 : decide (0 < I1.length) = true := decide_eq_true (by omega)
                have u3 : decide (0 < I2.length) = true := decide_eq_true (by omega)
                have HYG : Hid (Y = (((sNums s ++ X0.1) ++ X3.1), 12, 0)) := by
                  show _ = _
                  rw [HYF.out, if_neg hw, if_neg hl, if_pos hz, if_neg hw, if_neg hl]; rfl
                clear HYF hw hl hz
                have hs29 : w2.heap.size ≤ w9.heap.size := HB9.out.size
                go_wp2_with (at_builtin; refine wpList_append_c rfl (.tmp 50) (.tmp 51) rfl rfl HO9.out rfl HIW9.out ?cp1 ?cb1 ?cs1 ?_)
                case cp1 => have := HLW.out; omega
                case cb1 => have := HLW.out; have := HLL.out; have := HSM.out; omega
                case cs1 => omega
                intro va1 wa1 hoa1 hba1
                have HOa1 : Hid (OwnC wa1 w2.heap.size va1 (s.size + X0.1.length) (sNums s ++ X0.1)) := by first | exact hoa1 | (show OwnC _ _ _ _ _; rw [List.append_assoc]; exact hoa1)
                have HBa1 : Hid (Below w2.heap.size w9 wa1) := hba1
                have HWa1 : Hid (Below w.heap.size w wa1) := HW9.out.trans (hba1.mono HW2.out.size)
                have hsa1 : w2.heap.size ≤ wa1.heap.size := Nat.le_trans (by omega) hba1.size
                have HC1 : Hid (Below w2.heap.size w2 wa1) := HB9.out.trans hba1
                obtain ⟨z10, z11, z12⟩ := cells3_of0 HB0.out (HB02.out.trans (HC1.out.mono HB02.out.size))
                have HILa : Hid (IsB wa1 al X3.1.length cl X3.1) := HIL2.out.old HC1.out
                clear hoa1 hba1
                go_wp2_with (at_builtin; refine wpList_append_c rfl (.tmp 59) (.tmp 60) rfl rfl HOa1.out rfl HILa.out ?cp2 ?cb2 ?cs2 ?_)
                case cp2 => have := HLL.out; omega
                case cb2 => have := HLW.out; have := HLL.out; have := HSM.out; omega
                case cs2 => omega
                intro va2 wa2 hoa2 hba2
                have HOa2 : Hid (OwnC wa2 w2.heap.size va2 ((s.size + X0.1.length) + X3.1.length) ((sNums s ++ X0.1) ++ X3.1)) := by first | exact hoa2 | (show OwnC _ _ _ _ _; rw [List.append_assoc]; exact hoa2)
                have HBa2 : Hid (Below w2.heap.size wa1 wa2) := hba2
                have HWa2 : Hid (Below w.heap.size w wa2) := HWa1.out.trans (hba2.mono HW2.out.size)
                have hsa2 : w2.heap.size ≤ wa2.heap.size := Nat.le_trans (by omega) hba2.size
                have HC2 : Hid (Below w2.heap.size w2 wa2) := HC1.out.trans hba2
                obtain ⟨z20, z21, z22⟩ := cells3_of0 HB0.out (HB02.out.trans (HC2.out.mono HB02.out.size))
                clear hoa2 hba2
                obtain ⟨ar, cr, hv9, hI9, hfr9⟩ := HOa2.out.isB
                subst hv9
                have HR : Hid (IsB wa2 ar ((s.size + X0.1.length) + X3.1.length) cr ((sNums s ++ X0.1) ++ X3.1)) := hI9
                clear hI9 hfr9 HOa2
                go_wp2_with fail
                go_ret3
                have hlen : (((sNums s ++ X0.1) ++ X3.1)).length = ((s.size + X0.1.length) + X3.1.length) := HR.out.1
                exact ⟨ar, cr, by rw [HYG.out, hlen]; rfl, by rw [HYG.out, hlen]; exact HR, HWa2⟩
          · by_cases hw : I1.length = 0
            · by_cases hl : I2.length = 0
              · skip
                have t1 : decide ((0 : Int) < (s.size : Int)) = true := decide_eq_true (by omega)
                have t2 : decide ((0 : Int) < (I1.length : Int)) = false := decide_eq_false (by omega)
                have t3 : decide ((0 : Int) < (I2.length : Int)) = false := decide_eq_false (by omega)
                have u1 : decide (0 < s.size) = true := decide_eq_true (by omega)
                have u2 : decide (0 < I1.length) = false := decide_eq_false (by omega)
                have u3 : decide (0 < I2.length) = false := decide_eq_false (by omega)
                have HYG : Hid (Y = (sNums s, 2, 0)) := by
                  show _ = _
                  rw [HYF.out, if_pos hw, if_pos hl, if_neg hz, if_pos hw, if_pos hl]; simp
                clear HYF hw hl hz
                obtain ⟨ar, cr, hv9, hI9, hfr9⟩ := HO9.out.isB
                subst hv9
                have HR : Hid (IsB w9 ar s.size cr (sNums s)) := hI9
                clear hI9 hfr9 HO9
                go_wp2_with fail
                go_ret3
                exact ⟨ar, cr, by rw [HYG.out]; simp only [sNums_length]; rfl, by rw [HYG.out]; simp only [sNums_length]; exact HR, HW9⟩
              · skip
                have t1 : decide ((0 : Int) < (s.size : Int)) = true := decide_eq_true (by omega)
                have t2 : decide ((0 : Int) < (I1.length : Int)) = false := decide_eq_false (by omega)
                have t3 : decide ((0 : Int) < (I2.length : Int)) = true := decide_eq_true (by omega)
                have u1 : decide (0 < s.size) = true := decide_eq_true (by omega)
                have u2 : decide (0 < I1.length) = false := decide_eq_false (by omega)
                have u3 : decide (0 < I2.length) = true := decide_eq_true (by omega)
                have HYG : Hid (Y = ((sNums s ++ X3.1), 6, 0)) := by
                  show _ = _
                  rw [HYF.out, if_pos hw, if_neg hl, if_neg hz, if_pos hw, if_neg hl]; simp
                clear HYF hw hl hz
                have hs29 : w2.heap.size ≤ w9.heap.size := HB9.out.size
                go_wp2_with (at_builtin; refine wpList_append_c rfl (.tmp 59) (.tmp 60) rfl rfl HO9.out rfl HIL9.out ?cp1 ?cb1 ?cs1 ?_)
                case cp1 => have := HLL.out; omega
                case cb1 => have := HLW.out; have := HLL.out; have := HSM.out; omega
                case cs1 => omega
                intro va1 wa1 hoa1 hba1
                have HOa1 : Hid (OwnC wa1 w2.heap.size va1 (s.size + X3.1.length) (sNums s ++ X3.1)) := by first | exact hoa1 | (show OwnC _ _ _ _ _; rw [List.append_assoc]; exact hoa1)
                have HBa1 : Hid (Below w2.heap.size w9 wa1) := hba1
                have HWa1 : Hid (Below w.heap.size w wa1) := HW9.out.trans (hba1.mono HW2.out.size)
                have hsa1 : w2.heap.size ≤ wa1.heap.size := Nat.le_trans (by omega) hba1.size
                have HC1 : Hid (Below w2.heap.size w2 wa1) := HB9.out.trans hba1
                obtain ⟨z10, z11, z12⟩ := cells3_of0 HB0.out (HB02.out.trans (HC1.out.mono HB02.out.size))
                clear hoa1 hba1
                obtain ⟨ar, cr, hv9, hI9, hfr9⟩ := HOa1.out.isB
                subst hv9
                have HR : Hid (IsB wa1 ar (s.size + X3.1.length) cr (sNums s ++ X3.1)) := hI9
                clear hI9 hfr9 HOa1
                go_wp2_with fail
                go_ret3
                have hlen : ((sNums s ++ X3.1)).length = (s.size + X3.1.length) := HR.out.1
                exact ⟨ar, cr, by rw [HYG.out, hlen]; rfl, by rw [HYG.out, hlen]; exact HR, HWa1⟩
            · by_cases hl : I2.length = 0
              · skip
                have t1 : decide ((0 : Int) < (s.size : Int)) = true := decide_eq_true (by omega)
                have t2 : decide ((0 : Int) < (I1.length : Int)) = true := decide_eq_true (by omega)
                have t3 : decide ((0 : Int) < (I2.length : Int)) = false := decide_eq_false (by omega)
                have u1 : decide (0 < s.size) = true := decide_eq_true (by omega)
                have u2 : decide (0 < I1.length) = true := decide_eq_true (by omega)
                have u3 : decide (0 < I2.length) = false := decide_eq_false (by omega)
                have HYG : Hid (Y = ((sNums s ++ X0.1), 10, 0)) := by
                  show _ = _
                  rw [HYF.out, if_neg hw, if_pos hl, if_neg hz, if_neg hw, if_pos hl]; simp
                clear HYF hw hl hz
                have hs29 : w2.heap.size ≤ w9.heap.size := HB9.out.size
                go_wp2_with (at_builtin; refine wpList_append_c rfl (.tmp 50) (.tmp 51) rfl rfl HO9.out rfl HIW9.out ?cp1 ?cb1 ?cs1 ?_)
                case cp1 => have := HLW.out; omega
                case cb1 => have := HLW.out; have := HLL.out; have := HSM.out; omega
                case cs1 => omega
                intro va1 wa1 hoa1 hba1
                have HOa1 : Hid (OwnC wa1 w2.heap.size va1 (s.size + X0.1.length) (sNums s ++ X0.1)) := by first | exact hoa1 | (show OwnC _ _ _ _ _; rw [List.append_assoc]; exact hoa1)
                have HBa1 : Hid (Below w2.heap.size w9 wa1) := hba1
                have HWa1 : Hid (Below w.heap.size w wa1) := HW9.out.trans (hba1.mono HW2.out.size)
                have hsa1 : w2.heap.size ≤ wa1.heap.size := Nat.le_trans (by omega) hba1.size
                have HC1 : Hid (Below w2.heap.size w2 wa1) := HB9.out.trans hba1
                obtain ⟨z10, z11, z12⟩ := cells3_of0 HB0.out (HB02.out.trans (HC1.out.mono HB02.out.size))
                clear hoa1 hba1
                obtain ⟨ar, cr, hv9, hI9, hfr9⟩ := HOa1.out.isB
                subst hv9
                have HR : Hid (IsB wa1 ar (s.size + X0.1.length) cr (sNums s ++ X0.1)) := hI9
                clear hI9 hfr9 HOa1
                go_wp2_with fail
                go_ret3
                have hlen : ((sNums s ++ X0.1)).length = (s.size + X0.1.length) := HR.out.1
                exact ⟨ar, cr, by rw [HYG.out, hlen]; rfl, by rw [HYG.out, hlen]; exact HR, HWa1⟩
              · skip
                have t1 : decide ((0 : Int) < (s.size : Int)) = true := decide_eq_true (by omega)
                have t2 : decide ((0 : Int) < (I1.length : Int)) = true := decide_eq_true (by omega)
                have t3 : decide ((0 : Int) < (I2.length : Int)) = true := decide_eq_true (by omega)
                have u1 : decide (0 < s.size) = true := decide_eq_true (by omega)
                have u2 : decide (0 < I1.length) = true := decide_eq_true (by omega)
                have u3 : decide (0 < I2.length) = true := decide_eq_true (by omega)
                have HYG : Hid (Y = (((sNums s ++ X0.1) ++ X3.1), 14, 0)) := by
                  show _ = _
                  rw [HYF.out, if_neg hw, if_neg hl, if_neg hz, if_neg hw, if_neg hl]; rfl
                clear HYF hw hl hz
                have hs29 : w2.heap.size ≤ w9.heap.size := HB9.out.size
                go_wp2_with (at_builtin; refine wpList_append_c rfl (.tmp 50) (.tmp 51) rfl rfl HO9.out rfl HIW9.out ?cp1 ?cb1 ?cs1 ?_)
                case cp1 => have := HLW.out; omega
                case cb1 => have := HLW.out; have := HLL.out; have := HSM.out; omega
                case cs1 => omega
                intro va1 wa1 hoa1 hba1
                have HOa1 : Hid (OwnC wa1 w2.heap.size va1 (s.size + X0.1.length) (sNums s ++ X0.1)) := by first | exact hoa1 | (show OwnC _ _ _ _ _; rw [List.append_assoc]; exact hoa1)
                have HBa1 : Hid (Below w2.heap.size w9 wa1) := hba1
                have HWa1 : Hid (Below w.heap.size w wa1) := HW9.out.trans (hba1.mono HW2.out.size)
                have hsa1 : w2.heap.size ≤ wa1.heap.size := Nat.le_trans (by omega) hba1.size
                have HC1 : Hid (Below w2.heap.size w2 wa1) := HB9.out.trans hba1
                obtain ⟨z10, z11, z12⟩ := cells3_of0 HB0.out (HB02.out.trans (HC1.out.mono HB02.out.size))
                have HILa : Hid (IsB wa1 al X3.1.length cl X3.1) := HIL2.out.old HC1.out
                clear hoa1 hba1
                go_wp2_with (at_builtin; refine wpList_append_c rfl (.tmp 59) (.tmp 60) rfl rfl HOa1.out rfl HILa.out ?cp2 ?cb2 ?cs2 ?_)
                case cp2 => have := HLL.out; omega
                case cb2 => have := HLW.out; have := HLL.out; have := HSM.out; omega
                case cs2 => omega
                intro va2 wa2 hoa2 hba2
                have HOa2 : Hid (OwnC wa2 w2.heap.size va2 ((s.size + X0.1.length) + X3.1.length) ((sNums s ++ X0.1) ++ X3.1)) := by first | exact hoa2 | (show OwnC _ _ _ _ _; rw [List.append_assoc]; exact hoa2)
                have HBa2 : Hid (Below w2.heap.size wa1 wa2) := hba2
                have HWa2 : Hid (Below w.heap.size w wa2) := HWa1.out.trans (hba2.mono HW2.out.size)
                have hsa2 : w2.heap.size ≤ wa2.heap.size := Nat.le_trans (by omega) hba2.size
                have HC2 : Hid (Below w2.heap.size w2 wa2) := HC1.out.trans hba2
                obtain ⟨z20, z21, z22⟩ := cells3_of0 HB0.out (HB02.out.trans (HC2.out.mono HB02.out.size))
                clear hoa2 hba2
                obtain ⟨ar, cr, hv9, hI9, hfr9⟩ := HOa2.out.isB
                subst hv9
                have HR : Hid (IsB wa2 ar ((s.size + X0.1.length) + X3.1.length) cr ((sNums s ++ X0.1) ++ X3.1)) := hI9
                clear hI9 hfr9 HOa2
                go_wp2_with fail
                go_ret3
                have hlen : (((sNums s ++ X0.1) ++ X3.1)).length = ((s.size + X0.1.length) + X3.1.length) := HR.out.1
                exact ⟨ar, cr, by rw [HYG.out, hlen]; rfl, by rw [HYG.out, hlen]; exact HR, HWa2⟩
        · have HYE : Hid (Y = ([], 0, X3.2)) := by
            show _ = _
            rw [HY1.out, wr1_ok (by rw [← HX0.out]; exact he0), wr2_err (by rw [← HX3.out]; exact he3), ← HX3.out]
          have t1 : (X3.2 == 0) = false := by simpa using he3
          clear he0 he3
          go_wp2_with fail
          go_ret3
          exact ⟨none, 0, by rw [HYE.out]; rfl, by rw [HYE.out]; exact isB_nil _, HW2⟩
      · have HYE : Hid (Y = ([], 0, X0.2)) := by
          show _ = _
          rw [HY1.out, wr1_err (by rw [← HX0.out]; exact he0), ← HX0.out]
        have t1 : (X0.2 == 0) = false := by simpa using he0
        clear he0
        go_wp2_with fail
        go_ret3
        exact ⟨none, 0, by rw [HYE.out]; rfl, by rw [HYE.out]; exact isB_nil _, HW1⟩
end Go.Proofs.Ytkcnmmlakimonaa
