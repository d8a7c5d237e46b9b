/-
  HeaderFields walked: it answers true, and turns nothing that was there.
-/
import Derived.Test.YtalmlaeijjoffaaBackH
namespace Go.Proofs.Ytalmlaeijjoffaa
open Go.RowKit
set_option linter.unusedVariables false
set_option linter.unusedSimpArgs false

theorem nums_str (Z : List Int) (hr : ∀ j : Nat, 0 ≤ Z[j]?.getD 0 ∧ Z[j]?.getD 0 ≤ 255) : sNums (strOfNums Z) = Z := by
  unfold sNums
  rw [strOfNums_data, List.map_map]
  apply List.ext_getElem (by simp)
  intro i h1 h2
  have := hr i
  rw [List.getElem?_eq_getElem h2, Option.getD_some] at this
  simp only [List.getElem_map, Function.comp_apply]
  have h3 : (UInt8.ofNat Z[i].toNat).toNat = Z[i].toNat := by
    rw [UInt8.toNat_ofNat']
    exact Nat.mod_eq_of_lt (by simp; omega)
  rw [h3]
  omega

theorem str_beq {A B : List Int} (hA : ∀ j : Nat, 0 ≤ A[j]?.getD 0 ∧ A[j]?.getD 0 ≤ 255) (hB : ∀ j : Nat, 0 ≤ B[j]?.getD 0 ∧ B[j]?.getD 0 ≤ 255) {x y : Int} (h : A = B ↔ x = y) : ((strOfNums A).toList == (strOfNums B).toList) = (x == y) := by
  rw [Bool.eq_iff_iff, beq_iff_eq, beq_iff_eq, ← h, ByteArray.toList_eq, ByteArray.toList_eq]
  constructor
  · intro e
    rw [← nums_str A hA, ← nums_str B hB, ByteArray.ext (Array.toList_inj.mp e)]
  · intro e; rw [e]

theorem two_rng (s : Int) : ∀ j : Nat, 0 ≤ [s % 65536 / 256, s % 256][j]?.getD 0 ∧ [s % 65536 / 256, s % 256][j]?.getD 0 ≤ 255 := by
  intro j; rcases j with _ | _ | j <;> simp <;> omega

theorem four_rng (l : Int) : ∀ j : Nat, 0 ≤ [l / 16777216 % 256, l / 65536 % 256, l / 256 % 256, l % 256][j]?.getD 0 ∧ [l / 16777216 % 256, l / 65536 % 256, l / 256 % 256, l % 256][j]?.getD 0 ≤ 255 := by
  intro j; rcases j with _ | _ | _ | _ | j <;> simp <;> omega

theorem two_eq (s s' : Int) (h0 : -32768 ≤ s) (h1 : s ≤ 32767) (h2 : -32768 ≤ s') (h3 : s' ≤ 32767) : [s % 65536 / 256, s % 256] = [s' % 65536 / 256, s' % 256] ↔ s = s' := by
  constructor
  · intro e; simp only [List.cons.injEq, and_true] at e; omega
  · intro e; rw [e]

theorem four_eq (l l' : Int) (h0 : 0 ≤ l) (h1 : l ≤ 4294967295) (h2 : 0 ≤ l') (h3 : l' ≤ 4294967295) : [l / 16777216 % 256, l / 65536 % 256, l / 256 % 256, l % 256] = [l' / 16777216 % 256, l' / 65536 % 256, l' / 256 % 256, l' % 256] ↔ l = l' := by
  constructor
  · intro e; simp only [List.cons.injEq, and_true] at e; omega
  · intro e; rw [e]

/-- A slice of nine bytes of a header, its cells and its pieces. -/
structure Nine (w : World) (g cap : Nat) (v f o : Int) (S L : ByteArray) : Prop where
  le : 9 ≤ cap
  big : cap ≤ 9223372036854775807
  c0 : w.cell? ⟨g, 0, none⟩ = some (.int .u8 v)
  c1 : w.cell? ⟨g, 1, none⟩ = some (.int .u8 f)
  c4 : w.cell? ⟨g, 4, none⟩ = some (.int .u8 o)
  s : (convert 27 9 (.slice (some ⟨g, 2, none⟩) 2 (cap - 2))).run Try.prog w = .ok (.string S) w
  l : (convert 27 9 (.slice (some ⟨g, 5, none⟩) 4 (cap - 5))).run Try.prog w = .ok (.string L) w

theorem BRow.nine {w : World} {g cap : Nat} {v f s o l : Int} (h : BRow w g 0 9 cap (hdB v f s o l)) {S L : ByteArray} (hS : S = strOfNums [s % 65536 / 256, s % 256]) (hL : L = strOfNums [l / 16777216 % 256, l / 65536 % 256, l / 256 % 256, l % 256]) : Nine w g cap v f o S L := by
  have hm := h.cap_le
  unfold maxLen at hm
  have k0 := h.cell 0 (by omega)
  have k1 := h.cell 1 (by omega)
  have k4 := h.cell 4 (by omega)
  subst hS hL
  refine ⟨h.le, by omega, k0, k1, k4, ?_, ?_⟩
  · refine run_convert_bytes_arg (P := Try.prog) w 27 5 Try.underlying27 Try.underlying5 g 2 2 _ _ rfl ?_ 9 Try.underlying9
    intro i hi
    have := h.cell (2 + i) (by omega)
    rw [Nat.zero_add] at this
    rw [this]
    rcases (show i = 0 ∨ i = 1 from by omega) with rfl | rfl <;> rfl
  · refine run_convert_bytes_arg (P := Try.prog) w 27 5 Try.underlying27 Try.underlying5 g 5 4 _ _ rfl ?_ 9 Try.underlying9
    intro i hi
    have := h.cell (5 + i) (by omega)
    rw [Nat.zero_add] at this
    rw [this]
    rcases (show i = 0 ∨ i = 1 ∨ i = 2 ∨ i = 3 from by omega) with rfl | rfl | rfl | rfl <;> rfl

theorem put_row9 (v f s o l : Int) (w : World) (h : HOk v f s o l) (hc : chk v f o l = 0) :
    Calls Try.prog 9 #[.agg #[.int .u8 v, .int .u8 f, .int .i16 s, .int .u8 o, .int .u32 l]] w fun e w' => ∃ g c, e = .returned (.tuple #[.slice (some ⟨g, 0, none⟩) 9 c, .int .i64 0]) ∧ Hid (BRow w' g 0 9 c (hdB v f s o l)) ∧ Below w.heap.size w w' := by
  refine (put_ok v f s o l w h hc).mono ?_
  rintro e w' ⟨val, rfl, ho, hB⟩
  obtain ⟨g, c, rfl, _, _, hR⟩ := ho.row (by omega) (hdB_range h)
  exact ⟨g, c, rfl, hR, hB⟩

/-- The cells of two boxes of structs of five that stay, whatever is made later. -/
theorem box55 {w W : World} {a b c d e a' b' c' d' e' : Value} {t : TypeId} (hB : Below (w.heap.size + 2) ((w.alloc (.cells #[a, b, c, d, e] t)).alloc (.cells #[a', b', c', d', e'] t)) W) :
    (W.cell? ⟨w.heap.size, 0, none⟩ = some a ∧ W.cell? ⟨w.heap.size, 1, none⟩ = some b ∧ W.cell? ⟨w.heap.size, 2, none⟩ = some c ∧ W.cell? ⟨w.heap.size, 3, none⟩ = some d ∧ W.cell? ⟨w.heap.size, 4, none⟩ = some e) ∧
    (W.cell? ⟨w.heap.size + 1, 0, none⟩ = some a' ∧ W.cell? ⟨w.heap.size + 1, 1, none⟩ = some b' ∧ W.cell? ⟨w.heap.size + 1, 2, none⟩ = some c' ∧ W.cell? ⟨w.heap.size + 1, 3, none⟩ = some d' ∧ W.cell? ⟨w.heap.size + 1, 4, none⟩ = some e') ∧ w.heap.size + 1 < W.heap.size := by
  have hs := hB.size
  simp at hs
  refine ⟨⟨?_, ?_, ?_, ?_, ?_⟩, ⟨?_, ?_, ?_, ?_, ?_⟩, by omega⟩ <;> (rw [hB.cell (by simp)]; simp [go_sem])

abbrev boxes (w : World) (v f s o l v' f' s' o' l' : Int) : World := (w.alloc (.cells #[.int .u8 v, .int .u8 f, .int .i16 s, .int .u8 o, .int .u32 l] 25)).alloc (.cells #[.int .u8 v', .int .u8 f', .int .i16 s', .int .u8 o', .int .u32 l'] 25)

theorem below_boxes (w : World) (v f s o l v' f' s' o' l' : Int) : Below w.heap.size w (boxes w v f s o l v' f' s' o' l') := (below_one _ _).alloc (by simp) _

set_option maxHeartbeats 2000000 in
/-- The first header may not be. -/
theorem fields_a (v f s o l v' f' s' o' l' : Int) (w : World) (h : HOk v f s o l) (h' : HOk v' f' s' o' l') (hc : chk v f o l ≠ 0) :
    Calls Try.prog 6 #[.agg #[.int .u8 v, .int .u8 f, .int .i16 s, .int .u8 o, .int .u32 l], .agg #[.int .u8 v', .int .u8 f', .int .i16 s', .int .u8 o', .int .u32 l']] w fun e w' => e = .returned (.bool true) ∧ Below w.heap.size w w' := by
  have H : Hid (HOk v f s o l) := h
  have H' : Hid (HOk v' f' s' o' l') := h'
  have HC : Hid (chk v f o l ≠ 0) := hc
  have t : (chk v f o l != 0) = true := by simpa using hc
  clear h h' hc
  go_enter Try.func6, Try.ntmps6
  go_wp2_with fail
  refine (awake_any _).mono ?_
  rintro e w1 ⟨rfl, hB1⟩
  have hC1 : Below (w.heap.size + 2) (boxes w v f s o l v' f' s' o' l') w1 := hB1.mono (by simp)
  obtain ⟨⟨c0, c1, c2, c3, c4⟩, ⟨d0, d1, d2, d3, d4⟩, hz⟩ := box55 hC1
  go_wp2_with fail
  refine (put_err v f s o l _ H.out HC.out).mono ?_
  rintro e w2 ⟨rfl, hB2⟩
  have hC2 := hC1.trans (hB2.mono (by omega))
  clear c0 c1 c2 c3 c4 d0 d1 d2 d3 d4 hz
  obtain ⟨⟨c0, c1, c2, c3, c4⟩, ⟨d0, d1, d2, d3, d4⟩, hz⟩ := box55 hC2
  go_wp2_with fail
  refine (put_any v' f' s' o' l' _ H'.out).mono ?_
  rintro e w3 ⟨x3, n3, p3, rfl, HI3, hB3⟩
  have hC3 := hC2.trans (hB3.mono (by omega))
  clear c0 c1 c2 c3 c4 d0 d1 d2 d3 d4 hz
  obtain ⟨⟨c0, c1, c2, c3, c4⟩, ⟨d0, d1, d2, d3, d4⟩, hz⟩ := box55 hC3
  go_wp2_with fail
  refine (check_any v f s o l _ H.out).mono ?_
  rintro e w4 ⟨rfl, hB4⟩
  have hC4 := hC3.trans (hB4.mono (by omega))
  clear c0 c1 c2 c3 c4 d0 d1 d2 d3 d4
  go_wp2_with fail
  go_ret
  exact ⟨rfl, (below_boxes w v f s o l v' f' s' o' l').trans (hC4.mono (by omega))⟩

set_option maxHeartbeats 2000000 in
/-- The second header may not be. -/
theorem fields_b (v f s o l v' f' s' o' l' : Int) (w : World) (h : HOk v f s o l) (h' : HOk v' f' s' o' l') (hc : chk v f o l = 0) (hc' : chk v' f' o' l' ≠ 0) :
    Calls Try.prog 6 #[.agg #[.int .u8 v, .int .u8 f, .int .i16 s, .int .u8 o, .int .u32 l], .agg #[.int .u8 v', .int .u8 f', .int .i16 s', .int .u8 o', .int .u32 l']] w fun e w' => e = .returned (.bool true) ∧ Below w.heap.size w w' := by
  have H : Hid (HOk v f s o l) := h
  have H' : Hid (HOk v' f' s' o' l') := h'
  have HC : Hid (chk v f o l = 0) := hc
  have HC' : Hid (chk v' f' o' l' ≠ 0) := hc'
  have t : (chk v' f' o' l' != 0) = true := by simpa using hc'
  clear h h' hc hc'
  go_enter Try.func6, Try.ntmps6
  go_wp2_with fail
  refine (awake_any _).mono ?_
  rintro e w1 ⟨rfl, hB1⟩
  have hC1 : Below (w.heap.size + 2) (boxes w v f s o l v' f' s' o' l') w1 := hB1.mono (by simp)
  obtain ⟨⟨c0, c1, c2, c3, c4⟩, ⟨d0, d1, d2, d3, d4⟩, hz⟩ := box55 hC1
  go_wp2_with fail
  refine (put_row9 v f s o l _ H.out HC.out).mono ?_
  rintro e w2 ⟨g2, p2, rfl, HR2, hB2⟩
  have hC2 := hC1.trans (hB2.mono (by omega))
  clear c0 c1 c2 c3 c4 d0 d1 d2 d3 d4 hz
  obtain ⟨⟨c0, c1, c2, c3, c4⟩, ⟨d0, d1, d2, d3, d4⟩, hz⟩ := box55 hC2
  go_wp2_with fail
  refine (put_err v' f' s' o' l' _ H'.out HC'.out).mono ?_
  rintro e w3 ⟨rfl, hB3⟩
  have hC3 := hC2.trans (hB3.mono (by omega))
  clear c0 c1 c2 c3 c4 d0 d1 d2 d3 d4 hz
  obtain ⟨⟨c0, c1, c2, c3, c4⟩, ⟨d0, d1, d2, d3, d4⟩, hz⟩ := box55 hC3
  go_wp2_with fail
  refine (check_any v f s o l _ H.out).mono ?_
  rintro e w4 ⟨rfl, hB4⟩
  rw [HC.out]
  have hC4 := hC3.trans (hB4.mono (by omega))
  clear c0 c1 c2 c3 c4 d0 d1 d2 d3 d4 hz
  obtain ⟨⟨c0, c1, c2, c3, c4⟩, ⟨d0, d1, d2, d3, d4⟩, hz⟩ := box55 hC4
  go_wp2_with fail
  refine (check_any v' f' s' o' l' _ H'.out).mono ?_
  rintro e w5 ⟨rfl, hB5⟩
  have hC5 := hC4.trans (hB5.mono (by omega))
  clear c0 c1 c2 c3 c4 d0 d1 d2 d3 d4
  go_wp2_with fail
  go_ret
  exact ⟨rfl, (below_boxes w v f s o l v' f' s' o' l').trans (hC5.mono (by omega))⟩

set_option maxRecDepth 20000 in
set_option maxHeartbeats 4000000 in
/-- Both may be. -/
theorem fields_c (v f s o l v' f' s' o' l' : Int) (w : World) (h : HOk v f s o l) (h' : HOk v' f' s' o' l') (hc : chk v f o l = 0) (hc' : chk v' f' o' l' = 0) :
    Calls Try.prog 6 #[.agg #[.int .u8 v, .int .u8 f, .int .i16 s, .int .u8 o, .int .u32 l], .agg #[.int .u8 v', .int .u8 f', .int .i16 s', .int .u8 o', .int .u32 l']] w fun e w' => e = .returned (.bool true) ∧ Below w.heap.size w w' := by
  have H : Hid (HOk v f s o l) := h
  have H' : Hid (HOk v' f' s' o' l') := h'
  have HC : Hid (chk v f o l = 0) := hc
  have HC' : Hid (chk v' f' o' l' = 0) := hc'
  obtain ⟨S, hS⟩ : ∃ S, S = strOfNums [s % 65536 / 256, s % 256] := ⟨_, rfl⟩
  obtain ⟨S', hS'⟩ : ∃ S, S = strOfNums [s' % 65536 / 256, s' % 256] := ⟨_, rfl⟩
  obtain ⟨L, hL⟩ : ∃ L, L = strOfNums [l / 16777216 % 256, l / 65536 % 256, l / 256 % 256, l % 256] := ⟨_, rfl⟩
  obtain ⟨L', hL'⟩ : ∃ L, L = strOfNums [l' / 16777216 % 256, l' / 65536 % 256, l' / 256 % 256, l' % 256] := ⟨_, rfl⟩
  have qs : (S.toList == S'.toList) = (s == s') := by rw [hS, hS']; exact str_beq (two_rng s) (two_rng s') (two_eq s s' h.s0 h.s1 h'.s0 h'.s1)
  have ql : (L.toList == L'.toList) = (l == l') := by rw [hL, hL']; exact str_beq (four_rng l) (four_rng l') (four_eq l l' h.l0 h.l1 h'.l0 h'.l1)
  have HS : Hid _ := hS
  have HS' : Hid _ := hS'
  have HL : Hid _ := hL
  have HL' : Hid _ := hL'
  clear h h' hc hc' hS hS' hL hL'
  go_enter Try.func6, Try.ntmps6
  go_wp2_with fail
  refine (awake_any _).mono ?_
  rintro e w1 ⟨rfl, hB1⟩
  have hC1 : Below (w.heap.size + 2) (boxes w v f s o l v' f' s' o' l') w1 := hB1.mono (by simp)
  obtain ⟨⟨c0, c1, c2, c3, c4⟩, ⟨d0, d1, d2, d3, d4⟩, hz⟩ := box55 hC1
  go_wp2_with fail
  refine (put_row9 v f s o l _ H.out HC.out).mono ?_
  rintro e w2 ⟨g2, p2, rfl, HR2, hB2⟩
  have hC2 := hC1.trans (hB2.mono (by omega))
  clear c0 c1 c2 c3 c4 d0 d1 d2 d3 d4 hz
  obtain ⟨⟨c0, c1, c2, c3, c4⟩, ⟨d0, d1, d2, d3, d4⟩, hz⟩ := box55 hC2
  go_wp2_with fail
  refine (put_row9 v' f' s' o' l' _ H'.out HC'.out).mono ?_
  rintro e w3 ⟨g3, p3, rfl, HR3, hB3⟩
  have hC3 := hC2.trans (hB3.mono (by omega))
  clear c0 c1 c2 c3 c4 d0 d1 d2 d3 d4 hz
  obtain ⟨⟨c0, c1, c2, c3, c4⟩, ⟨d0, d1, d2, d3, d4⟩, hz⟩ := box55 hC3
  obtain ⟨x1, x2, x3, x4, x5, x6, x7⟩ := (HR2.out.old hB3).nine HS.out HL.out
  obtain ⟨y1, y2, y3, y4, y5, y6, y7⟩ := HR3.out.nine HS'.out HL'.out
  have hd : ∀ n, Below w3.heap.size w3 (w3.drewN n) := fun n => below_drewN (Below.refl w3.heap.size w3) n
  have X1 : ∀ n, (convert 27 9 (.slice (some ⟨g2, 2, none⟩) 2 (p2 - 2))).run Try.prog (w3.drewN n) = .ok (.string S) (w3.drewN n) := fun n => (((HR2.out.old hB3).old (hd n)).nine HS.out HL.out).s
  have X2 : ∀ n, (convert 27 9 (.slice (some ⟨g2, 5, none⟩) 4 (p2 - 5))).run Try.prog (w3.drewN n) = .ok (.string L) (w3.drewN n) := fun n => (((HR2.out.old hB3).old (hd n)).nine HS.out HL.out).l
  have Y1 : ∀ n, (convert 27 9 (.slice (some ⟨g3, 2, none⟩) 2 (p3 - 2))).run Try.prog (w3.drewN n) = .ok (.string S') (w3.drewN n) := fun n => ((HR3.out.old (hd n)).nine HS'.out HL'.out).s
  have Y2 : ∀ n, (convert 27 9 (.slice (some ⟨g3, 5, none⟩) 4 (p3 - 5))).run Try.prog (w3.drewN n) = .ok (.string L') (w3.drewN n) := fun n => ((HR3.out.old (hd n)).nine HS'.out HL'.out).l
  have hT : Below w.heap.size w w3 := (below_boxes w v f s o l v' f' s' o' l').trans (hC3.mono (by omega))
  clear HR2 HR3 hB1 hB2 hB3 hC1 hC2 hC3 HS HS' HL HL' H H' HC HC' hd x6 x7 y6 y7
  have k2 : (4 : Int) ≤ p2 := by omega
  have k3 : (4 : Int) ≤ p3 := by omega
  have m2 : ¬ p2 = 2 := by omega
  have m5 : ¬ p2 = 5 := by omega
  have n2 : ¬ p3 = 2 := by omega
  have n5 : ¬ p3 = 5 := by omega
  go_wp2_with fail
  go_quiet (fail)
  go_wp2_with fail
  go_ret
  exact ⟨by simp, below_drewN hT _⟩

theorem fields_walk (v f s o l v' f' s' o' l' : Int) (w : World) (h : HOk v f s o l) (h' : HOk v' f' s' o' l') :
    Calls Try.prog 6 #[.agg #[.int .u8 v, .int .u8 f, .int .i16 s, .int .u8 o, .int .u32 l], .agg #[.int .u8 v', .int .u8 f', .int .i16 s', .int .u8 o', .int .u32 l']] w fun e w' => e = .returned (.bool true) ∧ Below w.heap.size w w' := by
  by_cases hc : chk v f o l = 0
  · by_cases hc' : chk v' f' o' l' = 0
    · exact fields_c v f s o l v' f' s' o' l' w h h' hc hc'
    · exact fields_b v f s o l v' f' s' o' l' w h h' hc hc'
  · exact fields_a v f s o l v' f' s' o' l' w h h' hc
end Go.Proofs.Ytalmlaeijjoffaa
