/-
  The comparison of two prefixes that are the same; the document's example, as the statements ask it first.
-/
import Derived.Test.YtkcnmmlakimonaaPof
namespace Go.Proofs.Ytkcnmmlakimonaa
open Go.RowKit
set_option maxRecDepth 100000
set_option linter.unusedVariables false
set_option linter.unusedSimpArgs false

theorem two_boxes {w W : World} {x0 x1 x2 y0 y1 y2 : Value} (hB : Below (w.heap.size + 2) ((w.alloc (.cells #[x0, x1, x2] 33)).alloc (.cells #[y0, y1, y2] 33)) W) :
    (W.cell? ⟨w.heap.size, 0, none⟩ = some x0 ∧ W.cell? ⟨w.heap.size, 1, none⟩ = some x1 ∧ W.cell? ⟨w.heap.size, 2, none⟩ = some x2) ∧ (W.cell? ⟨w.heap.size + 1, 0, none⟩ = some y0 ∧ W.cell? ⟨w.heap.size + 1, 1, none⟩ = some y1 ∧ W.cell? ⟨w.heap.size + 1, 2, none⟩ = some y2) := by
  refine ⟨⟨?_, ?_, ?_⟩, ?_, ?_, ?_⟩ <;> (rw [hB.cell (by simp)]; simp [go_sem])

set_option maxHeartbeats 1000000 in
theorem same7 {w : World} (s : ByteArray) {I1 I2 : List It} {a1 a2 b1 b2 : Option Addr} {c1 c2 d1 d2 : Nat} (h1 : View 5 VI w a1 I1.length c1 I1) (h2 : View 5 VI w a2 I2.length c2 I2) (g1 : View 5 VI w b1 I1.length d1 I1) (g2 : View 5 VI w b2 I2.length d2 I2) :
    Calls Try.prog 11 #[.agg #[.string s, .slice a1 I1.length c1, .slice a2 I2.length c2], .agg #[.string s, .slice b1 I1.length d1, .slice b2 I2.length d2]] w fun e w' => e = .returned (.bool true) ∧ Hid (Below w.heap.size w w') := by
  have H1 : Hid (View 5 VI w a1 I1.length c1 I1) := h1
  have H2 : Hid (View 5 VI w a2 I2.length c2 I2) := h2
  have G1 : Hid (View 5 VI w b1 I1.length d1 I1) := g1
  have G2 : Hid (View 5 VI w b2 I2.length d2 I2) := g2
  clear h1 h2 g1 g2
  go_enter Try.func11, Try.ntmps11
  go_wp2_with fail
  have HB0 : Hid (Below w.heap.size w ((w.alloc (.cells #[.string s, .slice a1 I1.length c1, .slice a2 I2.length c2] 33)).alloc (.cells #[.string s, .slice b1 I1.length d1, .slice b2 I2.length d2] 33))) := (below_one w _).alloc (by simp) _
  refine (same_in (Below.refl _ _) (H1.out.old stays_i HB0.out) (G1.out.old stays_i HB0.out)).mono ?_
  rintro e w1 ⟨rfl, hB1⟩
  obtain ⟨⟨c0, c1, c2⟩, e0, e1, e2⟩ := two_boxes (hB1.mono (by simp))
  have HB1 : Hid (Below w.heap.size w w1) := HB0.out.trans (hB1.mono HB0.out.size)
  clear hB1
  go_wp2_with fail
  refine (same_in (Below.refl _ _) (H2.out.old stays_i HB1.out) (G2.out.old stays_i HB1.out)).mono ?_
  rintro e w2 ⟨rfl, hB2⟩
  have k0 : w2.cell? ⟨w.heap.size, 0, none⟩ = some (.string s) := (hB2.cell (block_lt_of_cell c0)).trans c0
  have k1 : w2.cell? ⟨w.heap.size + 1, 0, none⟩ = some (.string s) := (hB2.cell (block_lt_of_cell e0)).trans e0
  have HB2 : Hid (Below w.heap.size w w2) := HB1.out.trans (hB2.mono HB1.out.size)
  clear hB2 c0 c1 c2 e0 e1 e2
  go_wp2_with fail
  go_ret
  exact ⟨by simp, HB2⟩

theorem view_a (w : World) : View 1 VS (w.alloc (.cells #[.string ⟨#[97]⟩] 9)) (some ⟨w.heap.size, 0, none⟩) 1 1 [⟨#[97]⟩] := by
  refine ⟨rfl, Nat.le_refl _, by unfold maxLen; omega, (fun e => by cases e), fun _ => ⟨_, _, rfl, by simp, fun i hi => ?_⟩⟩
  obtain rfl : i = 0 := by omega
  refine ⟨fun _ => .string ⟨#[97]⟩, fun j hj => ?_, rfl⟩
  obtain rfl : j = 0 := by omega
  rw [World.cell?_alloc_at _ _ _ _ rfl]; rfl

theorem row_of_one (w : World) : BRow (w.alloc (.cells #[.int .u8 1] 5)) w.heap.size 0 1 1 [1] := by
  refine ⟨rfl, Nat.le_refl _, by unfold maxLen; omega, fun _ => by simp, fun i hi => ?_, by intro j; rcases j with _ | j <;> simp⟩
  rw [World.cell?_alloc_at _ _ _ _ rfl]
  obtain rfl : i = 0 := by omega
  rfl

theorem row_of_six (w : World) (a b c d e f : Int) (hr : ∀ j : Nat, 0 ≤ [a, b, c, d, e, f][j]?.getD 0 ∧ [a, b, c, d, e, f][j]?.getD 0 ≤ 255) :
    BRow (w.alloc (.cells #[.int .u8 a, .int .u8 b, .int .u8 c, .int .u8 d, .int .u8 e, .int .u8 f] 5)) w.heap.size 0 6 6 [a, b, c, d, e, f] := by
  refine ⟨rfl, Nat.le_refl _, by unfold maxLen; omega, fun _ => by simp, fun i hi => ?_, hr⟩
  rw [World.cell?_alloc_at _ _ _ _ rfl]
  rcases (show i = 0 ∨ i = 1 ∨ i = 2 ∨ i = 3 ∨ i = 4 ∨ i = 5 from by omega) with rfl | rfl | rfl | rfl | rfl | rfl <;> rfl

theorem ex_put : (([0, 1, 0, 1, 97], 8, 0) : Wr) = wr0 ([], [⟨#[97]⟩], []) := by kernel_rfl
theorem ex_get : (⟨([], [⟨#[97]⟩], []), 5, 0⟩ : Res Pre) = rest0 8 [0, 1, 0, 1, 97, 7] := by kernel_rfl
theorem ex_short : (⟨([], [], []), 0, 10⟩ : Res Pre) = rest0 2 [1] := by kernel_rfl

theorem aw1 (w W : World) (H : Nat) (hH : w.heap.size = H) (hW : W = w.alloc (.cells #[.string ⟨#[97]⟩] 9)) :
    Calls Try.prog 13 #[.agg #[.slice none 0 0, .slice (some ⟨H, 0, none⟩) 1 1, .slice none 0 0]] W fun e w' => ∃ a cp, e = .returned (.tuple #[.slice a 5 cp, .int .u8 8, .int .i64 0]) ∧ Hid (IsB w' a 5 cp [0, 1, 0, 1, 97]) ∧ Hid (Below w.heap.size w w') := by
  subst hH hW
  refine (put_any (x := ([], [⟨#[97]⟩], [])) ⟨isB_nil _, view_a w, view_nil _ _ _⟩ ⟨fun s hs => by simp at hs; subst hs; decide, fun y hy => by simp at hy, by simp⟩ ex_put).mono ?_
  rintro e w' ⟨a, cp, rfl, HP, HB⟩
  exact ⟨a, cp, rfl, HP.out.2, (below_one w _).trans (HB.out.mono (by simp))⟩

theorem aw2 (w W : World) (H : Nat) (hH : w.heap.size = H) (hW : W = w.alloc (.cells #[.int .u8 0, .int .u8 1, .int .u8 0, .int .u8 1, .int .u8 97, .int .u8 7] 5)) :
    Calls Try.prog 8 #[.int .u8 8, .slice (some ⟨H, 0, none⟩) 6 6] W fun e w' => ∃ t lt ct v1 c1 v2 l2 c2 r cr, e = .returned (.tuple #[.agg #[.slice t lt ct, .slice v1 1 c1, .slice v2 l2 c2], .slice r 1 cr, .int .i64 0]) ∧ Hid (Below w.heap.size w w') := by
  subst hH hW
  refine (resp_any 8 (row_of_six w 0 1 0 1 97 7 (by intro j; rcases j with _ | _ | _ | _ | _ | _ | j <;> simp)).isB (by omega) ex_get).mono ?_
  rintro e w' ⟨t, lt, ct, v1, l1, c1, v2, l2, c2, r, lr, cr, rfl, HP, _, HL, HB⟩
  obtain rfl : 1 = l1 := (HP.out rfl).2.1.1
  obtain rfl : 1 = lr := ((HL.out.1 rfl).1).1
  exact ⟨t, lt, ct, v1, c1, v2, l2, c2, r, cr, rfl, (below_one w _).trans (HB.out.mono (by simp))⟩

theorem aw3 (w W : World) (H : Nat) (hH : w.heap.size = H) (hW : W = w.alloc (.cells #[.int .u8 1] 5)) :
    Calls Try.prog 8 #[.int .u8 2, .slice (some ⟨H, 0, none⟩) 1 1] W fun e w' => ∃ t lt ct v1 l1 c1 v2 l2 c2 r lr cr, e = .returned (.tuple #[.agg #[.slice t lt ct, .slice v1 l1 c1, .slice v2 l2 c2], .slice r lr cr, .int .i64 10]) ∧ Hid (Below w.heap.size w w') := by
  subst hH hW
  refine (resp_any 2 (row_of_one w).isB (by omega) ex_short).mono ?_
  rintro e w' ⟨t, lt, ct, v1, l1, c1, v2, l2, c2, r, lr, cr, rfl, HP, _, HL, HB⟩
  exact ⟨t, lt, ct, v1, l1, c1, v2, l2, c2, r, lr, cr, rfl, (below_one w _).trans (HB.out.mono (by simp))⟩

set_option maxHeartbeats 4000000 in
theorem awake7 (w : World) : Calls Try.prog 7 #[] w fun e w' => e = .returned (.bool true) ∧ Hid (Below w.heap.size w w') := by
  go_enter Try.func7, Try.ntmps7
  go_wp2_with fail
  refine (aw1 w _ _ rfl rfl).mono ?_
  rintro e w1 ⟨a, cp, rfl, HI, HB1⟩
  go_wp2_with fail
  refine (aw2 w1 _ _ rfl rfl).mono ?_
  rintro e w2 ⟨t, lt, ct, v1, c1, v2, l2, c2, r, cr, rfl, HB2⟩
  go_wp2_with fail
  refine (aw3 _ _ _ (by simp) rfl).mono ?_
  rintro e w3 ⟨t', lt', ct', v1', l1', c1', v2', l2', c2', r', lr', cr', rfl, HB3⟩
  have hk : w3.cell? ⟨w2.heap.size, 1, none⟩ = some (.slice v1 1 c1) := by rw [HB3.out.cell (by simp)]; simp [go_sem]
  have hsz : w2.heap.size < w3.heap.size := by have := HB3.out.size; simp at this; omega
  have HB12 : Hid (Below w1.heap.size w1 w3) := ((HB2.out.alloc HB2.out.size _).trans (HB3.out.mono (by have := HB2.out.size; simp; omega)))
  obtain ⟨S, hS⟩ : ∃ S, S = w3.alloc (.cells #[.slice t' lt' ct', .slice v1' l1' c1', .slice v2' l2' c2'] 27) := ⟨_, rfl⟩
  have hcv : (convert 22 9 (.slice a 5 cp)).run Try.prog S = .ok (.string ⟨#[0, 1, 0, 1, 97]⟩) S := by
    have := (HI.out.old (HB12.out.alloc HB12.out.size (.cells #[.slice t' lt' ct', .slice v1' l1' c1', .slice v2' l2' c2'] 27))).conv
    rw [← hS] at this
    exact this
  rw [hS] at hcv
  have HBF : Hid (Below w.heap.size w S) := by rw [hS]; exact (HB1.out.trans (HB12.out.mono HB1.out.size)).alloc (Nat.le_trans HB1.out.size HB12.out.size) _
  rw [hS] at HBF
  clear hS
  go_wp2_with fail
  go_ret
  exact ⟨by simp, HBF⟩
end Go.Proofs.Ytkcnmmlakimonaa
