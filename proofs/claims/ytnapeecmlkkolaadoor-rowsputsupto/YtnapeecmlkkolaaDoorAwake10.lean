/-
  The document's examples, as the statements ask them first: awake answers true, and turns nothing that was there.
-/
import Derived.Test.YtnapeecmlkkolaaDoorPut10
namespace Go.Proofs.YtnapeecmlkkolaaDoor
open Go.RowKit
set_option maxRecDepth 100000
set_option linter.unusedVariables false
set_option linter.unusedSimpArgs false

theorem awm1 : endE tabR [0, 0, 0, 4, 0, 0, 0, 1, 0, 0, 0, 1, 0, 0, 0, 1, 9] = 0 := by kernel_rfl
theorem awm2 : (tabR [0, 0, 0, 4, 0, 0, 0, 1, 0, 0, 0, 1, 0, 0, 0, 1, 9]).val = (1, [], false, v0, [[(2, ⟨#[9]⟩)]]) := by kernel_rfl
theorem awm3 : endE tabR [0, 0, 0, 8] = 21 := by kernel_rfl
def tuT : Tb := (1, [(⟨#[]⟩, ⟨#[]⟩, ⟨#[97]⟩, plainTy 9)], false, v0, [[(2, ⟨#[7]⟩)]])
theorem awm4 : (([0, 0, 0, 1, 0, 0, 0, 1, 0, 0, 0, 0, 0, 1, 97, 0, 9, 0, 0, 0, 1, 0, 0, 0, 1, 7], 0) : BE) = putT 0 true tuT := by kernel_rfl
theorem awm5 : endE metaR [0, 0, 0, 1, 0, 0, 0, 1, 0, 0, 0, 0, 0, 1, 97, 0, 9, 0, 0, 0, 1, 0, 0, 0, 1, 7] = 10 := by kernel_rfl
theorem awm6 : cellX tuT 0 ⟨#[97]⟩ = some (2, ⟨#[7]⟩) := by kernel_rfl

theorem aw_get1 {w : World} (hT : Tab w) :
    Calls Tryd.prog 10 #[.slice (some ⟨w.heap.size, 0, none⟩) 17 17] (w.alloc (.cells #[.int .u8 0, .int .u8 0, .int .u8 0, .int .u8 4, .int .u8 0, .int .u8 0, .int .u8 0, .int .u8 1, .int .u8 0, .int .u8 0, .int .u8 0, .int .u8 1, .int .u8 0, .int .u8 0, .int .u8 0, .int .u8 1, .int .u8 9] 5)) fun e w' => ∃ (ca : Option Addr) (cl cc : Nat) (x : Option Addr) (lx cx b off rc : Nat) (y : Option Addr) (cy : Nat),
      e = .returned (.tuple #[.agg #[.int .i64 1, .slice ca cl cc, .bool false, .int .i64 0, .slice x lx cx, .slice (some ⟨b, off, none⟩) 1 rc], .int .i64 0]) ∧ b < w'.heap.size ∧ (1 ≤ rc ∧ rc ≤ 9223372036854775807) ∧ w'.cell? ⟨b, off, none⟩ = some (.slice y 1 cy) ∧ (1 ≤ cy ∧ cy ≤ 9223372036854775807) ∧ Below w.heap.size w w' := by
  refine (get_any (zs := [0, 0, 0, 4, 0, 0, 0, 1, 0, 0, 0, 1, 0, 0, 0, 1, 9]) (isB_block (X := [0, 0, 0, 4, 0, 0, 0, 1, 0, 0, 0, 1, 0, 0, 0, 1, 9]) (heap_alloc_new w _) (by intro j; rcases j with _ | _ | _ | _ | _ | _ | _ | _ | _ | _ | _ | _ | _ | _ | _ | _ | _ | j <;> simp) (by unfold maxLen; decide)) (hT.old (below_one _ _)) (by decide)).mono ?_
  rintro e w' ⟨T, ca, cl, cc, x, lx, cx, ra, rl, rc, he, hO, hT2, hB⟩
  have hTe : T = (1, [], false, v0, [[(2, ⟨#[9]⟩)]]) := by have := hT2.out; rw [awm1, if_pos rfl, awm2] at this; exact this
  subst hTe
  rw [awm1] at he
  have hv := hO.out.view
  have h3 := hv.2.2
  have hrl : rl = 1 := h3.1.symm
  subst hrl
  have hmx := h3.max
  obtain ⟨r, b, off, y, ly, cy, hr, rfl, hb, _, hc, hs⟩ := h3.row (k := 0) (by omega)
  have hr2 : r = [(2, ⟨#[9]⟩)] := by simpa using hr.symm
  subst hr2
  have hly : ly = 1 := hs.1.symm
  subst hly
  have hmy := hs.max
  unfold maxLen at hmx hmy
  exact ⟨ca, cl, cc, x, lx, cx, b, off, rc, y, cy, he, hb, by omega, hc, by omega, (below_one w _).trans (hB.out.mono (by simp))⟩

theorem aw_get2 {w : World} (hT : Tab w) :
    Calls Tryd.prog 10 #[.slice (some ⟨w.heap.size, 0, none⟩) 4 4] (w.alloc (.cells #[.int .u8 0, .int .u8 0, .int .u8 0, .int .u8 8] 5)) fun e w' => ∃ (n : Int) (ca : Option Addr) (cl cc : Nat) (m : Bool) (k : Int) (x : Option Addr) (lx cx : Nat) (ra : Option Addr) (rl rc : Nat),
      e = .returned (.tuple #[.agg #[.int .i64 n, .slice ca cl cc, .bool m, .int .i64 k, .slice x lx cx, .slice ra rl rc], .int .i64 21]) ∧ Below w.heap.size w w' := by
  refine (get_any (zs := [0, 0, 0, 8]) (isB_block (X := [0, 0, 0, 8]) (heap_alloc_new w _) (by intro j; rcases j with _ | _ | _ | _ | j <;> simp) (by unfold maxLen; decide)) (hT.old (below_one _ _)) (by decide)).mono ?_
  rintro e w' ⟨T, ca, cl, cc, x, lx, cx, ra, rl, rc, he, hO, hT2, hB⟩
  rw [awm3] at he
  exact ⟨_, ca, cl, cc, _, _, x, lx, cx, ra, rl, rc, he, (below_one w _).trans (hB.out.mono (by simp))⟩

/-- The table that is put, as it lies. -/
theorem tu_view {W : World} {a b c d : Nat} (ha : W.heap[a]? = some (.cells #[.string ⟨#[]⟩, .string ⟨#[]⟩, .string ⟨#[97]⟩, .int .u16 9, .string ⟨#[]⟩, .string ⟨#[]⟩, .slice none 0 0, .slice none 0 0] 64 (0, 0))) (hb : W.heap[b]? = some (.cells #[.int .u8 7] 5 (0, 0))) (hc : W.heap[c]? = some (.cells #[.int .i64 2, .slice (some ⟨b, 0, none⟩) 1 1] 26 (0, 0))) (hd : W.heap[d]? = some (.cells #[.slice (some ⟨c, 0, none⟩) 1 1] 65 (0, 0))) :
    TbV 1 (fun _ => True) W tuT (some ⟨a, 0, none⟩) 1 1 none 0 0 (some ⟨d, 0, none⟩) 1 1 := by
  have h63 : (1 : Nat) ≤ maxLen := by unfold maxLen; decide
  have h0 : (⟨#[]⟩ : ByteArray).size ≤ maxLen := by unfold maxLen; decide
  have h1 : (⟨#[97]⟩ : ByteArray).size ≤ maxLen := by unfold maxLen; decide
  refine ⟨⟨rfl, Nat.le_refl _, h63, (fun e => by cases e), fun _ => ⟨a, 0, rfl, block_lt ha, trivial, fun i x hx => ?_⟩⟩, isBF_nil _ _, ⟨rfl, Nat.le_refl _, h63, (fun e => by cases e), fun _ => ⟨d, 0, rfl, block_lt hd, trivial, fun i x hx => ?_⟩⟩⟩
  · have hi : i = 0 := by have := (List.getElem?_eq_some_iff.1 hx).1; simp [tuT] at this; exact this
    subst hi
    obtain rfl : (⟨#[]⟩, ⟨#[]⟩, ⟨#[97]⟩, plainTy 9) = x := by simpa [tuT] using hx
    obtain ⟨⟨k0, k1, k2, k3, k4, k5, k6, k7⟩, _⟩ := blk8 ha
    refine ⟨fun j => ([.string ⟨#[]⟩, .string ⟨#[]⟩, .string ⟨#[97]⟩, .int .u16 9, .string ⟨#[]⟩, .string ⟨#[]⟩, .slice none 0 0, .slice none 0 0] : List Value).getD j default, fun j hj => ?_, ⟨rfl, h0⟩, ⟨rfl, h0⟩, ⟨rfl, h1⟩, none, 0, 0, none, 0, 0, rfl, rfl, rfl, rfl, rfl, ?_⟩
    · rcases (show j = 0 ∨ j = 1 ∨ j = 2 ∨ j = 3 ∨ j = 4 ∨ j = 5 ∨ j = 6 ∨ j = 7 by omega) with rfl | rfl | rfl | rfl | rfl | rfl | rfl | rfl <;> first | exact k0 | exact k1 | exact k2 | exact k3 | exact k4 | exact k5 | exact k6 | exact k7
    · exact ⟨⟨by decide, by decide⟩, h0, h0, sees_nil _ _ _ _, sees_nil _ _ _ _⟩
  · have hi : i = 0 := by have := (List.getElem?_eq_some_iff.1 hx).1; simp [tuT] at this; exact this
    subst hi
    obtain rfl : [((2 : Int), (⟨#[7]⟩ : ByteArray))] = x := by simpa [tuT] using hx
    refine ⟨fun _ => .slice (some ⟨c, 0, none⟩) 1 1, fun j hj => ?_, some ⟨c, 0, none⟩, 1, 1, rfl, rfl, Nat.le_refl _, h63, (fun e => by cases e), fun _ => ⟨c, 0, rfl, block_lt hc, trivial, fun i x hx => ?_⟩⟩
    · obtain rfl : j = 0 := by omega
      exact blk_cell hd 0
    · have hi : i = 0 := by have := (List.getElem?_eq_some_iff.1 hx).1; simp at this; exact this
      subst hi
      obtain rfl : ((2 : Int), (⟨#[7]⟩ : ByteArray)) = x := by simpa using hx
      obtain ⟨k0, k1, _, _⟩ := two_cells hc
      refine ⟨fun j => [Value.int .i64 2, .slice (some ⟨b, 0, none⟩) 1 1].getD j default, fun j hj => ?_, rfl, some ⟨b, 0, none⟩, 1, 1, rfl, ?_, fun q hq _ => ?_⟩
      · rcases (show j = 0 ∨ j = 1 by omega) with rfl | rfl <;> first | exact k0 | exact k1
      · exact isB_block (X := [7]) hb (by intro j; rcases j with _ | j <;> simp) (by unfold maxLen; decide)
      · cases hq; exact ⟨trivial, block_lt hb⟩

theorem aw_put {W : World} (hT : Tab W) {a b c d : Nat} (ha : W.heap[a]? = some (.cells #[.string ⟨#[]⟩, .string ⟨#[]⟩, .string ⟨#[97]⟩, .int .u16 9, .string ⟨#[]⟩, .string ⟨#[]⟩, .slice none 0 0, .slice none 0 0] 64 (0, 0))) (hb : W.heap[b]? = some (.cells #[.int .u8 7] 5 (0, 0))) (hc : W.heap[c]? = some (.cells #[.int .i64 2, .slice (some ⟨b, 0, none⟩) 1 1] 26 (0, 0))) (hd : W.heap[d]? = some (.cells #[.slice (some ⟨c, 0, none⟩) 1 1] 65 (0, 0))) :
    Calls Tryd.prog 17 #[.agg #[.int .i64 1, .slice (some ⟨a, 0, none⟩) 1 1, .bool false, .int .i64 0, .slice none 0 0, .slice (some ⟨d, 0, none⟩) 1 1], .bool true] W fun e w' => ∃ v cp, e = .returned (.tuple #[.slice v 26 cp, .int .i64 0]) ∧ Hid (IsB w' v 26 cp [0, 0, 0, 1, 0, 0, 0, 1, 0, 0, 0, 0, 0, 1, 97, 0, 9, 0, 0, 0, 1, 0, 0, 0, 1, 7]) ∧ Below W.heap.size W w' := by
  refine (put_any (n := 0) (B := ([0, 0, 0, 1, 0, 0, 0, 1, 0, 0, 0, 0, 0, 1, 97, 0, 9, 0, 0, 0, 1, 0, 0, 0, 1, 7], 0)) hT (tu_view ha hb hc hd) (by decide) true (by decide) (by intro r hr V hV; simp at hr; subst hr; simp at hV; subst hV; decide) (by decide +kernel) awm4).mono ?_
  rintro e w' ⟨v, rfl, hO, hR, hB⟩
  obtain ⟨x, cp, rfl, hI⟩ := own_isB hO.out hR.out
  exact ⟨x, cp, rfl, hI, hB.out⟩

theorem aw_cell {W : World} {a b c d : Nat} (ha : W.heap[a]? = some (.cells #[.string ⟨#[]⟩, .string ⟨#[]⟩, .string ⟨#[97]⟩, .int .u16 9, .string ⟨#[]⟩, .string ⟨#[]⟩, .slice none 0 0, .slice none 0 0] 64 (0, 0))) (hb : W.heap[b]? = some (.cells #[.int .u8 7] 5 (0, 0))) (hc : W.heap[c]? = some (.cells #[.int .i64 2, .slice (some ⟨b, 0, none⟩) 1 1] 26 (0, 0))) (hd : W.heap[d]? = some (.cells #[.slice (some ⟨c, 0, none⟩) 1 1] 65 (0, 0))) :
    Calls Tryd.prog 19 #[.agg #[.int .i64 1, .slice (some ⟨a, 0, none⟩) 1 1, .bool false, .int .i64 0, .slice none 0 0, .slice (some ⟨d, 0, none⟩) 1 1], .int .i64 0, .string ⟨#[97]⟩] W fun e w' => ∃ x cx, e = .returned (.tuple #[.agg #[.int .i64 2, .slice x 1 cx], .bool true]) ∧ (1 ≤ cx ∧ cx ≤ 9223372036854775807) ∧ Below W.heap.size W w' := by
  refine (cell_any (m := 0) (T := tuT) (tu_view ha hb hc hd) (row := 0) (by decide) (nm := ⟨#[97]⟩) (by intro r hr V hV; simp [tuT] at hr; subst hr; simp at hV; subst hV; decide)).mono ?_
  rintro e w' ⟨V, x, lx, cx, there, rfl, hI, hC, hB, _⟩
  have h := hC.out
  rw [awm6] at h
  cases there with
  | false => cases h
  | true =>
    obtain rfl : ((2 : Int), (⟨#[7]⟩ : ByteArray)) = V := by simpa using h
    have hl : lx = 1 := hI.1.symm
    subst hl
    have h1 := hI.2.1
    have h2 := hI.2.2.1
    unfold maxLen at h2
    exact ⟨x, cx, rfl, by omega, hB.out⟩

theorem aw_meta {W : World} (hT : Tab W) {v : Option Addr} {cp : Nat} (hI : IsB W v 26 cp [0, 0, 0, 1, 0, 0, 0, 1, 0, 0, 0, 0, 0, 1, 97, 0, 9, 0, 0, 0, 1, 0, 0, 0, 1, 7]) :
    Calls Tryd.prog 14 #[.slice v 26 cp] W fun e w' => ∃ (ka : Option Addr) (kl kc : Nat) (n : Int) (ca : Option Addr) (cl cc : Nat) (m : Bool) (k : Int) (x : Option Addr) (lx cx : Nat) (n2 : Int) (ca2 : Option Addr) (cl2 cc2 : Nat) (m2 : Bool) (k2 : Int) (x2 : Option Addr) (lx2 cx2 : Nat),
      e = .returned (.tuple #[.agg #[.slice ka kl kc, .int .i64 n, .slice ca cl cc, .bool m, .int .i64 k, .slice x lx cx, .slice none 0 0, .int .i64 n2, .slice ca2 cl2 cc2, .bool m2, .int .i64 k2, .slice x2 lx2 cx2, .slice none 0 0], .int .i64 10]) ∧ Below W.heap.size W w' := by
  refine (getMeta_any hI hT (by decide)).mono ?_
  rintro e w' ⟨ks, T, U, ka, kl, kc, ca, cl, cc, x, lx, cx, ca2, cl2, cc2, x2, lx2, cx2, he, _, _, _, _, hB⟩
  rw [awm5] at he
  exact ⟨ka, kl, kc, _, ca, cl, cc, _, _, x, lx, cx, _, ca2, cl2, cc2, _, _, x2, lx2, cx2, he, hB.out⟩

set_option maxHeartbeats 4000000 in
theorem awake_any (w : World) (hT : Tab w) : Calls Tryd.prog 9 #[] w fun e w' => e = .returned (.bool true) ∧ Hid (Below w.heap.size w w') := by
  have HT : Hid (Tab w) := hT
  clear hT
  go_enter Tryd.func9, Tryd.ntmps9
  go_wp2_with fail
  refine (aw_get1 HT.out).mono ?_
  rintro e w1 ⟨ca, cl, cc, x, lx, cx, b, off, rc, y, cy, rfl, hb1, hrc, hy1, hcy, hB1⟩
  have hs1 := hB1.size
  obtain ⟨w2, hw2⟩ : ∃ w2, w2 = w1.alloc (.cells #[.int .i64 1, .slice ca cl cc, .bool false, .int .i64 0, .slice x lx cx, .slice (some ⟨b, off, none⟩) 1 rc] 29) := ⟨_, rfl⟩
  have HW2 : Hid (w1.alloc (.cells #[.int .i64 1, .slice ca cl cc, .bool false, .int .i64 0, .slice x lx cx, .slice (some ⟨b, off, none⟩) 1 rc] 29) = w2) := hw2.symm
  obtain ⟨t1, ht1⟩ : ∃ t1, t1 = w1.heap.size := ⟨_, rfl⟩
  have HT1 : Hid (w1.heap.size = t1) := ht1.symm
  have hB12 : Below w1.heap.size w1 w2 := by rw [hw2]; exact below_one _ _
  have hb2 : w2.heap[t1]? = some (.cells #[.int .i64 1, .slice ca cl cc, .bool false, .int .i64 0, .slice x lx cx, .slice (some ⟨b, off, none⟩) 1 rc] 29 (0, 0)) := by rw [hw2, ht1]; exact heap_alloc_new w1 _
  have HBK : Hid (w2.heap[t1]? = some (.cells #[.int .i64 1, .slice ca cl cc, .bool false, .int .i64 0, .slice x lx cx, .slice (some ⟨b, off, none⟩) 1 rc] 29 (0, 0))) := hb2
  have HY2 : Hid (w2.cell? ⟨b, off, none⟩ = some (.slice y 1 cy)) := (hB12.cell (p := ⟨b, off, none⟩) hb1).trans hy1
  have HB2 : Hid (Below w.heap.size w w2) := hB1.trans (hB12.mono hB1.size)
  have hb2l : b < t1 := by omega
  have hl2 := block_lt hb2
  clear hw2 ht1 hB12 hb2 hy1 hb1
  go_upto_region 2 with fail
  rw [HW2.out]
  (try rw [HT1.out])
  clear HW2
  go_wp2_with fail
  refine (aw_get2 (HT.out.old HB2.out)).mono ?_
  rintro e w3 ⟨n, ca2, cl2, cc2, m, k, x2, lx2, cx2, ra2, rl2, rc2, rfl, hB3⟩
  have hs3 := hB3.size
  obtain ⟨w4, hw4⟩ : ∃ w4, w4 = w3.alloc (.cells #[.int .i64 n, .slice ca2 cl2 cc2, .bool m, .int .i64 k, .slice x2 lx2 cx2, .slice ra2 rl2 rc2] 29) := ⟨_, rfl⟩
  have HW4 : Hid (w3.alloc (.cells #[.int .i64 n, .slice ca2 cl2 cc2, .bool m, .int .i64 k, .slice x2 lx2 cx2, .slice ra2 rl2 rc2] 29) = w4) := hw4.symm
  have hB34 : Below w3.heap.size w3 w4 := by rw [hw4]; exact below_one _ _
  have HB24 : Hid (Below w2.heap.size w2 w4) := hB3.trans (hB34.mono hB3.size)
  have HB4 : Hid (Below w.heap.size w w4) := HB2.out.trans (HB24.out.mono HB2.out.size)
  clear hw4 hB34 hB3
  go_upto_region 3 with fail
  rw [HW4.out]
  clear HW4
  obtain ⟨a, ha⟩ : ∃ a, a = w4.heap.size := ⟨_, rfl⟩
  have HA : Hid (w4.heap.size = a) := ha.symm
  obtain ⟨wb, hwb⟩ : ∃ wb, wb = (((w4.alloc (.cells #[.string ⟨#[]⟩, .string ⟨#[]⟩, .string ⟨#[97]⟩, .int .u16 9, .string ⟨#[]⟩, .string ⟨#[]⟩, .slice none 0 0, .slice none 0 0] 64)).alloc (.cells #[.int .u8 7] 5)).alloc (.cells #[.int .i64 2, .slice (some ⟨a + 1, 0, none⟩) 1 1] 26)).alloc (.cells #[.slice (some ⟨a + 2, 0, none⟩) 1 1] 65) := ⟨_, rfl⟩
  obtain ⟨w5, hw5⟩ : ∃ w5, w5 = wb.alloc (.cells #[.int .i64 1, .slice (some ⟨a, 0, none⟩) 1 1, .bool false, .int .i64 0, .slice none 0 0, .slice (some ⟨a + 3, 0, none⟩) 1 1] 29) := ⟨_, rfl⟩
  have HW5 : Hid (((((w4.alloc (.cells #[.string ⟨#[]⟩, .string ⟨#[]⟩, .string ⟨#[97]⟩, .int .u16 9, .string ⟨#[]⟩, .string ⟨#[]⟩, .slice none 0 0, .slice none 0 0] 64)).alloc (.cells #[.int .u8 7] 5)).alloc (.cells #[.int .i64 2, .slice (some ⟨a + 1, 0, none⟩) 1 1] 26)).alloc (.cells #[.slice (some ⟨a + 2, 0, none⟩) 1 1] 65)).alloc (.cells #[.int .i64 1, .slice (some ⟨a, 0, none⟩) 1 1, .bool false, .int .i64 0, .slice none 0 0, .slice (some ⟨a + 3, 0, none⟩) 1 1] 29) = w5) := by rw [hw5, hwb]; rfl
  obtain ⟨x1, hx1⟩ : ∃ x1, x1 = w4.alloc (.cells #[.string ⟨#[]⟩, .string ⟨#[]⟩, .string ⟨#[97]⟩, .int .u16 9, .string ⟨#[]⟩, .string ⟨#[]⟩, .slice none 0 0, .slice none 0 0] 64) := ⟨_, rfl⟩
  obtain ⟨x2', hx2⟩ : ∃ x2, x2 = x1.alloc (.cells #[.int .u8 7] 5) := ⟨_, rfl⟩
  obtain ⟨x3, hx3⟩ : ∃ x3, x3 = x2'.alloc (.cells #[.int .i64 2, .slice (some ⟨a + 1, 0, none⟩) 1 1] 26) := ⟨_, rfl⟩
  rw [← hx1, ← hx2, ← hx3] at hwb
  have e1 : x1.heap.size = a + 1 := by rw [hx1, ha]; simp
  have e2 : x2'.heap.size = a + 2 := by rw [hx2]; simp [e1]
  have e3 : x3.heap.size = a + 3 := by rw [hx3]; simp [e2]
  have e4 : wb.heap.size = a + 4 := by rw [hwb]; simp [e3]
  have b1 : Below w4.heap.size w4 x1 := by rw [hx1]; exact below_one _ _
  have b2 : Below x1.heap.size x1 x2' := by rw [hx2]; exact below_one _ _
  have b3 : Below x2'.heap.size x2' x3 := by rw [hx3]; exact below_one _ _
  have b4 : Below x3.heap.size x3 wb := by rw [hwb]; exact below_one _ _
  have b5 : Below wb.heap.size wb w5 := by rw [hw5]; exact below_one _ _
  have q1 : x1.heap[a]? = some (.cells #[.string ⟨#[]⟩, .string ⟨#[]⟩, .string ⟨#[97]⟩, .int .u16 9, .string ⟨#[]⟩, .string ⟨#[]⟩, .slice none 0 0, .slice none 0 0] 64 (0, 0)) := by rw [hx1, ha]; exact heap_alloc_new w4 _
  have q2 : x2'.heap[a + 1]? = some (.cells #[.int .u8 7] 5 (0, 0)) := by rw [hx2, ← e1]; exact heap_alloc_new x1 _
  have q3 : x3.heap[a + 2]? = some (.cells #[.int .i64 2, .slice (some ⟨a + 1, 0, none⟩) 1 1] 26 (0, 0)) := by rw [hx3, ← e2]; exact heap_alloc_new x2' _
  have q4 : wb.heap[a + 3]? = some (.cells #[.slice (some ⟨a + 2, 0, none⟩) 1 1] 65 (0, 0)) := by rw [hwb, ← e3]; exact heap_alloc_new x3 _
  have HU5 : Hid (w5.heap[a + 4]? = some (.cells #[.int .i64 1, .slice (some ⟨a, 0, none⟩) 1 1, .bool false, .int .i64 0, .slice none 0 0, .slice (some ⟨a + 3, 0, none⟩) 1 1] 29 (0, 0))) := by rw [hw5, ← e4]; exact heap_alloc_new wb _
  have HQ1 : Hid (w5.heap[a]? = some (.cells #[.string ⟨#[]⟩, .string ⟨#[]⟩, .string ⟨#[97]⟩, .int .u16 9, .string ⟨#[]⟩, .string ⟨#[]⟩, .slice none 0 0, .slice none 0 0] 64 (0, 0))) := (b5.block a (by omega)).trans ((b4.block a (by omega)).trans ((b3.block a (by omega)).trans ((b2.block a (by omega)).trans q1)))
  have HQ2 : Hid (w5.heap[a + 1]? = some (.cells #[.int .u8 7] 5 (0, 0))) := (b5.block _ (by omega)).trans ((b4.block _ (by omega)).trans ((b3.block _ (by omega)).trans q2))
  have HQ3 : Hid (w5.heap[a + 2]? = some (.cells #[.int .i64 2, .slice (some ⟨a + 1, 0, none⟩) 1 1] 26 (0, 0))) := (b5.block _ (by omega)).trans ((b4.block _ (by omega)).trans q3)
  have HQ4 : Hid (w5.heap[a + 3]? = some (.cells #[.slice (some ⟨a + 2, 0, none⟩) 1 1] 65 (0, 0))) := (b5.block _ (by omega)).trans q4
  have hB45 : Below w4.heap.size w4 w5 := b1.trans ((b2.mono (by omega)).trans ((b3.mono (by omega)).trans ((b4.mono (by omega)).trans (b5.mono (by omega)))))
  have HB25 : Hid (Below w2.heap.size w2 w5) := HB24.out.trans (hB45.mono HB24.out.size)
  have HB5 : Hid (Below w.heap.size w w5) := HB4.out.trans (hB45.mono HB4.out.size)
  obtain ⟨⟨k0, k1, k2, k3, k4, k5⟩, _⟩ := blk6 HU5.out
  have hl5 := block_lt HU5.out
  clear hw5 hwb hx1 hx2 hx3 e1 e2 e3 e4 b1 b2 b3 b4 b5 q1 q2 q3 q4 hB45 ha
  clear x1 x2' x3 wb
  go_upto_region 4 with fail
  (try simp only [World.size_alloc])
  (try rw [HA.out])
  rw [HW5.out]
  clear HW5
  go_wp2_with fail
  refine (aw_put (HT.out.old HB5.out) HQ1.out HQ2.out HQ3.out HQ4.out).mono ?_
  rintro e w6 ⟨v, cp, rfl, HI6, hB6⟩
  have hs6 := hB6.size
  have HB56 : Hid (Below w5.heap.size w5 w6) := hB6
  have HB6 : Hid (Below w.heap.size w w6) := HB5.out.trans (hB6.mono HB5.out.size)
  have hu6 := (hB6.block _ hl5).trans HU5.out
  have HU6 : Hid (w6.heap[a + 4]? = some (.cells #[.int .i64 1, .slice (some ⟨a, 0, none⟩) 1 1, .bool false, .int .i64 0, .slice none 0 0, .slice (some ⟨a + 3, 0, none⟩) 1 1] 29 (0, 0))) := hu6
  obtain ⟨⟨k0, k1, k2, k3, k4, k5⟩, _⟩ := blk6 hu6
  have hl6 := block_lt hu6
  clear hB6 hu6
  go_wp2_with fail
  refine (aw_cell ((HB56.out.block _ (block_lt HQ1.out)).trans HQ1.out) ((HB56.out.block _ (block_lt HQ2.out)).trans HQ2.out) ((HB56.out.block _ (block_lt HQ3.out)).trans HQ3.out) ((HB56.out.block _ (block_lt HQ4.out)).trans HQ4.out)).mono ?_
  rintro e w7 ⟨x8, cx8, rfl, hcx8, hB7⟩
  have hs7 := hB7.size
  obtain ⟨w8, hw8⟩ : ∃ w8, w8 = w7.alloc (.cells #[.int .i64 2, .slice x8 1 cx8] 26) := ⟨_, rfl⟩
  have HW8 : Hid (w7.alloc (.cells #[.int .i64 2, .slice x8 1 cx8] 26) = w8) := hw8.symm
  obtain ⟨t8, ht8⟩ : ∃ t8, t8 = w7.heap.size := ⟨_, rfl⟩
  have HT8 : Hid (w7.heap.size = t8) := ht8.symm
  have hB78 : Below w7.heap.size w7 w8 := by rw [hw8]; exact below_one _ _
  have HB68 : Hid (Below w6.heap.size w6 w8) := hB7.trans (hB78.mono hB7.size)
  have HB8 : Hid (Below w.heap.size w w8) := HB6.out.trans (HB68.out.mono HB6.out.size)
  have HB28 : Hid (Below w2.heap.size w2 w8) := HB25.out.trans ((HB56.out.trans (HB68.out.mono HB56.out.size)).mono HB25.out.size)
  have HK8 : Hid (w8.heap[t8]? = some (.cells #[.int .i64 2, .slice x8 1 cx8] 26 (0, 0))) := by rw [hw8, ht8]; exact heap_alloc_new w7 _
  have hl8 := block_lt HK8.out
  clear hw8 ht8 hB78 hB7
  go_upto_region 6 with fail
  rw [HW8.out]
  (try rw [HT8.out])
  clear HW8
  go_wp2_with fail
  refine (aw_meta (HT.out.old HB8.out) (HI6.out.old HB68.out)).mono ?_
  rintro e w9 ⟨ka, kl, kc, n3, ca3, cl3, cc3, m3, k3, x3, lx3, cx3, n4, ca4, cl4, cc4, m4, k4, x4, lx4, cx4, rfl, hB9⟩
  have hs9 := hB9.size
  obtain ⟨w10, hw10⟩ : ∃ w10, w10 = w9.alloc (.cells #[.slice ka kl kc, .int .i64 n3, .slice ca3 cl3 cc3, .bool m3, .int .i64 k3, .slice x3 lx3 cx3, .slice none 0 0, .int .i64 n4, .slice ca4 cl4 cc4, .bool m4, .int .i64 k4, .slice x4 lx4 cx4, .slice none 0 0] 46) := ⟨_, rfl⟩
  have HW10 : Hid (w9.alloc (.cells #[.slice ka kl kc, .int .i64 n3, .slice ca3 cl3 cc3, .bool m3, .int .i64 k3, .slice x3 lx3 cx3, .slice none 0 0, .int .i64 n4, .slice ca4 cl4 cc4, .bool m4, .int .i64 k4, .slice x4 lx4 cx4, .slice none 0 0] 46) = w10) := hw10.symm
  have hB810 : Below w8.heap.size w8 w10 := hB9.trans (by rw [hw10]; exact (below_one w9 _).mono hs9)
  have hk10 := (hB810.block _ hl8).trans HK8.out
  have hB210 : Below w2.heap.size w2 w10 := HB28.out.trans (hB810.mono HB28.out.size)
  have hb10 := (hB210.block _ hl2).trans HBK.out
  have hy10 : w10.cell? ⟨b, off, none⟩ = some (.slice y 1 cy) := (hB210.cell (p := ⟨b, off, none⟩) (by show b < _; omega)).trans HY2.out
  have HBF : Hid (Below w.heap.size w w10) := HB8.out.trans (hB810.mono HB8.out.size)
  obtain ⟨g0, g1, _, _⟩ := two_cells hk10
  obtain ⟨⟨k0, k1, k2, k3, k4, k5⟩, _⟩ := blk6 hb10
  have hla := block_lt hk10
  have hlb := block_lt hb10
  have hbl : b < w10.heap.size := by omega
  clear hw10 hB810 hk10 hB210 hb10 hB9
  go_upto_region 7 with fail
  rw [HW10.out]
  clear HW10
  go_wp2_with fail
  go_ret
  exact ⟨rfl, HBF⟩

end Go.Proofs.YtnapeecmlkkolaaDoor
