/-
  What the statements ask first: awake answers true, and turns nothing that was there.
-/
import Derived.Test.YtfkhcgkobffpiaaTk
import Derived.Test.YtfkhcgkobffpiaaPt
import Derived.Test.YtfkhcgkobffpiaaPk
import Derived.Lib.SlBytesConst
namespace Go.Proofs.Ytfkhcgkobffpiaa
open Go.RowKit
set_option maxRecDepth 100000
set_option linter.unusedVariables false
set_option linter.unusedSimpArgs false

/-- A slice over a block of its own, as it is seen. -/
theorem view_block {α : Type} [Inhabited α] {size : Nat} {V : World → α → (Nat → Value) → Prop} {w : World} {g : Nat} {cs : Array Value} {t : TypeId} {fr : Nat × Nat} (hh : w.heap[g]? = some (.cells cs t fr)) {xs : List α} {n : Nat} (hn : xs.length = n) (hc : cs.size = n * size) (hm : n ≤ maxLen)
    (hv : ∀ i, i < n → V w (xs.getD i default) (fun j => cs.toList.getD (i * size + j) default)) : View size V w (some ⟨g, 0, none⟩) n n xs := by
  refine ⟨hn, Nat.le_refl _, hm, (fun e => by cases e), fun hp => ⟨g, 0, rfl, (Array.getElem?_eq_some_iff.1 hh).1, fun i hi => ⟨_, fun j hj => ?_, hv i hi⟩⟩⟩
  have hlt : i * size + j < cs.size := by
    have : (i + 1) * size ≤ n * size := Nat.mul_le_mul_right _ hi
    rw [Nat.succ_mul] at this
    omega
  simp [World.cell?, hh, hlt]

theorem isB_mark (w : World) (y : Int) (h0 : 0 ≤ y) (h1 : y ≤ 255) (fr : Nat × Nat) : IsB (w.alloc (.cells #[.int .u8 y] 5 fr)) (some ⟨w.heap.size, 0, none⟩) 1 1 [y] := by
  refine ⟨rfl, Nat.le_refl _, by unfold maxLen; omega, fun h => by (cases h), fun _ => ⟨_, _, rfl, rfl, Nat.le_refl _, by unfold maxLen; omega, fun _ => by simp, fun i hi => ?_, fun j => ?_⟩⟩
  · obtain rfl : i = 0 := by omega
    rw [show (0 : Nat) + 0 = 0 from rfl, World.cell?_alloc_mark]; rfl
  · match j with
    | 0 => exact ⟨h0, h1⟩
    | j + 1 => simp

theorem tok_nil : tokK [] = 0 := by
  show Mur.tok (Mur.sumH (fun i => ([] : List Int).getD i 0) 0) = 0
  rw [Mur.sum_none]; decide +kernel

theorem range_one (z : Int) (h0 : 0 ≤ z) (h1 : z ≤ 255) : Bs [z] := fun j => by
  match j with
  | 0 => exact ⟨h0, h1⟩
  | j + 1 => simp

/-- The parts of the document's example. -/
theorem aw_parts (w : World) : View 1 VB (((w.alloc (.cells #[.int .u8 97] 5 (1, 2))).alloc (.cells #[.int .u8 98] 5 (1, 2))).alloc (.cells #[.slice (some ⟨w.heap.size, 0, none⟩) 1 1, .slice (some ⟨w.heap.size + 1, 0, none⟩) 1 1] 24))
    (some ⟨w.heap.size + 1 + 1, 0, none⟩) 2 2 [[97], [98]] := by
  have h1 := isB_mark w 97 (by omega) (by omega) (1, 2)
  have h2 := isB_mark (w.alloc (.cells #[.int .u8 97] 5 (1, 2))) 98 (by omega) (by omega) (1, 2)
  have e1 : (w.alloc (.cells #[.int .u8 97] 5 (1, 2))).heap.size = w.heap.size + 1 := by simp
  have e2 : ((w.alloc (.cells #[.int .u8 97] 5 (1, 2))).alloc (.cells #[.int .u8 98] 5 (1, 2))).heap.size = w.heap.size + 1 + 1 := by simp
  rw [e1] at h2
  have hh := heap_alloc_new ((w.alloc (.cells #[.int .u8 97] 5 (1, 2))).alloc (.cells #[.int .u8 98] 5 (1, 2))) (.cells #[.slice (some ⟨w.heap.size, 0, none⟩) 1 1, .slice (some ⟨w.heap.size + 1, 0, none⟩) 1 1] 24)
  rw [e2] at hh
  refine view_block hh rfl rfl (by unfold maxLen; omega) (fun i hi => ?_)
  rcases (show i = 0 ∨ i = 1 by omega) with rfl | rfl
  · exact ⟨_, _, _, rfl, (h1.old (below_one _ _)).old (below_one _ _)⟩
  · exact ⟨_, _, _, rfl, h2.old (below_one _ _)⟩

theorem view_empty (w : World) : View 1 VB (w.alloc (.cells #[.slice none 0 0] 24)) (some ⟨w.heap.size, 0, none⟩) 1 1 [[]] := by
  refine view_block (heap_alloc_new w _) rfl rfl (by unfold maxLen; omega) (fun i hi => ?_)
  obtain rfl : i = 0 := by omega
  exact ⟨_, _, _, rfl, isB_nil _⟩

theorem view_place (w : World) (n : Int) : View 1 VU (w.alloc (.cells #[.int .u16 n] 45)) (some ⟨w.heap.size, 0, none⟩) 1 1 [n] := by
  refine view_block (heap_alloc_new w _) rfl rfl (by unfold maxLen; omega) (fun i hi => ?_)
  obtain rfl : i = 0 := by omega
  rfl

def awK : List Int := [0, 1, 97, 0, 0, 1, 98, 0]
theorem awK_key : keyB [[97], [98]] = awK := by decide +kernel
theorem awK_parts : partsA awK = (0, [[97], [98]]) := by decide +kernel
theorem aw_pick : pickR [(2, [120])] [0] [] = (0, [[120]]) := by decide +kernel
theorem aw_str : (strOfNums awK).toList = [0, 1, 97, 0, 0, 1, 98, 0] := by decide +kernel

/-- The places and values of the document's example. -/
theorem aw_vals (w : World) : View 1 VU (((w.alloc (.cells #[.int .u16 0] 45)).alloc (.cells #[.int .u8 120] 5 (1, 2))).alloc (.cells #[.int .i64 2, .slice (some ⟨w.heap.size + 1, 0, none⟩) 1 1] 47)) (some ⟨w.heap.size, 0, none⟩) 1 1 [0] ∧
    View 2 VV (((w.alloc (.cells #[.int .u16 0] 45)).alloc (.cells #[.int .u8 120] 5 (1, 2))).alloc (.cells #[.int .i64 2, .slice (some ⟨w.heap.size + 1, 0, none⟩) 1 1] 47)) (some ⟨w.heap.size + 1 + 1, 0, none⟩) 1 1 [(2, [120])] := by
  have h1 := view_place w 0
  have h2 := isB_mark (w.alloc (.cells #[.int .u16 0] 45)) 120 (by omega) (by omega) (1, 2)
  have e1 : (w.alloc (.cells #[.int .u16 0] 45)).heap.size = w.heap.size + 1 := by simp
  have e2 : ((w.alloc (.cells #[.int .u16 0] 45)).alloc (.cells #[.int .u8 120] 5 (1, 2))).heap.size = w.heap.size + 1 + 1 := by simp
  rw [e1] at h2
  have hh := heap_alloc_new ((w.alloc (.cells #[.int .u16 0] 45)).alloc (.cells #[.int .u8 120] 5 (1, 2))) (.cells #[.int .i64 2, .slice (some ⟨w.heap.size + 1, 0, none⟩) 1 1] 47)
  rw [e2] at hh
  refine ⟨(h1.old stays_u (below_one _ _)).old stays_u (below_one _ _), view_block hh rfl rfl (by unfold maxLen; omega) (fun i hi => ?_)⟩
  obtain rfl : i = 0 := by omega
  exact ⟨rfl, _, _, _, rfl, h2.old (below_one _ _)⟩

theorem awK_bs : Bs awK := by rw [← awK_key]; exact keyB_bs (fun p hp => by simp at hp; rcases hp with rfl | rfl <;> exact range_one _ (by omega) (by omega))

set_option maxHeartbeats 2000000 in
theorem awake_any (w : World) : Calls Try.prog 9 #[] w fun e w' => e = .returned (.bool true) ∧ Below w.heap.size w w' := by
  have kc1 := Lib.run_convert_bytes_const (P := Try.prog) w 24 5 #[.int .u8 97] 1 1 Try.underlying24 Try.underlying5
  have kc2 : (convert 24 24 (.slice (some ⟨w.heap.size + 1, 0, none⟩) 1 1)).run Try.prog ((w.alloc (.cells #[.int .u8 97] 5 (1, 2))).alloc (.cells #[.int .u8 98] 5)) = .ok (.slice (some ⟨w.heap.size + 1, 0, none⟩) 1 1) ((w.alloc (.cells #[.int .u8 97] 5 (1, 2))).alloc (.cells #[.int .u8 98] 5 (1, 2))) := by
    have := Lib.run_convert_bytes_const (P := Try.prog) (w.alloc (.cells #[.int .u8 97] 5 (1, 2))) 24 5 #[.int .u8 98] 1 1 Try.underlying24 Try.underlying5
    simpa using this
  go_enter Try.func9, Try.ntmps9
  have HP : Hid _ := aw_parts w
  go_wp2_with fail
  refine (key_any HP.out (by omega) (by omega) (fun p hp => by simp at hp; rcases hp with rfl | rfl <;> simp) (K := awK) awK_key.symm).mono ?_
  rintro e w1 ⟨v1, rfl, HO1, hB1⟩
  have hB01 : Below w.heap.size w w1 := (((below_one w _).trans ((below_one _ _).mono (by simp))).trans ((below_one _ _).mono (by simp; omega))).trans (hB1.mono (by simp; omega))
  obtain ⟨x1, c1, rfl, hI1, _⟩ := HO1.out.isB0 awK_bs
  have HI1 : Hid (IsB w1 x1 awK.length c1 awK) := hI1
  clear hI1 HO1 HP hB1 kc1 kc2
  rw [show awK.length = 8 from rfl] at HI1 ⊢
  go_wp2_with fail
  refine (parts_any HI1.out (by omega) awK_parts.symm).mono ?_
  rintro e w2 ⟨v2, rfl, HO2, hB2⟩
  obtain ⟨x2, c2, rfl, hV2, _⟩ := HO2.out.view
  have hB02 : Below w.heap.size w w2 := hB01.trans (hB2.mono hB01.size)
  have HI2 : Hid (IsB w2 x1 8 c1 awK) := HI1.out.old hB2
  clear hV2 HO2 hB2 hB01 HI1
  go_wp2_with fail
  refine (key_none _ _ _).mono ?_
  rintro e w3 ⟨rfl, rfl⟩
  go_wp2_with fail
  refine (token_any (view_empty w3) (by omega) (by omega) (fun p hp => by simp at hp; subst hp; simp) (fun p hp => by simp at hp; subst hp; exact bs_nil) (T := 0) tok_nil.symm).mono ?_
  rintro e w4 ⟨rfl, hB4⟩
  have hB04 : Below w.heap.size w w4 := hB02.trans (((below_one w3 _).trans (hB4.mono (by simp))).mono hB02.size)
  have HI4 : Hid (IsB w4 x1 8 c1 awK) := HI2.out.old ((below_one w3 _).trans (hB4.mono (by simp)))
  clear hB4 hB02 HI2
  have kc3 : (convert 24 24 (.slice (some ⟨w4.heap.size + 1, 0, none⟩) 1 1)).run Try.prog ((w4.alloc (.cells #[.int .u16 0] 45)).alloc (.cells #[.int .u8 120] 5)) = .ok (.slice (some ⟨w4.heap.size + 1, 0, none⟩) 1 1) ((w4.alloc (.cells #[.int .u16 0] 45)).alloc (.cells #[.int .u8 120] 5 (1, 2))) := by
    have := Lib.run_convert_bytes_const (P := Try.prog) (w4.alloc (.cells #[.int .u16 0] 45)) 24 5 #[.int .u8 120] 1 1 Try.underlying24 Try.underlying5
    simpa using this
  have HVV : Hid _ := aw_vals w4
  go_wp2_with fail
  refine (pick_any HVV.out.1 HVV.out.2 (by omega) (by omega) (fun n hn => by simp at hn; omega) (fun x hx => by simp at hx; subst hx; simp) aw_pick.symm).mono ?_
  rintro e w5 ⟨v5, ps, rfl, HO5, HP5, hB5⟩
  have hps : ps.length = 1 := by have := congrArg List.length HP5.out.1; simpa using this
  have hB05 : Below w.heap.size w w5 := ((hB04.alloc hB04.size _).alloc (by simp; have := hB04.size; omega) _).alloc (by simp; have := hB04.size; omega) _ |>.trans (hB5.mono (by simp; have := hB04.size; omega))
  have HI5 : Hid (IsB w5 x1 8 c1 awK) := (((HI4.out.old (below_one _ _)).old (below_one _ _)).old (below_one _ _)).old hB5
  obtain ⟨x5, c5, rfl, _, _⟩ := HO5.out.view
  rw [hps]
  obtain ⟨S, hS⟩ : ∃ S, S = strOfNums awK := ⟨_, rfl⟩
  have cv : (convert 24 9 (.slice x1 8 c1)).run Try.prog w5 = .ok (.string S) w5 := by rw [hS]; exact HI5.out.conv
  have ht : S.toList = [0, 1, 97, 0, 0, 1, 98, 0] := by rw [hS]; exact aw_str
  clear hS hps HO5 HP5 hB5 kc3 HVV
  go_wp2_with fail
  go_ret
  exact ⟨rfl, hB05⟩
end Go.Proofs.Ytfkhcgkobffpiaa
