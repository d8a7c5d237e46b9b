/-
  The walk of OptionIds.
-/
import Derived.Test.YtakaonfeegfmpaaDoorGets
import Derived.Test.YtakaonfeegfmpaaDoorRefPuts
namespace Go.Proofs.YtakaonfeegfmpaaDoor
open Go.RowKit
set_option linter.unusedVariables false
set_option linter.unusedSimpArgs false

theorem isB_four (w : World) (a b c d : Int) (ha : 0 ≤ a ∧ a ≤ 255) (hb : 0 ≤ b ∧ b ≤ 255) (hc : 0 ≤ c ∧ c ≤ 255) (hd : 0 ≤ d ∧ d ≤ 255) : IsB (w.alloc (.cells #[.int .u8 a, .int .u8 b, .int .u8 c, .int .u8 d] 5)) (some ⟨w.heap.size, 0, none⟩) 4 4 [a, b, c, d] := by
  refine BRow.isB ⟨rfl, Nat.le_refl _, by unfold maxLen; omega, fun _ => by simp, fun i hi => ?_, ?_⟩
  · rw [World.cell?_alloc_at _ _ _ _ rfl]
    rcases (show i = 0 ∨ i = 1 ∨ i = 2 ∨ i = 3 from by omega) with rfl | rfl | rfl | rfl <;> rfl
  · intro j; rcases j with _ | _ | _ | _ | j <;> simp [ha, hb, hc, hd]

theorem isB_fours (w : World) (H : Nat) (hH : w.heap.size = H) (a b : Int) (ha : 0 ≤ a ∧ a ≤ 255) (hb : 0 ≤ b ∧ b ≤ 255) : IsB (w.alloc (.cells #[.int .u8 a, .int .u8 b, .int .u8 0, .int .u8 0] 5)) (some ⟨H, 0, none⟩) 4 4 [a, b, 0, 0] := by
  subst hH; exact isB_four w a b 0 0 ha hb (by omega) (by omega)

/-- A type of a number alone. -/
def lone (id : Int) : Ty := ⟨id, ByteArray.empty, ByteArray.empty, [], []⟩

theorem lone_at (n : Nat) (F : Nat → Prop) (w : World) (id : Int) (h : 0 ≤ id ∧ id < 65536) : TyAt n F w (lone id) none 0 0 none 0 0 :=
  ⟨h, Nat.zero_le _, Nat.zero_le _, sees_nil _ _ _ _, sees_nil _ _ _ _⟩

abbrev loneCells (id : Int) : Array Value := #[.int .u16 id, .string ByteArray.empty, .string ByteArray.empty, .slice none 0 0, .slice none 0 0]

theorem lput {id : Int} (h : 0 ≤ id ∧ id < 65536) (w : World) (hT : Tab w) {B : List Int × Int} (hB : B = putR 25 (lone id)) :
    Calls Tryd.prog 12 #[.agg (loneCells id)] w fun e w' => ∃ a cp L, e = .returned (.tuple #[.slice a L cp, .int .i64 B.2]) ∧ Hid (IsB w' a L cp B.1) ∧ Below w.heap.size w w' := by
  have hw : wgt (25 + 1) (lone id) ≤ 140737488355328 := by show 131078 + 65537 * 0 + 0 ≤ _; omega
  refine (Put_any (lone_at 25 (fun _ => True) w id h) hT hw hB).mono ?_
  rintro e w' ⟨v, rfl, HA, hBl⟩
  obtain ⟨a, cp, L, hL, rfl, hi⟩ := HA.out.bytes (by rw [hB]; exact putR_range _ _)
  exact ⟨a, cp, L, rfl, hi, hBl⟩

theorem rlput {id : Int} (h : 0 ≤ id ∧ id < 65536) (w : World) {B : List Int × Int} (hB : B = putR 25 (lone id)) :
    Calls Tryd.prog 13 #[.agg (loneCells id)] w fun e w' => ∃ a cp L, e = .returned (.tuple #[.slice a L cp, .int .i64 B.2]) ∧ Hid (IsB w' a L cp B.1) ∧ Below w.heap.size w w' := by
  have hw : wgt 26 (lone id) ≤ 140737488355328 := by show 131078 + 65537 * 0 + 0 ≤ _; omega
  refine (refPut_any (lone_at 25 (fun _ => True) w id h) hw hB).mono ?_
  rintro e w' ⟨a, cp, rfl, HI, hBl⟩
  exact ⟨a, cp, _, rfl, HI, hBl⟩

theorem ltext {id : Int} (h : 0 ≤ id ∧ id < 65536) (w : World) (hT : Tab w) {R : ByteArray × Int} (hR : R = textT 25 (lone id)) :
    Calls Tryd.prog 14 #[.agg (loneCells id)] w fun e w' => e = .returned (.tuple #[.string R.1, .int .i64 R.2]) ∧ Below w.heap.size w w' := by
  have hw : tlen (25 + 1) (lone id) ≤ 17592186044416 := by show 20 + 0 + 0 + 0 ≤ _; omega
  exact Text_any (lone_at 25 (fun _ => True) w id h) hT hw hR

theorem rltext {id : Int} (h : 0 ≤ id ∧ id < 65536) (w : World) {R : ByteArray × Int} (hR : R = textT 25 (lone id)) :
    Calls Tryd.prog 15 #[.agg (loneCells id)] w fun e w' => e = .returned (.tuple #[.string R.1, .int .i64 R.2]) ∧ Below w.heap.size w w' := by
  have hw : tlen 26 (lone id) ≤ 17592186044416 := by show 20 + 0 + 0 + 0 ≤ _; omega
  exact refText_any (lone_at 25 (fun _ => True) w id h) hw hR

set_option maxHeartbeats 4000000 in
set_option maxRecDepth 20000 in
theorem ids_any {w : World} (hT : Tab w) (id : Int) (h0 : 0 ≤ id) (h1 : id ≤ 65535) :
    Calls Tryd.prog 7 #[.int .u16 id] w fun e w' => e = .returned (.bool true) ∧ Below w.heap.size w w' := by
  have HT : Hid (Tab w) := hT
  have HID : Hid (0 ≤ id ∧ id < 65536) := (⟨h0, by omega⟩ : 0 ≤ id ∧ id < 65536)
  obtain ⟨B, hB⟩ : ∃ B, B = putR 25 (lone id) := ⟨_, rfl⟩
  obtain ⟨R, hR⟩ : ∃ R, R = textT 25 (lone id) := ⟨_, rfl⟩
  obtain ⟨X, hX⟩ : ∃ X, X = tyR 20 [id / 256, id % 256, 0, 0] := ⟨_, rfl⟩
  have HB : Hid _ := hB
  have HR : Hid _ := hR
  have HX : Hid _ := hX
  clear hT hB hR hX
  go_enter Tryd.func7, Tryd.ntmps7
  go_wp2_with fail
  refine (awake_any _ HT.out).mono ?_
  rintro e w1 ⟨rfl, hB1⟩
  have HBX : Hid (∀ W, Below (w1.heap.size + 1) (w1.alloc (.cells (loneCells id) 26)) W → W.heap[w1.heap.size]? = some (.cells (loneCells id) 26 (0, 0))) := fun W hW => by rw [hW.block _ (by omega)]; exact heap_alloc_new w1 _
  have HUP : Hid (∀ W, Below (w1.heap.size + 1) (w1.alloc (.cells (loneCells id) 26)) W → Below w.heap.size w W) := fun W hW => (hB1.alloc hB1.size _).trans (hW.mono (by have := hB1.size; omega))
  have HW1 : Hid (Below (w1.heap.size + 1) (w1.alloc (.cells (loneCells id) 26)) (w1.alloc (.cells (loneCells id) 26))) := Below.refl _ _
  clear hB1
  go_wp2_with fail
  refine (lput HID.out _ (HT.out.old (HUP.out _ HW1.out)) HB.out).mono ?_
  rintro e w2 ⟨a2, cp2, L2, rfl, HI2, hB2⟩
  have HW2 : Hid (Below (w1.heap.size + 1) (w1.alloc (.cells (loneCells id) 26)) w2) := hB2.mono (by simp)
  have hs2 : w1.heap.size < w2.heap.size := by have := HW2.out.size; simp at this; omega
  obtain ⟨c0, c1, c2, c3, c4⟩ := cells5 (HBX.out w2 HW2.out)
  clear hB2
  go_wp2_with fail
  refine (rlput HID.out _ HB.out).mono ?_
  rintro e w3 ⟨a3, cp3, L3, rfl, HI3, hB3⟩
  have HW3 : Hid (Below (w1.heap.size + 1) (w1.alloc (.cells (loneCells id) 26)) w3) := HW2.out.trans (hB3.mono (by omega))
  have HI23 : Hid (IsB w3 a2 L2 cp2 B.1) := HI2.out.old hB3
  have hs3 : w1.heap.size < w3.heap.size := by have := HW3.out.size; simp at this; omega
  clear c0 c1 c2 c3 c4 hB3 HI2 hs2
  obtain ⟨c0, c1, c2, c3, c4⟩ := cells5 (HBX.out w3 HW3.out)
  go_wp2_with fail
  refine (ltext HID.out _ (HT.out.old (HUP.out _ HW3.out)) HR.out).mono ?_
  rintro e w4 ⟨rfl, hB4⟩
  have HW4 : Hid (Below (w1.heap.size + 1) (w1.alloc (.cells (loneCells id) 26)) w4) := HW3.out.trans (hB4.mono (by omega))
  have HI24 : Hid (IsB w4 a2 L2 cp2 B.1) := HI23.out.old hB4
  have HI34 : Hid (IsB w4 a3 L3 cp3 B.1) := HI3.out.old hB4
  have hs4 : w1.heap.size < w4.heap.size := by have := HW4.out.size; simp at this; omega
  clear c0 c1 c2 c3 c4 hB4 HI23 HI3 hs3
  obtain ⟨c0, c1, c2, c3, c4⟩ := cells5 (HBX.out w4 HW4.out)
  go_wp2_with fail
  refine (rltext HID.out _ HR.out).mono ?_
  rintro e w5 ⟨rfl, hB5⟩
  have HW5 : Hid (Below (w1.heap.size + 1) (w1.alloc (.cells (loneCells id) 26)) w5) := HW4.out.trans (hB5.mono (by omega))
  have HI25 : Hid (IsB w5 a2 L2 cp2 B.1) := HI24.out.old hB5
  have HI35 : Hid (IsB w5 a3 L3 cp3 B.1) := HI34.out.old hB5
  have HU5 : Hid (Below w.heap.size w w5) := HUP.out _ HW5.out
  clear c0 c1 c2 c3 c4 hB5 HI24 HI34 hs4 HBX HW1 HW2 HW3 HW4 HW5 HUP
  go_wp2_with fail
  have HF : Hid (IsB (w5.alloc (.cells #[.int .u8 (id / 256), .int .u8 (id % 256), .int .u8 0, .int .u8 0] 5)) (some ⟨w5.heap.size, 0, none⟩) 4 4 [id / 256, id % 256, 0, 0]) := isB_fours w5 _ rfl _ _ (by omega) (by omega)
  have HU5' : Hid (Below w.heap.size w (w5.alloc (.cells #[.int .u8 (id / 256), .int .u8 (id % 256), .int .u8 0, .int .u8 0] 5))) := HU5.out.alloc HU5.out.size _
  refine (Get_any HF.out (HT.out.old HU5'.out) (by omega) HX.out).mono ?_
  rintro e w6 ⟨r, lr, cr, na, nl, nc, ka, kl, kc, rfl, HTY, HBH, hB6⟩
  have hU6 : Below w.heap.size w w6 := HU5'.out.trans (hB6.mono HU5'.out.size)
  have hB56 : Below w5.heap.size w5 w6 := (below_one _ _).trans (hB6.mono (by simp))
  have HI26 : Hid (IsB w6 a2 L2 cp2 B.1) := HI25.out.old hB56
  have HI36 : Hid (IsB w6 a3 L3 cp3 B.1) := HI35.out.old hB56
  clear HF HU5 HU5' HI25 HI35 hB6 hB56
  have hU6' : Below w.heap.size w ((w6.alloc (.cells #[.int .u16 X.val.id, .string X.val.space, .string X.val.name, .slice na nl nc, .slice ka kl kc] 26)).alloc (.cells #[.int .u8 (id / 256), .int .u8 (id % 256), .int .u8 0, .int .u8 0] 5)) := (hU6.alloc hU6.size _).alloc (by have := hU6.size; simp; omega) _
  have HF : Hid (IsB ((w6.alloc (.cells #[.int .u16 X.val.id, .string X.val.space, .string X.val.name, .slice na nl nc, .slice ka kl kc] 26)).alloc (.cells #[.int .u8 (id / 256), .int .u8 (id % 256), .int .u8 0, .int .u8 0] 5)) (some ⟨w6.heap.size + 1, 0, none⟩) 4 4 [id / 256, id % 256, 0, 0]) := isB_fours _ _ (by simp) _ _ (by omega) (by omega)
  go_wp2_with fail
  refine (getsRef 20 (by omega) _ _ 4 4 [id / 256, id % 256, 0, 0] HF.out (by omega) 0 (by omega) X (by rw [HX.out]; rfl) _ _ rfl rfl).mono ?_
  rintro e w7 ⟨na', nl', nc', ka', kl', kc', rfl, HTY7, HDD, hB7⟩
  have hbx : w7.heap[w6.heap.size]? = some (.cells #[.int .u16 X.val.id, .string X.val.space, .string X.val.name, .slice na nl nc, .slice ka kl kc] 26 (0, 0)) := by
    rw [hB7.block _ (by simp; omega)]
    rw [((Below.refl (w6.heap.size + 1) (w6.alloc (.cells #[.int .u16 X.val.id, .string X.val.space, .string X.val.name, .slice na nl nc, .slice ka kl kc] 26))).alloc (by simp) _).block _ (by omega)]
    exact heap_alloc_new w6 _
  obtain ⟨c0, c1, c2, c3, c4⟩ := cells5 hbx
  have hs7 := hB7.size
  simp at hs7
  have hs67 : w6.heap.size < w7.heap.size := by omega
  have HB67 : Hid (Below w6.heap.size w6 w7) := ((below_one w6 _).alloc (by simp) _).trans (hB7.mono (by simp; omega))
  have hU7 : Below w.heap.size w w7 := hU6.trans (HB67.out.mono hU6.size)
  have cv1 := ((HI26.out.old HB67.out).old (below_one w7 (.cells #[.int .u16 X.val.id, .string X.val.space, .string X.val.name, .slice na' nl' nc', .slice ka' kl' kc'] 26))).conv
  have cv2 := ((HI36.out.old HB67.out).old (below_one w7 (.cells #[.int .u16 X.val.id, .string X.val.space, .string X.val.name, .slice na' nl' nc', .slice ka' kl' kc'] 26))).conv
  generalize strOfNums B.1 = S at cv1 cv2
  obtain ⟨P, hP⟩ : ∃ P, P = place 0 X := ⟨_, rfl⟩
  rw [← hP]
  have HP : Hid _ := hP
  clear hbx hB7 hs7 hP HF hU6' HI26 HI36
  go_wp2_with fail
  refine (same_any 19 _ _ _ X.val _ _ _ _ _ _ _ _ _ _ _ _ ((HTY.out.old HB67.out).old (below_one _ _)) (HTY7.out.old (below_one _ _))).mono ?_
  rintro e w8 ⟨rfl, hB8⟩
  have hU8 : Below w.heap.size w w8 := (hU7.alloc hU7.size _).trans (hB8.mono (by have := hU7.size; simp; omega))
  by_cases he : X.err = 0
  · have hlr : IsB w6 r lr cr ([id / 256, id % 256, 0, 0].drop X.done) := by
      have := HBH.out
      rw [he] at this
      exact rest_isB this
    have hD := HDD.out he
    have hll := hlr.1
    rw [List.length_drop] at hll
    simp at hll
    have hPD : P = ((X.done : Nat) : Int) := by rw [HP.out, place, if_pos he, Nat.zero_add]
    have HEQ : Hid ((lr : Int) = 4 - P) := by show (lr : Int) = 4 - P; rw [hPD]; omega
    have hP0 : 0 ≤ P := by rw [hPD]; omega
    have hP1 : P ≤ 4 := by rw [hPD]; omega
    have tq : ((lr : Int) == 4 - P) = true := by rw [beq_iff_eq]; exact HEQ.out
    rw [he]
    clear hlr hD hll hPD HP HDD HBH hB8 hU7 HTY HTY7 he
    go_wp2_with fail
    go_ret
    exact ⟨by simp [tq], hU8⟩
  · have t : (X.err != 0) = true := by simpa using he
    clear he HP HDD HBH hB8 hU7 HTY HTY7
    go_wp2_with fail
    go_ret
    exact ⟨by simp, hU8⟩
end Go.Proofs.YtakaonfeegfmpaaDoor
