/-
  The contracts of the functions that make the putters, and of the function that puts a prefix.
-/
import Derived.Test.YtkcnmmlakimonaaWrite
namespace Go.Proofs.Ytkcnmmlakimonaa
open Go.RowKit
set_option maxRecDepth 100000
set_option linter.unusedVariables false
set_option linter.unusedSimpArgs false

set_option maxHeartbeats 400000 in
theorem mkPT (t : Option Addr) (lt ct : Nat) (v1 : Option Addr) (l1 c1 : Nat) (v2 : Option Addr) (l2 c2 : Nat) (w : World) :
    Calls Try.prog 25 #[.agg #[.slice t lt ct, .slice v1 l1 c1, .slice v2 l2 c2]] w fun e w' => ∃ bx, e = .returned (.agg #[.int .u8 2, .int .i64 (lt : Nat), .func (.func 38) #[] #[.pointer (some ⟨bx, 0, none⟩)]]) ∧
      Hid (w'.heap[bx]? = some (.cells #[.slice t lt ct, .slice v1 l1 c1, .slice v2 l2 c2] 27 (0, 0))) ∧ Hid (Below w.heap.size w w') := by
  go_enter Try.func25, Try.ntmps25
  go_wp2_with fail
  exact bodyPost_ret (v := .agg #[.int .u8 2, .int .i64 (lt : Nat), .func (.func 38) #[] #[.pointer (some ⟨w.heap.size, 0, none⟩)]]) (by simp [results, Try.results25, go_sem]) rfl
    ⟨w.heap.size, rfl, blk_old (heap_alloc_new w _) (below_one _ _), (below_one w _).alloc (by simp) _⟩
set_option maxHeartbeats 400000 in
theorem mkPW (t : Option Addr) (lt ct : Nat) (v1 : Option Addr) (l1 c1 : Nat) (v2 : Option Addr) (l2 c2 : Nat) (w : World) :
    Calls Try.prog 26 #[.agg #[.slice t lt ct, .slice v1 l1 c1, .slice v2 l2 c2]] w fun e w' => ∃ bx, e = .returned (.agg #[.int .u8 8, .int .i64 (l1 : Nat), .func (.func 39) #[] #[.pointer (some ⟨bx, 0, none⟩)]]) ∧
      Hid (w'.heap[bx]? = some (.cells #[.slice t lt ct, .slice v1 l1 c1, .slice v2 l2 c2] 27 (0, 0))) ∧ Hid (Below w.heap.size w w') := by
  go_enter Try.func26, Try.ntmps26
  go_wp2_with fail
  exact bodyPost_ret (v := .agg #[.int .u8 8, .int .i64 (l1 : Nat), .func (.func 39) #[] #[.pointer (some ⟨w.heap.size, 0, none⟩)]]) (by simp [results, Try.results26, go_sem]) rfl
    ⟨w.heap.size, rfl, blk_old (heap_alloc_new w _) (below_one _ _), (below_one w _).alloc (by simp) _⟩
set_option maxHeartbeats 400000 in
theorem mkPP (t : Option Addr) (lt ct : Nat) (v1 : Option Addr) (l1 c1 : Nat) (v2 : Option Addr) (l2 c2 : Nat) (w : World) :
    Calls Try.prog 27 #[.agg #[.slice t lt ct, .slice v1 l1 c1, .slice v2 l2 c2]] w fun e w' => ∃ bx, e = .returned (.agg #[.int .u8 4, .int .i64 (l2 : Nat), .func (.func 41) #[] #[.pointer (some ⟨bx, 0, none⟩)]]) ∧
      Hid (w'.heap[bx]? = some (.cells #[.slice t lt ct, .slice v1 l1 c1, .slice v2 l2 c2] 27 (0, 0))) ∧ Hid (Below w.heap.size w w') := by
  go_enter Try.func27, Try.ntmps27
  go_wp2_with fail
  exact bodyPost_ret (v := .agg #[.int .u8 4, .int .i64 (l2 : Nat), .func (.func 41) #[] #[.pointer (some ⟨w.heap.size, 0, none⟩)]]) (by simp [results, Try.results27, go_sem]) rfl
    ⟨w.heap.size, rfl, blk_old (heap_alloc_new w _) (below_one _ _), (below_one w _).alloc (by simp) _⟩

/-- The box of the argument, in a later world. -/
def Box (W : World) (n : Nat) (t : Option Addr) (lt ct : Nat) (v1 : Option Addr) (l1 c1 : Nat) (v2 : Option Addr) (l2 c2 : Nat) : Prop :=
  W.cell? ⟨n, 0, none⟩ = some (.slice t lt ct) ∧ W.cell? ⟨n, 1, none⟩ = some (.slice v1 l1 c1) ∧ W.cell? ⟨n, 2, none⟩ = some (.slice v2 l2 c2)

theorem box_old {w W : World} {n : Nat} {t : Option Addr} {lt ct : Nat} {v1 : Option Addr} {l1 c1 : Nat} {v2 : Option Addr} {l2 c2 : Nat} (h : w.heap[n]? = some (.cells #[.slice t lt ct, .slice v1 l1 c1, .slice v2 l2 c2] 27 (0, 0))) (hB : Below w.heap.size w W) : Box W n t lt ct v1 l1 c1 v2 l2 c2 := by
  obtain ⟨k0, k1, k2, _⟩ := three_cells (blk_old h hB)
  exact ⟨k0, k1, k2⟩

theorem fromT {w W : World} (hW : Below w.heap.size w W) {n : Nat} {t : Option Addr} {lt ct : Nat} {v1 : Option Addr} {l1 c1 : Nat} {v2 : Option Addr} {l2 c2 : Nat} (h : w.heap[n]? = some (.cells #[.slice t lt ct, .slice v1 l1 c1, .slice v2 l2 c2] 27 (0, 0))) :
    Calls Try.prog 25 #[.agg #[.slice t lt ct, .slice v1 l1 c1, .slice v2 l2 c2]] W fun e w' => ∃ bx, e = .returned (.agg #[.int .u8 2, .int .i64 (lt : Nat), .func (.func 38) #[] #[.pointer (some ⟨bx, 0, none⟩)]]) ∧
      Hid (w'.heap[bx]? = some (.cells #[.slice t lt ct, .slice v1 l1 c1, .slice v2 l2 c2] 27 (0, 0))) ∧ Hid (Below W.heap.size W w') ∧ Hid (Below w.heap.size w w') ∧
      w'.cell? ⟨n, 0, none⟩ = some (.slice t lt ct) ∧ w'.cell? ⟨n, 1, none⟩ = some (.slice v1 l1 c1) ∧ w'.cell? ⟨n, 2, none⟩ = some (.slice v2 l2 c2) := by
  refine (mkPT t lt ct v1 l1 c1 v2 l2 c2 W).mono ?_
  rintro e w1 ⟨bx, rfl, HX, HB⟩
  have hB1 := hW.trans (HB.out.mono hW.size)
  exact ⟨bx, rfl, HX, HB, hB1, box_old h hB1⟩
theorem fromW {w W : World} (hW : Below w.heap.size w W) {n : Nat} {t : Option Addr} {lt ct : Nat} {v1 : Option Addr} {l1 c1 : Nat} {v2 : Option Addr} {l2 c2 : Nat} (h : w.heap[n]? = some (.cells #[.slice t lt ct, .slice v1 l1 c1, .slice v2 l2 c2] 27 (0, 0))) :
    Calls Try.prog 26 #[.agg #[.slice t lt ct, .slice v1 l1 c1, .slice v2 l2 c2]] W fun e w' => ∃ bx, e = .returned (.agg #[.int .u8 8, .int .i64 (l1 : Nat), .func (.func 39) #[] #[.pointer (some ⟨bx, 0, none⟩)]]) ∧
      Hid (w'.heap[bx]? = some (.cells #[.slice t lt ct, .slice v1 l1 c1, .slice v2 l2 c2] 27 (0, 0))) ∧ Hid (Below W.heap.size W w') ∧ Hid (Below w.heap.size w w') ∧
      w'.cell? ⟨n, 0, none⟩ = some (.slice t lt ct) ∧ w'.cell? ⟨n, 1, none⟩ = some (.slice v1 l1 c1) ∧ w'.cell? ⟨n, 2, none⟩ = some (.slice v2 l2 c2) := by
  refine (mkPW t lt ct v1 l1 c1 v2 l2 c2 W).mono ?_
  rintro e w1 ⟨bx, rfl, HX, HB⟩
  have hB1 := hW.trans (HB.out.mono hW.size)
  exact ⟨bx, rfl, HX, HB, hB1, box_old h hB1⟩
theorem fromP {w W : World} (hW : Below w.heap.size w W) {n : Nat} {t : Option Addr} {lt ct : Nat} {v1 : Option Addr} {l1 c1 : Nat} {v2 : Option Addr} {l2 c2 : Nat} (h : w.heap[n]? = some (.cells #[.slice t lt ct, .slice v1 l1 c1, .slice v2 l2 c2] 27 (0, 0))) :
    Calls Try.prog 27 #[.agg #[.slice t lt ct, .slice v1 l1 c1, .slice v2 l2 c2]] W fun e w' => ∃ bx, e = .returned (.agg #[.int .u8 4, .int .i64 (l2 : Nat), .func (.func 41) #[] #[.pointer (some ⟨bx, 0, none⟩)]]) ∧
      Hid (w'.heap[bx]? = some (.cells #[.slice t lt ct, .slice v1 l1 c1, .slice v2 l2 c2] 27 (0, 0))) ∧ Hid (Below W.heap.size W w') ∧ Hid (Below w.heap.size w w') ∧
      w'.cell? ⟨n, 0, none⟩ = some (.slice t lt ct) ∧ w'.cell? ⟨n, 1, none⟩ = some (.slice v1 l1 c1) ∧ w'.cell? ⟨n, 2, none⟩ = some (.slice v2 l2 c2) := by
  refine (mkPP t lt ct v1 l1 c1 v2 l2 c2 W).mono ?_
  rintro e w1 ⟨bx, rfl, HX, HB⟩
  have hB1 := hW.trans (HB.out.mono hW.size)
  exact ⟨bx, rfl, HX, HB, hB1, box_old h hB1⟩

theorem write_from {w W : World} (hW : Below w.heap.size w W) {n : Nat} {t : Option Addr} {lt ct : Nat} {v1 : Option Addr} {l1 c1 : Nat} {v2 : Option Addr} {l2 c2 : Nat} (h : w.heap[n]? = some (.cells #[.slice t lt ct, .slice v1 l1 c1, .slice v2 l2 c2] 27 (0, 0))) {g b1 b2 b3 : Nat}
    (hL : LiesP W t lt ct v1 l1 c1 v2 l2 c2 g b1 b2 b3) {x : Pre} (hV : PV w t lt ct v1 l1 c1 v2 l2 c2 x) (hF : Fit7 x) {Y : Wr} (hY : Y = wr0 x) :
    Calls Try.prog 24 #[.slice (some ⟨g, 0, none⟩) 3 3] W fun e w' => ∃ a cp, e = .returned (.tuple #[.slice a Y.1.length cp, .int .u8 Y.2.1, .int .i64 Y.2.2]) ∧ Hid (Put w' w.heap.size a cp Y.1) ∧ Hid (Below w.heap.size w w') ∧
      w'.cell? ⟨n, 0, none⟩ = some (.slice t lt ct) ∧ w'.cell? ⟨n, 1, none⟩ = some (.slice v1 l1 c1) ∧ w'.cell? ⟨n, 2, none⟩ = some (.slice v2 l2 c2) := by
  refine (write_any hL (hV.old hW) hF hY).mono ?_
  rintro e w1 ⟨a, cp, rfl, HP, HB⟩
  have hB1 := hW.trans (HB.out.mono hW.size)
  exact ⟨a, cp, rfl, HP.out.mono hW.size, hB1, box_old h hB1⟩

set_option maxHeartbeats 4000000 in
theorem put_any {w : World} {t : Option Addr} {lt ct : Nat} {v1 : Option Addr} {l1 c1 : Nat} {v2 : Option Addr} {l2 c2 : Nat} {x : Pre} (hV : PV w t lt ct v1 l1 c1 v2 l2 c2 x) (hF : Fit7 x) {Y : Wr} (hY : Y = wr0 x) :
    Calls Try.prog 13 #[.agg #[.slice t lt ct, .slice v1 l1 c1, .slice v2 l2 c2]] w fun e w' => ∃ a cp, e = .returned (.tuple #[.slice a Y.1.length cp, .int .u8 Y.2.1, .int .i64 Y.2.2]) ∧ Hid (Put w' w.heap.size a cp Y.1) ∧ Hid (Below w.heap.size w w') := by
  obtain ⟨w0, hw0⟩ : ∃ w0, w0 = w.alloc (.cells #[.slice t lt ct, .slice v1 l1 c1, .slice v2 l2 c2] 27) := ⟨_, rfl⟩
  have HB0 : Hid (w0.heap[w.heap.size]? = some (.cells #[.slice t lt ct, .slice v1 l1 c1, .slice v2 l2 c2] 27 (0, 0))) := by rw [hw0]; exact heap_alloc_new w _
  have HW0 : Hid (Below w.heap.size w w0) := by rw [hw0]; exact below_one w _
  have HV0 : Hid (PV w0 t lt ct v1 l1 c1 v2 l2 c2 x) := hV.old HW0.out
  have HF : Hid (Fit7 x) := hF
  have HY : Hid (Y = wr0 x) := hY
  have hD : Hid (Below w0.heap.size w0 w0.drew) := (Below.refl w0.heap.size w0).drew
  obtain ⟨s0, s1, s2⟩ := box_old HB0.out (Below.refl w0.heap.size w0)
  obtain ⟨d0, d1, d2⟩ := box_old HB0.out hD.out
  clear hV hF hY
  go_enter Try.func13, Try.ntmps13
  go_wp2_with fail
  rw [← hw0]
  clear hw0
  go_region_held3 (fun W => W.cell? ⟨w.heap.size, 0, none⟩ = some (.slice t lt ct) ∧ W.cell? ⟨w.heap.size, 1, none⟩ = some (.slice v1 l1 c1) ∧ W.cell? ⟨w.heap.size, 2, none⟩ = some (.slice v2 l2 c2)) (first | (refine ⟨?_, ?_, ?_⟩ <;> assumption) | go_keep) (first
    | (go_at_call 25; refine (fromT hD.out HB0.out).mono ?_; rintro e w1 ⟨b1, rfl, HX1, HC1, HD1, e0, e1, e2⟩)
    | (go_at_call 26; refine (fromW HD1.out HB0.out).mono ?_; rintro e w2 ⟨b2, rfl, HX2, HC2, HD2, g0, g1, g2⟩)
    | (go_at_call 27; refine (fromP HD2.out HB0.out).mono ?_; rintro e w3 ⟨b3, rfl, HX3, HC3, HD3, h0, h1, h2⟩; obtain ⟨h3, h4, h5⟩ := box_old HB0.out (HD3.out.alloc HD3.out.size (.cells (puts3 lt l1 l2 b1 b2 b3) 66)); have HL : Hid (LiesP (w3.alloc (.cells (puts3 lt l1 l2 b1 b2 b3) 66)) t lt ct v1 l1 c1 v2 l2 c2 w3.heap.size b1 b2 b3) := ⟨heap_alloc_new w3 _, blk_old HX1.out ((HC2.out.trans (HC3.out.mono HC2.out.size)).alloc (Nat.le_trans HC2.out.size HC3.out.size) _), blk_old HX2.out (HC3.out.alloc HC3.out.size _), blk_old HX3.out (below_one _ _)⟩)
    | (go_at_call 24; refine (write_from (HD3.out.alloc HD3.out.size _) HB0.out HL.out HV0.out HF.out HY.out).mono ?_; rintro e w4 ⟨a, cp, rfl, HP, HD4, i0, i1, i2⟩))
  all_goals (go_wp2_with fail; go_ret3; exact ⟨a, cp, rfl, HP.out.mono HW0.out.size, HW0.out.trans (HD4.out.mono HW0.out.size)⟩)
end Go.Proofs.Ytkcnmmlakimonaa
