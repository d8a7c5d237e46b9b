/-
  OctetsSigns walked: it answers true, and turns nothing that was there.
-/
import Derived.Test.YthdcnmidfgcpaaaAwake
import Derived.OpenShut
namespace Go.Proofs.Ythdcnmidfgcpaaa
open Go.RowKit
set_option linter.unusedVariables false

theorem put_at (x m : Int) (n : Nat) (w : World) (hm : m = n) (h1 : 1 ≤ n) (h2 : n ≤ 8) (hx : 0 ≤ x) :
    Calls Try.prog 9 #[.int .u64 x, .int .i64 m] w fun e w' => e = .returned (.slice (some ⟨w.heap.size, 0, none⟩) n n) ∧ w' = w.alloc (.cells (putCells x n n) 5) := by
  subst hm; exact put_yes x n w h1 h2 hx

theorem putL_getD (x : Int) (n i : Nat) (h : i < n) : (putL x n).getD i 0 = byteAt x n i := by
  simp [putL, List.getD_eq_getElem?_getD, List.getElem?_range h]

theorem putCells_get (x : Int) (n i : Nat) (h : i < n) : (putCells x n n)[i]? = some (.int .u8 ((putL x n).getD i 0)) := by
  rw [putL_getD x n i h]; simp [putCells, h]

/-- What was put, and lies at the head of block g, is got. -/
theorem get_put (x m : Int) (n g : Nat) (w : World) (hm : m = n) (h1 : 1 ≤ n) (h2 : n ≤ 8) (hcell : ∀ i, i < n → w.cell? ⟨g, i, none⟩ = (putCells x n n)[i]?) :
    Calls Try.prog 13 #[.slice (some ⟨g, 0, none⟩) n n, .int .i64 m] w fun e w' => ∃ off' q, e = .returned (.tuple #[.int .u64 (x % 2 ^ (8 * n)), .slice (some ⟨g, off', none⟩) 0 0, .int .i64 0]) ∧ w' = w.drewN q := by
  subst hm
  refine (get_yes g 0 n n n (putL x n) w h1 h2 (Nat.le_refl _) (Nat.le_refl _) (by unfold maxLen; omega) (fun i hi => by rw [Nat.zero_add, hcell i hi, putCells_get x n i hi]) (by simp [putL_length]) (putL_range x n)).mono ?_
  rintro e w' ⟨off', q, _, rfl, rfl⟩
  have := numTo_putL x n [] h1 h2
  rw [List.append_nil] at this
  exact ⟨off', q, by rw [this, Nat.sub_self], rfl⟩

theorem signed_at (x m : Int) (n : Nat) (w : World) (hm : m = n) (h1 : 1 ≤ n) (h2 : n ≤ 8) :
    Calls Try.prog 11 #[.int .u64 x, .int .i64 m] w fun e w' => e = .returned (.int .i64 (sgn x n)) ∧ w' = w := by
  subst hm; exact signed_yes x n w h1 h2

theorem sgn_eight (x : Int) (h1 : -9223372036854775808 ≤ x) (h2 : x ≤ 9223372036854775807) : sgn (IntKind.u64.wrap x) 8 = x := by
  rw [IntKind.wrap_u64]; simp [sgn]; omega

theorem sgn_cut (X : Int) (k : Nat) (h1 : 1 ≤ k) (h2 : k ≤ 8) : sgn (X % 2 ^ (8 * k)) k = sgn X k := by
  rcases one_to_eight h1 h2 with rfl | rfl | rfl | rfl | rfl | rfl | rfl | rfl <;> simp [sgn]

theorem sgn_low (X : Int) (k : Nat) (h1 : 1 ≤ k) (h2 : k ≤ 8) : -2 ^ (8 * k - 1) ≤ sgn X k ∧ sgn X k < 2 ^ (8 * k - 1) := by
  rcases one_to_eight h1 h2 with rfl | rfl | rfl | rfl | rfl | rfl | rfl | rfl <;> (simp [sgn]; omega)

theorem sgn_same (x : Int) (k : Nat) (h1 : 1 ≤ k) (h2 : k ≤ 8) : IntKind.u64.wrap (IntKind.u64.wrap x * 2 ^ (64 - 8 * k)) = IntKind.u64.wrap (IntKind.u64.wrap (sgn (IntKind.u64.wrap x) k) * 2 ^ (64 - 8 * k)) := by
  simp only [IntKind.wrap_u64]
  rcases one_to_eight h1 h2 with rfl | rfl | rfl | rfl | rfl | rfl | rfl | rfl <;> (simp [sgn]; omega)

theorem half_of (k : Nat) (h1 : 1 ≤ k) (h2 : k ≤ 7) : ∃ H : Int, wrap64 (2 ^ (8 * k - 1)) = H ∧ 0 ≤ H ∧ H ≤ 4611686018427387904 ∧ H = 2 ^ (8 * k - 1) := by
  rcases (show k = 1 ∨ k = 2 ∨ k = 3 ∨ k = 4 ∨ k = 5 ∨ k = 6 ∨ k = 7 from by omega) with rfl | rfl | rfl | rfl | rfl | rfl | rfl <;>
  (refine ⟨_, IntWalk.wrap64_in _ ⟨by decide, by decide⟩, by decide, by decide, rfl⟩)

set_option maxHeartbeats 1000000 in
theorem signs_walk (x n : Int) (wx : (Lit.int .i64 x).wf = true) (w : World) :
    Calls Try.prog 6 #[.int .i64 x, .int .i64 n] w fun e w' => e = .returned (.bool true) ∧ Below w.heap.size w w' := by
  obtain ⟨j, hj, hj7⟩ : ∃ j : Nat, n % 8 = j ∧ j ≤ 7 := ⟨(n % 8).toNat, by omega, by omega⟩
  have hand := i64_and7 n
  rw [hj] at hand
  clear hj
  obtain ⟨X, hX⟩ : ∃ X, X = IntKind.u64.wrap x := ⟨_, rfl⟩
  have hX0 : 0 ≤ X := by rw [hX, IntKind.wrap_u64]; omega
  have HX : Hid (X = IntKind.u64.wrap x) := hX
  clear hX
  go_enter Try.func6, Try.ntmps6
  go_wp2_with fail
  refine (awake_any _).mono ?_
  rintro e w1 ⟨rfl, hB1⟩
  go_wp2_with fail
  rw [← HX.out]
  refine (put_at X _ (j + 1) _ (by simp) (by omega) (by omega) hX0).mono ?_
  rintro e w2 ⟨rfl, rfl⟩
  go_wp2_with fail
  refine (get_put X _ (j + 1) _ _ (by simp) (by omega) (by omega) (fun i hi => by simp [go_sem])).mono ?_
  rintro e w3 ⟨off', q, rfl, rfl⟩
  go_wp2_with fail
  refine (signed_at _ _ (j + 1) _ (by simp) (by omega) (by omega)).mono ?_
  rintro e w3 ⟨rfl, rfl⟩
  have hx := bounds_i64 wx
  have e8 := sgn_eight x hx.1 (by omega)
  have ec := sgn_cut X (j + 1) (by omega) (by omega)
  have el := sgn_low X (j + 1) (by omega) (by omega)
  have es := sgn_same x (j + 1) (by omega) (by omega)
  have E8 : Hid (sgn X 8 = x) := by rw [HX.out]; exact e8
  rw [← HX.out] at es
  have ej : j + 1 = 8 → sgn X (j + 1) = x := fun h => by rw [h]; exact E8.out
  rw [ec]
  clear e8 ec hx wx
  generalize sgn X (j + 1) = S at *
  have HJ : Hid (j + 1 = 8 → S = x) := ej
  have HS : Hid (IntKind.u64.wrap (X * 2 ^ (64 - 8 * (j + 1))) = IntKind.u64.wrap (IntKind.u64.wrap S * 2 ^ (64 - 8 * (j + 1)))) := es
  clear ej es
  go_wp2_with fail
  rw [← HX.out]
  refine (signed_at _ _ 8 _ (by simp) (by omega) (by omega)).mono ?_
  rintro e w3 ⟨rfl, rfl⟩
  rw [E8.out]
  have hT : Below w.heap.size w ((w1.alloc (Obj.cells (putCells X (j + 1) (j + 1)) 5)).drewN q) := below_drewN (hB1.alloc (by have := hB1.size; omega) _) _
  by_cases h8 : 7 ≤ j
  · have hSx := HJ.out (by omega)
    subst hSx
    clear el
    go_wp2
    go_ret
    exact ⟨by simp, hT⟩
  · obtain ⟨H, hH, hH0, hH1, hHe⟩ := half_of (j + 1) (by omega) (by omega)
    rw [← hHe] at el
    clear hHe
    obtain ⟨el1, el2⟩ := el
    go_wp2
    go_ret
    refine ⟨?_, hT⟩
    have h := HS.out
    rw [HX.out] at h
    have hb := beq_iff_eq.2 h
    exact congrArg (fun b => Ending.returned (.bool b)) hb
end Go.Proofs.Ythdcnmidfgcpaaa
