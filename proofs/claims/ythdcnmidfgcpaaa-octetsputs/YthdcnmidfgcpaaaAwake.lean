/-
  The document's examples, as the statements ask them first: awake answers true, and turns nothing that was there.
-/
import Derived.Test.YthdcnmidfgcpaaaTake
namespace Go.Proofs.Ythdcnmidfgcpaaa
open Go.RowKit
set_option linter.unusedVariables false

theorem put_258 (w : World) : Calls Try.prog 9 #[.int .u64 258, .int .i64 2] w fun e w' => e = .returned (.slice (some ⟨w.heap.size, 0, none⟩) 2 2) ∧ w' = w.alloc (.cells #[.int .u8 1, .int .u8 2] 5) := by
  have h := put_yes 258 2 w (by omega) (by omega) (by omega)
  have e : putCells 258 2 2 = #[.int .u8 1, .int .u8 2] := by simp [putCells, byteAt, List.range_succ]
  rw [e] at h
  exact h

theorem get_123 (g : Nat) (w : World) (h0 : w.cell? ⟨g, 0, none⟩ = some (.int .u8 1)) (h1 : w.cell? ⟨g, 1, none⟩ = some (.int .u8 2)) (h2 : w.cell? ⟨g, 2, none⟩ = some (.int .u8 3)) :
    Calls Try.prog 13 #[.slice (some ⟨g, 0, none⟩) 3 3, .int .i64 2] w fun e w' => e = .returned (.tuple #[.int .u64 258, .slice (some ⟨g, 2, none⟩) 1 1, .int .i64 0]) ∧ ∃ q, w' = w.drewN q := by
  have h := get_yes g 0 3 3 2 [1, 2, 3] w (by omega) (by omega) (by omega) (by omega) (by unfold maxLen; omega)
    (by
      intro i hi
      rcases (show i = 0 ∨ i = 1 ∨ i = 2 from by omega) with rfl | rfl | rfl
      · exact h0
      · exact h1
      · exact h2) (by simp)
    (by
      intro j
      match j with
      | 0 => simp
      | 1 => simp
      | 2 => simp
      | _ + 3 => simp)
  refine h.mono ?_
  rintro e w' ⟨off', q, ho, rfl, rfl⟩
  have := ho (by omega)
  subst this
  exact ⟨by simp [numTo], q, rfl⟩

theorem take_123 (g : Nat) (w : World) (hg : g < w.heap.size) (h0 : w.cell? ⟨g, 0, none⟩ = some (.int .u8 1)) (h1 : w.cell? ⟨g, 1, none⟩ = some (.int .u8 2)) (h2 : w.cell? ⟨g, 2, none⟩ = some (.int .u8 3)) :
    Calls Try.prog 15 #[.slice (some ⟨g, 0, none⟩) 3 3, .int .u64 2] w fun e w' => e = .returned (.tuple #[.slice (some ⟨w.heap.size, 0, none⟩) 2 2, .slice (some ⟨g, 2, none⟩) 1 1, .int .i64 0]) ∧ Below w.heap.size w w' := by
  have h := take_yes g 0 3 3 2 [1, 2, 3] w (by omega) (by omega) (by omega)
    (by
      intro i hi
      rcases (show i = 0 ∨ i = 1 ∨ i = 2 from by omega) with rfl | rfl | rfl
      · exact h0
      · exact h1
      · exact h2) (by simp) (fun _ => hg)
  refine h.mono ?_
  rintro e w' ⟨off', ho, rfl, _, hB⟩
  have := ho (by omega)
  subst this
  exact ⟨rfl, hB⟩

theorem signed_65535 (w : World) : Calls Try.prog 11 #[.int .u64 65535, .int .i64 2] w fun e w' => e = .returned (.int .i64 (-1)) ∧ w' = w := by
  have h := signed_yes 65535 2 w (by omega) (by omega)
  have e : sgn 65535 2 = -1 := by decide
  rw [e] at h
  exact h

theorem bcell {W w1 : World} (hb : Below W.heap.size W w1) : (∀ b o, b < W.heap.size → w1.cell? ⟨b, o, none⟩ = W.cell? ⟨b, o, none⟩) ∧ (∀ b o, b < W.heap.size → w1.frozen? ⟨b, o, none⟩ = W.frozen? ⟨b, o, none⟩) :=
  ⟨fun b o h => hb.cell (p := ⟨b, o, none⟩) h, fun b o h => hb.frozen (p := ⟨b, o, none⟩) h⟩

set_option maxHeartbeats 1000000 in
theorem awake_any (w : World) :
    Calls Try.prog 8 #[] w fun e w' => e = .returned (.bool true) ∧ Below w.heap.size w w' := by
  go_enter Try.func8, Try.ntmps8
  go_wp2_with fail
  refine (put_258 _).mono ?_
  rintro e w1 ⟨rfl, rfl⟩
  go_wp2_with fail
  refine (get_123 _ _ (by simp [go_sem]) (by simp [go_sem]) (by simp [go_sem])).mono ?_
  rintro e w2 ⟨rfl, q, rfl⟩
  go_wp2_with fail
  refine (take_123 _ _ (by simp [go_sem]) (by simp [go_sem]) (by simp [go_sem]) (by simp [go_sem])).mono ?_
  rintro e w3 ⟨rfl, hB⟩
  have c0 : w3.cell? ⟨w.heap.size, 0, none⟩ = some (.int .u8 1) := by rw [hB.cell (by simp [go_sem])]; simp [go_sem]
  have c1 : w3.cell? ⟨w.heap.size, 1, none⟩ = some (.int .u8 2) := by rw [hB.cell (by simp [go_sem])]; simp [go_sem]
  have hT : Below w.heap.size w w3 := by
    refine Below.trans ?_ (hB.mono (by simp; omega))
    exact (below_drewN (((Below.refl _ _).alloc (Nat.le_refl _) _).alloc (by simp) _) _).alloc (by simp; omega) _
  clear hB
  go_wp2_with (go_at_call 11; refine (signed_65535 _).mono ?_; rintro e w4 ⟨rfl, rfl⟩)
  go_ret
  exact ⟨rfl, hT⟩
end Go.Proofs.Ythdcnmidfgcpaaa
