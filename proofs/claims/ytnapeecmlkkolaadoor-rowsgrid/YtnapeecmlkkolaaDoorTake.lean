/-
  The contract of octets.Take, over the translation.
-/
import Derived.Test.YtnapeecmlkkolaaDoorBase
import Derived.Laws.CopyOwn
namespace Go.Proofs.YtnapeecmlkkolaaDoor
open Go.RowKit
set_option linter.unusedVariables false

theorem Tryd.size5 : (Tryd.prog.info? 5).map (·.size) = some 1 := by kernel_rfl

set_option maxHeartbeats 400000 in
theorem take_short (b : Option Addr) (len cap : Nat) (n : Int) (w : World) (hm : len ≤ maxLen) (h : (len : Int) < n) :
    Calls Tryd.prog 68 #[.slice b len cap, .int .u64 n] w fun e w' => e = .returned (.tuple #[.slice none 0 0, .slice none 0 0, .int .i64 10]) ∧ w' = w := by
  unfold maxLen at hm
  go_enter Tryd.func68, Tryd.ntmps68
  go_wp2
  go_ret3
  exact ⟨rfl, rfl⟩

theorem bytes_one (zs : List Int) : ∀ v ∈ zs.map (Value.int .u8), v.oneCell' = true := by
  intro v hv; obtain ⟨z, _, rfl⟩ := List.mem_map.1 hv; rfl

theorem splice_all (z : Value) (n : Nat) (cs : List Value) (h : cs.length = n) : splice (List.replicate n z) 0 cs = cs := by
  simp [splice, h]

set_option maxHeartbeats 400000 in
theorem take_yes (b off len cap n : Nat) (zs : List Int) (w : World) (hl : n ≤ len) (hc : len ≤ cap) (hm0 : cap ≤ maxLen) (hsm : len ≤ 140737488351232)
    (hcell : ∀ i, i < len → w.cell? ⟨b, off + i, none⟩ = some (.int .u8 (zs.getD i 0))) (hz : len ≤ zs.length) (hbl : 0 < len → b < w.heap.size) :
    Calls Tryd.prog 68 #[.slice (some ⟨b, off, none⟩) len cap, .int .u64 n] w fun e w' => ∃ off', (n < len → off' = off + n) ∧
      e = .returned (.tuple #[.slice (some ⟨w.heap.size, 0, none⟩) n n, .slice (some ⟨b, off', none⟩) (len - n) (cap - n), .int .i64 0]) ∧
      w'.heap[w.heap.size]? = some (.cells ((zs.take n).map (Value.int .u8)).toArray 5 (0, 0)) ∧ Below w.heap.size w w' := by
  have hm := hm0
  unfold maxLen at hm
  clear hm0
  have hmk := run_make_row' (P := Tryd.prog) 22 5 (.int .u8 0) 1 Tryd.underlying22 Tryd.info5 rfl .u64 .u64 n (by omega) (by omega)
  obtain ⟨X, hX⟩ : ∃ X, X = (zs.take n).map (Value.int .u8) := ⟨_, rfl⟩
  have hXl : X.length = n := by rw [hX]; simp; omega
  have hX1 : ∀ v ∈ X, v.oneCell' = true := by rw [hX]; exact bytes_one _
  have hXc : ∀ j v, X[j]? = some v → w.cell? ⟨b, off + j, none⟩ = some v ∧ b < w.heap.size := by
    intro j v hj
    have hjn : j < n := by have := (List.getElem?_eq_some_iff.1 hj).1; omega
    rw [hX, List.getElem?_map, List.getElem?_take_of_lt hjn] at hj
    have := hcell j (by omega)
    rw [List.getD_eq_getElem?_getD] at this
    obtain ⟨z, hz1, rfl⟩ := Option.map_eq_some_iff.1 hj
    rw [hz1] at this
    exact ⟨this, hbl (by omega)⟩
  obtain ⟨Z, hZ⟩ : ∃ Z, Z = List.replicate n (Value.int .u8 0) := ⟨_, rfl⟩
  have hZm : madeCells #[.int .u8 0] n = Z.toArray := by rw [hZ]; apply Array.ext'; rw [toList_madeCells_one]
  rw [hZm] at hmk
  have hZl : Z.length = n := by rw [hZ]; simp
  have HS : Hid (splice Z 0 X = (zs.take n).map (Value.int .u8)) := by rw [← hX, hZ]; exact splice_all _ _ _ hXl
  have HXl : Hid (X.length = n) := hXl
  have HZl : Hid (Z.length = n) := hZl
  have HXc : Hid (∀ j v, X[j]? = some v → w.cell? ⟨b, off + j, none⟩ = some v ∧ b < w.heap.size) := hXc
  have HX1 : Hid (∀ v ∈ X, v.oneCell' = true) := hX1
  clear hX hZ hXl hZl hZm hXc hX1 hcell hbl
  go_enter Tryd.func68, Tryd.ntmps68
  go_wp2_with (refine wpList_copy_splice rfl (.tmp 15) (.tmp 16) 22 22 rfl 5 Tryd.underlying22 Tryd.size5 _ _ _ _ _ _ rfl rfl w.heap.size 0 Z 5 ?ca X ?cb ?cc ?cd ?ce w.heap.size w ?cf ?cg ?_; rotate_right; intro w2 hG hB)
  case ca => exact heap_alloc_new w _
  case cb => rw [HXl.out]; show n = min len n; omega
  case cc =>
    intro _ j v hj
    have h2 := HXc.out j v hj
    rw [World.cell?_alloc_past _ _ _ h2.2]
    exact h2.1
  case cd => rw [HXl.out, HZl.out]; omega
  case ce => exact HX1.out
  case cf => exact (Below.refl _ _).alloc (Nat.le_refl _) _
  case cg => exact Nat.le_refl _
  have HG : Hid (w2.heap[w.heap.size]? = some (.cells ((zs.take n).map (Value.int .u8)).toArray 5 (0, 0))) := by
    have h := hG.out; rw [HS.out] at h; exact h
  clear hG HS HXc HX1 HXl HZl hmk
  by_cases hck : cap = n
  · subst hck
    go_quiet (fail)
    go_wp2
    go_ret3
    refine ⟨off, fun h => by omega, by simp; omega, ?_, ?_⟩
    · exact HG.out
    · exact below_drewN hB _
  · go_quiet (fail)
    go_wp2
    go_ret3
    refine ⟨off + n, fun h => rfl, rfl, ?_, ?_⟩
    · exact HG.out
    · exact below_drewN hB _

set_option maxHeartbeats 400000 in
theorem take_nil (w : World) :
    Calls Tryd.prog 68 #[.slice none 0 0, .int .u64 0] w fun e w' =>
      e = .returned (.tuple #[.slice (some ⟨w.heap.size, 0, none⟩) 0 0, .slice none 0 0, .int .i64 0]) ∧
      w'.heap[w.heap.size]? = some (.cells #[] 5 (0, 0)) ∧ Below w.heap.size w w' := by
  have hmk := fun w => run_make_row' (P := Tryd.prog) 22 5 (.int .u8 0) 1 Tryd.underlying22 Tryd.info5 rfl .u64 .u64 0 (by omega) (by omega) w
  have e0 : madeCells #[.int .u8 0] 0 = #[] := by simp [madeCells]
  simp only [e0, Int.natCast_zero] at hmk
  go_enter Tryd.func68, Tryd.ntmps68
  go_wp2_with (refine wpList_copy_splice rfl (.tmp 15) (.tmp 16) 22 22 rfl 5 Tryd.underlying22 Tryd.size5 _ _ _ _ _ _ rfl rfl w.heap.size 0 [] 5 ?ca [] ?cb ?cc ?cd ?ce w.heap.size w ?cf ?cg ?_; rotate_right; intro w2 hG hB)
  case ca => exact heap_alloc_new w _
  case cb => rfl
  case cd => simp
  case ce => intro v hv; simp at hv
  case cf => exact (Below.refl _ _).alloc (Nat.le_refl _) _
  case cg => exact Nat.le_refl _
  go_quiet (fail)
  go_wp2
  go_ret3
  refine ⟨rfl, ?_, ?_⟩
  · have h := hG.out; simpa [splice] using h
  · exact below_drewN hB _


end Go.Proofs.YtnapeecmlkkolaaDoor
