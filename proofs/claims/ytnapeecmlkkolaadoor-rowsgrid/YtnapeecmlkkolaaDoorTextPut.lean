/-
  The contracts of prims.Text, Long, Consistency and of the document's Text and Long.
-/
import Derived.Test.YtnapeecmlkkolaaDoorTextGet
import Derived.Lib.AppendStr
namespace Go.Proofs.YtnapeecmlkkolaaDoor
open Go.RowKit
set_option linter.unusedVariables false
set_option linter.unusedSimpArgs false

theorem below_one (w : World) (o : Obj) : Below w.heap.size w (w.alloc o) := (Below.refl _ _).alloc (Nat.le_refl _) _

/-- A text's bytes as numbers. -/
def sNums (s : ByteArray) : List Int := s.data.toList.map fun c => (c.toNat : Int)

theorem sNums_cells (s : ByteArray) : Lib.strCells s = (sNums s).map (Value.int .u8) := by
  simp [Lib.strCells, sNums, Function.comp_def]

theorem sNums_length (s : ByteArray) : (sNums s).length = s.size := by
  rw [sNums, List.length_map, Array.length_toList]
  rfl

theorem sNums_range (s : ByteArray) : ∀ j : Nat, 0 ≤ (sNums s)[j]?.getD 0 ∧ (sNums s)[j]?.getD 0 ≤ 255 := by
  intro j
  by_cases h : j < (sNums s).length
  · rw [List.getElem?_eq_getElem h, Option.getD_some]
    have hj : j < s.data.toList.length := by simpa [sNums] using h
    have : (sNums s)[j] = ((s.data.toList[j]).toNat : Int) := by simp [sNums]
    rw [this]
    have := (s.data.toList[j]).toNat_lt
    omega
  · rw [List.getElem?_eq_none (by omega)]; simp

theorem strOfNums_sNums (s : ByteArray) : strOfNums (sNums s) = s := by
  apply ByteArray.ext
  apply Array.ext'
  simp [strOfNums, sNums, Function.comp_def]

theorem range_append {A B : List Int} (hA : ∀ j : Nat, 0 ≤ A[j]?.getD 0 ∧ A[j]?.getD 0 ≤ 255) (hB : ∀ j : Nat, 0 ≤ B[j]?.getD 0 ∧ B[j]?.getD 0 ≤ 255) :
    ∀ j : Nat, 0 ≤ (A ++ B)[j]?.getD 0 ∧ (A ++ B)[j]?.getD 0 ≤ 255 := by
  intro j
  by_cases h : j < A.length
  · rw [List.getElem?_append_left h]; exact hA j
  · rw [List.getElem?_append_right (by omega)]; exact hB _

/-- A slice that owns its row of bytes X, n long. -/
def OwnB (w : World) (base : Nat) (v : Value) (n : Nat) (X : List Int) : Prop := w.ownsRow base 5 1 v n (X.map (Value.int .u8))

theorem OwnB.len {w : World} {base : Nat} {v : Value} {n : Nat} {X : List Int} (h : OwnB w base v n X) : X.length = n := by
  have := h.1; simpa using this

theorem OwnB.row {w : World} {base : Nat} {v : Value} {n : Nat} {X : List Int} (h : OwnB w base v n X) (hp : 0 < n) (hr : ∀ j : Nat, 0 ≤ X[j]?.getD 0 ∧ X[j]?.getD 0 ≤ 255) :
    ∃ g cap, v = .slice (some ⟨g, 0, none⟩) n cap ∧ base ≤ g ∧ g < w.heap.size ∧ BRow w g 0 n cap X := by
  obtain ⟨g, cap, rfl, hnc, hcm, hg, hgs, hcell⟩ := own_full h hp
  exact ⟨g, cap, rfl, hg, hgs, h.len, hnc, hcm, fun _ => hgs, fun i hi => by rw [Nat.zero_add]; exact hcell i hi, hr⟩

theorem putCells_full (x : Int) (n : Nat) : (putCells x n n).toList = (putL x n).map (Value.int .u8) := by
  simp only [putCells, putL, List.map_map]
  apply List.map_congr_left
  intro i hi
  rw [List.mem_range] at hi
  simp [hi]

theorem put_own (x : Int) (n : Nat) (w : World) (h1 : 1 ≤ n) (h2 : n ≤ 8) (hx : 0 ≤ x) (m : Int) (hm : m = n) :
    Calls Tryd.prog 80 #[.int .u64 x, .int .i64 m] w fun e w' => ∃ v, e = .returned v ∧ OwnB w' w.heap.size v n (putL x n) ∧ Below w.heap.size w w' := by
  subst hm
  refine (put_yes x n w h1 h2 hx).mono ?_
  rintro e w' ⟨rfl, rfl⟩
  refine ⟨_, rfl, ⟨by simp [putL_length], .inr ⟨w.heap.size, n, putCells x n n, rfl, Nat.le_refl _, heap_alloc_new w _, Nat.le_refl _, by unfold maxLen; omega, by simp [putCells_size], ?_⟩⟩, below_one _ _⟩
  rw [Nat.mul_one, putCells_full, List.take_of_length_le (by simp [putL_length])]

theorem rput_own (x : Int) (n : Nat) (w : World) (h1 : 1 ≤ n) (h2 : n ≤ 8) (hx : 0 ≤ x) (hx2 : x < 18446744073709551616) (m : Int) (hm : m = n) :
    Calls Tryd.prog 36 #[.int .u64 x, .int .i64 m] w fun e w' => ∃ v, e = .returned v ∧ OwnB w' w.heap.size v n (putL x n) ∧ Below w.heap.size w w' := by
  subst hm
  exact rput_yes x n w h1 h2 hx hx2

theorem OwnB.join {w : World} {base : Nat} {v : Value} {n m : Nat} {X Y : List Int} {cs : List Value} (h : w.ownsRow base 5 1 v (n + m) (X.map (Value.int .u8) ++ cs)) (hc : cs = Y.map (Value.int .u8)) : OwnB w base v (n + m) (X ++ Y) := by
  subst hc; rw [← List.map_append] at h; exact h

theorem OwnB.block {w : World} {base : Nat} {v : Value} {n : Nat} {X : List Int} (h : OwnB w base v n X) : ∀ k, v.ownBlock = some k → base ≤ k := fun k hk => (World.ownsRow.lt h k hk).1

set_option maxHeartbeats 400000 in
theorem text_yes (s : ByteArray) (w : World) (hs : s.size ≤ 65535) :
    Calls Tryd.prog 82 #[.string s] w fun e w' => ∃ v, e = .returned (.tuple #[v, .int .i64 0]) ∧ OwnB w' w.heap.size v (2 + s.size) (putL s.size 2 ++ sNums s) ∧ Below w.heap.size w w' := by
  obtain ⟨i0, hi, hz0, hz1, hz2⟩ := info_parts Tryd.info5
  have HI : Hid (Tryd.prog.info? 5 = some i0 ∧ i0.zero = some (.int .u8 0) ∧ i0.size = 1 ∧ i0.bytes = 1) := ⟨hi, hz0, hz1, hz2⟩
  clear hi hz0 hz1 hz2
  go_enter Tryd.func82, Tryd.ntmps82
  go_wp2_with fail
  refine (put_own s.size 2 _ (by omega) (by omega) (by omega) _ rfl).mono ?_
  rintro e w1 ⟨v, rfl, ho, hB⟩
  have HO : Hid _ := ho
  clear ho
  go_wp2_with (at_builtin; refine Lib.wpList_append_own_string _ rfl (.tmp 10) (.tmp 11) 22 9 rfl w.heap.size 5 i0 Tryd.underlying22 Tryd.underlying9 HI.out.1 HI.out.2.1 HI.out.2.2.1 HI.out.2.2.2 _ _ _ rfl HO.out s rfl ?c1 ?c2 ?c3 ?_)
  case c1 => unfold maxLen; omega
  case c2 => omega
  case c3 => exact hB.size
  intro v2 w2 ho2 hg _
  have HO2 : Hid _ := OwnB.join ho2 (sNums_cells s)
  have hB2 : Below w.heap.size w w2 := hB.grown hg hB.size (OwnB.block HO.out)
  clear ho2 hg
  go_wp2_with fail
  go_ret2
  exact ⟨v2, rfl, HO2.out, hB2⟩

set_option maxHeartbeats 400000 in
theorem rtext_yes (s : ByteArray) (w : World) (hs : s.size ≤ 65535) :
    Calls Tryd.prog 38 #[.string s] w fun e w' => ∃ v, e = .returned (.tuple #[v, .int .i64 0]) ∧ OwnB w' w.heap.size v (2 + s.size) (putL s.size 2 ++ sNums s) ∧ Below w.heap.size w w' := by
  obtain ⟨i0, hi, hz0, hz1, hz2⟩ := info_parts Tryd.info5
  have HI : Hid (Tryd.prog.info? 5 = some i0 ∧ i0.zero = some (.int .u8 0) ∧ i0.size = 1 ∧ i0.bytes = 1) := ⟨hi, hz0, hz1, hz2⟩
  clear hi hz0 hz1 hz2
  go_enter Tryd.func38, Tryd.ntmps38
  go_wp2_with fail
  refine (rput_own s.size 2 _ (by omega) (by omega) (by omega) (by omega) _ rfl).mono ?_
  rintro e w1 ⟨v, rfl, ho, hB⟩
  have HO : Hid _ := ho
  clear ho
  go_wp2_with (at_builtin; refine Lib.wpList_append_own_string _ rfl (.tmp 12) (.tmp 13) 22 9 rfl w.heap.size 5 i0 Tryd.underlying22 Tryd.underlying9 HI.out.1 HI.out.2.1 HI.out.2.2.1 HI.out.2.2.2 _ _ _ rfl HO.out s rfl ?c1 ?c2 ?c3 ?_)
  case c1 => unfold maxLen; omega
  case c2 => omega
  case c3 => exact hB.size
  intro v2 w2 ho2 hg _
  have HO2 : Hid _ := OwnB.join ho2 (sNums_cells s)
  have hB2 : Below w.heap.size w w2 := hB.grown hg hB.size (OwnB.block HO.out)
  clear ho2 hg
  go_wp2_with fail
  go_ret2
  exact ⟨v2, rfl, HO2.out, hB2⟩
end Go.Proofs.YtnapeecmlkkolaaDoor
