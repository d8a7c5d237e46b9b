/-
  Arguments opened: rows of rows of bytes, and frames, as they come in.
-/
import Derived.Test.YtabadlgjocgkjaaBodies
import Derived.Deep.Strs
import Derived.ChangeSame
namespace Go.Proofs.Ytabadlgjocgkjaa
open Go.RowKit Go.ChangeShapes Go.WideShapes Go.Deep
set_option linter.unusedVariables false
set_option linter.unusedSimpArgs false

theorem cells5 : Try.prog.cellsOf 5 = 1 := by kernel_rfl
theorem cells26 : Try.prog.cellsOf 26 = 1 := by kernel_rfl
theorem cells39 : Try.prog.cellsOf 39 = 1 := by kernel_rfl
theorem cells40 : Try.prog.cellsOf 40 = 1 := by kernel_rfl
theorem cells42 : Try.prog.cellsOf 42 = 5 := by kernel_rfl
theorem cells44 : Try.prog.cellsOf 44 = 6 := by kernel_rfl

section
variable {H : Type} {enc : TypeId × Value → H} {W : World} {base : Nat}

/-- From each item's cells to the view of all of them. -/
theorem view_of {α : Type} [Inhabited α] {size : Nat} (hsz : 0 < size) {V : World → α → (Nat → Value) → Prop} {a : Addr} {len cap : Nat} (hl : len ≤ cap) (hm : cap ≤ maxLen) {R : α → Prop}
    (h : ∀ i, i < len → ∃ x : α, (∃ c : Nat → Value, (∀ j, j < size → W.cell? (a.add (i * size + j)) = some (c j)) ∧ V W x c) ∧ R x) : ∃ xs, View size V W (some a) len cap xs ∧ ∀ x ∈ xs, R x := by
  obtain ⟨f, hf⟩ := choose_lt h
  refine ⟨(List.range len).map f, ⟨by simp, hl, hm, (fun e => by cases e), fun hp => ?_⟩, fun x hx => ?_⟩
  · obtain ⟨b, off, spot⟩ := a
    obtain ⟨⟨c0, hc0, _⟩, _⟩ := hf 0 hp
    have hc := hc0 0 hsz
    have hspot : spot = none := by simpa [Addr.add] using World.cell?_spot hc
    subst hspot
    refine ⟨b, off, rfl, by have := block_lt_of_cell hc; simpa [Addr.add] using this, fun i hi => ?_⟩
    obtain ⟨⟨c, hcell, hv⟩, _⟩ := hf i hi
    refine ⟨c, fun j hj => ?_, ?_⟩
    · have := hcell j hj
      have hplain : (⟨b, off, none⟩ : Addr).add (i * size + j) = ⟨b, off + (i * size + j), none⟩ := by unfold Addr.add; split <;> simp_all
      rwa [hplain] at this
    · rw [List.getD_eq_getElem?_getD]
      simpa [hi] using hv
  · obtain ⟨i, hi, rfl⟩ := List.mem_map.1 hx
    exact (hf i (List.mem_range.1 hi)).2

/-- The cells of one item, written out. -/
theorem cells_at {a : Addr} {i size n : Nat} {cs : List Value} (h : W.cells? base (a.add (i * size)) n = some cs) (hn : n = size) : cs.length = size ∧ ∀ j, j < size → W.cell? (a.add (i * size + j)) = some (cs.getD j default) := by
  subst hn
  obtain ⟨_, hlen, hc⟩ := World.cells?_some h
  refine ⟨hlen, fun j hj => ?_⟩
  have := hc j hj
  rw [add_add] at this
  rw [this, List.getD_eq_getElem?_getD, List.getElem?_eq_getElem (by omega)]
  rfl

theorem six_of {cs : List Value} (h : cs.length = 6) : ∃ c0 c1 c2 c3 c4 c5, cs = [c0, c1, c2, c3, c4, c5] := by
  match cs, h with
  | [c0, c1, c2, c3, c4, c5], _ => exact ⟨c0, c1, c2, c3, c4, c5, rfl⟩

/-- Bytes that came in. -/
theorem open_bytes {fuel : Nat} {v : Value} {x : DataW H × List MemPlace} (h : DataW.trod enc Try.prog W base (fun _ => true) true fuel 26 [v] = some x) : ∃ a len cap zs, v = .slice a len cap ∧ IsB W a len cap zs := by
  rcases open_ints Try.underlying26 Try.underlying5 (by kernel_rfl) h with ⟨hcs, _⟩ | ⟨y, l, c, zs, hcs, _, hl, hm, hz, _, hcell, hwz⟩
  · simp at hcs
    exact ⟨none, 0, 0, [], hcs, isB_nil _⟩
  · simp at hcs
    exact ⟨_, l, c, _, hcs, IsRow.isB (.inr ⟨_, rfl, hl, hm, by simpa using hz, hcell, hwz⟩)⟩

/-- A row of rows of bytes that came in. -/
theorem open_rows {fuel : Nat} {v : Value} {x : DataW H × List MemPlace} (h : DataW.trod enc Try.prog W base (fun _ => true) true fuel 22 [v] = some x) :
    ∃ a len cap ls, v = .slice a len cap ∧ View 1 VB W a len cap ls := by
  rcases open_slice1 Try.underlying22 cells26 h with ⟨hcs, _⟩ | ⟨a, len, cap, m, n, V, D, Pl, hcs, _, hl, hm, hmm, _, hc⟩
  · simp at hcs
    exact ⟨none, 0, 0, [], hcs, view_nil _ _ _⟩
  · simp at hcs
    simp at hmm
    subst hmm
    obtain ⟨xs, hv, hx⟩ := view_of (W := W) (a := a) (size := 1) (V := VB) (R := fun _ => True) (by decide) hl hm (fun i hi => by
      obtain ⟨h1, h2⟩ := hc i (by omega)
      obtain ⟨a1, l1, c1, ss, hv, hI⟩ := open_bytes h2
      refine ⟨ss, ⟨fun _ => V i, fun j hj => ?_, a1, l1, c1, hv, hI⟩, trivial⟩
      obtain rfl : j = 0 := by omega
      simpa using h1)
    exact ⟨some a, len, _, xs, hcs, hv⟩

/-- Frames that came in. -/
theorem open_frames {fuel : Nat} {v : Value} {x : DataW H × List MemPlace} (h : DataW.trod enc Try.prog W base (fun _ => true) true fuel 31 [v] = some x) :
    ∃ a len cap fs, v = .slice a len cap ∧ View 6 VFr W a len cap fs ∧ ∀ y ∈ fs, HOk y.v y.f y.s y.o y.l := by
  rcases open_slice Try.underlying31 h with ⟨hcs, _⟩ | ⟨a, len, cap, m, n, D, Pl, hcs, _, hl, hm, hmm, _, hc⟩
  · simp at hcs
    exact ⟨none, 0, 0, [], hcs, view_nil _ _ _, by simp⟩
  · simp at hcs
    simp at hmm
    subst hmm
    obtain ⟨xs, hv, hx⟩ := view_of (W := W) (a := a) (size := 6) (V := VFr) (R := fun y => HOk y.v y.f y.s y.o y.l) (by decide) hl hm (fun i hi => by
      obtain ⟨cs, h1, h2⟩ := hc i (by omega)
      rw [cells44] at h1
      obtain ⟨hlen, hcell⟩ := cells_at h1 rfl
      obtain ⟨c0, c1, c2, c3, c4, c5, rfl⟩ := six_of hlen
      obtain ⟨y0, y1, k, _, _, r0, r1⟩ := trod_struct2 Try.underlying44 h2
      simp [cells42, cells26] at r0 r1
      obtain ⟨ys, n', _, _, hl', hlen', hf⟩ := DataW.trod_struct Try.underlying42 r0
      obtain ⟨u0, u1, u2, u3, u4, rfl⟩ : ∃ y0 y1 y2 y3 y4, ys = [y0, y1, y2, y3, y4] := by
        match ys, hlen' with
        | [y0, y1, y2, y3, y4], _ => exact ⟨y0, y1, y2, y3, y4, rfl⟩
      have t0 := hf 0 _ rfl
      have t1 := hf 1 _ rfl
      have t2 := hf 2 _ rfl
      have t3 := hf 3 _ rfl
      have t4 := hf 4 _ rfl
      simp [cells5, cells39, cells40, Value.cells] at t0 t1 t2 t3 t4
      obtain ⟨z0, e0, _, w0⟩ := DataW.trod_int Try.underlying5 t0
      obtain ⟨z1, e1, _, w1⟩ := DataW.trod_int Try.underlying5 t1
      obtain ⟨z2, e2, _, w2⟩ := DataW.trod_int Try.underlying39 t2
      obtain ⟨z3, e3, _, w3⟩ := DataW.trod_int Try.underlying5 t3
      obtain ⟨z4, e4, _, w4⟩ := DataW.trod_int Try.underlying40 t4
      obtain ⟨a1, l1, c1', zs, e5, hI⟩ := open_bytes r1
      simp at e0 e1 e2 e3 e4
      subst e0 e1 e2 e3 e4 e5
      have b0 := bounds_u8 w0
      have b1 := bounds_u8 w1
      have b2 := bounds_i16 w2
      have b3 := bounds_u8 w3
      have b4 := bounds_u32 w4
      refine ⟨((z0, z1, z2, z3, z4, zs) : Fr), ⟨_, hcell, rfl, rfl, rfl, rfl, rfl, a1, l1, c1', rfl, hI⟩, ?_⟩
      show HOk z0 z1 z2 z3 z4
      exact ⟨by omega, by omega, by omega, by omega, by omega, by omega, by omega, by omega, by omega, by omega⟩)
    exact ⟨some a, len, _, xs, hcs, hv, hx⟩
end
end Go.Proofs.Ytabadlgjocgkjaa
