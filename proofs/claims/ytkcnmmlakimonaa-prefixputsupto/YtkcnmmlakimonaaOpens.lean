/-
  Arguments opened: lists and maps as they come in, seen as rows of items.
-/
import Derived.Test.YtkcnmmlakimonaaPutE
import Derived.Deep.Strs
import Derived.ChangeSame
namespace Go.Proofs.Ytkcnmmlakimonaa
open Go.RowKit Go.ChangeShapes Go.WideShapes Go.Deep
set_option linter.unusedVariables false
set_option linter.unusedSimpArgs false

theorem cells9 : Try.prog.cellsOf 9 = 1 := by kernel_rfl
theorem cells24 : Try.prog.cellsOf 24 = 1 := by kernel_rfl
theorem cells22 : Try.prog.cellsOf 22 = 1 := by kernel_rfl
theorem cells25 : Try.prog.cellsOf 25 = 1 := by kernel_rfl
theorem cells3 : Try.prog.cellsOf 3 = 1 := by kernel_rfl
theorem cells40 : Try.prog.cellsOf 40 = 2 := by kernel_rfl
theorem cells42 : Try.prog.cellsOf 42 = 3 := by kernel_rfl

section
variable {H : Type} {enc : TypeId × Value → H} {W : World} {base : Nat}

/-- From each item's cells to the view of all of them. -/
theorem view_of {α : Type} [Inhabited α] {size : Nat} (hsz : 0 < size) {V : World → α → (Nat → Value) → Prop} {a : Addr} {len cap : Nat} (hl : len ≤ cap) (hm : cap ≤ maxLen) {R : α → Prop}
    (h : ∀ i, i < len → ∃ x : α, (∃ c : Nat → Value, (∀ j, j < size → W.cell? (a.add (i * size + j)) = some (c j)) ∧ V W x c) ∧ R x) : ∃ xs, View size V W (some a) len cap xs ∧ ∀ x ∈ xs, R x := by
  obtain ⟨f, hf⟩ := choose_lt h
  refine ⟨(List.range len).map f, ⟨by simp, hl, hm, (fun e => by cases e), fun hp => ?_⟩, fun x hx => ?_⟩
  · obtain ⟨b, off, spot⟩ := a
    obtain ⟨⟨c0, hc0, _⟩, _⟩ := hf 0 hp
    have hc := hc0 0 hsz
    have hspot : spot = none := by simpa [Addr.add] using World.cell?_spot hc
    subst hspot
    refine ⟨b, off, rfl, by have := block_lt_of_cell hc; simpa [Addr.add] using this, fun i hi => ?_⟩
    obtain ⟨⟨c, hcell, hv⟩, _⟩ := hf i hi
    refine ⟨c, fun j hj => ?_, ?_⟩
    · have := hcell j hj
      have hplain : (⟨b, off, none⟩ : Addr).add (i * size + j) = ⟨b, off + (i * size + j), none⟩ := by unfold Addr.add; split <;> simp_all
      rwa [hplain] at this
    · rw [List.getD_eq_getElem?_getD]
      simpa [hi] using hv
  · obtain ⟨i, hi, rfl⟩ := List.mem_map.1 hx
    exact (hf i (List.mem_range.1 hi)).2

/-- A list of texts that came in. -/
theorem open_texts {fuel : Nat} {v : Value} {x : DataW H × List MemPlace} (h : DataW.trod enc Try.prog W base (fun _ => true) true fuel 24 [v] = some x) :
    ∃ a len cap ss, v = .slice a len cap ∧ View 1 VS W a len cap ss ∧ ∀ s ∈ ss, s.size ≤ maxLen := by
  rcases open_strs Try.underlying24 Try.underlying9 cells9 h with ⟨hcs, _⟩ | ⟨a, len, cap, m, Sx, hcs, _, hl, hm, hmm, _, hc⟩
  · simp at hcs
    exact ⟨none, 0, 0, [], hcs, view_nil _ _ _, by simp⟩
  · simp at hcs
    simp at hmm
    subst hmm
    obtain ⟨xs, hv, hx⟩ := view_of (W := W) (a := a) (size := 1) (V := VS) (R := fun s => s.size ≤ maxLen) (by decide) hl hm (fun i hi => by
      refine ⟨Sx i, ⟨fun _ => .string (Sx i), fun j hj => ?_, rfl⟩, (hc i (by omega)).2⟩
      obtain rfl : j = 0 := by omega
      simpa using (hc i (by omega)).1)
    exact ⟨some a, len, _, xs, hcs, hv, hx⟩

/-- The cells of one item, written out. -/
theorem cells_at {a : Addr} {i size n : Nat} {cs : List Value} (h : W.cells? base (a.add (i * size)) n = some cs) (hn : n = size) : cs.length = size ∧ ∀ j, j < size → W.cell? (a.add (i * size + j)) = some (cs.getD j default) := by
  subst hn
  obtain ⟨_, hlen, hc⟩ := World.cells?_some h
  refine ⟨hlen, fun j hj => ?_⟩
  have := hc j hj
  rw [add_add] at this
  rw [this, List.getD_eq_getElem?_getD, List.getElem?_eq_getElem (by omega)]
  rfl

theorem two_of {cs : List Value} (h : cs.length = 2) : ∃ c0 c1, cs = [c0, c1] := by
  match cs, h with
  | [c0, c1], _ => exact ⟨c0, c1, rfl⟩
theorem three_of {cs : List Value} (h : cs.length = 3) : ∃ c0 c1 c2, cs = [c0, c1, c2] := by
  match cs, h with
  | [c0, c1, c2], _ => exact ⟨c0, c1, c2, rfl⟩

theorem open_text {fuel : Nat} {cs : List Value} {x : DataW H × List MemPlace} (h : DataW.trod enc Try.prog W base (fun _ => true) true fuel 9 cs = some x) : ∃ s : ByteArray, cs = [.string s] ∧ s.size ≤ maxLen := by
  obtain ⟨s, h1, _, h2⟩ := DataW.trod_string Try.underlying9 h
  exact ⟨s, h1, h2⟩

/-- Bytes that came in. -/
theorem open_bytes {fuel : Nat} {v : Value} {x : DataW H × List MemPlace} (h : DataW.trod enc Try.prog W base (fun _ => true) true fuel 22 [v] = some x) : ∃ a len cap zs, v = .slice a len cap ∧ IsB W a len cap zs := by
  rcases open_ints Try.underlying22 Try.underlying5 (by kernel_rfl) h with ⟨hcs, _⟩ | ⟨y, l, c, zs, hcs, _, hl, hm, hz, _, hcell, hwz⟩
  · simp at hcs
    exact ⟨none, 0, 0, [], hcs, isB_nil _⟩
  · simp at hcs
    exact ⟨_, l, c, _, hcs, IsRow.isB (.inr ⟨_, rfl, hl, hm, by simpa using hz, hcell, hwz⟩)⟩

/-- A map of values that came in. -/
theorem open_entries {fuel : Nat} {v : Value} {x : DataW H × List MemPlace} (h : DataW.trod enc Try.prog W base (fun _ => true) true fuel 25 [v] = some x) :
    ∃ a len cap ps, v = .slice a len cap ∧ View 3 VE W a len cap ps ∧ ∀ p ∈ ps, p.1.size ≤ maxLen := by
  rcases open_slice Try.underlying25 h with ⟨hcs, _⟩ | ⟨a, len, cap, m, n, D, Pl, hcs, _, hl, hm, hmm, _, hc⟩
  · simp at hcs
    exact ⟨none, 0, 0, [], hcs, view_nil _ _ _, by simp⟩
  · simp at hcs
    simp at hmm
    subst hmm
    obtain ⟨xs, hv, hx⟩ := view_of (W := W) (a := a) (size := 3) (V := VE) (R := fun p => p.1.size ≤ maxLen) (by decide) hl hm (fun i hi => by
      obtain ⟨cs, h1, h2⟩ := hc i (by omega)
      rw [cells42] at h1
      obtain ⟨hlen, hcell⟩ := cells_at h1 rfl
      obtain ⟨c0, c1, c2, rfl⟩ := three_of hlen
      obtain ⟨y0, y1, k, _, _, t0, t1⟩ := trod_struct2 Try.underlying42 h2
      simp [cells9, cells40] at t0 t1
      obtain ⟨s0, e0, z0⟩ := open_text t0
      obtain ⟨u0, u1, k2, _, _, r0, r1⟩ := trod_struct2 Try.underlying40 t1
      simp [cells3, cells22] at r0 r1
      obtain ⟨n0, e1, _, wk⟩ := DataW.trod_int Try.underlying3 r0
      obtain ⟨a1, l1, c1', zs, e2, hI⟩ := open_bytes r1
      simp at e0 e1
      subst e0 e1 e2
      refine ⟨(s0, n0, strOfNums zs), ⟨_, hcell, rfl, rfl, a1, l1, c1', rfl, ?_⟩, z0⟩
      show IsB _ _ _ _ (sNums (strOfNums zs))
      rw [sNums_strOfNums hI.range]; exact hI)
    exact ⟨some a, len, _, xs, hcs, hv, hx⟩
end
end Go.Proofs.Ytkcnmmlakimonaa
