/-
  Arguments opened: bytes, rows of bytes, places and values, as they come in.
-/
import Derived.Test.YtfkhcgkobffpiaaBx
import Derived.Deep.Strs
import Derived.ChangeSame
import Derived.SizedLaws
namespace Go.Proofs.Ytfkhcgkobffpiaa
open Go.RowKit Go.ChangeShapes Go.WideShapes Go.Deep
set_option linter.unusedVariables false
set_option linter.unusedSimpArgs false

theorem cells3 : Try.prog.cellsOf 3 = 1 := by kernel_rfl
theorem cells5 : Try.prog.cellsOf 5 = 1 := by kernel_rfl
theorem cells24 : Try.prog.cellsOf 24 = 1 := by kernel_rfl
theorem cells45 : Try.prog.cellsOf 45 = 1 := by kernel_rfl
theorem cells47 : Try.prog.cellsOf 47 = 2 := by kernel_rfl
theorem bytesOf5 : Try.prog.bytesOf 5 = 1 := by kernel_rfl

section
variable {H : Type} {enc : TypeId × Value → H} {W : World} {base : Nat}

/-- From each item's cells to the view of all of them. -/
theorem view_of {α : Type} [Inhabited α] {size : Nat} (hsz : 0 < size) {V : World → α → (Nat → Value) → Prop} {a : Addr} {len cap : Nat} (hl : len ≤ cap) (hm : cap ≤ maxLen) {R : α → Prop}
    (h : ∀ i, i < len → ∃ x : α, (∃ c : Nat → Value, (∀ j, j < size → W.cell? (a.add (i * size + j)) = some (c j)) ∧ V W x c) ∧ R x) : ∃ xs, View size V W (some a) len cap xs ∧ ∀ x ∈ xs, R x := by
  obtain ⟨f, hf⟩ := choose_lt h
  refine ⟨(List.range len).map f, ⟨by simp, hl, hm, (fun e => by cases e), fun hp => ?_⟩, fun x hx => ?_⟩
  · obtain ⟨b, off, spot⟩ := a
    obtain ⟨⟨c0, hc0, _⟩, _⟩ := hf 0 hp
    have hc := hc0 0 hsz
    have hspot : spot = none := by simpa [Addr.add] using World.cell?_spot hc
    subst hspot
    refine ⟨b, off, rfl, by have := block_lt_of_cell hc; simpa [Addr.add] using this, fun i hi => ?_⟩
    obtain ⟨⟨c, hcell, hv⟩, _⟩ := hf i hi
    refine ⟨c, fun j hj => ?_, ?_⟩
    · have := hcell j hj
      have hplain : (⟨b, off, none⟩ : Addr).add (i * size + j) = ⟨b, off + (i * size + j), none⟩ := by unfold Addr.add; split <;> simp_all
      rwa [hplain] at this
    · rw [List.getD_eq_getElem?_getD]
      simpa [hi] using hv
  · obtain ⟨i, hi, rfl⟩ := List.mem_map.1 hx
    exact (hf i (List.mem_range.1 hi)).2

/-- The cells of one item, written out. -/
theorem cells_at {a : Addr} {i size n : Nat} {cs : List Value} (h : W.cells? base (a.add (i * size)) n = some cs) (hn : n = size) : cs.length = size ∧ ∀ j, j < size → W.cell? (a.add (i * size + j)) = some (cs.getD j default) := by
  subst hn
  obtain ⟨_, hlen, hc⟩ := World.cells?_some h
  refine ⟨hlen, fun j hj => ?_⟩
  have := hc j hj
  rw [add_add] at this
  rw [this, List.getD_eq_getElem?_getD, List.getElem?_eq_getElem (by omega)]
  rfl

theorem two_of {cs : List Value} (h : cs.length = 2) : ∃ c0 c1, cs = [c0, c1] := by
  match cs, h with
  | [c0, c1], _ => exact ⟨c0, c1, rfl⟩

/-- Bytes that came in. -/
theorem open_bytes {fuel : Nat} {v : Value} {x : DataW H × List MemPlace} (h : DataW.trod enc Try.prog W base (fun _ => true) true fuel 24 [v] = some x) : ∃ a len cap zs, v = .slice a len cap ∧ IsB W a len cap zs := by
  rcases open_ints Try.underlying24 Try.underlying5 (by kernel_rfl) h with ⟨hcs, _⟩ | ⟨y, l, c, zs, hcs, _, hl, hm, hz, _, hcell, hwz⟩
  · simp at hcs
    exact ⟨none, 0, 0, [], hcs, isB_nil _⟩
  · simp at hcs
    exact ⟨_, l, c, _, hcs, IsRow.isB (.inr ⟨_, rfl, hl, hm, by simpa using hz, hcell, hwz⟩)⟩

/-- Bytes that came in, within the reach. -/
theorem open_bytes_near {fuel : Nat} {v : Value} {x : DataW H × List MemPlace} (h : DataW.trod enc Try.prog W base (fun _ => true) true fuel 24 [v] = some x) (hw : ∀ n ∈ x.1.weights Try.prog 24, n ≤ reachBytes) :
    ∃ a len cap zs, v = .slice a len cap ∧ IsB W a len cap zs ∧ zs.length ≤ 140737488351232 := by
  rcases open_ints Try.underlying24 Try.underlying5 (by kernel_rfl) h with ⟨hcs, _⟩ | ⟨y, l, c, zs, hcs, _, hl, hm, hz, hx, hcell, hwz⟩
  · simp at hcs
    exact ⟨none, 0, 0, [], hcs, isB_nil _, by simp⟩
  · simp at hcs
    have hI := IsRow.isB (w := W) (.inr ⟨y, rfl, hl, hm, by simpa using hz, hcell, hwz⟩)
    refine ⟨_, l, c, _, hcs, hI, ?_⟩
    rw [hI.1]
    have hzl : zs.length = c := by simpa using hz
    have := hw (((zs.take l).length + (zs.drop l).length) * 1) (by
      rw [hx]
      simp only [DataW.weights, Try.underlying24, bytesOf5, lits, List.length_map]
      exact List.mem_cons_self)
    simp only [List.length_take, List.length_drop, reachBytes] at this
    omega

/-- A row of rows of bytes that came in. -/
theorem open_rows {fuel : Nat} {v : Value} {x : DataW H × List MemPlace} (h : DataW.trod enc Try.prog W base (fun _ => true) true fuel 22 [v] = some x) :
    ∃ a len cap ls, v = .slice a len cap ∧ View 1 VB W a len cap ls := by
  rcases open_slice1 Try.underlying22 cells24 h with ⟨hcs, _⟩ | ⟨a, len, cap, m, n, V, D, Pl, hcs, _, hl, hm, hmm, _, hc⟩
  · simp at hcs
    exact ⟨none, 0, 0, [], hcs, view_nil _ _ _⟩
  · simp at hcs
    simp at hmm
    subst hmm
    obtain ⟨xs, hv, hx⟩ := view_of (W := W) (a := a) (size := 1) (V := VB) (R := fun _ => True) (by decide) hl hm (fun i hi => by
      obtain ⟨h1, h2⟩ := hc i (by omega)
      obtain ⟨a1, l1, c1, ss, hv, hI⟩ := open_bytes h2
      refine ⟨ss, ⟨fun _ => V i, fun j hj => ?_, a1, l1, c1, hv, hI⟩, trivial⟩
      obtain rfl : j = 0 := by omega
      simpa using h1)
    exact ⟨some a, len, _, xs, hcs, hv⟩

/-- Places that came in. -/
theorem open_places {fuel : Nat} {v : Value} {x : DataW H × List MemPlace} (h : DataW.trod enc Try.prog W base (fun _ => true) true fuel 42 [v] = some x) :
    ∃ a len cap ns, v = .slice a len cap ∧ View 1 VU W a len cap ns ∧ ∀ n ∈ ns, 0 ≤ n ∧ n ≤ 65535 := by
  rcases open_ints Try.underlying42 Try.underlying45 cells45 h with ⟨hcs, _⟩ | ⟨y, l, c, zs, hcs, _, hl, hm, hz, _, hcell, hwz⟩
  · simp at hcs
    exact ⟨none, 0, 0, [], hcs, view_nil _ _ _, by simp⟩
  · simp at hcs
    have hzl : zs.length = c := by simpa using hz
    obtain ⟨xs, hv, hx⟩ := view_of (W := W) (a := y) (size := 1) (V := VU) (R := fun n => 0 ≤ n ∧ n ≤ 65535) (by decide) hl hm (fun i hi => by
      refine ⟨zs.getD i 0, ⟨fun _ => .int .u16 (zs.getD i 0), fun j hj => ?_, rfl⟩, ?_⟩
      · obtain rfl : j = 0 := by omega
        simpa using hcell i (by omega)
      · rw [List.getD_eq_getElem?_getD, List.getElem?_eq_getElem (by omega), Option.getD_some]
        have := bounds_u16 (hwz _ (List.getElem_mem (l := zs) (n := i) (by omega)))
        omega)
    exact ⟨some y, l, c, xs, hcs, hv, hx⟩

theorem mem_all {e : TypeId} {d : DataW H} {l : List (DataW H)} (h : d ∈ l) {n : Nat} (hn : n ∈ d.weights Try.prog e) : n ∈ DataW.weightsAll Try.prog e l := by
  induction l with
  | nil => cases h
  | cons x r ih =>
    rw [DataW.weightsAll]
    rcases List.mem_cons.1 h with rfl | h
    · exact List.mem_append.2 (.inl hn)
    · exact List.mem_append.2 (.inr (ih h))

/-- Values that came in, none of them beyond the reach. -/
theorem open_values {fuel : Nat} {v : Value} {x : DataW H × List MemPlace} (h : DataW.trod enc Try.prog W base (fun _ => true) true fuel 43 [v] = some x) (hw : ∀ n ∈ x.1.weights Try.prog 43, n ≤ reachBytes) :
    ∃ a len cap vs, v = .slice a len cap ∧ View 2 VV W a len cap vs ∧ ∀ y ∈ vs, y.2.length ≤ 140737488355328 := by
  rcases open_slice Try.underlying43 h with ⟨hcs, _⟩ | ⟨a, len, cap, m, n, D, Pl, hcs, _, hl, hm, hmm, hx0, hc⟩
  · simp at hcs
    exact ⟨none, 0, 0, [], hcs, view_nil _ _ _, by simp⟩
  · simp at hcs
    simp at hmm
    subst hmm
    have hD : ∀ i, i < len → ∀ k ∈ (D i).weights Try.prog 47, k ≤ reachBytes := by
      intro i hi k hk
      refine hw k ?_
      rw [hx0]
      simp only [DataW.weights, Try.underlying43]
      exact List.mem_cons_of_mem _ (List.mem_append.2 (.inl (mem_all (List.mem_map.2 ⟨i, List.mem_range.2 hi, rfl⟩) hk)))
    obtain ⟨xs, hv, hx⟩ := view_of (W := W) (a := a) (size := 2) (V := VV) (R := fun y => y.2.length ≤ 140737488355328) (by decide) hl hm (fun i hi => by
      obtain ⟨cs, h1, h2⟩ := hc i (by omega)
      rw [cells47] at h1
      obtain ⟨hlen, hcell⟩ := cells_at h1 rfl
      obtain ⟨c0, c1, rfl⟩ := two_of hlen
      obtain ⟨u0, u1, k2, hd2, _, r0, r1⟩ := trod_struct2 Try.underlying47 h2
      simp [cells3, cells24] at r0 r1
      obtain ⟨n0, e1, _, wk⟩ := DataW.trod_int Try.underlying3 r0
      have hbb : ∀ k ∈ u1.1.weights Try.prog 24, k ≤ reachBytes := by
        intro k hk
        refine hD i hi k ?_
        simp only [Prod.mk.injEq] at hd2
        rw [hd2.1]
        simp only [DataW.weights, Try.underlying47]
        exact DataW.weights_mem_each (j := 1) (t := 24) (d := u1.1) rfl rfl k hk
      obtain ⟨a1, l1, c1', zs, e2, hI, hl1⟩ := open_bytes_near r1 hbb
      simp at e1
      subst e1 e2
      exact ⟨(n0, zs), ⟨_, hcell, rfl, a1, l1, c1', rfl, hI⟩, Nat.le_trans hl1 (by omega)⟩)
    exact ⟨some a, len, _, xs, hcs, hv, hx⟩
end
end Go.Proofs.Ytfkhcgkobffpiaa
