/-
  What the bound on all that comes in gives of the values of a map.
-/
import Derived.Test.YtkcnmmlakimonaaOpens
import Derived.Test.YtkcnmmlakimonaaRows
namespace Go.Proofs.Ytkcnmmlakimonaa
open Go.RowKit Go.ChangeShapes Go.WideShapes Go.Deep
set_option linter.unusedVariables false
set_option linter.unusedSimpArgs false

theorem bulk_mem {H : Type} {d : DataW H} {l : List (DataW H)} (h : d ∈ l) : Rows.uptoBulk d ≤ Rows.uptoBulkAll l := by
  induction l with
  | nil => cases h
  | cons x r ih =>
    rw [Rows.uptoBulkAll]
    rcases List.mem_cons.1 h with rfl | h
    · omega
    · have := ih h; omega

theorem bulk_lits {H : Type} (k : IntKind) (zs : List Int) : Rows.uptoBulkAll (lits (H := H) k zs) = zs.length := by
  induction zs with
  | nil => rfl
  | cons z r ih =>
    have e : lits (H := H) k (z :: r) = .lit (.int k z) :: lits k r := rfl
    rw [e, Rows.uptoBulkAll, ih, List.length_cons]
    have : Rows.uptoBulk (DataW.lit (H := H) (.int k z)) = 1 := rfl
    omega

section
variable {H : Type} {enc : TypeId × Value → H} {W : World} {base : Nat}

theorem open_bytes_small {fuel : Nat} {v : Value} {x : DataW H × List MemPlace} (h : DataW.trod enc Try.prog W base (fun _ => true) true fuel 22 [v] = some x) (hb : Rows.uptoBulk x.1 ≤ 1048576) : ∃ a len cap zs, v = .slice a len cap ∧ IsB W a len cap zs ∧ len ≤ 1048576 := by
  rcases open_ints Try.underlying22 Try.underlying5 (by kernel_rfl) h with ⟨hcs, _⟩ | ⟨y, l, c, zs, hcs, _, hl, hm, hz, hx, hcell, hwz⟩
  · simp at hcs
    exact ⟨none, 0, 0, [], hcs, isB_nil _, by omega⟩
  · simp at hcs
    have hzl : zs.length = c := by simpa using hz
    refine ⟨_, l, c, _, hcs, IsRow.isB (.inr ⟨_, rfl, hl, hm, hzl, hcell, hwz⟩), ?_⟩
    rw [hx] at hb
    simp only [Rows.uptoBulk, bulk_lits, List.length_take, List.length_drop] at hb
    omega

/-- A map of values that came in, no value too long. -/
theorem open_entries_small {fuel : Nat} {v : Value} {x : DataW H × List MemPlace} (h : DataW.trod enc Try.prog W base (fun _ => true) true fuel 25 [v] = some x) (hb : Rows.uptoBulk x.1 ≤ 1048576) :
    ∃ a len cap ps, v = .slice a len cap ∧ View 3 VE W a len cap ps ∧ ∀ p ∈ ps, p.1.size ≤ maxLen ∧ p.2.2.size ≤ 1048576 := by
  rcases open_slice Try.underlying25 h with ⟨hcs, _⟩ | ⟨a, len, cap, m, n, D, Pl, hcs, _, hl, hm, hmm, hx0, hc⟩
  · simp at hcs
    exact ⟨none, 0, 0, [], hcs, view_nil _ _ _, by simp⟩
  · simp at hcs
    simp at hmm
    subst hmm
    have hD : ∀ i, i < len → Rows.uptoBulk (D i) ≤ 1048576 := by
      intro i hi
      have h1 := bulk_mem (H := H) (d := D i) (l := (List.range len).map D) (List.mem_map.2 ⟨i, List.mem_range.2 hi, rfl⟩)
      rw [hx0] at hb
      simp only [Rows.uptoBulk] at hb
      omega
    obtain ⟨xs, hv, hx⟩ := view_of (W := W) (a := a) (size := 3) (V := VE) (R := fun p => p.1.size ≤ maxLen ∧ p.2.2.size ≤ 1048576) (by decide) hl hm (fun i hi => by
      obtain ⟨cs, h1, h2⟩ := hc i (by omega)
      rw [cells42] at h1
      obtain ⟨hlen, hcell⟩ := cells_at h1 rfl
      obtain ⟨c0, c1, c2, rfl⟩ := three_of hlen
      obtain ⟨y0, y1, k, hd1, _, t0, t1⟩ := trod_struct2 Try.underlying42 h2
      simp only [Prod.mk.injEq] at hd1
      simp [cells9, cells40] at t0 t1
      obtain ⟨s0, e0, z0⟩ := open_text t0
      obtain ⟨u0, u1, k2, hd2, _, r0, r1⟩ := trod_struct2 Try.underlying40 t1
      simp [cells3, cells22] at r0 r1
      obtain ⟨n0, e1, _, wk⟩ := DataW.trod_int Try.underlying3 r0
      have hbb : Rows.uptoBulk u1.1 ≤ 1048576 := by
        have h3 := hD i hi
        rw [hd1.1, hd2] at h3
        simp only [Rows.uptoBulk, Rows.uptoBulkAll] at h3
        omega
      obtain ⟨a1, l1, c1', zs, e2, hI, hl1⟩ := open_bytes_small r1 hbb
      simp at e0 e1
      subst e0 e1 e2
      refine ⟨(s0, n0, strOfNums zs), ⟨_, hcell, rfl, rfl, a1, l1, c1', rfl, ?_⟩, z0, ?_⟩
      · show IsB _ _ _ _ (sNums (strOfNums zs))
        rw [sNums_strOfNums hI.range]; exact hI
      · show (strOfNums zs).size ≤ _
        rw [strOfNums_size, hI.1]; exact hl1)
    exact ⟨some a, len, _, xs, hcs, hv, hx⟩
end
end Go.Proofs.Ytkcnmmlakimonaa
