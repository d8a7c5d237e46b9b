/-
  A prefix that came in, opened: what it is seen as, no value of its payload too long.
-/
import Derived.Test.YtkcnmmlakimonaaBulk
import Derived.Test.YtkcnmmlakimonaaPuts7
import Derived.ChangeSame
import Derived.ProofKit
namespace Go.Proofs.Ytkcnmmlakimonaa
open Go.RowKit Go.ChangeShapes Go.WideShapes Go.ChangeAt Go.Deep
set_option maxRecDepth 100000
set_option linter.unusedVariables false
set_option linter.unusedSimpArgs false

theorem cells27 : Try.prog.cellsOf 27 = 3 := by kernel_rfl

theorem open_pre {H : Type} {enc : TypeId × Value → H} {W : World} {base b0 : Nat} {v : Value} {d : DataW H} {ps : List MemPlace}
    (hval : Value.okWide Try.prog W .any b0 27 v) (hd : DataW.Trod enc Try.prog W base (fun _ => true) true 27 v d ps) (hb : Rows.uptoBulk d ≤ 1048576) :
    ∃ t lt ct v1 l1 c1 v2 l2 c2 x, v = .agg #[.slice t lt ct, .slice v1 l1 c1, .slice v2 l2 c2] ∧ PV W t lt ct v1 l1 c1 v2 l2 c2 x ∧ (∀ s ∈ x.2.1, s.size ≤ maxLen) ∧ ∀ y ∈ x.2.2, y.1.size ≤ maxLen ∧ y.2.2.size ≤ 1048576 := by
  obtain ⟨cs, rfl, hsz⟩ := okWide_struct Try.underlying27 hval
  rw [cells27] at hsz
  obtain ⟨k0, k1, k2, rfl⟩ : ∃ k0 k1 k2, cs = #[k0, k1, k2] := by
    obtain ⟨l⟩ := cs
    match l, hsz with
    | [k0, k1, k2], _ => exact ⟨k0, k1, k2, rfl⟩
  obtain ⟨fuel, h⟩ := hd
  obtain ⟨xs, n, rfl, hx, hl, hlen, hf⟩ := DataW.trod_struct Try.underlying27 h
  obtain ⟨y0, y1, y2, rfl⟩ : ∃ y0 y1 y2, xs = [y0, y1, y2] := by
    match xs, hlen with
    | [y0, y1, y2], _ => exact ⟨y0, y1, y2, rfl⟩
  have t0 := hf 0 _ rfl
  have t1 := hf 1 _ rfl
  have t2 := hf 2 _ rfl
  simp [cells22, cells24, cells25, Value.cells] at t0 t1 t2
  have hb2 : Rows.uptoBulk y2.1 ≤ 1048576 := by
    simp only [Prod.mk.injEq] at hx
    rw [hx.1] at hb
    simp only [List.map_cons, List.map_nil, Rows.uptoBulk, Rows.uptoBulkAll] at hb
    omega
  obtain ⟨t, lt, ct, zs, rfl, hI⟩ := open_bytes t0
  obtain ⟨v1, l1, c1, ss, rfl, hv1, hs1⟩ := open_texts t1
  obtain ⟨v2, l2, c2, es, rfl, hv2, hs2⟩ := open_entries_small t2 hb2
  exact ⟨t, lt, ct, v1, l1, c1, v2, l2, c2, (zs, ss, es), rfl, ⟨hI, hv1, hv2⟩, hs1, hs2⟩
end Go.Proofs.Ytkcnmmlakimonaa
