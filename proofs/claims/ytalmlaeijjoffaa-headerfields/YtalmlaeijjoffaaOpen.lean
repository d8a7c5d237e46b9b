/-
  A header that came in as an argument is opened.
-/
import Derived.Test.YtalmlaeijjoffaaAwake
import Derived.WalkKit
import Derived.ProofKit
import Derived.OpenShut
import Derived.ShutString
import Derived.ChangeOld
import Derived.Below
namespace Go.Proofs.Ytalmlaeijjoffaa
open Go.ChangeShapes Go.WideShapes Go.ChangeAt Go.RowKit
set_option linter.unusedVariables false

theorem cells25 : Try.prog.cellsOf 25 = 5 := by kernel_rfl
theorem cells5 : Try.prog.cellsOf 5 = 1 := by kernel_rfl
theorem cells22 : Try.prog.cellsOf 22 = 1 := by kernel_rfl
theorem cells23 : Try.prog.cellsOf 23 = 1 := by kernel_rfl

theorem five_cells {cs : Array Value} (h : cs.size = 5) : ∃ c0 c1 c2 c3 c4, cs = #[c0, c1, c2, c3, c4] := by
  obtain ⟨l⟩ := cs
  match l, h with
  | [c0, c1, c2, c3, c4], _ => exact ⟨c0, c1, c2, c3, c4, rfl⟩

theorem open_header {H : Type} {enc : TypeId × Value → H} {W : World} {base b0 : Nat} {v : Value} {d : DataW H} {ps : List MemPlace}
    (hval : Value.okWide Try.prog W .any b0 25 v) (hd : DataW.Trod enc Try.prog W base (fun _ => true) true 25 v d ps) :
    ∃ a b c e l, v = .agg #[.int .u8 a, .int .u8 b, .int .i16 c, .int .u8 e, .int .u32 l] ∧ HOk a b c e l := by
  obtain ⟨cs, rfl, hsz⟩ := okWide_struct Try.underlying25 hval
  rw [cells25] at hsz
  obtain ⟨c0, c1, c2, c3, c4, rfl⟩ := five_cells hsz
  obtain ⟨fuel, h⟩ := hd
  obtain ⟨xs, n, rfl, _, hl, hlen, hf⟩ := DataW.trod_struct Try.underlying25 h
  obtain ⟨y0, y1, y2, y3, y4, rfl⟩ : ∃ y0 y1 y2 y3 y4, xs = [y0, y1, y2, y3, y4] := by
    match xs, hlen with
    | [y0, y1, y2, y3, y4], _ => exact ⟨y0, y1, y2, y3, y4, rfl⟩
  have t0 := hf 0 _ rfl
  have t1 := hf 1 _ rfl
  have t2 := hf 2 _ rfl
  have t3 := hf 3 _ rfl
  have t4 := hf 4 _ rfl
  simp [cells5, cells22, cells23, Value.cells] at t0 t1 t2 t3 t4
  obtain ⟨z0, e0, _, w0⟩ := DataW.trod_int Try.underlying5 t0
  obtain ⟨z1, e1, _, w1⟩ := DataW.trod_int Try.underlying5 t1
  obtain ⟨z2, e2, _, w2⟩ := DataW.trod_int Try.underlying22 t2
  obtain ⟨z3, e3, _, w3⟩ := DataW.trod_int Try.underlying5 t3
  obtain ⟨z4, e4, _, w4⟩ := DataW.trod_int Try.underlying23 t4
  simp at e0 e1 e2 e3 e4
  subst e0 e1 e2 e3 e4
  have b0 := bounds_u8 w0
  have b1 := bounds_u8 w1
  have b2 := bounds_i16 w2
  have b3 := bounds_u8 w3
  have b4 := bounds_u32 w4
  exact ⟨z0, z1, z2, z3, z4, rfl, by omega, by omega, by omega, by omega, by omega, by omega, by omega, by omega, by omega, by omega⟩
end Go.Proofs.Ytalmlaeijjoffaa
