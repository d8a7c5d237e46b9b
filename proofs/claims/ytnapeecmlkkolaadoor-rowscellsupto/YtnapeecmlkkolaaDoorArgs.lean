/-
  A type that comes in as an argument.
-/
import Derived.Test.YtnapeecmlkkolaaDoorOpens
namespace Go.Proofs.YtnapeecmlkkolaaDoor
open Go.RowKit Go.ChangeShapes Go.WideShapes Go.Deep Go.ChangeAt
set_option maxRecDepth 100000
set_option linter.unusedVariables false
set_option linter.unusedSimpArgs false

theorem laidOut : laidOutB Tryd.prog = true := by kernel_rfl

theorem arg_ty {H : Type} {enc : TypeId × Value → H} {W : World} {base0 base : Nat} {v : Value} {d : DataW H} {p : List MemPlace} (hv : Value.okWide Tryd.prog W .any base0 62 v) (h : ∃ fuel, DataW.trod enc Tryd.prog W base (fun _ => true) true fuel 62 v.cells.toList = some (d, p)) :
    ∃ N t na nl nc ka kl kc, v = .agg #[.int .u16 t.id, .string t.space, .string t.name, .slice na nl nc, .slice ka kl kc] ∧ TyAt N (fun _ => True) W t na nl nc ka kl kc ∧ ∀ n, tlen n t + 2 ≤ 22 * Rows.uptoBulk d := by
  obtain ⟨cs, rfl, hsz⟩ := okWide_struct Tryd.underlying62 hv
  rw [cells62] at hsz
  obtain ⟨fuel, hf⟩ := h
  have hcs : (Value.agg cs).cells = cs := rfl
  rw [hcs] at hf
  obtain ⟨t, hvt, _, htl⟩ := open_ty fuel _ _ hf
  cases fuel with
  | zero => exact hvt.elim
  | succ n =>
    obtain ⟨na, nl, nc, ka, kl, kc, e0, e1, e2, e3, e4, hin⟩ := hvt
    obtain ⟨l⟩ := cs
    match l, hsz with
    | [c0, c1, c2, c3, c4], _ =>
      have e0' : c0 = .int .u16 t.id := e0
      have e1' : c1 = .string t.space := e1
      have e2' : c2 = .string t.name := e2
      have e3' : c3 = .slice na nl nc := e3
      have e4' : c4 = .slice ka kl kc := e4
      subst e0' e1' e2' e3' e4'
      exact ⟨n, t, na, nl, nc, ka, kl, kc, rfl, hin, htl⟩
end Go.Proofs.YtnapeecmlkkolaaDoor
