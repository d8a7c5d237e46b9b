/-
  The contracts of the laws' headOf, framesOf and of the document's Same.
-/
import Derived.Test.YtabadlgjocgkjaaManyMath
namespace Go.Proofs.Ytabadlgjocgkjaa
open Go.RowKit
set_option linter.unusedVariables false
set_option linter.unusedSimpArgs false

set_option maxHeartbeats 400000 in
theorem headOf_any (v f s o l : Int) (w : World) : Calls Try.prog 24 #[hdrV v f s o l] w fun e w' => e = .returned (hdrV v f s o l) ∧ Below w.heap.size w w' := by
  go_enter Try.func24, Try.ntmps24
  go_wp2
  exact bodyPost_ret (v := hdrV v f s o l) (by simp [results, Try.results24, go_sem]) rfl ⟨rfl, ((below_one _ _).alloc (by simp) _)⟩
end Go.Proofs.Ytabadlgjocgkjaa
