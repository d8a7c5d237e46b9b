/-
  The contract of octets.Take, over the translation.
-/
import Derived.Test.YtabadlgjocgkjaaBase
import Derived.Laws.CopyOwn
namespace Go.Proofs.Ytabadlgjocgkjaa
open Go.RowKit
set_option linter.unusedVariables false

theorem Try.size5 : (Try.prog.info? 5).map (·.size) = some 1 := by kernel_rfl

theorem bytes_one (zs : List Int) : ∀ v ∈ zs.map (Value.int .u8), v.oneCell' = true := by
  intro v hv; obtain ⟨z, _, rfl⟩ := List.mem_map.1 hv; rfl

theorem splice_all (z : Value) (n : Nat) (cs : List Value) (h : cs.length = n) : splice (List.replicate n z) 0 cs = cs := by
  simp [splice, h]


end Go.Proofs.Ytabadlgjocgkjaa
