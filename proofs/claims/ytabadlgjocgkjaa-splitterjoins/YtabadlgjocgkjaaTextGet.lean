/-
  The contracts of prims.GetText and prims.GetLong.
-/
import Derived.Test.YtabadlgjocgkjaaRow
namespace Go.Proofs.Ytabadlgjocgkjaa
open Go.RowKit
set_option linter.unusedVariables false
set_option linter.unusedSimpArgs false
end Go.Proofs.Ytabadlgjocgkjaa
