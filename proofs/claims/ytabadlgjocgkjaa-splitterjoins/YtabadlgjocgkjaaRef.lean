/-
  The contract of the document's own Get, over the translation.
-/
import Derived.Test.YtabadlgjocgkjaaTake
namespace Go.Proofs.Ytabadlgjocgkjaa
open Go.RowKit
set_option linter.unusedVariables false
end Go.Proofs.Ytabadlgjocgkjaa
