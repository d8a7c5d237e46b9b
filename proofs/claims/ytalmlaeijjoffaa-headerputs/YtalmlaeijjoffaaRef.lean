/-
  The contract of the document's own Get, over the translation.
-/
import Derived.Test.YtalmlaeijjoffaaTake
namespace Go.Proofs.Ytalmlaeijjoffaa
open Go.RowKit
set_option linter.unusedVariables false
end Go.Proofs.Ytalmlaeijjoffaa
