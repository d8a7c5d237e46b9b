/-
  No cell of these rows narrows 'for every input' (looked for: loops, veiled, ifaces, maps, wideKeys, modest, calm, conditions, laid).
  DERIVED. THE GIVEN ROWS OF THIS SEAT. 3 by the template 'for every input the law returns true; each argument reads behind the call as it read before'; 0 by the template 'total and deterministic' (their statements: YtcceindlcheipaaTotals.lean).
  GIVEN WITH THE SEED: the statements are not yours to turn. If you find one false, say at which input.
  Laid BY PROGRAM, IN A SANDBOX (cutbox-rows.mjs): the forced cells as the released guide's own fill.sh prints them over the translation e38c72ba9ccc55fe… (all of the seat's roots in one cut). By AI agents, Wed Nov 11 2026. No macro, syntax, notation, axiom, sorry.
-/
import Derived.Test.YtcceindlcheipaaChecked
import GoSem.Claim
import GoSem.ClaimJoined
import GoSem.ClaimMapViews
import Derived.JoinedTies
import Derived.KernelRfl
namespace Go.Proofs.Ytcceindlcheipaa
/- THE CELL 'sum', in the pinned program and in every row, IS THE sha256 OF THE DUMP (.gsa) THAT YtcceindlcheipaaProg.lean LOADS. Nothing in Lean hashes anything: it is a label: what it is worth is what the hold of that sum in a sandbox is worth. -/
noncomputable def Try.pinned : Pinned := { name := "ytcceindlcheipaa", sum := "e38c72ba9ccc55fe53bdfb8dbc0da3178a15f57e67294c2571c7ef0b555a3bc2", checked := Try.checked }
namespace Rows
def none {H : Type} : Left H := { results := [], args := [] }

/-- 'signalboxlaw02.PrimsTexts': WHATEVER THE INPUT: true; the input reads as it did. -/
def primsTextsSpec : ChangeSpec := { name := "primsTexts", fn := fun _ => fun
  | [d1, d2] => { results := [.lit (.bool true)], args := [d1, d2] }
  | _ => none }
def primsTextsRow : OpenClaim := { program := "ytcceindlcheipaa", sum := "e38c72ba9ccc55fe53bdfb8dbc0da3178a15f57e67294c2571c7ef0b555a3bc2", func := "signalbox/signalboxlaw02.PrimsTexts", spec := "primsTexts", apart := false }
def PrimsTextsSaid : Prop := primsTextsRow.holds Try.pinned (OpenSpec.ofChange primsTextsSpec)

/-- ITS FALSE NEIGHBOUR: 'it returns false'. Refute it at one input. -/
def primsTextsWrong : ChangeSpec := { name := "primsTexts", fn := fun _ => fun
  | [d1, d2] => { results := [.lit (.bool false)], args := [d1, d2] }
  | _ => none }
def PrimsTextsWrongFalsely : Prop := primsTextsRow.holds Try.pinned (OpenSpec.ofChange primsTextsWrong)

/-- 'signalboxlaw02.PrimsValues': WHATEVER THE INPUT: true; the input reads as it did. -/
def primsValuesSpec : ChangeSpec := { name := "primsValues", fn := fun _ => fun
  | [d1, d2] => { results := [.lit (.bool true)], args := [d1, d2] }
  | _ => none }
def primsValuesRow : OpenClaim := { program := "ytcceindlcheipaa", sum := "e38c72ba9ccc55fe53bdfb8dbc0da3178a15f57e67294c2571c7ef0b555a3bc2", func := "signalbox/signalboxlaw02.PrimsValues", spec := "primsValues", apart := false }
def PrimsValuesSaid : Prop := primsValuesRow.holds Try.pinned (OpenSpec.ofChange primsValuesSpec)

/-- ITS FALSE NEIGHBOUR: 'it returns false'. Refute it at one input. -/
def primsValuesWrong : ChangeSpec := { name := "primsValues", fn := fun _ => fun
  | [d1, d2] => { results := [.lit (.bool false)], args := [d1, d2] }
  | _ => none }
def PrimsValuesWrongFalsely : Prop := primsValuesRow.holds Try.pinned (OpenSpec.ofChange primsValuesWrong)

/-- 'signalboxlaw02.PrimsTold': WHATEVER THE INPUT: true; the input reads as it did. -/
def primsToldSpec : ChangeSpec := { name := "primsTold", fn := fun _ => fun
  | [d1, d2] => { results := [.lit (.bool true)], args := [d1, d2] }
  | _ => none }
def primsToldRow : OpenClaim := { program := "ytcceindlcheipaa", sum := "e38c72ba9ccc55fe53bdfb8dbc0da3178a15f57e67294c2571c7ef0b555a3bc2", func := "signalbox/signalboxlaw02.PrimsTold", spec := "primsTold", apart := false }
def PrimsToldSaid : Prop := primsToldRow.holds Try.pinned (OpenSpec.ofChange primsToldSpec)

/-- ITS FALSE NEIGHBOUR: 'it returns false'. Refute it at one input. -/
def primsToldWrong : ChangeSpec := { name := "primsTold", fn := fun _ => fun
  | [d1, d2] => { results := [.lit (.bool false)], args := [d1, d2] }
  | _ => none }
def PrimsToldWrongFalsely : Prop := primsToldRow.holds Try.pinned (OpenSpec.ofChange primsToldWrong)

/- THE SECOND FORM. 'bulk': how many values and letters a reading holds, each counted each time it is reached (what is shared counts as often as it is met; a slice's spare places count too). A statement '..UptoSaid' is the law's where the arguments, and the package variables that the reading takes, are together of bulk at most 1048576: NARROWER than '..Said'. Prove '..Said' where nothing that the law and all that it calls make is longer than what came in: it says more and counts as full. Else prove '..UptoSaid'. A law counts once. -/
mutual
def uptoBulk {H : Type} : DataW H → Nat
  | .lit (.string bytes) => bytes.length + 1
  | .lit _ => 1
  | .nil => 1
  | .ptr d => uptoBulk d + 1
  | .slice elems spare => uptoBulkAll elems + uptoBulkAll spare + 1
  | .agg parts => uptoBulkAll parts + 1
  | .iface _ d => uptoBulk d + 1
  | .map entries => uptoBulkEntries entries + 1
  | .held _ => 1
def uptoBulkAll {H : Type} : List (DataW H) → Nat
  | [] => 0
  | d :: r => uptoBulk d + uptoBulkAll r
def uptoBulkEntries {H : Type} : List (Lit × DataW H) → Nat
  | [] => 0
  | x :: r => uptoBulkEntry x + uptoBulkEntries r
def uptoBulkEntry {H : Type} : Lit × DataW H → Nat
  | (.string bytes, d) => bytes.length + uptoBulk d + 1
  | (_, d) => uptoBulk d + 1
 end
def uptoSmall : (H : Type) → List (DataW H) → Bool := fun _ ds => decide (uptoBulkAll ds ≤ 1048576)
def OpenSpec.upto (s : _root_.Go.ChangeSpec) : _root_.Go.OpenSpec := { _root_.Go.OpenSpec.ofChange s with cond := some uptoSmall }

/-- 'signalboxlaw02.PrimsTexts', WHERE WHAT IT READS IS OF BULK AT MOST 1048576: true; the input reads as it did. -/
def primsTextsUptoRow : OpenClaim := { program := "ytcceindlcheipaa", sum := "e38c72ba9ccc55fe53bdfb8dbc0da3178a15f57e67294c2571c7ef0b555a3bc2", func := "signalbox/signalboxlaw02.PrimsTexts", spec := "primsTexts", apart := false, narrowed := true }
def PrimsTextsUptoSaid : Prop := primsTextsUptoRow.holds Try.pinned (OpenSpec.upto primsTextsSpec)

/-- 'signalboxlaw02.PrimsValues', WHERE WHAT IT READS IS OF BULK AT MOST 1048576: true; the input reads as it did. -/
def primsValuesUptoRow : OpenClaim := { program := "ytcceindlcheipaa", sum := "e38c72ba9ccc55fe53bdfb8dbc0da3178a15f57e67294c2571c7ef0b555a3bc2", func := "signalbox/signalboxlaw02.PrimsValues", spec := "primsValues", apart := false, narrowed := true }
def PrimsValuesUptoSaid : Prop := primsValuesUptoRow.holds Try.pinned (OpenSpec.upto primsValuesSpec)

/-- 'signalboxlaw02.PrimsTold', WHERE WHAT IT READS IS OF BULK AT MOST 1048576: true; the input reads as it did. -/
def primsToldUptoRow : OpenClaim := { program := "ytcceindlcheipaa", sum := "e38c72ba9ccc55fe53bdfb8dbc0da3178a15f57e67294c2571c7ef0b555a3bc2", func := "signalbox/signalboxlaw02.PrimsTold", spec := "primsTold", apart := false, narrowed := true }
def PrimsToldUptoSaid : Prop := primsToldUptoRow.holds Try.pinned (OpenSpec.upto primsToldSpec)

end Rows
end Go.Proofs.Ytcceindlcheipaa
