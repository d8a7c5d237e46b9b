/-
  No cell of these rows narrows 'for every input' (looked for: loops, veiled, ifaces, maps, wideKeys, modest, calm, conditions, laid).
  DERIVED. THE GIVEN ROWS OF THIS SEAT. 5 by the template 'for every input the law returns true; each argument reads behind the call as it read before'; 0 by the template 'total and deterministic' (their statements: YtpbclipckkdgfaaTotals.lean).
  GIVEN WITH THE SEED: the statements are not yours to turn. If you find one false, say at which input.
  Laid BY PROGRAM, IN A SANDBOX (cutbox-rows.mjs): the forced cells as the released guide's own fill.sh prints them over the translation 465602e7196b31ac… (all of the seat's roots in one cut). By AI agents, Wed Nov 11 2026. No macro, syntax, notation, axiom, sorry.
-/
import Derived.Test.YtpbclipckkdgfaaChecked
import GoSem.Claim
import GoSem.ClaimJoined
import GoSem.ClaimMapViews
import Derived.JoinedTies
import Derived.KernelRfl
namespace Go.Proofs.Ytpbclipckkdgfaa
/- THE CELL 'sum', in the pinned program and in every row, IS THE sha256 OF THE DUMP (.gsa) THAT YtpbclipckkdgfaaProg.lean LOADS. Nothing in Lean hashes anything: it is a label: what it is worth is what the hold of that sum in a sandbox is worth. -/
noncomputable def Try.pinned : Pinned := { name := "ytpbclipckkdgfaa", sum := "465602e7196b31ac6a883bf7e588ae081b717590a5d805e37a091ac711fe0989", checked := Try.checked }
namespace Rows
def none {H : Type} : Left H := { results := [], args := [] }

/-- 'signalboxlaw11.MurmurHashes': WHATEVER THE INPUT: true; the input reads as it did. -/
def murmurHashesSpec : ChangeSpec := { name := "murmurHashes", fn := fun _ => fun
  | [d] => { results := [.lit (.bool true)], args := [d] }
  | _ => none }
def murmurHashesRow : OpenClaim := { program := "ytpbclipckkdgfaa", sum := "465602e7196b31ac6a883bf7e588ae081b717590a5d805e37a091ac711fe0989", func := "signalbox/signalboxlaw11.MurmurHashes", spec := "murmurHashes", apart := false }
def MurmurHashesSaid : Prop := murmurHashesRow.holds Try.pinned (OpenSpec.ofChange murmurHashesSpec)

/-- ITS FALSE NEIGHBOUR: 'it returns false'. Refute it at one input. -/
def murmurHashesWrong : ChangeSpec := { name := "murmurHashes", fn := fun _ => fun
  | [d] => { results := [.lit (.bool false)], args := [d] }
  | _ => none }
def MurmurHashesWrongFalsely : Prop := murmurHashesRow.holds Try.pinned (OpenSpec.ofChange murmurHashesWrong)

/-- 'signalboxlaw11.MurmurShort': WHATEVER THE INPUT: true; the input reads as it did. -/
def murmurShortSpec : ChangeSpec := { name := "murmurShort", fn := fun _ => fun
  | [d1, d2, d3] => { results := [.lit (.bool true)], args := [d1, d2, d3] }
  | _ => none }
def murmurShortRow : OpenClaim := { program := "ytpbclipckkdgfaa", sum := "465602e7196b31ac6a883bf7e588ae081b717590a5d805e37a091ac711fe0989", func := "signalbox/signalboxlaw11.MurmurShort", spec := "murmurShort", apart := false }
def MurmurShortSaid : Prop := murmurShortRow.holds Try.pinned (OpenSpec.ofChange murmurShortSpec)

/-- ITS FALSE NEIGHBOUR: 'it returns false'. Refute it at one input. -/
def murmurShortWrong : ChangeSpec := { name := "murmurShort", fn := fun _ => fun
  | [d1, d2, d3] => { results := [.lit (.bool false)], args := [d1, d2, d3] }
  | _ => none }
def MurmurShortWrongFalsely : Prop := murmurShortRow.holds Try.pinned (OpenSpec.ofChange murmurShortWrong)

/-- 'signalboxlaw11.MurmurLeast': WHATEVER THE INPUT: true; the input reads as it did. -/
def murmurLeastSpec : ChangeSpec := { name := "murmurLeast", fn := fun _ => fun
  | [d] => { results := [.lit (.bool true)], args := [d] }
  | _ => none }
def murmurLeastRow : OpenClaim := { program := "ytpbclipckkdgfaa", sum := "465602e7196b31ac6a883bf7e588ae081b717590a5d805e37a091ac711fe0989", func := "signalbox/signalboxlaw11.MurmurLeast", spec := "murmurLeast", apart := false }
def MurmurLeastSaid : Prop := murmurLeastRow.holds Try.pinned (OpenSpec.ofChange murmurLeastSpec)

/-- ITS FALSE NEIGHBOUR: 'it returns false'. Refute it at one input. -/
def murmurLeastWrong : ChangeSpec := { name := "murmurLeast", fn := fun _ => fun
  | [d] => { results := [.lit (.bool false)], args := [d] }
  | _ => none }
def MurmurLeastWrongFalsely : Prop := murmurLeastRow.holds Try.pinned (OpenSpec.ofChange murmurLeastWrong)

/-- 'signalboxlaw11.MurmurTail': WHATEVER THE INPUT: true; the input reads as it did. -/
def murmurTailSpec : ChangeSpec := { name := "murmurTail", fn := fun _ => fun
  | [d1, d2, d3] => { results := [.lit (.bool true)], args := [d1, d2, d3] }
  | _ => none }
def murmurTailRow : OpenClaim := { program := "ytpbclipckkdgfaa", sum := "465602e7196b31ac6a883bf7e588ae081b717590a5d805e37a091ac711fe0989", func := "signalbox/signalboxlaw11.MurmurTail", spec := "murmurTail", apart := false }
def MurmurTailSaid : Prop := murmurTailRow.holds Try.pinned (OpenSpec.ofChange murmurTailSpec)

/-- ITS FALSE NEIGHBOUR: 'it returns false'. Refute it at one input. -/
def murmurTailWrong : ChangeSpec := { name := "murmurTail", fn := fun _ => fun
  | [d1, d2, d3] => { results := [.lit (.bool false)], args := [d1, d2, d3] }
  | _ => none }
def MurmurTailWrongFalsely : Prop := murmurTailRow.holds Try.pinned (OpenSpec.ofChange murmurTailWrong)

/-- 'signalboxlaw11.MurmurNoughts': WHATEVER THE INPUT: true; the input reads as it did. -/
def murmurNoughtsSpec : ChangeSpec := { name := "murmurNoughts", fn := fun _ => fun
  | [d1, d2] => { results := [.lit (.bool true)], args := [d1, d2] }
  | _ => none }
def murmurNoughtsRow : OpenClaim := { program := "ytpbclipckkdgfaa", sum := "465602e7196b31ac6a883bf7e588ae081b717590a5d805e37a091ac711fe0989", func := "signalbox/signalboxlaw11.MurmurNoughts", spec := "murmurNoughts", apart := false }
def MurmurNoughtsSaid : Prop := murmurNoughtsRow.holds Try.pinned (OpenSpec.ofChange murmurNoughtsSpec)

/-- ITS FALSE NEIGHBOUR: 'it returns false'. Refute it at one input. -/
def murmurNoughtsWrong : ChangeSpec := { name := "murmurNoughts", fn := fun _ => fun
  | [d1, d2] => { results := [.lit (.bool false)], args := [d1, d2] }
  | _ => none }
def MurmurNoughtsWrongFalsely : Prop := murmurNoughtsRow.holds Try.pinned (OpenSpec.ofChange murmurNoughtsWrong)

/- THE SECOND FORM. 'bulk': how many values and letters a reading holds, each counted each time it is reached (what is shared counts as often as it is met; a slice's spare places count too). A statement '..UptoSaid' is the law's where the arguments, and the package variables that the reading takes, are together of bulk at most 1048576: NARROWER than '..Said'. Prove '..Said' where nothing that the law and all that it calls make is longer than what came in: it says more and counts as full. Else prove '..UptoSaid'. A law counts once. -/
mutual
def uptoBulk {H : Type} : DataW H → Nat
  | .lit (.string bytes) => bytes.length + 1
  | .lit _ => 1
  | .nil => 1
  | .ptr d => uptoBulk d + 1
  | .slice elems spare => uptoBulkAll elems + uptoBulkAll spare + 1
  | .agg parts => uptoBulkAll parts + 1
  | .iface _ d => uptoBulk d + 1
  | .map entries => uptoBulkEntries entries + 1
  | .held _ => 1
def uptoBulkAll {H : Type} : List (DataW H) → Nat
  | [] => 0
  | d :: r => uptoBulk d + uptoBulkAll r
def uptoBulkEntries {H : Type} : List (Lit × DataW H) → Nat
  | [] => 0
  | x :: r => uptoBulkEntry x + uptoBulkEntries r
def uptoBulkEntry {H : Type} : Lit × DataW H → Nat
  | (.string bytes, d) => bytes.length + uptoBulk d + 1
  | (_, d) => uptoBulk d + 1
 end
def uptoSmall : (H : Type) → List (DataW H) → Bool := fun _ ds => decide (uptoBulkAll ds ≤ 1048576)
def OpenSpec.upto (s : _root_.Go.ChangeSpec) : _root_.Go.OpenSpec := { _root_.Go.OpenSpec.ofChange s with cond := some uptoSmall }

/-- 'signalboxlaw11.MurmurHashes', WHERE WHAT IT READS IS OF BULK AT MOST 1048576: true; the input reads as it did. -/
def murmurHashesUptoRow : OpenClaim := { program := "ytpbclipckkdgfaa", sum := "465602e7196b31ac6a883bf7e588ae081b717590a5d805e37a091ac711fe0989", func := "signalbox/signalboxlaw11.MurmurHashes", spec := "murmurHashes", apart := false, narrowed := true }
def MurmurHashesUptoSaid : Prop := murmurHashesUptoRow.holds Try.pinned (OpenSpec.upto murmurHashesSpec)

/-- 'signalboxlaw11.MurmurShort', WHERE WHAT IT READS IS OF BULK AT MOST 1048576: true; the input reads as it did. -/
def murmurShortUptoRow : OpenClaim := { program := "ytpbclipckkdgfaa", sum := "465602e7196b31ac6a883bf7e588ae081b717590a5d805e37a091ac711fe0989", func := "signalbox/signalboxlaw11.MurmurShort", spec := "murmurShort", apart := false, narrowed := true }
def MurmurShortUptoSaid : Prop := murmurShortUptoRow.holds Try.pinned (OpenSpec.upto murmurShortSpec)

/-- 'signalboxlaw11.MurmurLeast', WHERE WHAT IT READS IS OF BULK AT MOST 1048576: true; the input reads as it did. -/
def murmurLeastUptoRow : OpenClaim := { program := "ytpbclipckkdgfaa", sum := "465602e7196b31ac6a883bf7e588ae081b717590a5d805e37a091ac711fe0989", func := "signalbox/signalboxlaw11.MurmurLeast", spec := "murmurLeast", apart := false, narrowed := true }
def MurmurLeastUptoSaid : Prop := murmurLeastUptoRow.holds Try.pinned (OpenSpec.upto murmurLeastSpec)

/-- 'signalboxlaw11.MurmurTail', WHERE WHAT IT READS IS OF BULK AT MOST 1048576: true; the input reads as it did. -/
def murmurTailUptoRow : OpenClaim := { program := "ytpbclipckkdgfaa", sum := "465602e7196b31ac6a883bf7e588ae081b717590a5d805e37a091ac711fe0989", func := "signalbox/signalboxlaw11.MurmurTail", spec := "murmurTail", apart := false, narrowed := true }
def MurmurTailUptoSaid : Prop := murmurTailUptoRow.holds Try.pinned (OpenSpec.upto murmurTailSpec)

/-- 'signalboxlaw11.MurmurNoughts', WHERE WHAT IT READS IS OF BULK AT MOST 1048576: true; the input reads as it did. -/
def murmurNoughtsUptoRow : OpenClaim := { program := "ytpbclipckkdgfaa", sum := "465602e7196b31ac6a883bf7e588ae081b717590a5d805e37a091ac711fe0989", func := "signalbox/signalboxlaw11.MurmurNoughts", spec := "murmurNoughts", apart := false, narrowed := true }
def MurmurNoughtsUptoSaid : Prop := murmurNoughtsUptoRow.holds Try.pinned (OpenSpec.upto murmurNoughtsSpec)

end Rows
end Go.Proofs.Ytpbclipckkdgfaa
