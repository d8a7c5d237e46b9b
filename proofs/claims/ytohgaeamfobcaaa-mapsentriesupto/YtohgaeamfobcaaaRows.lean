/-
  No cell of these rows narrows 'for every input' (looked for: loops, veiled, ifaces, maps, wideKeys, modest, calm, conditions, laid).
  DERIVED. THE GIVEN ROWS OF THIS SEAT. 7 by the template 'for every input the law returns true; each argument reads behind the call as it read before'; 0 by the template 'total and deterministic' (their statements: YtohgaeamfobcaaaTotals.lean).
  GIVEN WITH THE SEED: the statements are not yours to turn. If you find one false, say at which input.
  Laid BY PROGRAM, IN A SANDBOX (cutbox-rows.mjs): the forced cells as the released guide's own fill.sh prints them over the translation 7ccc1ad04374a120… (all of the seat's roots in one cut). By AI agents, Wed Nov 11 2026. No macro, syntax, notation, axiom, sorry.
-/
import Derived.Test.YtohgaeamfobcaaaChecked
import GoSem.Claim
import GoSem.ClaimJoined
import GoSem.ClaimMapViews
import Derived.JoinedTies
import Derived.KernelRfl
namespace Go.Proofs.Ytohgaeamfobcaaa
/- THE CELL 'sum', in the pinned program and in every row, IS THE sha256 OF THE DUMP (.gsa) THAT YtohgaeamfobcaaaProg.lean LOADS. Nothing in Lean hashes anything: it is a label: what it is worth is what the hold of that sum in a sandbox is worth. -/
noncomputable def Try.pinned : Pinned := { name := "ytohgaeamfobcaaa", sum := "7ccc1ad04374a12032a4335558a7a6adb15e9e6c18ec0681c140b0d5cea0575b", checked := Try.checked }
namespace Rows
def none {H : Type} : Left H := { results := [], args := [] }

/-- 'signalboxlaw03.MapsTexts': WHATEVER THE INPUT: true; the input reads as it did. -/
def mapsTextsSpec : ChangeSpec := { name := "mapsTexts", fn := fun _ => fun
  | [d1, d2] => { results := [.lit (.bool true)], args := [d1, d2] }
  | _ => none }
def mapsTextsRow : OpenClaim := { program := "ytohgaeamfobcaaa", sum := "7ccc1ad04374a12032a4335558a7a6adb15e9e6c18ec0681c140b0d5cea0575b", func := "signalbox/signalboxlaw03.MapsTexts", spec := "mapsTexts", unfollowed := true, recurses := true, apart := false }
def MapsTextsSaid : Prop := mapsTextsRow.holds Try.pinned (OpenSpec.ofChange mapsTextsSpec)

/-- ITS FALSE NEIGHBOUR: 'it returns false'. Refute it at one input. -/
def mapsTextsWrong : ChangeSpec := { name := "mapsTexts", fn := fun _ => fun
  | [d1, d2] => { results := [.lit (.bool false)], args := [d1, d2] }
  | _ => none }
def MapsTextsWrongFalsely : Prop := mapsTextsRow.holds Try.pinned (OpenSpec.ofChange mapsTextsWrong)

/-- 'signalboxlaw03.MapsPairs': WHATEVER THE INPUT: true; the input reads as it did. -/
def mapsPairsSpec : ChangeSpec := { name := "mapsPairs", fn := fun _ => fun
  | [d1, d2] => { results := [.lit (.bool true)], args := [d1, d2] }
  | _ => none }
def mapsPairsRow : OpenClaim := { program := "ytohgaeamfobcaaa", sum := "7ccc1ad04374a12032a4335558a7a6adb15e9e6c18ec0681c140b0d5cea0575b", func := "signalbox/signalboxlaw03.MapsPairs", spec := "mapsPairs", unfollowed := true, recurses := true, apart := false }
def MapsPairsSaid : Prop := mapsPairsRow.holds Try.pinned (OpenSpec.ofChange mapsPairsSpec)

/-- ITS FALSE NEIGHBOUR: 'it returns false'. Refute it at one input. -/
def mapsPairsWrong : ChangeSpec := { name := "mapsPairs", fn := fun _ => fun
  | [d1, d2] => { results := [.lit (.bool false)], args := [d1, d2] }
  | _ => none }
def MapsPairsWrongFalsely : Prop := mapsPairsRow.holds Try.pinned (OpenSpec.ofChange mapsPairsWrong)

/-- 'signalboxlaw03.MapsMultis': WHATEVER THE INPUT: true; the input reads as it did. -/
def mapsMultisSpec : ChangeSpec := { name := "mapsMultis", fn := fun _ => fun
  | [d1, d2] => { results := [.lit (.bool true)], args := [d1, d2] }
  | _ => none }
def mapsMultisRow : OpenClaim := { program := "ytohgaeamfobcaaa", sum := "7ccc1ad04374a12032a4335558a7a6adb15e9e6c18ec0681c140b0d5cea0575b", func := "signalbox/signalboxlaw03.MapsMultis", spec := "mapsMultis", unfollowed := true, recurses := true, apart := false }
def MapsMultisSaid : Prop := mapsMultisRow.holds Try.pinned (OpenSpec.ofChange mapsMultisSpec)

/-- ITS FALSE NEIGHBOUR: 'it returns false'. Refute it at one input. -/
def mapsMultisWrong : ChangeSpec := { name := "mapsMultis", fn := fun _ => fun
  | [d1, d2] => { results := [.lit (.bool false)], args := [d1, d2] }
  | _ => none }
def MapsMultisWrongFalsely : Prop := mapsMultisRow.holds Try.pinned (OpenSpec.ofChange mapsMultisWrong)

/-- 'signalboxlaw03.MapsEntries': WHATEVER THE INPUT: true; the input reads as it did. -/
def mapsEntriesSpec : ChangeSpec := { name := "mapsEntries", fn := fun _ => fun
  | [d1, d2] => { results := [.lit (.bool true)], args := [d1, d2] }
  | _ => none }
def mapsEntriesRow : OpenClaim := { program := "ytohgaeamfobcaaa", sum := "7ccc1ad04374a12032a4335558a7a6adb15e9e6c18ec0681c140b0d5cea0575b", func := "signalbox/signalboxlaw03.MapsEntries", spec := "mapsEntries", unfollowed := true, recurses := true, apart := false }
def MapsEntriesSaid : Prop := mapsEntriesRow.holds Try.pinned (OpenSpec.ofChange mapsEntriesSpec)

/-- ITS FALSE NEIGHBOUR: 'it returns false'. Refute it at one input. -/
def mapsEntriesWrong : ChangeSpec := { name := "mapsEntries", fn := fun _ => fun
  | [d1, d2] => { results := [.lit (.bool false)], args := [d1, d2] }
  | _ => none }
def MapsEntriesWrongFalsely : Prop := mapsEntriesRow.holds Try.pinned (OpenSpec.ofChange mapsEntriesWrong)

/-- 'signalboxlaw03.MapsBack': WHATEVER THE INPUT: true; the input reads as it did. -/
def mapsBackSpec : ChangeSpec := { name := "mapsBack", fn := fun _ => fun
  | [d1, d2, d3] => { results := [.lit (.bool true)], args := [d1, d2, d3] }
  | _ => none }
def mapsBackRow : OpenClaim := { program := "ytohgaeamfobcaaa", sum := "7ccc1ad04374a12032a4335558a7a6adb15e9e6c18ec0681c140b0d5cea0575b", func := "signalbox/signalboxlaw03.MapsBack", spec := "mapsBack", unfollowed := true, recurses := true, apart := false }
def MapsBackSaid : Prop := mapsBackRow.holds Try.pinned (OpenSpec.ofChange mapsBackSpec)

/-- ITS FALSE NEIGHBOUR: 'it returns false'. Refute it at one input. -/
def mapsBackWrong : ChangeSpec := { name := "mapsBack", fn := fun _ => fun
  | [d1, d2, d3] => { results := [.lit (.bool false)], args := [d1, d2, d3] }
  | _ => none }
def MapsBackWrongFalsely : Prop := mapsBackRow.holds Try.pinned (OpenSpec.ofChange mapsBackWrong)

/-- 'signalboxlaw03.MapsCut': WHATEVER THE INPUT: true; the input reads as it did. -/
def mapsCutSpec : ChangeSpec := { name := "mapsCut", fn := fun _ => fun
  | [d1, d2, d3, d4] => { results := [.lit (.bool true)], args := [d1, d2, d3, d4] }
  | _ => none }
def mapsCutRow : OpenClaim := { program := "ytohgaeamfobcaaa", sum := "7ccc1ad04374a12032a4335558a7a6adb15e9e6c18ec0681c140b0d5cea0575b", func := "signalbox/signalboxlaw03.MapsCut", spec := "mapsCut", unfollowed := true, recurses := true, apart := false }
def MapsCutSaid : Prop := mapsCutRow.holds Try.pinned (OpenSpec.ofChange mapsCutSpec)

/-- ITS FALSE NEIGHBOUR: 'it returns false'. Refute it at one input. -/
def mapsCutWrong : ChangeSpec := { name := "mapsCut", fn := fun _ => fun
  | [d1, d2, d3, d4] => { results := [.lit (.bool false)], args := [d1, d2, d3, d4] }
  | _ => none }
def MapsCutWrongFalsely : Prop := mapsCutRow.holds Try.pinned (OpenSpec.ofChange mapsCutWrong)

/-- 'signalboxlaw03.MapsRows': WHATEVER THE INPUT: true; the input reads as it did. -/
def mapsRowsSpec : ChangeSpec := { name := "mapsRows", fn := fun _ => fun
  | [d] => { results := [.lit (.bool true)], args := [d] }
  | _ => none }
def mapsRowsRow : OpenClaim := { program := "ytohgaeamfobcaaa", sum := "7ccc1ad04374a12032a4335558a7a6adb15e9e6c18ec0681c140b0d5cea0575b", func := "signalbox/signalboxlaw03.MapsRows", spec := "mapsRows", unfollowed := true, recurses := true, apart := false }
def MapsRowsSaid : Prop := mapsRowsRow.holds Try.pinned (OpenSpec.ofChange mapsRowsSpec)

/-- ITS FALSE NEIGHBOUR: 'it returns false'. Refute it at one input. -/
def mapsRowsWrong : ChangeSpec := { name := "mapsRows", fn := fun _ => fun
  | [d] => { results := [.lit (.bool false)], args := [d] }
  | _ => none }
def MapsRowsWrongFalsely : Prop := mapsRowsRow.holds Try.pinned (OpenSpec.ofChange mapsRowsWrong)

/- THE SECOND FORM. 'bulk': how many values and letters a reading holds, each counted each time it is reached (what is shared counts as often as it is met; a slice's spare places count too). A statement '..UptoSaid' is the law's where the arguments, and the package variables that the reading takes, are together of bulk at most 1048576: NARROWER than '..Said'. Prove '..Said' where nothing that the law and all that it calls make is longer than what came in: it says more and counts as full. Else prove '..UptoSaid'. A law counts once. -/
mutual
def uptoBulk {H : Type} : DataW H → Nat
  | .lit (.string bytes) => bytes.length + 1
  | .lit _ => 1
  | .nil => 1
  | .ptr d => uptoBulk d + 1
  | .slice elems spare => uptoBulkAll elems + uptoBulkAll spare + 1
  | .agg parts => uptoBulkAll parts + 1
  | .iface _ d => uptoBulk d + 1
  | .map entries => uptoBulkEntries entries + 1
  | .held _ => 1
def uptoBulkAll {H : Type} : List (DataW H) → Nat
  | [] => 0
  | d :: r => uptoBulk d + uptoBulkAll r
def uptoBulkEntries {H : Type} : List (Lit × DataW H) → Nat
  | [] => 0
  | x :: r => uptoBulkEntry x + uptoBulkEntries r
def uptoBulkEntry {H : Type} : Lit × DataW H → Nat
  | (.string bytes, d) => bytes.length + uptoBulk d + 1
  | (_, d) => uptoBulk d + 1
 end
def uptoSmall : (H : Type) → List (DataW H) → Bool := fun _ ds => decide (uptoBulkAll ds ≤ 1048576)
def OpenSpec.upto (s : _root_.Go.ChangeSpec) : _root_.Go.OpenSpec := { _root_.Go.OpenSpec.ofChange s with cond := some uptoSmall }

/-- 'signalboxlaw03.MapsTexts', WHERE WHAT IT READS IS OF BULK AT MOST 1048576: true; the input reads as it did. -/
def mapsTextsUptoRow : OpenClaim := { program := "ytohgaeamfobcaaa", sum := "7ccc1ad04374a12032a4335558a7a6adb15e9e6c18ec0681c140b0d5cea0575b", func := "signalbox/signalboxlaw03.MapsTexts", spec := "mapsTexts", unfollowed := true, recurses := true, apart := false, narrowed := true }
def MapsTextsUptoSaid : Prop := mapsTextsUptoRow.holds Try.pinned (OpenSpec.upto mapsTextsSpec)

/-- 'signalboxlaw03.MapsPairs', WHERE WHAT IT READS IS OF BULK AT MOST 1048576: true; the input reads as it did. -/
def mapsPairsUptoRow : OpenClaim := { program := "ytohgaeamfobcaaa", sum := "7ccc1ad04374a12032a4335558a7a6adb15e9e6c18ec0681c140b0d5cea0575b", func := "signalbox/signalboxlaw03.MapsPairs", spec := "mapsPairs", unfollowed := true, recurses := true, apart := false, narrowed := true }
def MapsPairsUptoSaid : Prop := mapsPairsUptoRow.holds Try.pinned (OpenSpec.upto mapsPairsSpec)

/-- 'signalboxlaw03.MapsMultis', WHERE WHAT IT READS IS OF BULK AT MOST 1048576: true; the input reads as it did. -/
def mapsMultisUptoRow : OpenClaim := { program := "ytohgaeamfobcaaa", sum := "7ccc1ad04374a12032a4335558a7a6adb15e9e6c18ec0681c140b0d5cea0575b", func := "signalbox/signalboxlaw03.MapsMultis", spec := "mapsMultis", unfollowed := true, recurses := true, apart := false, narrowed := true }
def MapsMultisUptoSaid : Prop := mapsMultisUptoRow.holds Try.pinned (OpenSpec.upto mapsMultisSpec)

/-- 'signalboxlaw03.MapsEntries', WHERE WHAT IT READS IS OF BULK AT MOST 1048576: true; the input reads as it did. -/
def mapsEntriesUptoRow : OpenClaim := { program := "ytohgaeamfobcaaa", sum := "7ccc1ad04374a12032a4335558a7a6adb15e9e6c18ec0681c140b0d5cea0575b", func := "signalbox/signalboxlaw03.MapsEntries", spec := "mapsEntries", unfollowed := true, recurses := true, apart := false, narrowed := true }
def MapsEntriesUptoSaid : Prop := mapsEntriesUptoRow.holds Try.pinned (OpenSpec.upto mapsEntriesSpec)

/-- 'signalboxlaw03.MapsBack', WHERE WHAT IT READS IS OF BULK AT MOST 1048576: true; the input reads as it did. -/
def mapsBackUptoRow : OpenClaim := { program := "ytohgaeamfobcaaa", sum := "7ccc1ad04374a12032a4335558a7a6adb15e9e6c18ec0681c140b0d5cea0575b", func := "signalbox/signalboxlaw03.MapsBack", spec := "mapsBack", unfollowed := true, recurses := true, apart := false, narrowed := true }
def MapsBackUptoSaid : Prop := mapsBackUptoRow.holds Try.pinned (OpenSpec.upto mapsBackSpec)

/-- 'signalboxlaw03.MapsCut', WHERE WHAT IT READS IS OF BULK AT MOST 1048576: true; the input reads as it did. -/
def mapsCutUptoRow : OpenClaim := { program := "ytohgaeamfobcaaa", sum := "7ccc1ad04374a12032a4335558a7a6adb15e9e6c18ec0681c140b0d5cea0575b", func := "signalbox/signalboxlaw03.MapsCut", spec := "mapsCut", unfollowed := true, recurses := true, apart := false, narrowed := true }
def MapsCutUptoSaid : Prop := mapsCutUptoRow.holds Try.pinned (OpenSpec.upto mapsCutSpec)

/-- 'signalboxlaw03.MapsRows', WHERE WHAT IT READS IS OF BULK AT MOST 1048576: true; the input reads as it did. -/
def mapsRowsUptoRow : OpenClaim := { program := "ytohgaeamfobcaaa", sum := "7ccc1ad04374a12032a4335558a7a6adb15e9e6c18ec0681c140b0d5cea0575b", func := "signalbox/signalboxlaw03.MapsRows", spec := "mapsRows", unfollowed := true, recurses := true, apart := false, narrowed := true }
def MapsRowsUptoSaid : Prop := mapsRowsUptoRow.holds Try.pinned (OpenSpec.upto mapsRowsSpec)

end Rows
end Go.Proofs.Ytohgaeamfobcaaa
