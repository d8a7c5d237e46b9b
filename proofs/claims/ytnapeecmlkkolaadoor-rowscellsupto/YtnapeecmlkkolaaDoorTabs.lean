/-
  What the row's list gives: the program's table lies in its block.
-/
import Derived.Test.YtnapeecmlkkolaaDoorCards
import Derived.Test.YtnapeecmlkkolaaDoorTie
import Derived.Test.YtnapeecmlkkolaaDoorOne
import Derived.ProofKit
import Derived.OpenShut
import Derived.ShutString
import Derived.ChangeOld
import Derived.Deep.DeepHandedRow
import Derived.Lib.LaidTab
namespace Go.Proofs.YtnapeecmlkkolaaDoor
open Go.ChangeShapes Go.WideShapes Go.ChangeAt Go.RowKit
set_option linter.unusedVariables false

theorem own : ownKnob Tryd.prog.godebug = none := by kernel_rfl
theorem gTab : Tryd.prog.globalNamed "signalbox/option.plainNames" = some 0 := by kernel_rfl
theorem gTabType : (Tryd.prog.globals[0]?).map (·.type) = some 160 := by kernel_rfl
theorem cells160 : Tryd.prog.cellsOf 160 = 21 := by kernel_rfl
theorem cells9 : Tryd.prog.cellsOf 9 = 1 := by kernel_rfl

/-- An array of texts that reads as the table holds the table's texts, cell for cell. -/
theorem cells_of_texts {H : Type} {enc : TypeId × Value → H} {P : Program} {w : World} {base : Nat} {sp : Nat → Bool} {held : Bool} {fuel : Nat} {t e : TypeId} {n : Nat} {cs : List Value} {zs : List (List UInt8)} {p : List MemPlace}
    (ht : P.underlying t = some (.array n e)) (he : P.underlying e = some .string) (hce : P.cellsOf e = 1) (hct : P.cellsOf t = n)
    (h : DataW.trod enc P w base sp held fuel t cs = some (.agg (zs.map fun z => .lit (.string z)), p)) : cs = zs.map fun z => Value.string ⟨z.toArray⟩ := by
  cases fuel with
  | zero => simp [DataW.trod] at h
  | succ fuel =>
    simp only [DataW.trod, ht, hce, hct, Nat.mul_one] at h
    split at h
    · rename_i hl
      obtain ⟨xs, hm, hx⟩ := Option.map_eq_some_iff.1 h
      have hxs : xs.map (·.1) = zs.map fun z => (DataW.lit (.string z) : DataW H) := by
        have := congrArg Prod.fst hx
        simpa using this
      have hxl : xs.length = n := by simpa using Lib.mapM_length hm
      have hzl : zs.length = n := by
        have := congrArg List.length hxs
        simp at this
        omega
      apply List.ext_getElem?
      intro i
      by_cases hi : i < n
      · obtain ⟨b, hb, hf⟩ := Lib.mapM_at hm i i (by simp [hi])
        obtain ⟨z, hc, rfl, _⟩ := DataW.trod_string he hf
        have h1 : cs[i]? = some (.string z) := by
          have := congrArg (·[0]?) hc
          simpa [List.getElem?_take, List.getElem?_drop] using this
        have h2 : (xs.map (·.1))[i]? = some (DataW.lit (.string z.data.toList) : DataW H) := by simp [hb]
        rw [hxs] at h2
        simp only [List.getElem?_map, Option.map_eq_some_iff, DataW.lit.injEq, Lit.string.injEq] at h2
        obtain ⟨z', hz', hz2⟩ := h2
        subst hz2
        simp [h1, hz']
      · rw [List.getElem?_eq_none (by omega), List.getElem?_eq_none (by simp; omega)]
    · cases h

theorem datum_texts : (Rows.laid_signalbox_option_plainNames : DataW Unit) = .agg ((plainTab.map (·.data.toList)).map fun z => .lit (.string z)) := by kernel_rfl

theorem tab_of_laid {W : World} (h : laidMetH Tryd.prog [("signalbox/option.plainNames", Rows.laid_signalbox_option_plainNames)] W) : Tab W := by
  have h' : laidMet Tryd.prog [("signalbox/option.plainNames", Rows.laid_signalbox_option_plainNames)] W := h
  obtain ⟨ps, ⟨g', t', cs, fuel, p, q, hg', ht', hvar, hd, _, _⟩, _⟩ := h'
  obtain rfl := Option.some.inj (gTab.symm.trans hg')
  obtain rfl := Option.some.inj (gTabType.symm.trans ht')
  rw [datum_texts] at hd
  have hcs := cells_of_texts Tryd.underlying160 Tryd.underlying9 cells9 cells160 hd
  have hcell : ∀ i, i < 21 → W.cell? ⟨0, i, none⟩ = some (.string (plainAt i)) := by
    intro i hi
    have h1 := World.var?_cell gTab hvar i
    rw [h1, ← Array.getElem?_toList, hcs]
    have hj : i < plainTab.length := hi
    simp only [List.getElem?_map, Option.map_map]
    rw [List.getElem?_eq_getElem hj, plainAt, List.getD_eq_getElem?_getD, List.getElem?_eq_getElem hj]
    rfl
  exact ⟨hcell, block_lt_of_cell (hcell 0 (by omega))⟩

/-- The table as its initialiser lays it. -/
def layTab : Obj → Obj
  | .cells _ t frozen => .cells (plainTab.map Value.string).toArray t frozen
  | o => o

/-- No parameter wants a stand-in; the program's own looks are off: what the cards ask. -/
theorem looks_off : false = Tryd.pinned.checked.prog.looks [] := by kernel_rfl
end Go.Proofs.YtnapeecmlkkolaaDoor
