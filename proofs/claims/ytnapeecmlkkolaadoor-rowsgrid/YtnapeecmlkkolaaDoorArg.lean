/-
  What the walks are told of a slice that came in, and small facts on texts made of bytes.
-/
import Derived.Test.YtnapeecmlkkolaaDoorRef
import Derived.OpenShut
import Derived.Laws.BytesArg
import Derived.Lib.Bytes
namespace Go.Proofs.YtnapeecmlkkolaaDoor
open Go.RowKit
set_option linter.unusedVariables false

/-- A slice of integers that came in: it is nil; or it leads to a row of 'cap' cells, the numbers 'zs' (the first 'len' are its elements, the rest its spare room), each fitting its kind. -/
def IsRow (k : IntKind) (w : World) (a : Option Addr) (len cap : Nat) (zs : List Int) : Prop :=
  (a = none ∧ len = 0 ∧ cap = 0 ∧ zs = []) ∨
  ∃ x, a = some x ∧ len ≤ cap ∧ cap ≤ maxLen ∧ zs.length = cap ∧ (∀ i, i < zs.length → w.cell? (x.add i) = some (.int k (zs.getD i 0))) ∧ ∀ n ∈ zs, (Lit.int k n).wf = true

/-- Where there is a place for an element the row's place is known. -/
theorem IsRow.at {k : IntKind} {w : World} {a : Option Addr} {len cap : Nat} {zs : List Int} (h : IsRow k w a len cap zs) (hp : 0 < cap) :
    ∃ b off, a = some ⟨b, off, none⟩ ∧ len ≤ cap ∧ cap ≤ maxLen ∧ zs.length = cap ∧ b < w.heap.size ∧ (∀ i, i < cap → w.cell? ⟨b, off + i, none⟩ = some (.int k (zs.getD i 0))) ∧ ∀ n ∈ zs, (Lit.int k n).wf = true := by
  rcases h with ⟨_, _, h, _⟩ | ⟨x, rfl, hl, hm, hz, hcell, hwz⟩
  · omega
  · obtain ⟨b, off, spot⟩ := x
    have hc := hcell 0 (by omega)
    have hspot : spot = none := by simpa [Addr.add] using World.cell?_spot hc
    subst hspot
    refine ⟨b, off, rfl, hl, hm, hz, ?_, ?_, hwz⟩
    · have := block_lt_of_cell hc
      simpa [Addr.add] using this
    · intro i hi
      have := hcell i (by omega)
      have hplain : (⟨b, off, none⟩ : Addr).add i = ⟨b, off + i, none⟩ := by unfold Addr.add; split <;> simp_all
      rwa [hplain] at this

theorem IsRow.le {k : IntKind} {w : World} {a : Option Addr} {len cap : Nat} {zs : List Int} (h : IsRow k w a len cap zs) : len ≤ cap ∧ cap ≤ maxLen := by
  rcases h with ⟨_, h, h', _⟩ | ⟨x, rfl, hl, hm, hz, hcell, hwz⟩
  · exact ⟨by omega, by unfold maxLen; omega⟩
  · exact ⟨hl, hm⟩

theorem range_of_wf {zs : List Int} (h : ∀ n ∈ zs, (Lit.int .u8 n).wf = true) : ∀ j : Nat, 0 ≤ zs[j]?.getD 0 ∧ zs[j]?.getD 0 ≤ 255 := by
  intro j
  by_cases hj : j < zs.length
  · rw [List.getElem?_eq_getElem hj, Option.getD_some]
    have := bounds_u8 (h _ (List.getElem_mem hj))
    omega
  · rw [List.getElem?_eq_none (by omega)]; simp

theorem getD_sub (zs : List Int) (n len i : Nat) (h : i < len - n) : ((zs.take len).drop n).getD i 0 = zs.getD (n + i) 0 := by
  simp only [List.getD_eq_getElem?_getD, List.getElem?_drop]
  rw [List.getElem?_take_of_lt (by omega)]

/-- The text of no bytes. -/
theorem conv_empty (b o c : Nat) (wx : World) : (convert 22 9 (.slice (some ⟨b, o, none⟩) 0 c)).run Tryd.prog wx = .ok (.string ByteArray.empty) wx :=
  run_convert_bytes_arg (P := Tryd.prog) wx 22 5 Tryd.underlying22 Tryd.underlying5 b o 0 c [] rfl (fun i hi => by omega) 9 Tryd.underlying9

theorem conv_nil (c : Nat) (wx : World) : (convert 22 9 (.slice none 0 c)).run Tryd.prog wx = .ok (.string ByteArray.empty) wx :=
  run_convert_bytes_nil (P := Tryd.prog) wx 22 5 Tryd.underlying22 Tryd.underlying5 0 c 9 Tryd.underlying9

theorem conv_void (a : Option Addr) (c : Nat) (wx : World) : (convert 22 9 (.slice a 0 c)).run Tryd.prog wx = .ok (.string ByteArray.empty) wx := by
  cases a with
  | none => exact conv_nil c wx
  | some x =>
    rw [run_convert_bytes_string wx 22 9 5 _ 0 c Tryd.underlying22 Tryd.underlying5 Tryd.underlying9]
    have h := run_loadCells_list (P := Tryd.prog) wx x [] (fun j v hj => by simp at hj)
    exact run_bytesToString (P := Tryd.prog) wx x 0 c [] h

/-- The text of the bytes from n on. -/
theorem conv_rest (w w1 : World) (b off off' n len cap cap' : Nat) (zs : List Int) (hn : n ≤ len) (hz : len ≤ zs.length) (ho : n < len → off' = off + n)
    (hcell : ∀ i, i < len → w1.cell? ⟨b, off + i, none⟩ = some (.int .u8 (zs.getD i 0))) (q : Nat) :
    (convert 22 9 (.slice (some ⟨b, off', none⟩) (len - n) cap')).run Tryd.prog (w1.drewN q) = .ok (.string (strOfNums ((zs.take len).drop n))) (w1.drewN q) := by
  refine run_convert_bytes_arg (P := Tryd.prog) (w1.drewN q) 22 5 Tryd.underlying22 Tryd.underlying5 b off' (len - n) cap' _ (by simp; omega) ?_ 9 Tryd.underlying9
  intro i hi
  rw [getD_sub zs n len i hi, ho (by omega)]
  have := hcell (n + i) (by omega)
  rw [← Nat.add_assoc] at this
  simpa using this
end Go.Proofs.YtnapeecmlkkolaaDoor
