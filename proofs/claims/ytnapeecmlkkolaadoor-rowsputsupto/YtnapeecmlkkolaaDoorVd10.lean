/-
  The document's own tables: values, rows and columns as they lie in memory.
-/
import Derived.Test.YtnapeecmlkkolaaDoorAd
namespace Go.Proofs.YtnapeecmlkkolaaDoor
open Go.RowKit
set_option maxRecDepth 100000
set_option linter.unusedVariables false
set_option linter.unusedSimpArgs false

/-- A value of the document's, a row of them. -/
def VVs : Vw Vl := fun F w x c => c 0 = .int .i64 x.1 ∧ c 1 = .string x.2
def VRs : Vw (List Vl) := fun F w xs c => OwnI 35 2 VVs w F (c 0) xs

theorem stays_vs : StaysI 2 VVs := by
  intro F F' w w' x c c' h hc hb hs hF
  obtain ⟨h0, h1⟩ := h
  exact ⟨(hc 0 (by omega)).trans h0, (hc 1 (by omega)).trans h1⟩
theorem stays_rs : StaysI 1 VRs := by
  intro F F' w w' x c c' h hc hb hs hF
  unfold VRs at h ⊢
  rw [hc 0 (by omega)]
  exact OwnI.kept stays_vs h hb hs hF

theorem Tryd.info35 : (Tryd.prog.info? 35).map (fun i => (i.zero, i.size, i.bytes)) = some (some (.agg #[.int .i64 0, .string ⟨#[]⟩]), 2, 24) := by kernel_rfl
theorem Tryd.info80 : (Tryd.prog.info? 80).map (fun i => (i.zero, i.size, i.bytes)) = some (some (.slice none 0 0), 1, 24) := by kernel_rfl
theorem Tryd.info83 : (Tryd.prog.info? 83).map (fun i => (i.zero, i.size, i.bytes)) = some (some (.agg #[.string ⟨#[]⟩, .string ⟨#[]⟩, .string ⟨#[]⟩, .int .u16 0, .string ⟨#[]⟩, .string ⟨#[]⟩, .slice none 0 0, .slice none 0 0]), 8, 136) := by kernel_rfl
theorem elem_vs : Elem 80 35 2 24 := by
  obtain ⟨i0, hi, hz0, hz1, hz2⟩ := info_parts Tryd.info35
  exact ⟨by decide, Tryd.underlying80, i0, _, hi, hz0, hz1, hz2, rfl⟩
theorem elem_rs : Elem 36 80 1 24 := by
  obtain ⟨i0, hi, hz0, hz1, hz2⟩ := info_parts Tryd.info80
  exact ⟨by decide, Tryd.underlying36, i0, _, hi, hz0, hz1, hz2, rfl⟩
theorem elem_cs : Elem 33 83 8 136 := by
  obtain ⟨i0, hi, hz0, hz1, hz2⟩ := info_parts Tryd.info83
  exact ⟨by decide, Tryd.underlying33, i0, _, hi, hz0, hz1, hz2, rfl⟩

/-- A table of the document's that a call made: its columns, its rows. -/
def DtO (n : Nat) (w : World) (F : Nat → Prop) (T : List Col × List (List Vl)) (ca : Option Addr) (cl cc : Nat) (ra : Option Addr) (rl rc : Nat) : Prop :=
  OwnI 83 8 (VCol n) w F (.slice ca cl cc) T.1 ∧ OwnI 80 1 VRs w F (.slice ra rl rc) T.2
theorem DtO.apart {n : Nat} {w W : World} {F K : Nat → Prop} {T : List Col × List (List Vl)} {ca : Option Addr} {cl cc : Nat} {ra : Option Addr} {rl rc : Nat} (h : DtO n w F T ca cl cc ra rl rc) (hK : Kept K w W) (hn : ∀ k, k < w.heap.size → F k → ¬ K k) : DtO n W F T ca cl cc ra rl rc :=
  ⟨h.1.apart (stays_col n) hK hn, h.2.apart stays_rs hK hn⟩
theorem DtO.old {n : Nat} {w W : World} {F : Nat → Prop} {T : List Col × List (List Vl)} {ca : Option Addr} {cl cc : Nat} {ra : Option Addr} {rl rc : Nat} (h : DtO n w F T ca cl cc ra rl rc) (hB : Below w.heap.size w W) : DtO n W F T ca cl cc ra rl rc :=
  ⟨h.1.old (stays_col n) hB, h.2.old stays_rs hB⟩
theorem DtO.sub {n : Nat} {w : World} {F F' : Nat → Prop} {T : List Col × List (List Vl)} {ca : Option Addr} {cl cc : Nat} {ra : Option Addr} {rl rc : Nat} (h : DtO n w F T ca cl cc ra rl rc) (hF : ∀ k, k < w.heap.size → F k → F' k) : DtO n w F' T ca cl cc ra rl rc :=
  ⟨h.1.sub (stays_col n) hF, h.2.sub stays_rs hF⟩
theorem dtO_nil (n : Nat) (w : World) (F : Nat → Prop) : DtO n w F ([], []) none 0 0 none 0 0 := ⟨ownI_nil _ _ _ _ _, ownI_nil _ _ _ _ _⟩
end Go.Proofs.YtnapeecmlkkolaaDoor
