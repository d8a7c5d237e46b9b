/-
  Arguments opened: places, tokens, as they come in; the variables that the statements have laid, one world that has them.
-/
import Derived.Test.YtohkpihjkaffoaaDoorRd
import Derived.Test.YtohkpihjkaffoaaDoorCards
import Derived.Test.YtohkpihjkaffoaaDoorTie
import Derived.Stop.LaidErr
import Derived.Deep.Strs
import Derived.ChangeSame
import Derived.SizedLaws
namespace Go.Proofs.YtohkpihjkaffoaaDoor
open Go.RowKit Go.ChangeShapes Go.WideShapes Go.Deep
set_option maxRecDepth 100000
set_option linter.unusedVariables false
set_option linter.unusedSimpArgs false

theorem laidOut : laidOutB Tryd.prog = true := by kernel_rfl
theorem own : ownKnob Tryd.prog.godebug = none := by kernel_rfl
theorem looks_on : true = Tryd.pinned.checked.prog.looks [] := by kernel_rfl
theorem gSyn : Tryd.prog.globalNamed "strconv.ErrSyntax" = some 0 := by kernel_rfl
theorem gSynType : (Tryd.prog.globals[0]?).map (·.type) = some 70 := by kernel_rfl
theorem gRan : Tryd.prog.globalNamed "strconv.ErrRange" = some 1 := by kernel_rfl
theorem gRanType : (Tryd.prog.globals[1]?).map (·.type) = some 70 := by kernel_rfl
theorem cells2 : Tryd.prog.cellsOf 2 = 1 := by kernel_rfl
theorem cells9 : Tryd.prog.cellsOf 9 = 1 := by kernel_rfl
theorem cells46 : Tryd.prog.cellsOf 46 = 2 := by kernel_rfl
theorem cells117 : Tryd.prog.cellsOf 117 = 1 := by kernel_rfl
/-- The one type of that name. -/
theorem row115 (u : TypeId) (h : Tryd.prog.typeName? 3 u = Tryd.prog.typeName? 3 115) : u = 115 :=
  typeName_ptr_named (nm := "errors.errorString") (by kernel_rfl) (by kernel_rfl) (by decide) u (h.trans (by kernel_rfl))

/-- What the statements have laid: the two errors are there. -/
theorem sents_of_laid {W : World} (h : laidMetH Tryd.prog Rows.ringOwnsRow.laid W) : Sents W := by
  have h' : laidMet Tryd.prog Rows.ringOwnsRow.laid W := h
  have h3 := h'.tail.tail.tail
  obtain ⟨a0, s0, hv0, -, -, -⟩ := laid_sentinel h3 gRan gRanType Tryd.underlying70 (fun u h => row115 u (h.trans (by kernel_rfl))) Tryd.underlying115 Tryd.underlying117 rfl rfl Tryd.underlying9 cells117 cells9
  obtain ⟨a1, s1, hv1, -, -, -⟩ := laid_sentinel h3.tail gSyn gSynType Tryd.underlying70 (fun u h => row115 u (h.trans (by kernel_rfl))) Tryd.underlying115 Tryd.underlying117 rfl rfl Tryd.underlying9 cells117 cells9
  exact ⟨⟨_, _, hv1⟩, ⟨_, _, hv0⟩⟩

abbrev synS : ByteArray := { data := #[105, 110, 118, 97, 108, 105, 100, 32, 115, 121, 110, 116, 97, 120] }
abbrev rngS : ByteArray := { data := #[118, 97, 108, 117, 101, 32, 111, 117, 116, 32, 111, 102, 32, 114, 97, 110, 103, 101] }
def setCells (cs : Array Value) : Obj → Obj
  | .cells _ t frozen => .cells cs t frozen
  | o => o
/-- The settled world, with the variables as their initialisers lay them. -/
def IsLaid (os : Os) (W : World) : Prop :=
  W = (let w0 := World.holding Tryd.prog os ⟨#[.cells #[.string synS] 117, .cells #[.string rngS] 117], #[], []⟩
  { w0 with heap := ((((w0.heap.modify 0 (setCells #[.iface 115 (.pointer (some ⟨(World.holding Tryd.prog os ⟨#[], #[], []⟩).heap.size, 0, none⟩))])).modify 1 (setCells #[.iface 115 (.pointer (some ⟨(World.holding Tryd.prog os ⟨#[], #[], []⟩).heap.size + 1, 0, none⟩))])).modify 2 (setCells #[.int .u64 1, .int .u64 10, .int .u64 100, .int .u64 1000, .int .u64 10000, .int .u64 100000, .int .u64 1000000, .int .u64 10000000, .int .u64 100000000, .int .u64 1000000000, .int .u64 10000000000, .int .u64 100000000000, .int .u64 1000000000000, .int .u64 10000000000000, .int .u64 100000000000000, .int .u64 1000000000000000, .int .u64 10000000000000000, .int .u64 100000000000000000, .int .u64 1000000000000000000, .int .u64 10000000000000000000])).modify 3 (setCells #[.int .u8 0, .int .u8 1, .int .u8 28, .int .u8 2, .int .u8 29, .int .u8 14, .int .u8 24, .int .u8 3, .int .u8 30, .int .u8 22, .int .u8 20, .int .u8 15, .int .u8 25, .int .u8 17, .int .u8 4, .int .u8 8, .int .u8 31, .int .u8 27, .int .u8 13, .int .u8 23, .int .u8 21, .int .u8 19, .int .u8 16, .int .u8 7, .int .u8 26, .int .u8 12, .int .u8 18, .int .u8 6, .int .u8 11, .int .u8 5, .int .u8 10, .int .u8 9])).modify 4 (setCells #[.int .u8 0, .int .u8 1, .int .u8 56, .int .u8 2, .int .u8 57, .int .u8 49, .int .u8 28, .int .u8 3, .int .u8 61, .int .u8 58, .int .u8 42, .int .u8 50, .int .u8 38, .int .u8 29, .int .u8 17, .int .u8 4, .int .u8 62, .int .u8 47, .int .u8 59, .int .u8 36, .int .u8 45, .int .u8 43, .int .u8 51, .int .u8 22, .int .u8 53, .int .u8 39, .int .u8 33, .int .u8 30, .int .u8 24, .int .u8 18, .int .u8 12, .int .u8 5, .int .u8 63, .int .u8 55, .int .u8 48, .int .u8 27, .int .u8 60, .int .u8 41, .int .u8 37, .int .u8 16, .int .u8 46, .int .u8 35, .int .u8 44, .int .u8 21, .int .u8 52, .int .u8 32, .int .u8 23, .int .u8 11, .int .u8 54, .int .u8 26, .int .u8 40, .int .u8 15, .int .u8 34, .int .u8 20, .int .u8 31, .int .u8 10, .int .u8 25, .int .u8 14, .int .u8 19, .int .u8 9, .int .u8 13, .int .u8 8, .int .u8 7, .int .u8 6]) } : World)
theorem laid_there (os : Os) : ∃ W, IsLaid os W := ⟨_, rfl⟩
theorem laidWorld_met {os : Os} {W : World} (h : IsLaid os W) (args : Array Value) : laidMet Tryd.prog Rows.ringOwnsRow.laid (W.forCall (fun _ _ => 0) ⟨#[], args, []⟩).memory := by
  unfold IsLaid at h
  subst h
  exact laidMet_of_run' 8 (by kernel_rfl) (by kernel_rfl)

def VI (w : World) (x : Int) (c : Nat → Value) : Prop := c 0 = .int .i64 x

section
variable {H : Type} {enc : TypeId × Value → H} {W : World} {base : Nat}

/-- From each item's cells to the view of all of them. -/
theorem view_of {α : Type} [Inhabited α] {size : Nat} (hsz : 0 < size) {V : World → α → (Nat → Value) → Prop} {a : Addr} {len cap : Nat} (hl : len ≤ cap) (hm : cap ≤ maxLen) {R : α → Prop}
    (h : ∀ i, i < len → ∃ x : α, (∃ c : Nat → Value, (∀ j, j < size → W.cell? (a.add (i * size + j)) = some (c j)) ∧ V W x c) ∧ R x) : ∃ xs, View size V W (some a) len cap xs ∧ ∀ x ∈ xs, R x := by
  obtain ⟨f, hf⟩ := choose_lt h
  refine ⟨(List.range len).map f, ⟨by simp, hl, hm, (fun e => by cases e), fun hp => ?_⟩, fun x hx => ?_⟩
  · obtain ⟨b, off, spot⟩ := a
    obtain ⟨⟨c0, hc0, _⟩, _⟩ := hf 0 hp
    have hc := hc0 0 hsz
    have hspot : spot = none := by simpa [Addr.add] using World.cell?_spot hc
    subst hspot
    refine ⟨b, off, rfl, by have := block_lt_of_cell hc; simpa [Addr.add] using this, fun i hi => ?_⟩
    obtain ⟨⟨c, hcell, hv⟩, _⟩ := hf i hi
    refine ⟨c, fun j hj => ?_, ?_⟩
    · have := hcell j hj
      have hplain : (⟨b, off, none⟩ : Addr).add (i * size + j) = ⟨b, off + (i * size + j), none⟩ := by unfold Addr.add; split <;> simp_all
      rwa [hplain] at this
    · rw [List.getD_eq_getElem?_getD]
      simpa [hi] using hv
  · obtain ⟨i, hi, rfl⟩ := List.mem_map.1 hx
    exact (hf i (List.mem_range.1 hi)).2

/-- The cells of one item, written out. -/
theorem cells_at {a : Addr} {i size n : Nat} {cs : List Value} (h : W.cells? base (a.add (i * size)) n = some cs) (hn : n = size) : cs.length = size ∧ ∀ j, j < size → W.cell? (a.add (i * size + j)) = some (cs.getD j default) := by
  subst hn
  obtain ⟨_, hlen, hc⟩ := World.cells?_some h
  refine ⟨hlen, fun j hj => ?_⟩
  have := hc j hj
  rw [add_add] at this
  rw [this, List.getD_eq_getElem?_getD, List.getElem?_eq_getElem (by omega)]
  rfl

theorem two_of {cs : List Value} (h : cs.length = 2) : ∃ c0 c1, cs = [c0, c1] := by
  match cs, h with
  | [c0, c1], _ => exact ⟨c0, c1, rfl⟩

/-- Tokens that came in. -/
theorem open_tokens {fuel : Nat} {v : Value} {x : DataW H × List MemPlace} (h : DataW.trod enc Tryd.prog W base (fun _ => true) true fuel 48 [v] = some x) :
    ∃ a len cap ns, v = .slice a len cap ∧ View 1 VI W a len cap ns ∧ ∀ n ∈ ns, -9223372036854775808 ≤ n ∧ n ≤ 9223372036854775807 := by
  rcases open_ints Tryd.underlying48 Tryd.underlying2 cells2 h with ⟨hcs, _⟩ | ⟨y, l, c, zs, hcs, _, hl, hm, hz, _, hcell, hwz⟩
  · simp at hcs
    exact ⟨none, 0, 0, [], hcs, view_nil _ _ _, by simp⟩
  · simp at hcs
    have hzl : zs.length = c := by simpa using hz
    obtain ⟨xs, hv, hx⟩ := view_of (W := W) (a := y) (size := 1) (V := VI) (R := fun n => -9223372036854775808 ≤ n ∧ n ≤ 9223372036854775807) (by decide) hl hm (fun i hi => by
      refine ⟨zs.getD i 0, ⟨fun _ => .int .i64 (zs.getD i 0), fun j hj => ?_, rfl⟩, ?_⟩
      · obtain rfl : j = 0 := by omega
        simpa using hcell i (by omega)
      · rw [List.getD_eq_getElem?_getD, List.getElem?_eq_getElem (by omega), Option.getD_some]
        have := hwz _ (List.getElem_mem (l := zs) (n := i) (by omega))
        have e1 : IntKind.i64.min = -9223372036854775808 := rfl
        have e2 : IntKind.i64.max = 9223372036854775807 := rfl
        simp [Lit.wf, e1, e2] at this
        omega)
    exact ⟨some y, l, c, xs, hcs, hv, hx⟩

/-- Places that came in. -/
theorem open_places {fuel : Nat} {v : Value} {x : DataW H × List MemPlace} (h : DataW.trod enc Tryd.prog W base (fun _ => true) true fuel 22 [v] = some x) :
    ∃ a len cap zs, v = .slice a len cap ∧ View 2 VP W a len cap zs ∧ ∀ p ∈ zs, p.2.size ≤ maxLen := by
  rcases open_slice Tryd.underlying22 h with ⟨hcs, _⟩ | ⟨a, len, cap, m, n, D, Pl, hcs, _, hl, hm, hmm, hx0, hc⟩
  · simp at hcs
    exact ⟨none, 0, 0, [], hcs, view_nil _ _ _, by simp⟩
  · simp at hcs
    simp at hmm
    subst hmm
    obtain ⟨xs, hv, hx⟩ := view_of (W := W) (a := a) (size := 2) (V := VP) (R := fun y => y.2.size ≤ maxLen) (by decide) hl hm (fun i hi => by
      obtain ⟨cs, h1, h2⟩ := hc i (by omega)
      rw [cells46] at h1
      obtain ⟨hlen, hcell⟩ := cells_at h1 rfl
      obtain ⟨c0, c1, rfl⟩ := two_of hlen
      obtain ⟨u0, u1, k2, hd2, _, r0, r1⟩ := trod_struct2 Tryd.underlying46 h2
      simp [cells2, cells9] at r0 r1
      obtain ⟨n0, e1, _, wk⟩ := DataW.trod_int Tryd.underlying2 r0
      obtain ⟨z, e2, _, hz⟩ := DataW.trod_string Tryd.underlying9 r1
      simp at e1 e2
      subst e1 e2
      exact ⟨(n0, z), ⟨_, hcell, rfl, rfl⟩, hz⟩)
    exact ⟨some a, len, _, xs, hcs, hv, hx⟩
end
end Go.Proofs.YtohkpihjkaffoaaDoor
