/-
  RowsGrid: the table that it makes (it is put without an error; its cells); an append at a step of a region that draws; the walk.
-/
import Derived.Test.YtnapeecmlkkolaaDoorRg10
import Derived.Deep.AppendLies
import Derived.Deep.DeepCutAuto
import Derived.Deep.RegionHeld3
import Derived.Deep.RegionWith
import Derived.Deep.RegionLaw
namespace Go.Proofs.YtnapeecmlkkolaaDoor
open Go.RowKit
set_option maxRecDepth 100000
set_option linter.unusedVariables false
set_option linter.unusedSimpArgs false

def gName (j : Nat) : ByteArray := ⟨#[UInt8.ofNat (97 + j)]⟩
def gTy : Ty := ⟨3, ⟨#[]⟩, ⟨#[]⟩, [], []⟩
def gCol (j : Nat) : Col := (⟨#[115]⟩, ⟨#[116]⟩, gName j, gTy)
def gVal (zs : List Int) (i j : Nat) : Vl := (2, strOfNums ((i : Int) :: (j : Int) :: zs))
def gRow (a : Nat) (zs : List Int) (i : Nat) : List Vl := (List.range a).map (gVal zs i)
def gdTab (a b : Nat) (zs : List Int) : Tb := ((a : Int), (List.range a).map gCol, false, v0, (List.range b).map (gRow a zs))

theorem seqB_zero {A B : BE} (h : A.2 = 0) (k : B.2 = 0) : (seqB A B).2 = 0 := by rw [seqB_ok h k]
theorem goQ_zero {α : Type} {f : α → BE} : ∀ l : List α, (∀ x ∈ l, (f x).2 = 0) → (goQ f l).2 = 0
  | [], _ => rfl
  | x :: r, h => by
    rw [goQ]
    exact seqB_zero (h x List.mem_cons_self) (goQ_zero r (fun y hy => h y (List.mem_cons_of_mem _ hy)))
theorem textB_zero {s : ByteArray} (h : s.size ≤ 65535) : (textB s).2 = 0 := by unfold textB; rw [if_pos h]
theorem gTy_zero : (putR 25 gTy).2 = 0 := by decide +kernel
theorem gCol_zero (full : Bool) (j : Nat) : (colB 25 full (gCol j)).2 = 0 := by
  unfold colB
  refine seqB_zero ?_ (seqB_zero (textB_zero (by show (1 : Nat) ≤ _; omega)) gTy_zero)
  unfold optB
  split
  · exact seqB_zero (textB_zero (by show (1 : Nat) ≤ _; omega)) (textB_zero (by show (1 : Nat) ≤ _; omega))
  · rfl
theorem gCols_zero (g : Bool) : ∀ (l : List Nat) (k : Nat), (colsFrom 25 g k (l.map gCol)).2 = 0
  | [], k => rfl
  | j :: r, k => by
    rw [List.map_cons, colsFrom]
    exact seqB_zero (gCol_zero _ j) (gCols_zero g r (k + 1))
theorem gVal_zero (zs : List Int) (i j : Nat) : (valueB (gVal zs i j)).2 = 0 := rfl
theorem gRow_zero (a : Nat) (zs : List Int) (i : Nat) : (rowB (gRow a zs i)).2 = 0 := by
  unfold rowB gRow
  refine goQ_zero _ fun x hx => ?_
  obtain ⟨j, _, rfl⟩ := List.mem_map.mp hx
  exact gVal_zero zs i j
theorem gRow_ok (a : Nat) (zs : List Int) (i : Nat) : rowOk (a : Int) (gRow a zs i) = true := by
  unfold rowOk unB gRow
  rw [Bool.and_eq_true]
  refine ⟨by simp, ?_⟩
  rw [Bool.not_eq_true', List.any_eq_false]
  intro x hx
  obtain ⟨j, _, rfl⟩ := List.mem_map.mp hx
  simp [gVal]

theorem nmB_self (s : ByteArray) : nmB s s = true := by unfold nmB; simp
theorem oneB_map : ∀ l : List Nat, oneB (l.map gCol) = true
  | [] => rfl
  | j :: r => by
    show ((gCol j :: r.map gCol).all (oneOf (gCol j).1 (gCol j).2.1)) = true
    rw [← List.map_cons, List.all_eq_true]
    intro c hc
    obtain ⟨k, _, rfl⟩ := List.mem_map.mp hc
    unfold oneOf
    rw [Bool.and_eq_true]
    exact ⟨nmB_self _, nmB_self _⟩

theorem grid_may {a b : Nat} (ha : a ≤ 8) (hb : b ≤ 8) (zs : List Int) : mayT (gdTab a b zs) = true := by
  unfold mayT gdTab
  simp only [Bool.and_eq_true, Bool.or_eq_true, decide_eq_true_eq, List.length_map, List.length_range, List.all_eq_true]
  refine ⟨⟨⟨by omega, by omega⟩, by omega⟩, .inr trivial, fun r hr => ?_⟩
  obtain ⟨i, _, rfl⟩ := List.mem_map.mp hr
  exact gRow_ok a zs i

/-- The table is put without an error. -/
theorem grid_zero {a b : Nat} (ha : a ≤ 8) (hb : b ≤ 8) (zs : List Int) : (putT 25 true (gdTab a b zs)).2 = 0 := by
  unfold putT
  rw [if_pos (by rw [grid_may ha hb zs]; show (true && (!true || oneB ((List.range a).map gCol))) = true; rw [oneB_map]; rfl)]
  refine seqB_zero ?_ ?_
  · unfold headB
    refine seqB_zero rfl (seqB_zero rfl (seqB_zero rfl (gCols_zero _ _ _)))
  · unfold rowsB
    refine seqB_zero rfl (goQ_zero _ fun r hr => ?_)
    obtain ⟨i, _, rfl⟩ := List.mem_map.mp hr
    exact gRow_zero a zs i

theorem gName_ne : ∀ j : Nat, j < 8 → ∀ k : Nat, k < 8 → nmB (gName j) (gName k) = decide (j = k) := by decide +kernel

theorem idx_grid {j : Nat} (hj : j < 8) : ∀ (n k : Nat), k ≤ j → j < k + n → k + n ≤ 8 → idxC (gName j) ((List.range' k n).map gCol) k = j
  | 0, k, h1, h2, _ => by omega
  | n + 1, k, h1, h2, h3 => by
    rw [List.range'_succ, List.map_cons]
    unfold idxC
    show (if nmB (gName k) (gName j) = true then (k : Int) else _) = _
    rw [gName_ne k (by omega) j hj]
    by_cases e : k = j
    · rw [if_pos (by simpa using e), e]
    · rw [if_neg (by simpa using e)]
      exact idx_grid hj n (k + 1) (by omega) (by omega) (by omega)

/-- A cell of the table. -/
theorem grid_cell {a b i j : Nat} (ha : a ≤ 8) (zs : List Int) (hi : i < b) (hj : j < a) : cellX (gdTab a b zs) (i : Int) (gName j) = some (gVal zs i j) := by
  have e : idxC (gName j) (gdTab a b zs).2.1 0 = j := by
    show idxC (gName j) ((List.range a).map gCol) 0 = j
    rw [List.range_eq_range']
    exact idx_grid (by omega) a 0 (by omega) (by omega) (by omega)
  unfold cellX
  rw [if_neg (by omega), e]
  have er : (gdTab a b zs).2.2.2.2[(i : Int).toNat]? = some (gRow a zs i) := by
    show ((List.range b).map (gRow a zs))[(i : Int).toNat]? = _
    rw [Int.toNat_natCast, List.getElem?_map, List.getElem?_range hi]
    rfl
  rw [er]
  show (if (j : Int) < 0 then none else (gRow a zs i)[(j : Int).toNat]?) = _
  rw [if_neg (by omega), Int.toNat_natCast]
  show ((List.range a).map (gVal zs i))[j]? = _
  rw [List.getElem?_map, List.getElem?_range hj]
  rfl

theorem gotV_grid (zs : List Int) (i j : Nat) : gotV (gVal zs i j) = gVal zs i j := by
  unfold gotV gVal
  rw [if_pos rfl, strOfNums_sNums]

/-- A cell of what is got of the bytes of the table. -/
theorem grid_got {a b i j : Nat} (ha : a ≤ 8) (zs : List Int) (hi : i < b) (hj : j < a) : cellX (gotT 25 true (gdTab a b zs)) (i : Int) (gName j) = some (gVal zs i j) := by
  rw [cell_got, grid_cell ha zs hi hj, Option.map_some, gotV_grid]

theorem grid_sizes {a b : Nat} {zs : List Int} (hz : zs.length ≤ 100) : ∀ r ∈ (gdTab a b zs).2.2.2.2, ∀ V ∈ r, V.2.size ≤ 102 := by
  intro r hr V hV
  obtain ⟨i, _, rfl⟩ := List.mem_map.mp hr
  obtain ⟨j, _, rfl⟩ := List.mem_map.mp hV
  show (strOfNums _).size ≤ 102
  rw [strOf_size]
  simp; omega

/-- The table's bytes are read wholly. -/
theorem grid_rc {a b : Nat} (ha : a ≤ 8) (hb : b ≤ 8) {zs : List Int} (hz : zs.length ≤ 100) : RC tabR (putT 25 true (gdTab a b zs)).1 (gotT 25 true (gdTab a b zs)) :=
  rc_tab (by show (0 : Nat) < _; omega) (fun r hr V hV => by have := grid_sizes hz r hr V hV; omega) (grid_zero ha hb zs)

end Go.Proofs.YtnapeecmlkkolaaDoor

namespace Go.Proofs.YtnapeecmlkkolaaDoor
open Go.RowKit
set_option maxRecDepth 100000
set_option linter.unusedVariables false
set_option linter.unusedSimpArgs false

section
variable {α : Type} {e : TypeId} {size : Nat} {V : Vw α}
/-- An append at a step of a region that draws. -/
theorem step_appendI {ops : Array Oper} {o : Oper} {a : Act} {K : Act → World → Prop} {Q : Exit → Act → World → Prop} {E : Prop} {w : World} (hgd : o.guard = none) (s y : Operand) (t : TypeId)
    (ho : o.op = .call { callee := .builtin .append, args := #[s, y], argTypes := #[t, t] })
    {bytes : Nat} (hV : StaysI size V) (hE : Elem t e size bytes) {F : Nat → Prop} {v : Value} {xs : List α} (hs : a.eval s = v) (h : OwnI e size V w F v xs)
    {B c : Nat} {news : List Value} {tt : TypeId} {fr : Nat × Nat} (hy : a.eval y = .slice (some ⟨B, 0, none⟩) 1 c) (hB : w.heap[B]? = some (.cells news.toArray tt fr)) (hn : news.length = size) (h1 : ∀ u ∈ news, u.oneCell' = true) (x : α) (hx : V (fun k => k < w.heap.size ∧ v.ownBlock ≠ some k ∧ F k) w x (fun j => news.getD j default))
    (hF : F w.heap.size) (h63 : xs.length + 1 ≤ maxLen) (hbd : (xs.length + 1) * bytes ≤ 140737488355328)
    (hk : ∀ v' w', OwnI e size V w' F v' (xs ++ [x]) → Kept (fun k => v.ownBlock = some k) w w' → (v'.ownBlock = v.ownBlock ∨ v'.ownBlock = some w.heap.size) → K (a.put o.dst v') w') :
    if Region.wanted o (yielded ops a.tmps) = true then Oper.wp Tryd.prog o a w K Q else E := by
  have hw : Region.wanted o (yielded ops a.tmps) = true := by simp [Region.wanted, hgd]
  rw [if_pos hw]
  obtain ⟨v', w', hr, h2, h3, h4⟩ := appendI_run hV hE h hB hn h1 x hx hF h63 hbd o.type c
  unfold Oper.wp
  simp [execOp, ho, resolve, invoke, builtin, hs, hy, hr, Result.andThen]
  exact hk v' w' h2 h3 h4
end

theorem gName_ext (k : Nat) (hk : k < 8) : ({ data := #[97, 98, 99, 100, 101, 102, 103, 104] } : ByteArray).extract k (k + 1) = gName k := by
  rcases (show k = 0 ∨ k = 1 ∨ k = 2 ∨ k = 3 ∨ k = 4 ∨ k = 5 ∨ k = 6 ∨ k = 7 by omega) with rfl | rfl | rfl | rfl | rfl | rfl | rfl | rfl <;> rfl

theorem sees_none {α : Type} (size : Nat) (F : Nat → Prop) (V : α → (Nat → Value) → Prop) (w : World) : Sees size F V w none 0 0 [] :=
  ⟨rfl, Nat.le_refl _, by unfold maxLen; omega, fun _ => ⟨rfl, rfl⟩, fun h => absurd h (by omega)⟩

theorem gCol_view (F : Nat → Prop) (w : World) {k : Nat} (hk : k < 8) : VCol 20 F w (gCol k) (fun j => ([.string ⟨#[115]⟩, .string ⟨#[116]⟩, .string (({ data := #[97, 98, 99, 100, 101, 102, 103, 104] } : ByteArray).extract k (k + 1)), .int .u16 3, .string ⟨#[]⟩, .string ⟨#[]⟩, .slice none 0 0, .slice none 0 0] : List Value).getD j default) := by
  refine ⟨⟨rfl, by show (1 : Nat) ≤ _; unfold maxLen; omega⟩, ⟨rfl, by show (1 : Nat) ≤ _; unfold maxLen; omega⟩, ⟨?_, by show (1 : Nat) ≤ _; unfold maxLen; omega⟩, none, 0, 0, none, 0, 0, rfl, rfl, rfl, rfl, rfl, ?_⟩
  · show Value.string _ = _
    rw [gName_ext k hk]; rfl
  · refine ⟨by show (0 : Int) ≤ 3 ∧ (3 : Int) ≤ 65535; omega, by show (0 : Nat) ≤ _; omega, by show (0 : Nat) ≤ _; omega, sees_none _ _ _ _, sees_none _ _ _ _⟩

end Go.Proofs.YtnapeecmlkkolaaDoor

namespace Go.Proofs.YtnapeecmlkkolaaDoor
open Go.RowKit
set_option maxRecDepth 100000
set_option linter.unusedVariables false
set_option linter.unusedSimpArgs false

theorem own_two (w : World) (a b : Int) (base H : Nat) (hH : w.heap.size = H) (hb : base ≤ H) : OwnB (w.alloc (.cells #[.int .u8 a, .int .u8 b] 5)) base (.slice (some ⟨H, 0, none⟩) 2 2) 2 [a, b] := by
  subst hH
  exact ⟨rfl, .inr ⟨w.heap.size, 2, _, rfl, hb, heap_alloc_new w _, Nat.le_refl _, by unfold maxLen; omega, rfl, rfl⟩⟩

/-- The bytes of a cell are bytes. -/
theorem gBytes_range {zs : List Int} (h : ∀ j : Nat, 0 ≤ zs[j]?.getD 0 ∧ zs[j]?.getD 0 ≤ 255) {i k : Nat} (hi : i < 8) (hk : k < 8) : ∀ j : Nat, 0 ≤ ([(i : Int), (k : Int)] ++ zs)[j]?.getD 0 ∧ ([(i : Int), (k : Int)] ++ zs)[j]?.getD 0 ≤ 255 := by
  intro j
  match j with
  | 0 => simp; omega
  | 1 => simp; omega
  | j + 2 => have := h j; simpa using this

theorem gVal_nums {zs : List Int} (h : ∀ j : Nat, 0 ≤ zs[j]?.getD 0 ∧ zs[j]?.getD 0 ≤ 255) {i k : Nat} (hi : i < 8) (hk : k < 8) : sNums (gVal zs i k).2 = [(i : Int), (k : Int)] ++ zs := by
  show sNums (strOfNums ((i : Int) :: (k : Int) :: zs)) = _
  exact sNums_strOfNums (gBytes_range h hi hk)

theorem gCol_view26 (F : Nat → Prop) (w : World) {k : Nat} (hk : k < 8) : VCol 26 F w (gCol k) (fun j => ([.string ⟨#[115]⟩, .string ⟨#[116]⟩, .string (({ data := #[97, 98, 99, 100, 101, 102, 103, 104] } : ByteArray).extract k (k + 1)), .int .u16 3, .string ⟨#[]⟩, .string ⟨#[]⟩, .slice none 0 0, .slice none 0 0] : List Value).getD j default) := by
  refine ⟨⟨rfl, by show (1 : Nat) ≤ _; unfold maxLen; omega⟩, ⟨rfl, by show (1 : Nat) ≤ _; unfold maxLen; omega⟩, ⟨?_, by show (1 : Nat) ≤ _; unfold maxLen; omega⟩, none, 0, 0, none, 0, 0, rfl, rfl, rfl, rfl, rfl, ?_⟩
  · show Value.string _ = _
    rw [gName_ext k hk]; rfl
  · refine ⟨by show (0 : Int) ≤ 3 ∧ (3 : Int) ≤ 65535; omega, by show (0 : Nat) ≤ _; omega, by show (0 : Nat) ≤ _; omega, sees_none _ _ _ _, sees_none _ _ _ _⟩

theorem gTab_sl {a b : Nat} (ha : a ≤ 8) (hb : b ≤ 8) (zs : List Int) : slB (gdTab a b zs) = true := by
  unfold slB
  simp only [Bool.and_eq_true, decide_eq_true_eq, List.all_eq_true]
  refine ⟨⟨by show ((List.range a).map gCol).length ≤ 20; simp; omega, by show ((List.range b).map (gRow a zs)).length ≤ 20; simp; omega⟩, ?_, ?_⟩
  · intro c hc
    obtain ⟨j, _, rfl⟩ := List.mem_map.mp (show c ∈ (List.range a).map gCol from hc)
    show fewF 26 gTy = true
    decide +kernel
  · intro r hr
    obtain ⟨j, _, rfl⟩ := List.mem_map.mp (show r ∈ (List.range b).map (gRow a zs) from hr)
    show ((List.range a).map (gVal zs j)).length ≤ 30
    simp; omega

theorem brow_isB {w : World} {b off len cap : Nat} {zs : List Int} (h : BRow w b off len cap zs) : IsB w (some ⟨b, off, none⟩) len cap zs :=
  ⟨h.len_eq, h.le, h.cap_le, (fun e => by cases e), fun _ => ⟨b, off, rfl, h⟩⟩

/-- What is behind the first bytes of a slice. -/
theorem tail_of {w : World} {a : Option Addr} {len cap : Nat} {zs : List Int} (h : IsB w a len cap zs) (d : Nat) (hd : d ≤ len) (P : Int) (hP : P = d) :
    ∃ a' l' c', (∀ W, (Instr.slice 22 (.slice a len cap) (some (.int .i64 P)) none none).run Tryd.prog W = .ok (.slice a' l' c') W) ∧ IsB w a' l' c' (zs.drop d) := by
  subst hP
  obtain ⟨h1, h2, h3, h4, h5⟩ := h
  have hr : ∀ W, (Instr.slice 22 (.slice a len cap) (some (.int .i64 (d : Int))) none none).run Tryd.prog W = .ok (.slice (if cap = d then a else a.map (·.add (d * 1))) (len - d) (cap - d)) W := by
    intro W
    have := run_slice_l (P := Tryd.prog) (w := W) 22 a len cap Tryd.underlying22 .i64 (d : Int) (by omega) (by omega)
    rw [this]
    simp [go_sem]
  refine ⟨_, _, _, hr, ?_⟩
  by_cases hp : d < len
  · obtain ⟨b, off, rfl, hR⟩ := h5 (by omega)
    rw [if_neg (by omega)]
    have e : (some (⟨b, off, none⟩ : Addr)).map (·.add (d * 1)) = some ⟨b, off + d, none⟩ := by
      simp only [Option.map_some, Nat.mul_one, Option.some.injEq]
      unfold Addr.add
      split <;> simp_all
    rw [e]
    exact brow_isB (hR.drop d hd (fun _ => rfl))
  · refine ⟨by rw [List.length_drop]; omega, by omega, by omega, fun e => ?_, fun hh => by omega⟩
    by_cases hc : cap = d
    · omega
    · rw [if_neg hc] at e
      cases a with
      | none => have := (h4 rfl).2; omega
      | some p => simp at e

/-- What Cell answered, laid into a variable. -/
def CellO (w : World) (bs : List Int) (p b : Value) (W : World) : Prop := ∃ (k : Nat) (x : Option Addr) (lx cx : Nat), p = .pointer (some ⟨k, 0, none⟩) ∧ b = .bool true ∧ Hid (W.heap[k]? = some (.cells #[.int .i64 2, .slice x lx cx] 26 (0, 0))) ∧ Hid (IsB W x lx cx bs) ∧ Hid (Below w.heap.size w W)

theorem cellO_a {w w7 : World} {bs : List Int} {x : Option Addr} {lx cx : Nat} (hI : IsB w7 x lx cx bs) (hB : Below w.heap.size w w7) (hl : w7.heap[w.heap.size]? = some (.cells #[.int .i64 0, .slice none 0 0] 26 (0, 0))) :
    CellO w bs (.pointer (some ⟨w.heap.size, 0, none⟩)) (.bool true) ((w7.setCell ⟨w.heap.size, 0, none⟩ (.int .i64 2)).setCell ⟨w.heap.size, 1, none⟩ (.slice x lx cx)) := by
  have hK : Kept (fun k => k = w.heap.size) w7 ((w7.setCell ⟨w.heap.size, 0, none⟩ (.int .i64 2)).setCell ⟨w.heap.size, 1, none⟩ (.slice x lx cx)) := (one_kept w7 _ 0 _).trans (one_kept _ _ 1 _) (fun i _ e => e)
  refine ⟨_, x, lx, cx, rfl, rfl, blk_set (blk_set hl 0 _) 1 _, ?_, hB.trans (hK.below hB.size (fun k _ e => by omega))⟩
  obtain ⟨h1, h2, h3, h4, h5⟩ := hI
  refine ⟨h1, h2, h3, h4, fun hp => ?_⟩
  obtain ⟨b, off, rfl, hR⟩ := h5 hp
  have hne : b ≠ w.heap.size := by
    intro e
    subst e
    have h0 := hR.cell 0 hp
    have h6 := blk_cell hl (off + 0)
    rw [h6] at h0
    match off with
    | 0 => simp at h0
    | 1 => simp at h0
    | o + 2 => simp at h0
  exact ⟨b, off, rfl, hR.len_eq, hR.le, hR.cap_le, fun h => Nat.lt_of_lt_of_le (hR.lt h) hK.size, fun i hi => (World.cell?_of_block (a := ⟨b, off + i, none⟩) (hK.block b (hR.lt hp) hne)).trans (hR.cell i hi), hR.rng⟩

theorem cellO_b {w w7 : World} {bs : List Int} {x : Option Addr} {lx cx : Nat} (hI : IsB w7 x lx cx bs) (hB : Below w.heap.size w w7) :
    CellO w bs (.pointer (some ⟨w7.heap.size, 0, none⟩)) (.bool true) (w7.alloc (.cells #[.int .i64 2, .slice x lx cx] 26)) :=
  ⟨_, x, lx, cx, rfl, rfl, heap_alloc_new w7 _, hI.old (below_one w7 _), hB.trans ((below_one w7 _).mono hB.size)⟩

set_option maxHeartbeats 4000000 in
theorem grid_any {w : World} (hT : Tab w) {x y : Int} (hx : 0 ≤ x ∧ x ≤ 255) (hy : 0 ≤ y ∧ y ≤ 255) {a : Option Addr} {len cap : Nat} {zs : List Int} (hI : IsB w a len cap zs) :
    Calls Tryd.prog 8 #[.int .u8 x, .int .u8 y, .slice a len cap] w fun e w' => e = .returned (.bool true) ∧ Below w.heap.size w w' := by
  have HT : Hid (Tab w) := hT
  have HI : Hid (IsB w a len cap zs) := hI
  have hlc : len ≤ cap ∧ cap ≤ 9223372036854775807 := ⟨hI.2.1, hI.2.2.1⟩
  obtain ⟨A, hA⟩ : ∃ A : Nat, x % 8 = (A : Int) := Int.eq_ofNat_of_zero_le (Int.emod_nonneg _ (by omega))
  obtain ⟨B, hB⟩ : ∃ B : Nat, y % 8 = (B : Int) := Int.eq_ofNat_of_zero_le (Int.emod_nonneg _ (by omega))
  have hA8 : A < 8 := by omega
  have hB8 : B < 8 := by omega
  clear hT hI
  by_cases hl : (100 : Int) < len
  · go_enter Tryd.func8, Tryd.ntmps8
    go_wp2_with fail
    refine (awake_any _ HT.out).mono ?_
    rintro e w1 ⟨rfl, HB1⟩
    go_wp2_with fail
    go_ret
    exact ⟨rfl, HB1.out⟩
  · go_enter Tryd.func8, Tryd.ntmps8
    go_wp2_with fail
    refine (awake_any _ HT.out).mono ?_
    rintro e w1 ⟨rfl, HB1⟩
    have HI1 : Hid (IsB w1 a len cap zs) := HI.out.old HB1.out
    have HT1 : Hid (Tab w1) := HT.out.old HB1.out
    go_upto_region 9 with fail
    obtain ⟨g, hg⟩ : ∃ g, g = w1.heap.size := ⟨_, rfl⟩
    have HGE : Hid (w1.heap.size = g) := hg.symm
    obtain ⟨w2, hw2⟩ : ∃ w2, w2 = w1.alloc (.cells #[.int .i64 A, .slice none 0 0, .bool false, .int .i64 0, .slice none 0 0, .slice none 0 0] 29) := ⟨_, rfl⟩
    have HW2E : Hid (w1.alloc (.cells #[.int .i64 A, .slice none 0 0, .bool false, .int .i64 0, .slice none 0 0, .slice none 0 0] 29) = w2) := hw2.symm
    have HG2 : Hid (w2.heap[g]? = some (.cells #[.int .i64 A, .slice none 0 0, .bool false, .int .i64 0, .slice none 0 0, .slice none 0 0] 29 (0, 0))) := by rw [hw2, hg]; exact heap_alloc_new w1 _
    have HB2 : Hid (Below w1.heap.size w1 w2) := by rw [hw2]; exact below_one _ _
    rw [HW2E.out]
    (try rw [HGE.out])
    clear HW2E hw2 hg
    rw [hA, hB]
    clear hA hB hx hy
    go_wp2_with fail
    go_loopw [11] (fun i wr => ∃ (k : Nat) (v : Value), k ≤ A ∧ i = .int .i64 k ∧ Hid (wr.heap[g]? = some (.cells #[.int .i64 A, v, .bool false, .int .i64 0, .slice none 0 0, .slice none 0 0] 29 (0, 0))) ∧ Hid (OwnI 64 8 (VCol 26) wr (fun z => g < z) v ((List.range k).map gCol)) ∧ Hid (Below w1.heap.size w1 wr)) (fun i _ => A - (intOf i).toNat)
    case atStart => exact ⟨0, _, by omega, rfl, HG2, ownI_nil _ _ _ _ _, HB2⟩
    case round =>
      obtain ⟨k, v, hk, rfl, HGk, HOk, HBk⟩ := hrel
      obtain ⟨⟨a0, a1, a2, a3, a4, a5⟩, f0, f1, f2, f3, f4, f5⟩ := blk6 HGk.out
      have hlg := block_lt HGk.out
      by_cases hlt : k < A
      · go_upto_region 12 with fail
        have s0 : (0 : Int) ≤ (k : Int) := Int.natCast_nonneg _
        have s1 : (k : Int) ≤ (k : Int) + 1 := by omega
        have s2 : (k : Int) + 1 ≤ 8 := by omega
        have s3 : IntKind.i64.wrap ((k : Int) + 1) = (k : Int) + 1 := by rw [IntKind.wrap_i64]; omega
        have s4 : (0 : Int) ≤ (k : Int) + 1 := by omega
        have hk8 : k < 8 := by omega
        clear f0 f2 f3 f4 f5 a0 a2 a3 a4 a5
        have hvk := fun z hz => (HOk.out.lt z hz).1
        go_region_law ((refine step_appendI (by rfl) _ _ _ (by rfl) (stays_col 26) elem_col (F := fun z => g < z) (v := v) (xs := (List.range k).map gCol) (by rfl) (HOk.out.old (stays_col 26) (by repeat' (first | assumption | exact Below.refl _ _ | refine Below.drew ?_ | exact below_one _ _))) (news := [.string ⟨#[115]⟩, .string ⟨#[116]⟩, .string (({ data := #[97, 98, 99, 100, 101, 102, 103, 104] } : ByteArray).extract k (k + 1)), .int .u16 3, .string ⟨#[]⟩, .string ⟨#[]⟩, .slice none 0 0, .slice none 0 0]) (by rfl) (heap_alloc_new wr _) (by rfl) (by simp [Value.oneCell']) (gCol k) (gCol_view26 _ _ hk8) (by show g < _; simp; omega) (by simp; unfold maxLen; omega) (by simp; omega) ?_; intro v4 w4 ho4 hK4 hv4; have HG4 : Hid (w4.heap[g]? = some (.cells #[.int .i64 A, v, .bool false, .int .i64 0, .slice none 0 0, .slice none 0 0] 29 (0, 0))) := (hK4.block g (by simp; omega) (fun e => absurd (hvk g e) (Nat.lt_irrefl _))).trans ((Below.block (by first | exact Below.drew (below_one wr _) | exact below_one wr _) g hlg).trans HGk.out); obtain ⟨⟨b0, b1, b2, b3, b4, b5⟩, e0, e1, e2, e3, e4, e5⟩ := blk6 HG4.out; have hl4 := block_lt HG4.out; obtain ⟨xa4, xc4, hv4e⟩ := ho4.shape; have HO4 : Hid (OwnI 64 8 (VCol 26) w4 (fun z => g < z) v4 (List.map gCol (List.range k) ++ [gCol k])) := ho4; subst hv4e; clear ho4))
        all_goals
          have HG5 : Hid ((w4.setCell ⟨g, 1, none⟩ (.slice xa4 ((List.map gCol (List.range k) ++ [gCol k]).length) xc4)).heap[g]? = some (.cells #[.int .i64 A, .slice xa4 ((List.map gCol (List.range k) ++ [gCol k]).length) xc4, .bool false, .int .i64 0, .slice none 0 0, .slice none 0 0] 29 (0, 0))) := blk_set HG4.out 1 _
          have HO5 : Hid (OwnI 64 8 (VCol 26) (w4.setCell ⟨g, 1, none⟩ (.slice xa4 ((List.map gCol (List.range k) ++ [gCol k]).length) xc4)) (fun z => g < z) (.slice xa4 ((List.map gCol (List.range k) ++ [gCol k]).length) xc4) ((List.range (k + 1)).map gCol)) := by
            show OwnI _ _ _ _ _ _ _
            rw [List.range_succ, List.map_append]
            exact HO4.out.apart (stays_col 26) (one_kept w4 g 1 _) (fun z _ hz e => by omega)
          have HB5 : Hid (Below w1.heap.size w1 (w4.setCell ⟨g, 1, none⟩ (.slice xa4 ((List.map gCol (List.range k) ++ [gCol k]).length) xc4))) := by
            have hA4 : Below w1.heap.size w1 w4 := (HBk.out.trans (Below.mono (by first | exact Below.drew (below_one wr _) | exact below_one wr _) HBk.out.size)).trans (hK4.below (by have := HBk.out.size; simp; omega) (fun z hz e => by have := hvk z e; have := HGE.out; omega))
            exact hA4.trans ((one_kept w4 g 1 _).below hA4.size (fun z hz e => by have := HGE.out; omega))
          have hlen : (List.map gCol (List.range k) ++ [gCol k]).length = k + 1 := by simp
          rw [hlen] at HG5 HO5 HB5
          clear b0 b1 b2 b3 b4 b5 e0 e1 e2 e3 e4 e5 hK4 hv4 HG4 HO4
          go_wp2_with fail
          go_roundw
          case rel => first | exact ⟨k + 1, _, by omega, by go_num, HG5, HO5, HB5⟩ | exact ⟨_, by omega, HG5, HO5, HB5⟩ | exact ⟨_, k + 1, by omega, by go_num, HG5, HO5, HB5⟩ | exact ⟨_, _, _, _, _, _, _, _, _, _, _, _, _, _, _, _, _, ⟨k + 1, _, by omega, by go_num, HG5, HO5, HB5⟩, rfl⟩
          case measure => simp [intOf]; omega
      · obtain rfl : k = A := by omega
        obtain ⟨ca, cc, hvs⟩ := HOk.out.shape
        rw [List.length_map, List.length_range] at hvs
        subst hvs
        obtain ⟨wA, hwA⟩ : ∃ x, x = wr := ⟨_, rfl⟩
        subst hwA
        obtain ⟨q, hq⟩ : ∃ q, q = wA.heap.size := ⟨_, rfl⟩
        have HQ : Hid (wA.heap.size = q) := hq.symm
        have HQG : Hid (g < q) := by rw [hq]; exact hlg
        have HOC : Hid (OwnI 64 8 (VCol 26) wA (fun z => g < z ∧ z < q) (.slice ca k cc) ((List.range k).map gCol)) := HOk.out.sub (stays_col 26) (fun z hz hF => ⟨hF, by rw [hq]; exact hz⟩)
        have HZR : Hid (∀ j : Nat, 0 ≤ zs[j]?.getD 0 ∧ zs[j]?.getD 0 ≤ 255) := HI.out.range
        have HZL : Hid (zs.length = len) := HI.out.1
        have hl100 : len ≤ 100 := by omega
        clear hq a0 a1 a2 a3 a4 a5 f0 f1 f2 f3 f4 f5 hlg hlt hk HG2 HB2
        go_wp2_with fail
        go_loopw [12] (fun t wr => ∃ (i : Nat) (v : Value), i ≤ B ∧ t = .int .i64 i ∧ Hid (wr.heap[g]? = some (.cells #[.int .i64 k, .slice ca k cc, .bool false, .int .i64 0, .slice none 0 0, v] 29 (0, 0))) ∧ Hid (OwnI 64 8 (VCol 26) wr (fun z => g < z ∧ z < q) (.slice ca k cc) ((List.range k).map gCol)) ∧ Hid (OwnI 65 1 VRow wr (fun z => q ≤ z) v ((List.range i).map (gRow k zs))) ∧ Hid (Below w1.heap.size w1 wr) ∧ Hid (q ≤ wr.heap.size)) (fun t _ => B - (intOf t).toNat)
        case atStart => exact ⟨0, _, by omega, rfl, HGk, HOC, ownI_nil _ _ _ _ _, HBk, Nat.le_of_eq HQ.out.symm⟩
        case round =>
          obtain ⟨i, v, hi, rfl, HGi, HCi, HRi, HBi, HSi⟩ := hrel
          by_cases hlt2 : i < B
          · obtain ⟨wo, hwo⟩ : ∃ x, x = wr := ⟨_, rfl⟩
            subst hwo
            obtain ⟨q2, hq2⟩ : ∃ q2, q2 = wo.heap.size := ⟨_, rfl⟩
            have HQ2 : Hid (wo.heap.size = q2) := hq2.symm
            have hi8 : i < 8 := by omega
            have HGQ2 : Hid (g < q2 ∧ q ≤ q2) := by
              rw [hq2]
              exact ⟨block_lt HGi.out, HSi.out⟩
            clear hq2
            go_wp2_with fail
            go_loopw [13, 14] (fun u t wz => ∃ l : Nat, l ≤ k ∧ t = .int .i64 l ∧ Hid (OwnI 26 2 VVal wz (fun z => q2 ≤ z) u ((List.range l).map (gVal zs i))) ∧ Hid (Below q2 wo wz)) (fun _ t _ => k - (intOf t).toNat)
            case atStart => exact ⟨0, by omega, rfl, ownI_nil _ _ _ _ _, Below.refl _ _⟩
            case round =>
              obtain ⟨l, hl2, rfl, HOl, HBl⟩ := hrel
              by_cases hlt3 : l < k
              · have hl8 : l < 8 := by omega
                have HBz : Hid (Below w1.heap.size w1 wr) := HBi.out.trans (HBl.out.mono (by rw [← HQ2.out]; exact HBi.out.size))
                have HZ2 : Hid (q2 ≤ wr.heap.size) := by have := HBl.out.size; have := HQ2.out; show q2 ≤ _; omega
                have HOB : Hid (OwnB (wr.alloc (.cells #[.int .u8 (i : Int), .int .u8 (l : Int)] 5)) wr.heap.size (.slice (some ⟨wr.heap.size, 0, none⟩) 2 2) 2 [(i : Int), (l : Int)]) := own_two wr _ _ _ _ rfl (Nat.le_refl _)
                have HIZ : Hid (IsB (wr.alloc (.cells #[.int .u8 (i : Int), .int .u8 (l : Int)] 5)) a len cap zs) := HI1.out.old (HBz.out.trans ((below_one wr _).mono HBz.out.size))
                go_wp2_with (at_builtin; refine wpList_append_own rfl (.tmp 68) (.tmp 69) rfl rfl HOB.out rfl HIZ.out (by omega) ?c3 ?_)
                case c3 => simp
                intro v4 w4 ho4 hK4 _
                have hB4 : Below wr.heap.size wr w4 := (below_one wr _).trans (hK4.below (by simp) (fun z _ e => by simp [Value.ownBlock] at e; omega))
                obtain ⟨a4, c4, hve, hi4⟩ := isB_own ho4 (gBytes_range HZR.out hi8 hl8)
                subst hve
                have HB4 : Hid (Below wr.heap.size wr w4) := hB4
                have HX4 : Hid (IsBF (fun z => wr.heap.size ≤ z) w4 a4 (2 + len) c4 ([(i : Int), (l : Int)] ++ zs)) := ⟨hi4, fun qq e _ => by subst e; exact World.ownsRow.lt ho4 qq.block rfl⟩
                have HBN : Hid ((w4.alloc (.cells #[.int .i64 2, .slice a4 (2 + len) c4] 26)).heap[w4.heap.size]? = some (.cells [Value.int .i64 2, Value.slice a4 (2 + len) c4].toArray 26 (0, 0))) := heap_alloc_new w4 _
                have HON : Hid (OwnI 26 2 VVal (w4.alloc (.cells #[.int .i64 2, .slice a4 (2 + len) c4] 26)) (fun z => q2 ≤ z) u13 ((List.range l).map (gVal zs i))) := HOl.out.old stays_val (HB4.out.trans ((below_one w4 _).mono HB4.out.size))
                have HXN : Hid (VVal (fun z => z < (w4.alloc (.cells #[.int .i64 2, .slice a4 (2 + len) c4] 26)).heap.size ∧ u13.ownBlock ≠ some z ∧ q2 ≤ z) (w4.alloc (.cells #[.int .i64 2, .slice a4 (2 + len) c4] 26)) (gVal zs i l) (fun j => ([Value.int .i64 2, Value.slice a4 (2 + len) c4] : List Value).getD j default)) :=
                  ⟨rfl, a4, 2 + len, c4, rfl, by rw [gVal_nums HZR.out hi8 hl8]; exact HX4.out.stay (fun z hz _ => (below_one w4 _).block z hz) (by simp) (fun z hz hF => ⟨by simp; omega, fun e => by have := (HOl.out.lt z e).2; omega, by have := HZ2.out; omega⟩)⟩
                have HFN : Hid ((fun z => q2 ≤ z) (w4.alloc (.cells #[.int .i64 2, .slice a4 (2 + len) c4] 26)).heap.size) := by have := HZ2.out; have := HB4.out.size; show q2 ≤ _; simp; omega
                clear hB4 ho4 hK4 hi4
                go_wp2_with (at_builtin; refine wpList_appendI rfl (.tmp 63) (.tmp 72) 65 rfl stays_val elem_val rfl HON.out rfl HBN.out rfl ?c1 (gVal zs i l) HXN.out HFN.out ?c2 ?c3 ?_)
                case c1 => exact ⟨rfl, rfl⟩
                case c2 => first | (simp; unfold maxLen; omega) | (unfold maxLen; omega)
                case c3 => first | omega | (simp; omega)
                intro v7 w7 ho7 hK7 _
                have HO7 : Hid (OwnI 26 2 VVal w7 (fun z => q2 ≤ z) v7 ((List.range (l + 1)).map (gVal zs i))) := by show OwnI _ _ _ _ _ _ _; rw [List.range_succ, List.map_append]; exact ho7
                have HB7 : Hid (Below q2 wo w7) := by
                  have h1 := HZ2.out
                  have h2 := HB4.out.size
                  exact (HBl.out.trans ((HB4.out.trans ((below_one w4 _).mono h2)).mono h1)).trans (hK7.below (by simp; omega) (fun z _ e => (HOl.out.lt z e).1))
                clear ho7 hK7
                go_wp2_with fail
                go_roundw
                case rel => exact ⟨l + 1, by omega, by go_num, HO7, HB7⟩
                case measure => simp [intOf]; omega
              · obtain rfl : l = k := by omega
                obtain ⟨ra, rc, hrow⟩ := HOl.out.shape
                rw [List.length_map, List.length_range] at hrow
                subst hrow
                have hBo : Below wo.heap.size wo wr := by rw [HQ2.out]; exact HBl.out
                have HGz : Hid (wr.heap[g]? = some (.cells #[.int .i64 l, .slice ca l cc, .bool false, .int .i64 0, .slice none 0 0, v] 29 (0, 0))) := (hBo.block g (block_lt HGi.out)).trans HGi.out
                have HCz : Hid (OwnI 64 8 (VCol 26) wr (fun z => g < z ∧ z < q) (.slice ca l cc) ((List.range l).map gCol)) := HCi.out.old (stays_col 26) hBo
                have HRz : Hid (OwnI 65 1 VRow wr (fun z => q ≤ z ∧ z < q2) v ((List.range i).map (gRow l zs))) := (HRi.out.sub stays_row (fun z hz hF => ⟨hF, by have := HQ2.out; omega⟩)).old stays_row hBo
                have HBz : Hid (Below w1.heap.size w1 wr) := HBi.out.trans (hBo.mono HBi.out.size)
                have HZ2 : Hid (q2 ≤ wr.heap.size) := by have := HBl.out.size; have := HQ2.out; show q2 ≤ _; omega
                have HBN : Hid ((wr.alloc (.cells #[.slice ra l rc] 65)).heap[wr.heap.size]? = some (.cells [Value.slice ra l rc].toArray 65 (0, 0))) := heap_alloc_new wr _
                have HON2 : Hid (OwnI 65 1 VRow (wr.alloc (.cells #[.slice ra l rc] 65)) (fun z => q ≤ z) v ((List.range i).map (gRow l zs))) := (HRz.out.old stays_row (below_one _ _)).sub stays_row (fun z _ hz => hz.1)
                have HXN : Hid (VRow (fun z => z < (wr.alloc (.cells #[.slice ra l rc] 65)).heap.size ∧ v.ownBlock ≠ some z ∧ q ≤ z) (wr.alloc (.cells #[.slice ra l rc] 65)) (gRow l zs i) (fun j => ([Value.slice ra l rc] : List Value).getD j default)) :=
                  (HOl.out.old stays_val (below_one wr (.cells #[.slice ra l rc] 65))).sub stays_val (fun z h1 hz => ⟨h1, fun e => by have := (HRz.out.lt z e).1; omega, by have := HGQ2.out; omega⟩)
                have HFN : Hid ((fun z => q ≤ z) (wr.alloc (.cells #[.slice ra l rc] 65)).heap.size) := by have := HZ2.out; have := HGQ2.out; show q ≤ _; simp; omega
                obtain ⟨⟨b0, b1, b2, b3, b4, b5⟩, e0, e1, e2, e3, e4, e5⟩ := blk6 HGz.out
                have hlgz := block_lt HGz.out
                have hvq := fun z hz => (HRz.out.lt z hz).1.1
                clear hBo e0 e1 e2 e3 e4 e5 b0 b1 b2 b3 b4
                go_wp2_with (at_builtin; refine wpList_appendI rfl (.tmp 75) (.tmp 77) 27 rfl stays_row elem_row rfl HON2.out rfl HBN.out rfl ?c1 (gRow l zs i) HXN.out HFN.out ?c2 ?c3 ?_)
                case c1 => rfl
                case c2 => first | (simp; unfold maxLen; omega) | (unfold maxLen; omega)
                case c3 => first | omega | (simp; omega)
                intro v8 w8 ho8 hK8 _
                obtain ⟨xa8, xc8, hv8e⟩ := ho8.shape
                have hlen8 : (List.map (gRow l zs) (List.range i) ++ [gRow l zs i]).length = i + 1 := by simp
                rw [hlen8] at hv8e
                have HO8 : Hid (OwnI 65 1 VRow w8 (fun z => q ≤ z) v8 (List.map (gRow l zs) (List.range i) ++ [gRow l zs i])) := ho8
                have hAB : Below wr.heap.size wr (wr.alloc (.cells #[.slice ra l rc] 65)) := below_one wr _
                have hne : ∀ z, z < (wr.alloc (.cells #[.slice ra l rc] 65)).heap.size → v.ownBlock = some z → q ≤ z := fun z _ e => hvq z e
                have HG8 : Hid (w8.heap[g]? = some (.cells #[.int .i64 l, .slice ca l cc, .bool false, .int .i64 0, .slice none 0 0, v] 29 (0, 0))) := (hK8.block g (by simp; omega) (fun e => by have := hvq g e; have := HQG.out; omega)).trans ((hAB.block g hlgz).trans HGz.out)
                have HB8 : Hid (Below w1.heap.size w1 w8) := (HBz.out.trans (hAB.mono HBz.out.size)).trans (hK8.below (by have := HBz.out.size; simp; omega) (fun z hz e => by have := hne z hz e; have := HQG.out; have := HGE.out; omega))
                have HC8 : Hid (OwnI 64 8 (VCol 26) w8 (fun z => g < z ∧ z < q) (.slice ca l cc) ((List.range l).map gCol)) := (HCz.out.old (stays_col 26) hAB).apart (stays_col 26) hK8 (fun z hz hF e => by have := hne z hz e; omega)
                have HS8 : Hid (q ≤ w8.heap.size) := by have := HZ2.out; have := HGQ2.out; have := hK8.size; show q ≤ _; simp at this; omega
                subst hv8e
                obtain ⟨⟨d0, d1, d2, d3, d4, d5⟩, e0, e1, e2, e3, e4, e5⟩ := blk6 HG8.out
                have hl8g := block_lt HG8.out
                have HG9 : Hid ((w8.setCell ⟨g, 5, none⟩ (.slice xa8 (i + 1) xc8)).heap[g]? = some (.cells #[.int .i64 l, .slice ca l cc, .bool false, .int .i64 0, .slice none 0 0, .slice xa8 (i + 1) xc8] 29 (0, 0))) := blk_set HG8.out 5 _
                have HO9 : Hid (OwnI 65 1 VRow (w8.setCell ⟨g, 5, none⟩ (.slice xa8 (i + 1) xc8)) (fun z => q ≤ z) (.slice xa8 (i + 1) xc8) ((List.range (i + 1)).map (gRow l zs))) := by
                  show OwnI _ _ _ _ _ _ _
                  rw [List.range_succ, List.map_append]
                  exact HO8.out.apart stays_row (one_kept w8 g 5 _) (fun z _ hz e => by have := HQG.out; omega)
                have HC9 : Hid (OwnI 64 8 (VCol 26) (w8.setCell ⟨g, 5, none⟩ (.slice xa8 (i + 1) xc8)) (fun z => g < z ∧ z < q) (.slice ca l cc) ((List.range l).map gCol)) := HC8.out.apart (stays_col 26) (one_kept w8 g 5 _) (fun z _ hz e => by omega)
                have HB9 : Hid (Below w1.heap.size w1 (w8.setCell ⟨g, 5, none⟩ (.slice xa8 (i + 1) xc8))) := HB8.out.trans ((one_kept w8 g 5 _).below HB8.out.size (fun z hz e => by have := HGE.out; omega))
                have HS9 : Hid (q ≤ (w8.setCell ⟨g, 5, none⟩ (.slice xa8 (i + 1) xc8)).heap.size) := by have := HS8.out; show q ≤ _; rw [show (w8.setCell ⟨g, 5, none⟩ (.slice xa8 (i + 1) xc8)).heap.size = w8.heap.size by simp [World.setCell]]; exact this
                clear d0 d1 d2 d3 d4 b5 e0 e1 e2 e3 e4 ho8 hK8 hAB hne hvq hlen8
                go_wp2_with fail
                go_roundw
                case rel => exact ⟨i + 1, _, by omega, by go_num, HG9, HC9, HO9, HB9, HS9⟩
                case measure => simp [intOf]; omega
          · obtain rfl : i = B := by omega
            obtain ⟨ra, rc, hv⟩ := HRi.out.shape
            rw [List.length_map, List.length_range] at hv
            subst hv
            have HTO : Hid (TbV (25 + 1) (fun z => g < z) wr (((k : Int), (List.range k).map gCol, false, (0, ByteArray.empty), (List.range i).map (gRow k zs)) : Tb) ca k cc none 0 0 ra i rc) := by
              have h1 := HCi.out.sub (F' := fun z => g < z) (stays_col 26) (fun z _ hz => hz.1)
              have h3 := HRi.out.sub (F' := fun z => g < z) stays_row (fun z _ hz => by have := HQG.out; omega)
              obtain ⟨a1, cap1, e1, hs1⟩ := h1.sees (U := VCol 26 (fun z => g < z) wr) (fun _ _ _ hv => hv) (stays_col 26)
              obtain ⟨a3, cap3, e3, hs3⟩ := h3.sees (U := VRowS (fun z => g < z) wr) (fun _ _ _ hv => row_rowS hv) stays_row
              rw [List.length_map, List.length_range] at e1 e3 hs1 hs3
              cases e1; cases e3
              exact ⟨hs1, isBF_nil _ _, hs3⟩
            have HTr : Hid (Tab wr) := HT1.out.old HBi.out
            have hg := grid_sizes (a := k) (b := i) (zs := zs) (by have := HZL.out; omega)
            have hsl := gTab_sl (a := k) (b := i) (by omega) (by omega) zs
            have HSZ : Hid (∀ r ∈ (List.range i).map (gRow k zs), ∀ V ∈ r, V.2.size ≤ 102) := hg
            have HBD : Hid (tabW 25 (((k : Int), (List.range k).map gCol, false, (0, ByteArray.empty), (List.range i).map (gRow k zs)) : Tb) ≤ 7000000000) := sl_bd hsl (by show (0 : Nat) ≤ _; omega) (fun r hr V hV => by have := hg r hr V hV; omega)
            obtain ⟨P, hP⟩ : ∃ P, P = putT 25 true (((k : Int), (List.range k).map gCol, false, (0, ByteArray.empty), (List.range i).map (gRow k zs)) : Tb) := ⟨_, rfl⟩
            have HPE : Hid (P = putT 25 true (gdTab k i zs)) := hP
            have HP0 : Hid (P.2 = 0) := by show P.2 = 0; rw [HPE.out]; exact grid_zero (by omega) (by omega) zs
            have HRC : Hid (RC tabR P.1 (gotT 25 true (gdTab k i zs))) := by show RC _ _ _; rw [HPE.out]; exact grid_rc (by omega) (by omega) (by have := HZL.out; omega)
            have HPL : Hid (P.1.length ≤ 7000000000) := by show _ ≤ _; rw [HPE.out]; exact Nat.le_trans (putT_len 25 true (gdTab k i zs)) HBD.out
            obtain ⟨⟨a0, a1, a2, a3, a4, a5⟩, _⟩ := blk6 HGi.out
            have hlg := block_lt HGi.out
            have HPB : Hid (P = putT 25 true (((k : Int), (List.range k).map gCol, false, (0, ByteArray.empty), (List.range i).map (gRow k zs)) : Tb)) := hP
            clear hg hsl hP
            go_wp2_with fail
            refine (put_any HTr.out HTO.out ⟨by omega, by omega⟩ true (by show (0 : Nat) ≤ _; omega) (fun r hr V hV => by have := HSZ.out r hr V hV; omega) (by have := HBD.out; omega) HPB.out).mono ?_
            rintro e w3 ⟨v3, rfl, HO3, HR3, HB3⟩
            rw [HP0.out]
            obtain ⟨a3x, cp3, hv3, hi3⟩ := isB_own HO3.out HR3.out
            obtain ⟨Z, hZ⟩ : ∃ Z, Z = P.1.length := ⟨_, rfl⟩
            rw [← hZ] at hv3 hi3
            subst hv3
            have HI3 : Hid (IsB w3 a3x Z cp3 P.1) := hi3
            have HZP : Hid (Z = P.1.length) := hZ
            have hZm : Z ≤ 7000000000 := by rw [hZ]; exact HPL.out
            have HB30 : Hid (Below w1.heap.size w1 w3) := HBi.out.trans (HB3.out.mono HBi.out.size)
            have HT3 : Hid (Tab w3) := HT1.out.old HB30.out
            have HI30 : Hid (IsB w3 a len cap zs) := HI1.out.old HB30.out
            clear hi3 hZ a0 a1 a2 a3 a4 a5
            go_wp2_with fail
            refine (get_any HI3.out HT3.out (by omega)).mono ?_
            rintro e w4 ⟨T4, ca4, cl4, cc4, x4, lx4, cx4, ra4, rl4, rc4, rfl, HO4, HT4E, HB4⟩
            have HE4 : Hid (endE tabR P.1 = 0 ∧ (tabR P.1).val = gotT 25 true (gdTab k i zs)) := end_all HRC.out
            have HTE : Hid (T4 = gotT 25 true (gdTab k i zs)) := by show _ = _; rw [HT4E.out, if_pos HE4.out.1, HE4.out.2]
            have HB40 : Hid (Below w1.heap.size w1 w4) := HB30.out.trans (HB4.out.mono HB30.out.size)
            have hrl : rl4 = i := by
              have h1 := (TbO.view HO4.out).2.2.len_eq
              rw [← h1, HTE.out]
              show (((List.range i).map (gRow k zs)).map (List.map gotV)).length = i
              simp
            subst hrl
            rw [HE4.out.1]
            clear HGi HCi HRi HTO HI3 HT3 HO3 HR3 HPE HPB HPL HRC HP0 HBD HSZ HT4E HE4 HTr HZP
            have HV4 : Hid (TbV (19 + 1) (fun z => w3.heap.size ≤ z) w4 T4 ca4 cl4 cc4 x4 lx4 cx4 ra4 rl4 rc4) := TbO.view HO4.out
            have HSM : Hid (∀ r ∈ T4.2.2.2.2, ∀ V ∈ r, V.2.size ≤ 140737488355328) := by
              intro r hr V hV
              rw [HTE.out] at hr
              obtain ⟨r', hr', rfl⟩ := List.mem_map.mp (show r ∈ ((List.range rl4).map (gRow k zs)).map (List.map gotV) from hr)
              obtain ⟨V', hV', rfl⟩ := List.mem_map.mp hV
              have h1 := grid_sizes (a := k) (b := rl4) (zs := zs) (by have := HZL.out; omega) r' hr' V' hV'
              obtain ⟨i', _, rfl⟩ := List.mem_map.mp hr'
              obtain ⟨j', _, rfl⟩ := List.mem_map.mp hV'
              rw [gotV_grid]; omega
            clear HO4
            go_upto_region 24 with fail
            obtain ⟨h, hh⟩ : ∃ h, h = w4.heap.size := ⟨_, rfl⟩
            have HHE : Hid (w4.heap.size = h) := hh.symm
            obtain ⟨w5, hw5⟩ : ∃ w5, w5 = w4.alloc (.cells #[.int .i64 T4.1, .slice ca4 cl4 cc4, .bool T4.2.2.1, .int .i64 T4.2.2.2.1.1, .slice x4 lx4 cx4, .slice ra4 rl4 rc4] 29) := ⟨_, rfl⟩
            have HW5E : Hid (w4.alloc (.cells #[.int .i64 T4.1, .slice ca4 cl4 cc4, .bool T4.2.2.1, .int .i64 T4.2.2.2.1.1, .slice x4 lx4 cx4, .slice ra4 rl4 rc4] 29) = w5) := hw5.symm
            have HG5 : Hid (w5.heap[h]? = some (.cells #[.int .i64 T4.1, .slice ca4 cl4 cc4, .bool T4.2.2.1, .int .i64 T4.2.2.2.1.1, .slice x4 lx4 cx4, .slice ra4 rl4 rc4] 29 (0, 0))) := by rw [hw5, hh]; exact heap_alloc_new w4 _
            have hB45 : Below w4.heap.size w4 w5 := by rw [hw5]; exact below_one _ _
            have HB5 : Hid (Below w1.heap.size w1 w5) := HB40.out.trans (hB45.mono HB40.out.size)
            have HV5 : Hid (TbV (19 + 1) (fun z => w3.heap.size ≤ z) w5 T4 ca4 cl4 cc4 x4 lx4 cx4 ra4 rl4 rc4) := HV4.out.old hB45
            have HI5 : Hid (IsB w5 a len cap zs) := HI1.out.old HB5.out
            rw [HW5E.out]
            (try rw [HHE.out])
            obtain ⟨⟨a0, a1, a2, a3, a4, a5⟩, _⟩ := blk6 HG5.out
            have hlh := block_lt HG5.out
            clear HW5E hw5 hh hB45 HV4
            go_wp2_with fail
            go_loopw [19] (fun t wr => ∃ c : Nat, c ≤ rl4 ∧ t = .int .i64 c ∧ Hid (Below w5.heap.size w5 wr)) (fun t _ => rl4 - (intOf t).toNat)
            case atStart => exact ⟨0, by omega, rfl, Below.refl _ _⟩
            case round =>
              obtain ⟨c, hc, rfl, HBc⟩ := hrel
              by_cases hltc : c < rl4
              · go_wp2_with fail
                obtain ⟨wo, hwo⟩ : ∃ x, x = wr := ⟨_, rfl⟩
                subst hwo
                go_loopw [20] (fun t wr => ∃ l : Nat, l ≤ k ∧ t = .int .i64 l ∧ Hid (Below w5.heap.size w5 wr)) (fun t _ => k - (intOf t).toNat)
                case atStart => exact ⟨0, by omega, rfl, HBc⟩
                case round =>
                  obtain ⟨l, hl2, rfl, HBl⟩ := hrel
                  by_cases hltl : l < k
                  · have s0 : (0 : Int) ≤ (l : Int) := Int.natCast_nonneg _
                    have s1 : (l : Int) ≤ (l : Int) + 1 := by omega
                    have s2 : (l : Int) + 1 ≤ 8 := by omega
                    have s3 : IntKind.i64.wrap ((l : Int) + 1) = (l : Int) + 1 := by rw [IntKind.wrap_i64]; omega
                    have s4 : (0 : Int) ≤ (l : Int) + 1 := by omega
                    have hl8 : l < 8 := by omega
                    have hc8 : c < 8 := by omega
                    clear a0 a1 a2 a3 a4 a5
                    obtain ⟨⟨a0, a1, a2, a3, a4, a5⟩, _⟩ := blk6 ((HBl.out.block h hlh).trans HG5.out)
                    have HVl : Hid (TbV (19 + 1) (fun z => w3.heap.size ≤ z) wr T4 ca4 cl4 cc4 x4 lx4 cx4 ra4 rl4 rc4) := HV5.out.old HBl.out
                    have HIl : Hid (IsB wr a len cap zs) := HI5.out.old HBl.out
                    have HCELL : Hid (∀ W, Below wr.heap.size wr W → Calls Tryd.prog 19 #[.agg #[.int .i64 T4.1, .slice ca4 cl4 cc4, .bool T4.2.2.1, .int .i64 T4.2.2.2.1.1, .slice x4 lx4 cx4, .slice ra4 rl4 rc4], .int .i64 (c : Int), .string (({ data := #[97, 98, 99, 100, 101, 102, 103, 104] } : ByteArray).extract l (l + 1))] W fun e w' => ∃ (x : Option Addr) (lx cx : Nat), e = .returned (.tuple #[.agg #[.int .i64 2, .slice x lx cx], .bool true]) ∧ Hid (IsB w' x lx cx ([(c : Int), (l : Int)] ++ zs)) ∧ Hid (Below W.heap.size W w')) := by
                      intro W hD
                      refine (cell_any (HVl.out.old hD) (row := (c : Int)) ⟨by omega, by omega⟩ HSM.out).mono ?_
                      rintro e w' ⟨V, x, lx, cx, there, rfl, hib, hX, hB, hth⟩
                      have hX2 := hX.out
                      rw [gName_ext l hl8, HTE.out, grid_got (by omega) zs hltc hltl] at hX2
                      cases there with
                      | false => simp at hX2
                      | true =>
                        rw [if_pos rfl] at hX2
                        obtain rfl : gVal zs c l = V := Option.some.inj hX2
                        rw [gVal_nums HZR.out hc8 hl8] at hib
                        exact ⟨x, lx, cx, rfl, hib, hB.out⟩
                    go_upto_region 32 with fail
                    have HCA : Hid (Calls Tryd.prog 19 #[.agg #[.int .i64 T4.1, .slice ca4 cl4 cc4, .bool T4.2.2.1, .int .i64 T4.2.2.2.1.1, .slice x4 lx4 cx4, .slice ra4 rl4 rc4], .int .i64 (c : Int), .string (({ data := #[97, 98, 99, 100, 101, 102, 103, 104] } : ByteArray).extract l (l + 1))] ((wr.alloc (.cells #[.int .i64 0, .slice none 0 0] 26)).drew) fun e w' => ∃ (x : Option Addr) (lx cx : Nat), e = .returned (.tuple #[.agg #[.int .i64 2, .slice x lx cx], .bool true]) ∧ Hid (IsB w' x lx cx ([(c : Int), (l : Int)] ++ zs)) ∧ Hid (Below wr.heap.size wr w') ∧ Hid (w'.heap[wr.heap.size]? = some (.cells #[.int .i64 0, .slice none 0 0] 26 (0, 0))) ∧ (w'.cell? ⟨wr.heap.size, 0, none⟩ = some (.int .i64 0) ∧ w'.cell? ⟨wr.heap.size, 1, none⟩ = some (.slice none 0 0) ∧ w'.frozen? ⟨wr.heap.size, 0, none⟩ = false ∧ w'.frozen? ⟨wr.heap.size, 1, none⟩ = false)) := by
                      refine (HCELL.out _ (Below.drew (below_one wr _))).mono ?_
                      rintro e w' ⟨x, lx, cx, he, hi, hB⟩
                      have hbl : w'.heap[wr.heap.size]? = some (.cells #[.int .i64 0, .slice none 0 0] 26 (0, 0)) := (hB.out.block wr.heap.size (by show _ < (wr.alloc _).heap.size; simp)).trans (heap_alloc_new wr _)
                      exact ⟨x, lx, cx, he, hi, (Below.drew (below_one wr _)).trans (hB.out.mono (by show _ ≤ (wr.alloc _).heap.size; simp)), hbl, two_cells hbl⟩
                    have HCB : Hid (Calls Tryd.prog 19 #[.agg #[.int .i64 T4.1, .slice ca4 cl4 cc4, .bool T4.2.2.1, .int .i64 T4.2.2.2.1.1, .slice x4 lx4 cx4, .slice ra4 rl4 rc4], .int .i64 (c : Int), .string (({ data := #[97, 98, 99, 100, 101, 102, 103, 104] } : ByteArray).extract l (l + 1))] wr.drew fun e w' => ∃ (x : Option Addr) (lx cx : Nat), e = .returned (.tuple #[.agg #[.int .i64 2, .slice x lx cx], .bool true]) ∧ Hid (IsB w' x lx cx ([(c : Int), (l : Int)] ++ zs)) ∧ Hid (Below wr.heap.size wr w')) := by
                      refine (HCELL.out _ (Below.drew (Below.refl _ _))).mono ?_
                      rintro e w' ⟨x, lx, cx, he, hi, hB⟩
                      exact ⟨x, lx, cx, he, hi, (Below.drew (Below.refl _ _)).trans hB.out⟩
                    go_cut [21, 22] (fun p b wc => CellO wr ([(c : Int), (l : Int)] ++ zs) p b wc)
                    case first =>
                      have HKP : Hid (∀ W, Below wr.heap.size wr W → (W.cell? ⟨h, 0, none⟩ = some (.int .i64 T4.1) ∧ W.cell? ⟨h, 1, none⟩ = some (.slice ca4 cl4 cc4) ∧ W.cell? ⟨h, 2, none⟩ = some (.bool T4.2.2.1) ∧ W.cell? ⟨h, 3, none⟩ = some (.int .i64 T4.2.2.2.1.1) ∧ W.cell? ⟨h, 4, none⟩ = some (.slice x4 lx4 cx4) ∧ W.cell? ⟨h, 5, none⟩ = some (.slice ra4 rl4 rc4)) ∧ Below wr.heap.size wr W) := by
                        intro W hW
                        obtain ⟨hc6, _⟩ := blk6 ((hW.block h (block_lt ((HBl.out.block h hlh).trans HG5.out))).trans ((HBl.out.block h hlh).trans HG5.out))
                        exact ⟨hc6, hW⟩
                      clear a0 a1 a2 a3 a4 a5
                      obtain ⟨⟨a0, a1, a2, a3, a4, a5⟩, hkb⟩ := HKP.out wr (Below.refl _ _)
                      go_region_held3 (fun W => (W.cell? ⟨h, 0, none⟩ = some (.int .i64 T4.1) ∧ W.cell? ⟨h, 1, none⟩ = some (.slice ca4 cl4 cc4) ∧ W.cell? ⟨h, 2, none⟩ = some (.bool T4.2.2.1) ∧ W.cell? ⟨h, 3, none⟩ = some (.int .i64 T4.2.2.2.1.1) ∧ W.cell? ⟨h, 4, none⟩ = some (.slice x4 lx4 cx4) ∧ W.cell? ⟨h, 5, none⟩ = some (.slice ra4 rl4 rc4)) ∧ Below wr.heap.size wr W) (first | (refine HKP.out _ (by repeat' (first | assumption | exact Below.refl _ _ | exact below_one _ _ | exact Below.size (by assumption) | exact Nat.le_refl _ | refine Below.drew ?_ | refine Below.alloc ?_ ?_ _ | refine Below.setCell ?_ ?_ _))))
                        (first | (go_at_call 19; refine Calls.mono HCA.out ?_; rintro e w7 ⟨x7, lx7, cx7, rfl, HI7, HB7, HL7, ⟨m0, m1, n0, n1⟩⟩; have hB7 := HB7.out) | (go_at_call 19; refine Calls.mono HCB.out ?_; rintro e w7 ⟨x7, lx7, cx7, rfl, HI7, HB7⟩; have hB7 := HB7.out))
                      all_goals
                        go_wp2_with fail
                        go_meet
                        first | exact cellO_b HI7.out HB7.out | exact cellO_a HI7.out HB7.out HL7.out
                    case rest =>
                      obtain ⟨b9, x9, lx9, cx9, rfl, rfl, HL9, HI9, HB9⟩ := hcut
                      have hlx : lx9 = len + 2 := by have h1 := HI9.out.1; have h2 := HZL.out; simp at h1; omega
                      subst hlx
                      obtain ⟨m0, m1, _, _⟩ := two_cells HL9.out
                      obtain ⟨b, off, hx9, hR9⟩ := HI9.out.2.2.2.2 (by omega)
                      subst hx9
                      have q0 : wc.cell? ⟨b, off, none⟩ = some (.int .u8 (c : Int)) := by have := hR9.cell 0 (by omega); simpa using this
                      have q1 : wc.cell? ⟨b, off + 1, none⟩ = some (.int .u8 (l : Int)) := by have := hR9.cell 1 (by omega); simpa using this
                      obtain ⟨ta, tl, tc, hsl, hib2⟩ := tail_of HI9.out 2 (by omega) 2 rfl
                      rw [show ([(c : Int), (l : Int)] ++ zs).drop 2 = zs from rfl] at hib2
                      have HIv : Hid (IsB wc a len cap zs) := HIl.out.old HB9.out
                      have hcv1 : ∀ n, (convert 22 9 (.slice ta tl tc)).run Tryd.prog (wc.drewN n) = .ok (.string (strOfNums zs)) (wc.drewN n) := fun n => (hib2.old (below_drewN (Below.refl _ _) n)).conv
                      have hcv2 : ∀ n, (convert 22 9 (.slice a len cap)).run Tryd.prog (wc.drewN n) = .ok (.string (strOfNums zs)) (wc.drewN n) := fun n => (HIv.out.old (below_drewN (Below.refl _ _) n)).conv
                      have HBf : Hid (Below w5.heap.size w5 wc) := HBl.out.trans (HB9.out.mono HBl.out.size)
                      obtain ⟨sv, hsv⟩ : ∃ sv, sv = strOfNums zs := ⟨_, rfl⟩
                      rw [← hsv] at hcv1 hcv2
                      have r1 : (sv.toList == sv.toList) = true := by simp
                      have hlx1 : (0 : Int) < ((len + 2 : Nat) : Int) := by omega
                      have hlx2 : (1 : Int) < ((len + 2 : Nat) : Int) := by omega
                      have hcx : len + 2 ≤ cx9 ∧ cx9 ≤ 9223372036854775807 := ⟨hR9.le, hR9.cap_le⟩
                      clear hsv hib2 hR9 a0 a1 a2 a3 a4 a5
                      go_upto_region 33 with fail
                      go_quiet (fail)
                      go_wp2_with fail
                      go_roundw
                      case rel => exact ⟨l + 1, by omega, by go_num, below_drewN HBf.out _⟩
                      case measure => simp [intOf]; omega
                  · obtain rfl : l = k := by omega
                    go_wp2_with fail
                    go_roundw
                    case rel => exact ⟨c + 1, by omega, by go_num, HBl⟩
                    case measure => simp [intOf]; omega
              · go_wp2_with fail
                go_ret
                exact ⟨rfl, (HB1.out.trans (HB5.out.mono HB1.out.size)).trans (HBc.out.mono (HB1.out.trans (HB5.out.mono HB1.out.size)).size)⟩

end Go.Proofs.YtnapeecmlkkolaaDoor
