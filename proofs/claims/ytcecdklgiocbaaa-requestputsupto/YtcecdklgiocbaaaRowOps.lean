/-
  A whole struct out of and into a block that is known, in one step each.
-/
import Derived.Test.YtcecdklgiocbaaaGetA
import Derived.Laws.Tables
import Derived.Laws.CopyRow
import Derived.Laws.Cells
namespace Go.Proofs.Ytcecdklgiocbaaa
open Go.RowKit
set_option maxRecDepth 100000
set_option linter.unusedVariables false
set_option linter.unusedSimpArgs false

theorem kept_setRow (w : World) (g : Nat) (cs : Array Value) : Kept (fun k => k = g) w (w.setRow g cs) :=
  ⟨rfl, rfl, rfl, by simp, fun k hk hn => setRow_other w g k cs hn⟩

theorem wpList_store_row {ops : Array Oper} {rest : List Oper} {o : Oper} {a : Act} {w : World} {Q : Exit → Act → World → Prop} (hgd : o.guard = none) (t : TypeId) (x y : Operand) (ho : o.op = .store t x y)
    {g : Nat} (hx : a.eval x = .pointer (some ⟨g, 0, none⟩)) {cells : Array Value} (hy : a.eval y = .agg cells) (hi : (Try.prog.info? t).map (·.size) = some cells.size) (h1 : cells.all (·.oneCell') = true)
    {old : Array Value} {T : TypeId} (hg : w.heap[g]? = some (.cells old T (0, 0))) (hsz : old.size = cells.size)
    (h : ∀ w2, w2.heap[g]? = some (.cells cells T (0, 0)) → Kept (fun k => k = g) w w2 → w2.heap.size = w.heap.size → wpList Try.prog ops Q rest (a.put o.dst undef) w2) : wpList Try.prog ops Q (o :: rest) a w := by
  refine wpList_plain hgd fun K hK => ?_
  have hr : (Instr.storeAt t (.pointer (some ⟨g, 0, none⟩)) (.agg cells)).run Try.prog w = .ok () (w.setRow g cells) := by
    simp only [Instr.storeAt, Instr.sureAddr, Sem.run_bind, Sem.run_pure, Result.andThen]
    exact run_storeVar_row w g T t old cells hg hi hsz h1
  unfold Oper.wp
  simp [execOp, ho, hx, hy, hr, Result.andThen]
  exact hK _ _ (h _ (setRow_heap w g old cells T (0, 0) hg) (kept_setRow w g cells) (by simp))

theorem wpList_store_hid {ops : Array Oper} {rest : List Oper} {o : Oper} {a : Act} {w : World} {Q : Exit → Act → World → Prop} (hgd : o.guard = none) (t : TypeId) (x y : Operand) (ho : o.op = .store t x y)
    {g : Nat} (hx : a.eval x = .pointer (some ⟨g, 0, none⟩)) {cells : Array Value} (hy : a.eval y = .agg cells) (hi : (Try.prog.info? t).map (·.size) = some cells.size) (h1 : cells.all (·.oneCell') = true)
    {old : Array Value} {T : TypeId} (hg : w.heap[g]? = some (.cells old T (0, 0))) (hsz : old.size = cells.size)
    (h : Hid (∀ w2, w2.heap[g]? = some (.cells cells T (0, 0)) → Kept (fun k => k = g) w w2 → w2.heap.size = w.heap.size → wpList Try.prog ops Q rest (a.put o.dst undef) w2)) : wpList Try.prog ops Q (o :: rest) a w :=
  wpList_store_row hgd t x y ho hx hy hi h1 hg hsz h.out

theorem wpList_store_part {ops : Array Oper} {rest : List Oper} {o : Oper} {a : Act} {w : World} {Q : Exit → Act → World → Prop} (hgd : o.guard = none) (t : TypeId) (x y : Operand) (ho : o.op = .store t x y)
    {g off : Nat} (hx : a.eval x = .pointer (some ⟨g, off, none⟩)) {cells : Array Value} (hy : a.eval y = .agg cells) (hi : (Try.prog.info? t).map (·.size) = some cells.size) (h1 : cells.all (·.oneCell') = true)
    {old : Array Value} {T : TypeId} (hg : w.heap[g]? = some (.cells old T (0, 0))) (hsz : off + cells.size ≤ old.size) (new : Array Value) (hnew : (old.toList.take off ++ cells.toList ++ old.toList.drop (off + cells.size)).toArray = new)
    (h : Hid (∀ w2, w2.heap[g]? = some (.cells new T (0, 0)) → Kept (fun k => k = g) w w2 → w2.heap.size = w.heap.size → wpList Try.prog ops Q rest (a.put o.dst undef) w2)) : wpList Try.prog ops Q (o :: rest) a w := by
  refine wpList_plain hgd fun K hK => ?_
  have hr0 := run_storeCells_at (P := Try.prog) g off T cells.toList 0 old w hg (by simp; omega) (fun v hv => (Array.all_eq_true_iff_forall_mem.1 h1) v (by simpa using hv))
  simp only [Nat.add_zero, Array.length_toList] at hr0
  rw [hnew] at hr0
  have hr : (Instr.storeAt t (.pointer (some ⟨g, off, none⟩)) (.agg cells)).run Try.prog w = .ok () (w.setRow g new) := by
    simp only [Instr.storeAt, Instr.sureAddr, Sem.run_bind, Sem.run_pure, Result.andThen]
    cases hq : Try.prog.info? t with
    | none => simp [hq] at hi
    | some i =>
      have hs : cells.size = i.size := by simp [hq] at hi; omega
      simp [storeVar, sizeOf, typeInfo, hq, Value.cells, hs]
      exact hr0
  unfold Oper.wp
  simp [execOp, ho, hx, hy, hr, Result.andThen]
  exact hK _ _ (h.out _ (setRow_heap w g old _ T (0, 0) hg) (kept_setRow w g _) (by simp))

theorem step_store_row {ops : Array Oper} {o : Oper} {a : Act} {w9 w : World} {K : Act → World → Prop} {Q : Exit → Act → World → Prop} {E : Prop} (hgd : o.guard = none) (t : TypeId) (x y : Operand) (ho : o.op = .store t x y)
    {g : Nat} (hx : a.eval x = .pointer (some ⟨g, 0, none⟩)) {cells : Array Value} (hy : a.eval y = .agg cells) {old : Array Value} {T : TypeId} (hg : w9.heap[g]? = some (.cells old T (0, 0))) (hW : Below w9.heap.size w9 w) (hi : (Try.prog.info? t).map (·.size) = some cells.size) (h1 : cells.all (·.oneCell') = true)
    (hsz : old.size = cells.size)
    (h : ∀ w2, w2.heap[g]? = some (.cells cells T (0, 0)) → Kept (fun k => k = g) w9 w2 → K (a.put o.dst undef) w2) :
    if Region.wanted o (yielded ops a.tmps) = true then Oper.wp Try.prog o a w K Q else E := by
  have hw : Region.wanted o (yielded ops a.tmps) = true := by simp [Region.wanted, hgd]
  rw [if_pos hw]
  have hg2 : w.heap[g]? = some (.cells old T (0, 0)) := (hW.block g (block_lt hg)).trans hg
  have hr : (Instr.storeAt t (.pointer (some ⟨g, 0, none⟩)) (.agg cells)).run Try.prog w = .ok () (w.setRow g cells) := by
    simp only [Instr.storeAt, Instr.sureAddr, Sem.run_bind, Sem.run_pure, Result.andThen]
    exact run_storeVar_row w g T t old cells hg2 hi hsz h1
  unfold Oper.wp
  simp [execOp, ho, hx, hy, hr, Result.andThen]
  exact h _ (setRow_heap w g old cells T (0, 0) hg2) ((kept_of hW).trans (kept_setRow w g cells) (fun _ _ e => e))

theorem cell_of_block {w : World} {g : Nat} {cells : Array Value} {T : TypeId} {fr : Nat × Nat} (hg : w.heap[g]? = some (.cells cells T fr)) (j : Nat) : w.cell? ((⟨g, 0, none⟩ : Addr).add j) = cells[j]? := by
  have hadd : (⟨g, 0, none⟩ : Addr).add j = ⟨g, j, none⟩ := by unfold Addr.add; split <;> simp_all
  rw [hadd]
  simp [World.cell?, hg]

theorem wpList_load_row {ops : Array Oper} {rest : List Oper} {o : Oper} {a : Act} {w : World} {Q : Exit → Act → World → Prop} (hgd : o.guard = none) (t : TypeId) (x : Operand) (ho : o.op = .load t x)
    {g : Nat} (hx : a.eval x = .pointer (some ⟨g, 0, none⟩)) {cells : Array Value} {T : TypeId} {fr : Nat × Nat} (hg : w.heap[g]? = some (.cells cells T fr)) (hi : (Try.prog.info? t).map (·.size) = some cells.size) (ha : ∀ w, (isAgg t).run Try.prog w = .ok true w)
    (h : wpList Try.prog ops Q rest (a.put o.dst (.agg cells)) w) : wpList Try.prog ops Q (o :: rest) a w := by
  refine wpList_plain hgd fun K hK => ?_
  have hr : (Instr.loadAt t (.pointer (some ⟨g, 0, none⟩))).run Try.prog w = .ok (.agg cells) w := by
    simp only [Instr.loadAt, Instr.sureAddr, Sem.run_bind, Sem.run_pure, Result.andThen]
    have hl := run_loadCells_list (P := Try.prog) w ⟨g, 0, none⟩ cells.toList (fun j v hv => by rw [cell_of_block hg j]; simpa using hv)
    cases hq : Try.prog.info? t with
    | none => simp [hq] at hi
    | some i =>
      have hs : i.size = cells.size := by simp [hq] at hi; omega
      simp [loadVar, ha, sizeOf, typeInfo, hq, hs, Result.andThen]
      simp at hl
      rw [hl]
  unfold Oper.wp
  simp [execOp, ho, hx, hr, Result.andThen]
  exact hK _ _ h

theorem load_block {t : TypeId} {g : Nat} {w : World} {cells : Array Value} {T : TypeId} {fr : Nat × Nat} (hg : w.heap[g]? = some (.cells cells T fr)) (hi : (Try.prog.info? t).map (·.size) = some cells.size) (ha : ∀ w, (isAgg t).run Try.prog w = .ok true w) :
    (loadVar t ⟨g, 0, none⟩).run Try.prog w = .ok (.agg cells) w := by
  have hl := run_loadCells_list (P := Try.prog) w ⟨g, 0, none⟩ cells.toList (fun j v hv => by rw [cell_of_block hg j]; simpa using hv)
  cases hq : Try.prog.info? t with
  | none => simp [hq] at hi
  | some i =>
    have hs : i.size = cells.size := by simp [hq] at hi; omega
    simp [loadVar, ha, sizeOf, typeInfo, hq, hs, Result.andThen]
    simp at hl
    rw [hl]

theorem results_cell_tmp {fn : Func} {t u : Tmp} {ty : TypeId} (h : fn.results = #[.cell t ty, .tmp u]) {tmps : Array Value} {w : World} {g : Nat} (hp : tmps.getD t undef = .pointer (some ⟨g, 0, none⟩)) {cells : Array Value} {T : TypeId} {fr : Nat × Nat} (hg : w.heap[g]? = some (.cells cells T fr)) (hi : (Try.prog.info? ty).map (·.size) = some cells.size) (ha : ∀ w, (isAgg ty).run Try.prog w = .ok true w) {x : Value} (hx : tmps.getD u undef = x) :
    (results fn tmps).run Try.prog w = .ok (.tuple #[.agg cells, x]) w := by
  have hl := load_block hg hi ha
  have ha : (asAddr (.pointer (some ⟨g, 0, none⟩))).run Try.prog w = .ok ⟨g, 0, none⟩ w := rfl
  subst hx
  rw [Array.getD_eq_getD_getElem?] at hp
  simp only [results, h]
  simp [Result.andThen]
  rw [hp, ha]
  simp only [hl]

theorem upon_of {o : Oper} {a : Act} {K : Act → World → Prop} {Q : Exit → Act → World → Prop} {R : Result Next} {w2 : World} (hR : R = .ok .skip w2) (h : K (a.put o.dst undef) w2) : Oper.upon Try.prog o a K Q R := by
  rw [hR]; exact h

theorem store_cells {w9 w : World} {g : Nat} {cells : Array Value} (h1 : cells.all (·.oneCell') = true) {old : Array Value} {T : TypeId} (hg : w9.heap[g]? = some (.cells old T (0, 0))) (hW : Below w9.heap.size w9 w) (hsz : old.size = cells.size) :
    ((storeCells ⟨g, 0, none⟩ cells.toList 0).run Try.prog w).andThen (fun _ w' => Result.ok Next.skip w') = .ok .skip (w.setRow g cells) ∧ (w.setRow g cells).heap[g]? = some (.cells cells T (0, 0)) ∧ Kept (fun k => k = g) w9 (w.setRow g cells) := by
  have hg2 : w.heap[g]? = some (.cells old T (0, 0)) := (hW.block g (block_lt hg)).trans hg
  have := run_storeCells_from (P := Try.prog) g T cells.toList 0 old w hg2 (by simp; omega) (fun v hv => (Array.all_eq_true_iff_forall_mem.1 h1) v (by simpa using hv))
  refine ⟨?_, setRow_heap w g old cells T (0, 0) hg2, (kept_of hW).trans (kept_setRow w g cells) (fun _ _ e => e)⟩
  rw [this]
  simp [Result.andThen]

theorem Try.isz30 : (Try.prog.info? 30).map (·.size) = some 13 := by kernel_rfl
theorem Try.isz33 : (Try.prog.info? 33).map (·.size) = some 22 := by kernel_rfl
theorem Try.isz48 : (Try.prog.info? 48).map (·.size) = some 22 := by kernel_rfl
theorem Try.agg33 (w : World) : (isAgg 33).run Try.prog w = .ok true w := by
  simp [isAgg, run_underlying Try.underlying33, Result.andThen]
theorem Try.agg48 (w : World) : (isAgg 48).run Try.prog w = .ok true w := by
  simp [isAgg, run_underlying Try.underlying48, Result.andThen]
end Go.Proofs.Ytcecdklgiocbaaa
