/-
  Laws for requestOf: a struct's store within a struct, an append as one step of a drawn region, the rows that it appends.
-/
import Derived.Test.YtcecdklgiocbaaaOf8
import Derived.Test.YtcecdklgiocbaaaNames8
import Derived.Test.YtcecdklgiocbaaaRowOps
namespace Go.Proofs.Ytcecdklgiocbaaa
open Go.RowKit
set_option maxRecDepth 100000
set_option linter.unusedVariables false
set_option linter.unusedSimpArgs false

theorem store_part_cells {w9 w : World} {g off : Nat} {cells : Array Value} (h1 : cells.all (·.oneCell') = true) {old : Array Value} {T : TypeId} (hg : w9.heap[g]? = some (.cells old T (0, 0))) (hW : Below w9.heap.size w9 w) (hsz : off + cells.size ≤ old.size) (new : Array Value) (hnew : (old.toList.take off ++ cells.toList ++ old.toList.drop (off + cells.size)).toArray = new) :
    ((storeCells ⟨g, off, none⟩ cells.toList 0).run Try.prog w).andThen (fun _ w' => Result.ok Next.skip w') = .ok .skip (w.setRow g new) ∧ (w.setRow g new).heap[g]? = some (.cells new T (0, 0)) ∧ Kept (fun k => k = g) w9 (w.setRow g new) := by
  have hg2 : w.heap[g]? = some (.cells old T (0, 0)) := (hW.block g (block_lt hg)).trans hg
  have hr0 := run_storeCells_at (P := Try.prog) g off T cells.toList 0 old w hg2 (by simp; omega) (fun v hv => (Array.all_eq_true_iff_forall_mem.1 h1) v (by simpa using hv))
  simp only [Nat.add_zero, Array.length_toList] at hr0
  rw [hnew] at hr0
  refine ⟨?_, setRow_heap w g old _ T (0, 0) hg2, (kept_of hW).trans (kept_setRow w g _) (fun _ _ e => e)⟩
  rw [hr0]
  simp [Result.andThen]

theorem step_appendG {α : Type} [Inhabited α] {e : TypeId} {size : Nat} {V : Vw α} {ops : Array Oper} {o : Oper} {a : Act} {K : Act → World → Prop} {Q : Exit → Act → World → Prop} {E : Prop} {w : World} (hgd : o.guard = none) (s y : Operand) (t : TypeId)
    (ho : o.op = .call { callee := .builtin .append, args := #[s, y], argTypes := #[t, t] })
    {bytes : Nat} (hV : StaysG size V) (hE : Elem t e size bytes) {F : Nat → Prop} {v : Value} {xs : List α} (hs : a.eval s = v) (h : OwnG e size V w F v xs)
    {B c : Nat} {news : List Value} {tt : TypeId} {fr : Nat × Nat} (hy : a.eval y = .slice (some ⟨B, 0, none⟩) 1 c) (hB : w.heap[B]? = some (.cells news.toArray tt fr)) (hn : news.length = size) (h1 : ∀ u ∈ news, u.oneCell' = true) (x : α) (hx : V (fun k => k < w.heap.size ∧ v.ownBlock ≠ some k ∧ F k) w x (fun j => news.getD j default))
    (hF : F w.heap.size) (h63 : xs.length + 1 ≤ maxLen) (hbd : (xs.length + 1) * bytes ≤ 140737488355328)
    (hk : ∀ v' w', OwnG e size V w' F v' (xs ++ [x]) → Kept (fun k => v.ownBlock = some k) w w' → (v'.ownBlock = v.ownBlock ∨ v'.ownBlock = some w.heap.size) → K (a.put o.dst v') w') :
    if Region.wanted o (yielded ops a.tmps) = true then Oper.wp Try.prog o a w K Q else E := by
  have hw : Region.wanted o (yielded ops a.tmps) = true := by simp [Region.wanted, hgd]
  rw [if_pos hw]
  obtain ⟨v', w', hr, h2, h3, h4⟩ := appendG_run hV hE h hB hn h1 x hx hF h63 hbd o.type c
  unfold Oper.wp
  simp [execOp, ho, resolve, invoke, builtin, hs, hy, hr, Result.andThen]
  exact hk v' w' h2 h3 h4

/-- A row of the document's pairs, in memory of its own. -/
def GI : Vw It := fun _ _ x c => c 0 = .string x.key ∧ c 1 = .string x.text ∧ (c 2 = .slice none 0 0 ∧ x.texts = []) ∧ c 3 = .int .i64 x.kind ∧ c 4 = .string x.bytes
theorem stays_gi : StaysG 5 GI := fun _ _ _ _ _ _ _ h hc _ _ _ => ⟨(hc 0 (by omega)).trans h.1, (hc 1 (by omega)).trans h.2.1, ⟨(hc 2 (by omega)).trans h.2.2.1.1, h.2.2.1.2⟩, (hc 3 (by omega)).trans h.2.2.2.1, (hc 4 (by omega)).trans h.2.2.2.2⟩
theorem gi_i (F : Nat → Prop) (w : World) (x : It) (c : Nat → Value) (h : GI F w x c) : VI w x c :=
  ⟨h.1, h.2.1, ⟨none, 0, 0, h.2.2.1.1, by rw [h.2.2.1.2]; exact view_nil _ _ _⟩, h.2.2.2.1, h.2.2.2.2⟩

/-- A row of the document's statements. -/
def GM : Vw St := fun F w s c => c 0 = .bool s.prep ∧ c 1 = .string s.text ∧ c 2 = .string s.id ∧ OwnG 43 2 GVR w F (c 3) s.vals
theorem stays_gm : StaysG 4 GM := by
  intro F F' w w' x c c' h hc hb hs hF
  obtain ⟨h0, h1, h2, h3⟩ := h
  refine ⟨(hc 0 (by omega)).trans h0, (hc 1 (by omega)).trans h1, (hc 2 (by omega)).trans h2, ?_⟩
  rw [hc 3 (by omega)]
  exact h3.kept stays_gvr hb hs hF
theorem ownG_vr {w : World} {F : Nat → Prop} {v : Value} {vs : List Vl} (h : OwnG 43 2 GVR w F v vs) : ∃ a cp, v = .slice a vs.length cp ∧ View 2 VR w a vs.length cp vs := h.view (V0 := VR) gvr_r
theorem gm_m (F : Nat → Prop) (w : World) (x : St) (c : Nat → Value) (h : GM F w x c) : VM4 w x c := by
  obtain ⟨h0, h1, h2, h3⟩ := h
  obtain ⟨a, cp, hv, hV⟩ := ownG_vr h3
  exact ⟨h0, h1, h2, a, _, cp, hv, hV⟩
theorem ownG_i {w : World} {F : Nat → Prop} {v : Value} {xs : List It} (h : OwnG 89 5 GI w F v xs) : ∃ a cp, v = .slice a xs.length cp ∧ View 5 VI w a xs.length cp xs := h.view (V0 := VI) gi_i
theorem ownG_m {w : World} {F : Nat → Prop} {v : Value} {xs : List St} (h : OwnG 82 4 GM w F v xs) : ∃ a cp, v = .slice a xs.length cp ∧ View 4 VM4 w a xs.length cp xs := h.view (V0 := VM4) gm_m
theorem ownG_names {w : World} {F : Nat → Prop} {v : Value} {ns : List ByteArray} (h : OwnG 9 1 GS w F v ns) : ∃ a cp, v = .slice a ns.length cp ∧ View 1 VS w a ns.length cp ns := h.view (V0 := VS) (fun _ _ _ _ h => h)

/-- A cell of a block whose cells are known; one of them set. -/
theorem blk_cell {w : World} {p : Nat} {cs : Array Value} {t : TypeId} (h : w.heap[p]? = some (.cells cs t (0, 0))) {j : Nat} {v : Value} (hj : cs[j]? = some v) : w.cell? ⟨p, j, none⟩ = some v := by simp [World.cell?, h, hj]
theorem blk_free {w : World} {p : Nat} {cs : Array Value} {t : TypeId} (h : w.heap[p]? = some (.cells cs t (0, 0))) (j : Nat) : w.frozen? ⟨p, j, none⟩ = false := by simp [World.frozen?, h]
theorem blk_set {w : World} {p : Nat} {cs : Array Value} {t : TypeId} (h : w.heap[p]? = some (.cells cs t (0, 0))) (j : Nat) (u : Value) : (w.setCell ⟨p, j, none⟩ u).heap[p]? = some (.cells (cs.setIfInBounds j u) t (0, 0)) := by
  have hlt := block_lt h
  have h' : w.heap[p] = .cells cs t (0, 0) := by simpa [Array.getElem?_eq_getElem hlt] using h
  show (w.heap.modify p _)[p]? = _
  rw [Array.getElem?_eq_getElem (by simpa using hlt), Array.getElem_modify_self, h']
  rfl


/-- A row of a list's, in every world that keeps what was there. -/
theorem View.vp_row {w0 : World} {a : Option Addr} {len cap : Nat} {ss : List (ByteArray × ByteArray)} (h : View 2 VP w0 a len cap ss) {k : Nat} (hk : k < len) :
    ∃ b off, a = some ⟨b, off, none⟩ ∧ ∀ W, Below w0.heap.size w0 W → W.cell? ⟨b, off + k * 2, none⟩ = some (.string (ss.getD k default).1) ∧ W.cell? ⟨b, off + k * 2 + 1, none⟩ = some (.string (ss.getD k default).2) := by
  obtain ⟨h1, h2, h3, h4, h5⟩ := h
  obtain ⟨b, off, ha, hb, hc⟩ := h5 (by omega)
  obtain ⟨c, hcell, hv0, hv1⟩ := hc k hk
  have g0 := hcell 0 (by omega)
  have g1 := hcell 1 (by omega)
  rw [hv0] at g0
  rw [hv1] at g1
  exact ⟨b, off, ha, fun W hB => ⟨(hB.cell (p := ⟨b, off + k * 2, none⟩) hb).trans (by simpa using g0), (hB.cell (p := ⟨b, off + k * 2 + 1, none⟩) hb).trans (by rw [Nat.add_assoc]; exact g1)⟩⟩
theorem View.vs_row {w0 : World} {a : Option Addr} {len cap : Nat} {ss : List ByteArray} (h : View 1 VS w0 a len cap ss) {k : Nat} (hk : k < len) :
    ∃ b off, a = some ⟨b, off, none⟩ ∧ ∀ W, Below w0.heap.size w0 W → W.cell? ⟨b, off + k, none⟩ = some (.string (ss.getD k default)) := by
  obtain ⟨h1, h2, h3, h4, h5⟩ := h
  obtain ⟨b, off, ha, hb, hc⟩ := h5 (by omega)
  obtain ⟨c, hcell, hv0⟩ := hc k hk
  have g0 := hcell 0 (by omega)
  rw [hv0] at g0
  exact ⟨b, off, ha, fun W hB => (hB.cell (p := ⟨b, off + k, none⟩) hb).trans (by simpa using g0)⟩
theorem View.st_row {w0 : World} {a : Option Addr} {len cap : Nat} {ss : List St} (h : View 4 VSt w0 a len cap ss) {k : Nat} (hk : k < len) :
    ∃ b off a1 l1 c1 a2 l2 c2, a = some ⟨b, off, none⟩ ∧ (∀ W, Below w0.heap.size w0 W → W.cell? ⟨b, off + k * 4, none⟩ = some (.bool (ss.getD k default).prep) ∧ W.cell? ⟨b, off + k * 4 + 1, none⟩ = some (.string (ss.getD k default).text) ∧ W.cell? ⟨b, off + k * 4 + 2, none⟩ = some (.slice a1 l1 c1) ∧ W.cell? ⟨b, off + k * 4 + 3, none⟩ = some (.slice a2 l2 c2)) ∧
      IsB w0 a1 l1 c1 (sNums (ss.getD k default).id) ∧ View 2 VV w0 a2 l2 c2 (ss.getD k default).vals := by
  obtain ⟨h1, h2, h3, h4, h5⟩ := h
  obtain ⟨b, off, ha, hb, hc⟩ := h5 (by omega)
  obtain ⟨c, hcell, hv0, hv1, ⟨a1, l1, c1, hv2, hI⟩, a2, l2, c2, hv3, hV⟩ := hc k hk
  have g0 := hcell 0 (by omega)
  have g1 := hcell 1 (by omega)
  have g2 := hcell 2 (by omega)
  have g3 := hcell 3 (by omega)
  rw [hv0] at g0
  rw [hv1] at g1
  rw [hv2] at g2
  rw [hv3] at g3
  exact ⟨b, off, a1, l1, c1, a2, l2, c2, ha, fun W hB => ⟨(hB.cell (p := ⟨b, off + k * 4, none⟩) hb).trans (by simpa using g0), (hB.cell (p := ⟨b, off + k * 4 + 1, none⟩) hb).trans (by rw [Nat.add_assoc]; exact g1), (hB.cell (p := ⟨b, off + k * 4 + 2, none⟩) hb).trans (by rw [Nat.add_assoc]; exact g2), (hB.cell (p := ⟨b, off + k * 4 + 3, none⟩) hb).trans (by rw [Nat.add_assoc]; exact g3)⟩, hI, hV⟩

/-- What a function answers that has a struct in memory as its one result. -/
theorem results_cell {fn : Func} {t : Tmp} {ty : TypeId} (h : fn.results = #[.cell t ty]) {tmps : Array Value} {w : World} {g : Nat} (hp : tmps.getD t undef = .pointer (some ⟨g, 0, none⟩)) {cells : Array Value} {T : TypeId} {fr : Nat × Nat} (hg : w.heap[g]? = some (.cells cells T fr)) (hi : (Try.prog.info? ty).map (·.size) = some cells.size) (ha : ∀ w, (isAgg ty).run Try.prog w = .ok true w) :
    (results fn tmps).run Try.prog w = .ok (.agg cells) w := by
  have hl := load_block hg hi ha
  have ha : (asAddr (.pointer (some ⟨g, 0, none⟩))).run Try.prog w = .ok ⟨g, 0, none⟩ w := rfl
  rw [Array.getD_eq_getD_getElem?] at hp
  simp only [results, h]
  simp [Result.andThen]
  rw [hp, ha]
  simp only [hl]

/-- The cells of an empty request of the document's: the block that the walk must not open. -/
def z48 : Array Value := #[.int .u8 0, .slice none 0 0, .string ⟨#[]⟩, .string ⟨#[]⟩, .int .u16 0, .slice none 0 0, .slice none 0 0, .bool false, .bool false, .int .i32 0, .bool false, .int .i64 0, .string ⟨#[]⟩, .bool false, .int .u16 0, .bool false, .int .i64 0, .slice none 0 0, .int .i64 0, .string ⟨#[]⟩, .int .u8 0, .slice none 0 0]
def ba48 (W : World) : World := W.alloc (.cells z48 48)
theorem ba_eq : ∀ W : World, W.alloc (.cells #[.int .u8 0, .slice none 0 0, .string ⟨#[]⟩, .string ⟨#[]⟩, .int .u16 0, .slice none 0 0, .slice none 0 0, .bool false, .bool false, .int .i32 0, .bool false, .int .i64 0, .string ⟨#[]⟩, .bool false, .int .u16 0, .bool false, .int .i64 0, .slice none 0 0, .int .i64 0, .string ⟨#[]⟩, .int .u8 0, .slice none 0 0] 48) = ba48 W := fun _ => rfl
theorem ba_new (W : World) : (ba48 W).heap[W.heap.size]? = some (.cells z48 48 (0, 0)) := heap_alloc_new W _
theorem ba_size (W : World) : (ba48 W).heap.size = W.heap.size + 1 := by simp [ba48]
theorem ba_below {B : Nat} {a w : World} (h : Below B a w) (hB : B ≤ w.heap.size) : Below B a (ba48 w) := h.alloc hB _
end Go.Proofs.Ytcecdklgiocbaaa
