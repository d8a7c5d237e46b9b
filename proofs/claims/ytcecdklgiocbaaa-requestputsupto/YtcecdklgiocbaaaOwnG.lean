/-
  A slice that owns its row of items, with all blocks that they lead to in a set that is told: it stays while these do; append of an item.
-/
import Derived.Test.YtcecdklgiocbaaaRd3
namespace Go.Proofs.Ytcecdklgiocbaaa
open Go.RowKit
set_option maxRecDepth 100000
set_option linter.unusedVariables false
set_option linter.unusedSimpArgs false

theorem kept_grown {w w' : World} {row : Option Nat} (h : w.grownBy w' row) : Kept (fun k => row = some k) w w' :=
  ⟨h.os, h.tape, h.output, h.size, fun k hk hn => h.block k hk (fun e => hn e.symm)⟩

theorem kept_below {n : Nat} {w w' : World} (h : Below n w w') : Kept (fun k => n ≤ k) w w' := ⟨h.os, h.tape, h.output, h.size, fun k hk hn => h.block k (by omega)⟩

theorem own_block_lt {w : World} {base : Nat} {e : TypeId} {size : Nat} {v : Value} {n : Nat} {xs : List Value} (h : w.ownsRow base e size v n xs) : ∀ k, v.ownBlock = some k → k < w.heap.size := fun k hk => (World.ownsRow.lt h k hk).2

/-- An item's view: in a world, with its blocks in a set. -/
abbrev Vw (α : Type) := (Nat → Prop) → World → α → (Nat → Value) → Prop

def OwnG {α : Type} [Inhabited α] (e : TypeId) (size : Nat) (V : Vw α) (w : World) (F : Nat → Prop) (v : Value) (xs : List α) : Prop :=
  ∃ cs : List Value, w.ownsRow 0 e size v xs.length cs ∧ (∀ k, v.ownBlock = some k → F k) ∧ (∀ u ∈ cs, u.oneCell' = true) ∧
    ∀ i, i < xs.length → V (fun k => k < w.heap.size ∧ v.ownBlock ≠ some k ∧ F k) w (xs.getD i default) (fun j => cs.getD (i * size + j) default)

def StaysG {α : Type} (size : Nat) (V : Vw α) : Prop :=
  ∀ (F F' : Nat → Prop) (w w' : World) (x : α) (c c' : Nat → Value), V F w x c → (∀ j, j < size → c' j = c j) → (∀ k, k < w.heap.size → F k → w'.heap[k]? = w.heap[k]?) → w.heap.size ≤ w'.heap.size → (∀ k, k < w.heap.size → F k → F' k) → V F' w' x c'

theorem ownG_nil {α : Type} [Inhabited α] (e : TypeId) (size : Nat) (V : Vw α) (w : World) (F : Nat → Prop) : OwnG e size V w F (.slice none 0 0) ([] : List α) :=
  ⟨[], World.ownsRow_nil _ _ _ _, (fun k h => by simp [Value.ownBlock] at h), (fun u h => by cases h), (fun i hi => by simp at hi)⟩

section
variable {α : Type} [Inhabited α] {e : TypeId} {size : Nat} {V : Vw α}

theorem OwnG.lt {w : World} {F : Nat → Prop} {v : Value} {xs : List α} (h : OwnG e size V w F v xs) : ∀ k, v.ownBlock = some k → F k ∧ k < w.heap.size := by
  obtain ⟨cs, ho, hF, _⟩ := h
  exact fun k hk => ⟨hF k hk, own_block_lt ho k hk⟩

theorem OwnG.shape {w : World} {F : Nat → Prop} {v : Value} {xs : List α} (h : OwnG e size V w F v xs) : ∃ a cap, v = .slice a xs.length cap := by
  obtain ⟨cs, ho, _⟩ := h
  rcases ho.2 with ⟨rfl, h0⟩ | ⟨g, cap, cur, rfl, _⟩
  · exact ⟨none, 0, by rw [h0]⟩
  · exact ⟨_, cap, rfl⟩

theorem OwnG.kept (hV : StaysG size V) {w W : World} {F F' : Nat → Prop} {v : Value} {xs : List α} (h : OwnG e size V w F v xs) (hb : ∀ k, k < w.heap.size → F k → W.heap[k]? = w.heap[k]?) (hs : w.heap.size ≤ W.heap.size) (hF : ∀ k, k < w.heap.size → F k → F' k) : OwnG e size V W F' v xs := by
  obtain ⟨cs, ho, h1, h2, h3⟩ := h
  refine ⟨cs, ⟨ho.1, ?_⟩, fun k hk => hF k (own_block_lt ho k hk) (h1 k hk), h2, fun i hi => ?_⟩
  · rcases ho.2 with h4 | ⟨g, cap, cur, hv, hg, hh, r⟩
    · exact .inl h4
    · exact .inr ⟨g, cap, cur, hv, hg, by rw [hb g (block_lt hh) (h1 g (by rw [hv]; rfl))]; exact hh, r⟩
  · exact hV _ _ w W _ _ _ (h3 i hi) (fun _ _ => rfl) (fun k hk hf => hb k hk hf.2.2) hs (fun k hk hf => ⟨Nat.lt_of_lt_of_le hf.1 hs, hf.2.1, hF k hk hf.2.2⟩)

theorem OwnG.old (hV : StaysG size V) {w W : World} {F : Nat → Prop} {v : Value} {xs : List α} (h : OwnG e size V w F v xs) (hB : Below w.heap.size w W) : OwnG e size V W F v xs :=
  h.kept hV (fun k hk _ => hB.block k hk) hB.size (fun _ _ hf => hf)

/-- What is owned, seen. -/
theorem OwnG.view {V0 : World → α → (Nat → Value) → Prop} (hf : ∀ F w x c, V F w x c → V0 w x c) {w : World} {F : Nat → Prop} {v : Value} {xs : List α} (h : OwnG e size V w F v xs) :
    ∃ a cap, v = .slice a xs.length cap ∧ View size V0 w a xs.length cap xs := by
  obtain ⟨cs, ho, hF, hc1, hc⟩ := h
  have ho' := ho
  obtain ⟨hlen, h2⟩ := ho'
  rcases h2 with ⟨rfl, h0⟩ | ⟨g, cap, cur, rfl, hg, hh, hnc, hm, hs, htake⟩
  · obtain rfl : xs = [] := List.eq_nil_of_length_eq_zero h0
    exact ⟨none, 0, rfl, view_nil _ _ _⟩
  · have hgs := (Array.getElem?_eq_some_iff.1 hh).1
    refine ⟨_, cap, rfl, ⟨rfl, hnc, hm, (fun e => by cases e), fun hp => ⟨g, 0, rfl, hgs, fun i hi => ⟨_, fun j hj => ?_, hf _ _ _ _ (hc i hi)⟩⟩⟩⟩
    have hij : i * size + j < xs.length * size := by
      have : (i + 1) * size ≤ xs.length * size := Nat.mul_le_mul_right _ hi
      rw [Nat.succ_mul] at this
      omega
    rw [Nat.zero_add]
    have hcell := ho.cells (g := g) rfl (i * size + j) (cs.getD (i * size + j) default) (by rw [List.getD_eq_getElem?_getD, List.getElem?_eq_getElem (by omega)]; rfl)
    have hplain : (⟨g, 0, none⟩ : Addr).add (i * size + j) = ⟨g, i * size + j, none⟩ := by unfold Addr.add; split <;> simp_all
    rw [hplain] at hcell
    exact hcell

/-- append of one item that lies in a block of its own. -/
theorem appendG_run {t : TypeId} {bytes : Nat} (hV : StaysG size V) (hE : Elem t e size bytes) {w : World} {F : Nat → Prop} {v : Value} {xs : List α} (h : OwnG e size V w F v xs)
    {B : Nat} {news : List Value} {tt : TypeId} {fr : Nat × Nat} (hB : w.heap[B]? = some (.cells news.toArray tt fr)) (hn : news.length = size) (h1 : ∀ u ∈ news, u.oneCell' = true) (x : α) (hx : V (fun k => k < w.heap.size ∧ v.ownBlock ≠ some k ∧ F k) w x (fun j => news.getD j default))
    (hF : F w.heap.size) (h63 : xs.length + 1 ≤ maxLen) (hbd : (xs.length + 1) * bytes ≤ 140737488355328) (ty : TypeId) (c : Nat) :
    ∃ v' w', (Builtin.append_ #[t, t] ty #[v, .slice (some ⟨B, 0, none⟩) 1 c]).run Try.prog w = .ok v' w' ∧ OwnG e size V w' F v' (xs ++ [x]) ∧ Kept (fun k => v.ownBlock = some k) w w' ∧ (v'.ownBlock = v.ownBlock ∨ v'.ownBlock = some w.heap.size) := by
  obtain ⟨hsz, ht, i, z, hi, hz, hsize, hby, hzs⟩ := hE
  obtain ⟨cs, ho, hF1, hc1, hc⟩ := h
  have hcl := ho.1
  obtain ⟨v', w', hr, ho', hg, hnil, hat⟩ := run_append_own_at (P := Try.prog) w 0 t ty e i z size bytes ht hi hz hsize hby hzs hsz v xs.length cs ho ⟨B, 0, none⟩ 1 c news (by rw [hn, Nat.one_mul]) (World.news_of_block hB) h1 h63 hbd (by omega)
  have hK := kept_grown hg
  have hfar : ∀ k, k < w.heap.size → v.ownBlock ≠ some k → v'.ownBlock ≠ some k := by
    intro k hk hne e
    rcases hat with hat | hat
    · exact hne (by rw [← hat]; exact e)
    · rw [hat] at e; simp only [Option.some.injEq] at e; omega
  refine ⟨v', w', hr, ⟨cs ++ news, by rw [List.length_append]; exact ho', fun k hk => ?_, fun u hu => ?_, fun i hi => ?_⟩, hK, hat⟩
  · rcases hat with hat | hat
    · exact hF1 k (by rw [← hat]; exact hk)
    · rw [hat] at hk; simp only [Option.some.injEq] at hk; subst hk; exact hF
  · rcases List.mem_append.1 hu with hu | hu
    · exact hc1 u hu
    · exact h1 u hu
  · simp only [List.length_append, List.length_singleton] at hi
    by_cases hlt2 : i < xs.length
    · have hij : ∀ j, j < size → (cs ++ news).getD (i * size + j) default = cs.getD (i * size + j) default := fun j hj => by
        have : (i + 1) * size ≤ xs.length * size := Nat.mul_le_mul_right _ hlt2
        rw [Nat.succ_mul] at this
        exact getD_append_left' (by omega)
      have hxi : (xs ++ [x]).getD i default = xs.getD i default := by rw [List.getD_eq_getElem?_getD, List.getD_eq_getElem?_getD, List.getElem?_append_left hlt2]
      rw [hxi]
      exact hV _ _ w w' _ _ _ (hc i hlt2) (fun j hj => hij j hj) (fun k hk hf => hK.block k hk hf.2.1) hK.size (fun k hk hf => ⟨Nat.lt_of_lt_of_le hf.1 hK.size, hfar k hf.1 hf.2.1, hf.2.2⟩)
    · obtain rfl : i = xs.length := by omega
      have hij : ∀ j, j < size → (cs ++ news).getD (xs.length * size + j) default = news.getD j default := fun j hj => getD_append_right' _ j (by omega)
      have hxi : (xs ++ [x]).getD xs.length default = x := by rw [List.getD_eq_getElem?_getD]; simp
      rw [hxi]
      exact hV _ _ w w' _ _ _ hx (fun j hj => hij j hj) (fun k hk hf => hK.block k hk hf.2.1) hK.size (fun k hk hf => ⟨Nat.lt_of_lt_of_le hf.1 hK.size, hfar k hf.1 hf.2.1, hf.2.2⟩)

theorem wpList_appendG {ops : Array Oper} {rest : List Oper} {o : Oper} {a : Act} {Q : Exit → Act → World → Prop} {w : World} (hgd : o.guard = none) (s y : Operand) (t : TypeId)
    (ho : o.op = .call { callee := .builtin .append, args := #[s, y], argTypes := #[t, t] })
    {bytes : Nat} (hV : StaysG size V) (hE : Elem t e size bytes) {F : Nat → Prop} {v : Value} {xs : List α} (hs : a.eval s = v) (h : OwnG e size V w F v xs)
    {B c : Nat} {news : List Value} {tt : TypeId} {fr : Nat × Nat} (hy : a.eval y = .slice (some ⟨B, 0, none⟩) 1 c) (hB : w.heap[B]? = some (.cells news.toArray tt fr)) (hn : news.length = size) (h1 : ∀ u ∈ news, u.oneCell' = true) (x : α) (hx : V (fun k => k < w.heap.size ∧ v.ownBlock ≠ some k ∧ F k) w x (fun j => news.getD j default))
    (hF : F w.heap.size) (h63 : xs.length + 1 ≤ maxLen) (hbd : (xs.length + 1) * bytes ≤ 140737488355328)
    (hk : ∀ v' w', OwnG e size V w' F v' (xs ++ [x]) → Kept (fun k => v.ownBlock = some k) w w' → (v'.ownBlock = v.ownBlock ∨ v'.ownBlock = some w.heap.size) → wpList Try.prog ops Q rest (a.put o.dst v') w') : wpList Try.prog ops Q (o :: rest) a w := by
  refine wpList_plain hgd fun K hK => ?_
  obtain ⟨v', w', hr, h2, h3, h4⟩ := appendG_run hV hE h hB hn h1 x hx hF h63 hbd o.type c
  unfold Oper.wp
  simp [execOp, ho, resolve, invoke, builtin, hs, hy, hr, Result.andThen]
  exact hK _ _ (hk v' w' h2 h3 h4)
end

/-- Bytes that lie in blocks of a set. -/
def IsBF (F : Nat → Prop) (w : World) (a : Option Addr) (l c : Nat) (zs : List Int) : Prop := IsB w a l c zs ∧ ∀ q, a = some q → 0 < l → F q.block ∧ q.block < w.heap.size

theorem IsBF.stay {F F' : Nat → Prop} {w w' : World} {a : Option Addr} {l c : Nat} {zs : List Int} (h : IsBF F w a l c zs) (hb : ∀ k, k < w.heap.size → F k → w'.heap[k]? = w.heap[k]?) (hs : w.heap.size ≤ w'.heap.size) (hF : ∀ k, k < w.heap.size → F k → F' k) : IsBF F' w' a l c zs := by
  obtain ⟨⟨h1, h2, h3, h4, h5⟩, h6⟩ := h
  refine ⟨⟨h1, h2, h3, h4, fun hp => ?_⟩, fun q hq hl => ⟨hF _ (h6 q hq hl).2 (h6 q hq hl).1, Nat.lt_of_lt_of_le (h6 q hq hl).2 hs⟩⟩
  obtain ⟨b, off, rfl, hR⟩ := h5 hp
  obtain ⟨hf, hlt⟩ := h6 _ rfl hp
  exact ⟨b, off, rfl, hR.len_eq, hR.le, hR.cap_le, fun _ => Nat.lt_of_lt_of_le hlt hs, fun i hi => (World.cell?_of_block (w := w) (w' := w') (a := ⟨b, off + i, none⟩) (hb b hlt hf)).trans (hR.cell i hi), hR.rng⟩

def GS : Vw ByteArray := fun _ _ s c => c 0 = .string s
def GV : Vw Vl := fun F w x c => c 0 = .int .i64 x.1 ∧ ∃ a l cp, c 1 = .slice a l cp ∧ IsBF F w a l cp (sNums x.2)
def GT : Vw St := fun F w s c => c 0 = .bool s.prep ∧ c 1 = .string s.text ∧ (∃ a l cp, c 2 = .slice a l cp ∧ IsBF F w a l cp (sNums s.id)) ∧ OwnG 28 2 GV w F (c 3) s.vals

theorem stays_gs : StaysG 1 GS := fun _ _ _ _ _ _ _ h hc _ _ _ => (hc 0 (by omega)).trans h
theorem stays_gv : StaysG 2 GV := by
  intro F F' w w' x c c' h hc hb hs hF
  obtain ⟨h0, a, l, cp, h1, hv⟩ := h
  exact ⟨(hc 0 (by omega)).trans h0, a, l, cp, (hc 1 (by omega)).trans h1, hv.stay hb hs hF⟩
theorem stays_gt : StaysG 4 GT := by
  intro F F' w w' x c c' h hc hb hs hF
  obtain ⟨h0, h1, ⟨a, l, cp, h2, hv⟩, h3⟩ := h
  refine ⟨(hc 0 (by omega)).trans h0, (hc 1 (by omega)).trans h1, ⟨a, l, cp, (hc 2 (by omega)).trans h2, hv.stay hb hs hF⟩, ?_⟩
  rw [hc 3 (by omega)]
  exact h3.kept stays_gv hb hs hF
theorem gv_v (F : Nat → Prop) (w : World) (x : Vl) (c : Nat → Value) (h : GV F w x c) : VV w x c := by
  obtain ⟨h0, a, l, cp, h1, hv⟩ := h
  exact ⟨h0, a, l, cp, h1, hv.1⟩
theorem gs_s (F : Nat → Prop) (w : World) (x : ByteArray) (c : Nat → Value) (h : GS F w x c) : VS w x c := h
theorem gt_t (F : Nat → Prop) (w : World) (x : St) (c : Nat → Value) (h : GT F w x c) : VSt w x c := by
  obtain ⟨h0, h1, ⟨a, l, cp, h2, hv⟩, h3⟩ := h
  obtain ⟨a3, c3, e3, hV⟩ := h3.view gv_v
  exact ⟨h0, h1, ⟨a, l, cp, h2, hv.1⟩, a3, _, c3, e3, hV⟩

/-- A list of texts leads to its row alone. -/
theorem OwnG.row {w : World} {F : Nat → Prop} {v : Value} {xs : List ByteArray} (h : OwnG 9 1 GS w F v xs) : OwnG 9 1 GS w (fun k => v.ownBlock = some k) v xs := by
  obtain ⟨cs, ho, h1, h2, h3⟩ := h
  exact ⟨cs, ho, fun k hk => hk, h2, fun i hi => h3 i hi⟩
end Go.Proofs.Ytcecdklgiocbaaa
