/-
  Rows of items in memory: what a slice of items is seen as, what a slice owns that is appended to item by item; and what is got, item by item, as a function of the bytes.
-/
import Derived.Test.YtcecdklgiocbaaaPair
import Derived.Deep.AppendLies
namespace Go.Proofs.Ytcecdklgiocbaaa
open Go.RowKit
set_option maxRecDepth 100000
set_option linter.unusedVariables false
set_option linter.unusedSimpArgs false

/-- An item as the document has it: a key, a text, texts, and a value's kind and bytes. -/
abbrev It := ByteArray × ByteArray × List ByteArray × Int × ByteArray

def It.key (x : It) : ByteArray := x.1
def It.text (x : It) : ByteArray := x.2.1
def It.texts (x : It) : List ByteArray := x.2.2.1
def It.kind (x : It) : Int := x.2.2.2.1
def It.bytes (x : It) : ByteArray := x.2.2.2.2

/-- A slice whose elements, size cells each, are seen as xs. -/
def View {α : Type} [Inhabited α] (size : Nat) (V : World → α → (Nat → Value) → Prop) (w : World) (a : Option Addr) (len cap : Nat) (xs : List α) : Prop :=
  xs.length = len ∧ len ≤ cap ∧ cap ≤ maxLen ∧ (a = none → len = 0 ∧ cap = 0) ∧
  (0 < len → ∃ b off, a = some ⟨b, off, none⟩ ∧ b < w.heap.size ∧ ∀ i, i < len → ∃ c : Nat → Value, (∀ j, j < size → w.cell? ⟨b, off + (i * size + j), none⟩ = some (c j)) ∧ V w (xs.getD i default) c)

/-- What is seen of an item stays, if the blocks that it leads to do. -/
def Stays {α : Type} (size : Nat) (V : World → α → (Nat → Value) → Prop) : Prop :=
  ∀ (w w' : World) (row : Option Nat) (x : α) (c c' : Nat → Value), V w x c → (∀ j, j < size → c' j = c j) → (∀ k, k < w.heap.size → some k ≠ row → w'.heap[k]? = w.heap[k]?) → w.heap.size ≤ w'.heap.size →
    (∀ j k, j < size → (c j).ownBlock = some k → row ≠ some k) → V w' x c'

theorem View.old {α : Type} [Inhabited α] {size : Nat} {V : World → α → (Nat → Value) → Prop} (hV : Stays size V) {w W : World} {a : Option Addr} {len cap : Nat} {xs : List α} (h : View size V w a len cap xs) (hB : Below w.heap.size w W) : View size V W a len cap xs := by
  obtain ⟨h1, h2, h3, h4, h5⟩ := h
  refine ⟨h1, h2, h3, h4, fun hp => ?_⟩
  obtain ⟨b, off, ha, hb, hc⟩ := h5 hp
  refine ⟨b, off, ha, Nat.lt_of_lt_of_le hb hB.size, fun i hi => ?_⟩
  obtain ⟨c, hcell, hv⟩ := hc i hi
  exact ⟨c, fun j hj => (hB.cell (p := ⟨b, off + (i * size + j), none⟩) hb).trans (hcell j hj), hV w W none _ c c hv (fun _ _ => rfl) (fun k hk _ => hB.block k hk) hB.size (fun j k _ _ e => by cases e)⟩

theorem view_nil {α : Type} [Inhabited α] (size : Nat) (V : World → α → (Nat → Value) → Prop) (w : World) : View size V w none 0 0 [] :=
  ⟨rfl, Nat.le_refl _, by unfold maxLen; omega, fun _ => ⟨rfl, rfl⟩, fun h => by omega⟩

def VS (_ : World) (s : ByteArray) (c : Nat → Value) : Prop := c 0 = .string s
def VP (_ : World) (x : ByteArray × ByteArray) (c : Nat → Value) : Prop := c 0 = .string x.1 ∧ c 1 = .string x.2
def VM (w : World) (x : ByteArray × List ByteArray) (c : Nat → Value) : Prop := c 0 = .string x.1 ∧ ∃ a l cp, c 1 = .slice a l cp ∧ View 1 VS w a l cp x.2
def VE (w : World) (x : ByteArray × Int × ByteArray) (c : Nat → Value) : Prop := c 0 = .string x.1 ∧ c 1 = .int .i64 x.2.1 ∧ ∃ a l cp, c 2 = .slice a l cp ∧ IsB w a l cp (sNums x.2.2)
def VI (w : World) (x : It) (c : Nat → Value) : Prop :=
  c 0 = .string x.key ∧ c 1 = .string x.text ∧ (∃ a l cp, c 2 = .slice a l cp ∧ View 1 VS w a l cp x.texts) ∧ c 3 = .int .i64 x.kind ∧ c 4 = .string x.bytes

theorem stays_s : Stays 1 VS := fun _ _ _ _ _ _ h hc _ _ _ => (hc 0 (by omega)).trans h
theorem stays_p : Stays 2 VP := fun _ _ _ _ _ _ h hc _ _ _ => ⟨(hc 0 (by omega)).trans h.1, (hc 1 (by omega)).trans h.2⟩

theorem strs_stay {w w' : World} {row : Option Nat} {a : Option Addr} {l cp : Nat} {ss : List ByteArray} (h : View 1 VS w a l cp ss) (hb : ∀ k, k < w.heap.size → some k ≠ row → w'.heap[k]? = w.heap[k]?) (hs : w.heap.size ≤ w'.heap.size)
    (hne : ∀ k, (Value.slice a l cp).ownBlock = some k → row ≠ some k) : View 1 VS w' a l cp ss := by
  obtain ⟨h1, h2, h3, h4, h5⟩ := h
  refine ⟨h1, h2, h3, h4, fun hp => ?_⟩
  obtain ⟨b, off, rfl, hbs, hc⟩ := h5 hp
  refine ⟨b, off, rfl, Nat.lt_of_lt_of_le hbs hs, fun i hi => ?_⟩
  obtain ⟨c, hcell, hv⟩ := hc i hi
  refine ⟨c, fun j hj => ?_, hv⟩
  rw [World.cell?_of_block (w := w) (w' := w') (a := ⟨b, off + (i * 1 + j), none⟩) (hb b hbs (fun e => hne b rfl e.symm))]
  exact hcell j hj

theorem bytes_stay {w w' : World} {row : Option Nat} {a : Option Addr} {l cp : Nat} {zs : List Int} (h : IsB w a l cp zs) (hb : ∀ k, k < w.heap.size → some k ≠ row → w'.heap[k]? = w.heap[k]?) (hs : w.heap.size ≤ w'.heap.size)
    (hne : ∀ k, (Value.slice a l cp).ownBlock = some k → row ≠ some k) : IsB w' a l cp zs := by
  obtain ⟨h1, h2, h3, h4, h5⟩ := h
  refine ⟨h1, h2, h3, h4, fun hp => ?_⟩
  obtain ⟨b, off, rfl, hR⟩ := h5 hp
  have hbs := hR.lt hp
  refine ⟨b, off, rfl, hR.len_eq, hR.le, hR.cap_le, fun _ => Nat.lt_of_lt_of_le hbs hs, fun i hi => ?_, hR.rng⟩
  rw [World.cell?_of_block (w := w) (w' := w') (a := ⟨b, off + i, none⟩) (hb b hbs (fun e => hne b rfl e.symm))]
  exact hR.cell i hi

theorem stays_m : Stays 2 VM := by
  intro w w' row x c c' h hc hb hs hne
  obtain ⟨h0, a, l, cp, h1, hv⟩ := h
  exact ⟨(hc 0 (by omega)).trans h0, a, l, cp, (hc 1 (by omega)).trans h1, strs_stay hv hb hs (fun k hk => hne 1 k (by omega) (by rw [h1]; exact hk))⟩

theorem stays_e : Stays 3 VE := by
  intro w w' row x c c' h hc hb hs hne
  obtain ⟨h0, h1, a, l, cp, h2, hv⟩ := h
  exact ⟨(hc 0 (by omega)).trans h0, (hc 1 (by omega)).trans h1, a, l, cp, (hc 2 (by omega)).trans h2, bytes_stay hv hb hs (fun k hk => hne 2 k (by omega) (by rw [h2]; exact hk))⟩

theorem stays_i : Stays 5 VI := by
  intro w w' row x c c' h hc hb hs hne
  obtain ⟨h0, h1, ⟨a, l, cp, h2, hv⟩, h3, h4⟩ := h
  exact ⟨(hc 0 (by omega)).trans h0, (hc 1 (by omega)).trans h1, ⟨a, l, cp, (hc 2 (by omega)).trans h2, strs_stay hv hb hs (fun k hk => hne 2 k (by omega) (by rw [h2]; exact hk))⟩, (hc 3 (by omega)).trans h3, (hc 4 (by omega)).trans h4⟩

/-- A slice that owns its row of items; what they lead to lies in other blocks. -/
def Own {α : Type} [Inhabited α] (e : TypeId) (size : Nat) (V : World → α → (Nat → Value) → Prop) (w : World) (base : Nat) (v : Value) (xs : List α) : Prop :=
  ∃ cs : List Value, w.ownsRow base e size v xs.length cs ∧ ∀ i, i < xs.length → V w (xs.getD i default) (fun j => cs.getD (i * size + j) default) ∧
    ∀ j k, j < size → (cs.getD (i * size + j) default).ownBlock = some k → k < w.heap.size ∧ v.ownBlock ≠ some k ∧ base ≤ k

theorem own_nil {α : Type} [Inhabited α] (e : TypeId) (size : Nat) (V : World → α → (Nat → Value) → Prop) (w : World) (base : Nat) : Own e size V w base (.slice none 0 0) ([] : List α) :=
  ⟨[], World.ownsRow_nil _ _ _ _, fun i hi => by simp at hi⟩

theorem Own.lt {α : Type} [Inhabited α] {e : TypeId} {size : Nat} {V : World → α → (Nat → Value) → Prop} {w : World} {base : Nat} {v : Value} {xs : List α} (h : Own e size V w base v xs) : ∀ k, v.ownBlock = some k → base ≤ k ∧ k < w.heap.size := by
  obtain ⟨cs, ho, _⟩ := h
  exact World.ownsRow.lt ho

theorem Own.old {α : Type} [Inhabited α] {e : TypeId} {size : Nat} {V : World → α → (Nat → Value) → Prop} (hV : Stays size V) {w W : World} {base : Nat} {v : Value} {xs : List α} (h : Own e size V w base v xs) (hB : Below w.heap.size w W) : Own e size V W base v xs := by
  obtain ⟨cs, ho, hc⟩ := h
  refine ⟨cs, ?_, fun i hi => ?_⟩
  · refine ⟨ho.1, ?_⟩
    rcases ho.2 with h2 | ⟨g, cap, cur, hv, hg, hh, r⟩
    · exact .inl h2
    · exact .inr ⟨g, cap, cur, hv, hg, by rw [hB.block g (Array.getElem?_eq_some_iff.1 hh).1]; exact hh, r⟩
  · obtain ⟨h1, h2⟩ := hc i hi
    exact ⟨hV w W none _ _ _ h1 (fun _ _ => rfl) (fun k hk _ => hB.block k hk) hB.size (fun j k _ _ e => by cases e), fun j k hj hk => ⟨Nat.lt_of_lt_of_le (h2 j k hj hk).1 hB.size, (h2 j k hj hk).2⟩⟩

theorem Own.mono {α : Type} [Inhabited α] {e : TypeId} {size : Nat} {V : World → α → (Nat → Value) → Prop} {w : World} {base base' : Nat} {v : Value} {xs : List α} (h : Own e size V w base v xs) (hb : base' ≤ base) : Own e size V w base' v xs := by
  obtain ⟨cs, ho, hc⟩ := h
  refine ⟨cs, ⟨ho.1, ?_⟩, fun i hi => ⟨(hc i hi).1, fun j k hj hk => ⟨((hc i hi).2 j k hj hk).1, ((hc i hi).2 j k hj hk).2.1, Nat.le_trans hb ((hc i hi).2 j k hj hk).2.2⟩⟩⟩
  rcases ho.2 with h2 | ⟨g, cap, cur, h3, h4, h5⟩
  · exact .inl h2
  · exact .inr ⟨g, cap, cur, h3, Nat.le_trans hb h4, h5⟩

/-- One block below the base is written: what is owned stays. -/
theorem Own.kept {α : Type} [Inhabited α] {e : TypeId} {size : Nat} {V : World → α → (Nat → Value) → Prop} (hV : Stays size V) {w W : World} {base : Nat} {v : Value} {xs : List α} {row : Option Nat} (h : Own e size V w base v xs) (hb : ∀ k, k < w.heap.size → some k ≠ row → W.heap[k]? = w.heap[k]?)
    (hs : w.heap.size ≤ W.heap.size) (hrow : ∀ k, row = some k → k < base) : Own e size V W base v xs := by
  obtain ⟨cs, ho, hc⟩ := h
  refine ⟨cs, ?_, fun i hi => ?_⟩
  · refine ⟨ho.1, ?_⟩
    rcases ho.2 with h2 | ⟨g, cap, cur, hv, hg, hh, r⟩
    · exact .inl h2
    · exact .inr ⟨g, cap, cur, hv, hg, by rw [hb g (Array.getElem?_eq_some_iff.1 hh).1 (fun e => by have := hrow g e.symm; omega)]; exact hh, r⟩
  · obtain ⟨h1, h2⟩ := hc i hi
    exact ⟨hV w W row _ _ _ h1 (fun _ _ => rfl) hb hs (fun j k hj hk e => by have := hrow k e; have := (h2 j k hj hk).2.2; omega), fun j k hj hk => ⟨Nat.lt_of_lt_of_le (h2 j k hj hk).1 hs, (h2 j k hj hk).2⟩⟩

/-- What is owned, seen. -/
theorem Own.view {α : Type} [Inhabited α] {e : TypeId} {size : Nat} {V : World → α → (Nat → Value) → Prop} {w : World} {base : Nat} {v : Value} {xs : List α} (h : Own e size V w base v xs) :
    ∃ a cap, v = .slice a xs.length cap ∧ View size V w a xs.length cap xs ∧ Fresh base w a := by
  obtain ⟨cs, ho, hc⟩ := h
  have ho' := ho
  obtain ⟨hlen, h2⟩ := ho'
  rcases h2 with ⟨rfl, h0⟩ | ⟨g, cap, cur, rfl, hg, hh, hnc, hm, hs, htake⟩
  · obtain rfl : xs = [] := List.eq_nil_of_length_eq_zero h0
    exact ⟨none, 0, rfl, view_nil _ _ _, Fresh.none⟩
  · have hgs := (Array.getElem?_eq_some_iff.1 hh).1
    refine ⟨_, cap, rfl, ⟨rfl, hnc, hm, (fun e => by cases e), fun hp => ⟨g, 0, rfl, hgs, fun i hi => ⟨_, fun j hj => ?_, (hc i hi).1⟩⟩⟩, Fresh.at hg hgs⟩
    have hij : i * size + j < xs.length * size := by
      have : (i + 1) * size ≤ xs.length * size := Nat.mul_le_mul_right _ hi
      rw [Nat.succ_mul] at this
      omega
    rw [Nat.zero_add]
    have hcell := ho.cells (g := g) rfl (i * size + j) (cs.getD (i * size + j) default) (by rw [List.getD_eq_getElem?_getD, List.getElem?_eq_getElem (by omega)]; rfl)
    have hplain : (⟨g, 0, none⟩ : Addr).add (i * size + j) = ⟨g, i * size + j, none⟩ := by unfold Addr.add; split <;> simp_all
    rw [hplain] at hcell
    exact hcell

/-- What the program's table says of a type of slices. -/
def Elem (t e : TypeId) (size bytes : Nat) : Prop :=
  0 < size ∧ Try.prog.underlying t = some (.slice e) ∧ ∃ i z, Try.prog.info? e = some i ∧ i.zero = some z ∧ i.size = size ∧ i.bytes = bytes ∧ z.cells.size = size

theorem getD_append_left' {cs news : List Value} {n : Nat} (h : n < cs.length) : (cs ++ news).getD n default = cs.getD n default := by
  rw [List.getD_eq_getElem?_getD, List.getD_eq_getElem?_getD, List.getElem?_append_left h]

theorem getD_append_right' {cs news : List Value} (n j : Nat) (h : n = cs.length + j) : (cs ++ news).getD n default = news.getD j default := by
  subst h
  rw [List.getD_eq_getElem?_getD, List.getD_eq_getElem?_getD, List.getElem?_append_right (by omega)]
  congr 2; omega

/-- append of one item onto a slice that owns its row. -/
theorem append_item_run {α : Type} [Inhabited α] {t e : TypeId} {size bytes : Nat} {V : World → α → (Nat → Value) → Prop} (hV : Stays size V) (hE : Elem t e size bytes) {w : World} {base : Nat} {v : Value} {xs : List α} (h : Own e size V w base v xs)
    {B : Nat} {news : List Value} {tt : TypeId} {fr : Nat × Nat} (hB : w.heap[B]? = some (.cells news.toArray tt fr)) (hn : news.length = size) (h1 : ∀ u ∈ news, u.oneCell' = true) (x : α) (hx : V w x (fun j => news.getD j default))
    (hxb : ∀ j k, j < size → (news.getD j default).ownBlock = some k → k < w.heap.size ∧ v.ownBlock ≠ some k ∧ base ≤ k) (h63 : xs.length + 1 ≤ maxLen) (hbd : (xs.length + 1) * bytes ≤ 140737488355328) (hbase : base ≤ w.heap.size) (ty : TypeId) (c : Nat) :
    ∃ v' w', (Builtin.append_ #[t, t] ty #[v, .slice (some ⟨B, 0, none⟩) 1 c]).run Try.prog w = .ok v' w' ∧ Own e size V w' base v' (xs ++ [x]) ∧ Below base w w' := by
  obtain ⟨hsz, ht, i, z, hi, hz, hsize, hby, hzs⟩ := hE
  obtain ⟨cs, ho, hc⟩ := h
  have hcl := ho.1
  obtain ⟨g, cap, w', hr, ho', hg, hat, hlt⟩ := run_append_lies (P := Try.prog) w t ty base e i z size bytes ht hi hz hsize hby hzs hsz v xs.length cs ho ⟨B, 0, none⟩ 1 c news (by rw [hn, Nat.one_mul]) (World.news_of_block hB) h1 (by omega) h63 hbd hbase _ rfl
  refine ⟨_, w', hr, ⟨cs ++ news, by rw [List.length_append]; exact ho', fun i hi => ?_⟩, (Below.refl _ _).grown hg hbase (fun k hk => (World.ownsRow.lt ho k hk).1)⟩
  have far : ∀ k, k < w.heap.size → v.ownBlock ≠ some k → (Value.slice (some ⟨g, 0, none⟩) (xs.length + 1) cap).ownBlock ≠ some k := by
    intro k hk hne e
    simp only [Value.ownBlock, Option.some.injEq] at e
    rcases hat with hat | hat
    · exact hne (by rw [hat, e])
    · omega
  simp only [List.length_append, List.length_singleton] at hi
  by_cases hlt2 : i < xs.length
  · have hij : ∀ j, j < size → (cs ++ news).getD (i * size + j) default = cs.getD (i * size + j) default := fun j hj => by
      have : (i + 1) * size ≤ xs.length * size := Nat.mul_le_mul_right _ hlt2
      rw [Nat.succ_mul] at this
      exact getD_append_left' (by omega)
    obtain ⟨hv, hb⟩ := hc i hlt2
    have hxi : (xs ++ [x]).getD i default = xs.getD i default := by rw [List.getD_eq_getElem?_getD, List.getD_eq_getElem?_getD, List.getElem?_append_left hlt2]
    rw [hxi]
    refine ⟨hV w w' v.ownBlock _ _ _ hv (fun j hj => hij j hj) hg.block hg.size (fun j k hj hk => (hb j k hj hk).2.1), fun j k hj hk => ?_⟩
    rw [hij j hj] at hk
    obtain ⟨hb1, hb2, hb3⟩ := hb j k hj hk
    exact ⟨Nat.lt_of_lt_of_le hb1 hg.size, far k hb1 hb2, hb3⟩
  · obtain rfl : i = xs.length := by omega
    have hij : ∀ j, j < size → (cs ++ news).getD (xs.length * size + j) default = news.getD j default := fun j hj => getD_append_right' _ j (by omega)
    have hxi : (xs ++ [x]).getD xs.length default = x := by rw [List.getD_eq_getElem?_getD]; simp
    rw [hxi]
    refine ⟨hV w w' v.ownBlock _ _ _ hx (fun j hj => hij j hj) hg.block hg.size (fun j k hj hk => (hxb j k hj hk).2.1), fun j k hj hk => ?_⟩
    rw [hij j hj] at hk
    obtain ⟨hb1, hb2, hb3⟩ := hxb j k hj hk
    exact ⟨Nat.lt_of_lt_of_le hb1 hg.size, far k hb1 hb2, hb3⟩

theorem wpList_append_item {ops : Array Oper} {rest : List Oper} {o : Oper} {a : Act} {Q : Exit → Act → World → Prop} {w : World} (hgd : o.guard = none) (s y : Operand) (t : TypeId)
    (ho : o.op = .call { callee := .builtin .append, args := #[s, y], argTypes := #[t, t] })
    {α : Type} [Inhabited α] {e : TypeId} {size bytes : Nat} {V : World → α → (Nat → Value) → Prop} (hV : Stays size V) (hE : Elem t e size bytes) {base : Nat} {v : Value} {xs : List α} (hs : a.eval s = v) (h : Own e size V w base v xs)
    {B c : Nat} {news : List Value} {tt : TypeId} {fr : Nat × Nat} (hy : a.eval y = .slice (some ⟨B, 0, none⟩) 1 c) (hB : w.heap[B]? = some (.cells news.toArray tt fr)) (hn : news.length = size) (h1 : ∀ u ∈ news, u.oneCell' = true) (x : α) (hx : V w x (fun j => news.getD j default))
    (hxb : ∀ j k, j < size → (news.getD j default).ownBlock = some k → k < w.heap.size ∧ v.ownBlock ≠ some k ∧ base ≤ k) (h63 : xs.length + 1 ≤ maxLen) (hbd : (xs.length + 1) * bytes ≤ 140737488355328) (hbase : base ≤ w.heap.size)
    (hk : ∀ v' w', Own e size V w' base v' (xs ++ [x]) → Below base w w' → wpList Try.prog ops Q rest (a.put o.dst v') w') : wpList Try.prog ops Q (o :: rest) a w := by
  refine wpList_plain hgd fun K hK => ?_
  obtain ⟨v', w', hr, h2, h3⟩ := append_item_run hV hE h hB hn h1 x hx hxb h63 hbd hbase o.type c
  unfold Oper.wp
  simp [execOp, ho, resolve, invoke, builtin, hs, hy, hr, Result.andThen]
  exact hK _ _ (hk v' w' h2 h3)

theorem Try.info9 : (Try.prog.info? 9).map (fun i => (i.zero, i.size, i.bytes)) = some (some (.string ⟨#[]⟩), 1, 16) := by kernel_rfl
theorem Try.info87 : (Try.prog.info? 87).map (fun i => (i.zero, i.size, i.bytes)) = some (some (.agg #[.string ⟨#[]⟩, .string ⟨#[]⟩]), 2, 32) := by kernel_rfl
theorem Try.info28 : (Try.prog.info? 28).map (fun i => (i.zero, i.size, i.bytes)) = some (some (.agg #[.int .i64 0, .slice none 0 0]), 2, 32) := by kernel_rfl
theorem Try.info60 : (Try.prog.info? 60).map (fun i => (i.zero, i.size, i.bytes)) = some (some (.agg #[.bool false, .string ⟨#[]⟩, .slice none 0 0, .slice none 0 0]), 4, 72) := by kernel_rfl
theorem Try.info89 : (Try.prog.info? 89).map (fun i => (i.zero, i.size, i.bytes)) = some (some (.agg #[.string ⟨#[]⟩, .string ⟨#[]⟩, .slice none 0 0, .int .i64 0, .string ⟨#[]⟩]), 5, 80) := by kernel_rfl
theorem Try.info43 : (Try.prog.info? 43).map (fun i => (i.zero, i.size, i.bytes)) = some (some (.agg #[.int .i64 0, .string ⟨#[]⟩]), 2, 24) := by kernel_rfl
theorem Try.info82 : (Try.prog.info? 82).map (fun i => (i.zero, i.size, i.bytes)) = some (some (.agg #[.bool false, .string ⟨#[]⟩, .string ⟨#[]⟩, .slice none 0 0]), 4, 64) := by kernel_rfl
theorem elem_s : Elem 26 9 1 16 := by
  obtain ⟨i0, hi, hz0, hz1, hz2⟩ := info_parts Try.info9
  exact ⟨by decide, Try.underlying26, i0, _, hi, hz0, hz1, hz2, rfl⟩
theorem elem_p : Elem 22 87 2 32 := by
  obtain ⟨i0, hi, hz0, hz1, hz2⟩ := info_parts Try.info87
  exact ⟨by decide, Try.underlying22, i0, _, hi, hz0, hz1, hz2, rfl⟩
theorem elem_v : Elem 25 28 2 32 := by
  obtain ⟨i0, hi, hz0, hz1, hz2⟩ := info_parts Try.info28
  exact ⟨by decide, Try.underlying25, i0, _, hi, hz0, hz1, hz2, rfl⟩
theorem elem_t : Elem 31 60 4 72 := by
  obtain ⟨i0, hi, hz0, hz1, hz2⟩ := info_parts Try.info60
  exact ⟨by decide, Try.underlying31, i0, _, hi, hz0, hz1, hz2, rfl⟩
theorem elem_i : Elem 40 89 5 80 := by
  obtain ⟨i0, hi, hz0, hz1, hz2⟩ := info_parts Try.info89
  exact ⟨by decide, Try.underlying40, i0, _, hi, hz0, hz1, hz2, rfl⟩
theorem elem_rv : Elem 41 43 2 24 := by
  obtain ⟨i0, hi, hz0, hz1, hz2⟩ := info_parts Try.info43
  exact ⟨by decide, Try.underlying41, i0, _, hi, hz0, hz1, hz2, rfl⟩
theorem elem_rs : Elem 46 82 4 64 := by
  obtain ⟨i0, hi, hz0, hz1, hz2⟩ := info_parts Try.info82
  exact ⟨by decide, Try.underlying46, i0, _, hi, hz0, hz1, hz2, rfl⟩

/-- What is got: what it is, how many bytes are done with, the error. -/
structure Res (α : Type) where
  val : α
  done : Nat
  err : Int

def textR (zs : List Int) : Res ByteArray := ⟨strOfNums (textA zs).bytes, (textA zs).done, (textA zs).err⟩
def valueR (zs : List Int) : Res (Int × ByteArray) := ⟨((valueA zs).kind, strOfNums (valueA zs).bytes), (valueA zs).done, (valueA zs).err⟩

/-- So many items from place d on, behind those that are got already. -/
def goR {α : Type} (p : List Int → Res α) (zs : List Int) : Nat → Nat → List α → Res (List α)
  | 0, d, acc => ⟨acc, d, 0⟩
  | n + 1, d, acc => if (p (zs.drop d)).err = 0 then goR p zs n (d + (p (zs.drop d)).done) (acc ++ [(p (zs.drop d)).val]) else ⟨[], 0, (p (zs.drop d)).err⟩

/-- A list: how many, as a short, and the items. -/
def listR {α : Type} (p : List Int → Res α) (zs : List Int) : Res (List α) :=
  if zs.length < 2 then ⟨[], 0, 10⟩ else goR p zs (numTo zs 2).toNat 2 []

/-- A key, and what belongs to it. -/
def keyR {α : Type} [Inhabited α] (q : List Int → Res α) (zs : List Int) : Res (ByteArray × α) :=
  if (textR zs).err = 0 then
    if (q (zs.drop (textR zs).done)).err = 0 then ⟨((textR zs).val, (q (zs.drop (textR zs).done)).val), (textR zs).done + (q (zs.drop (textR zs).done)).done, 0⟩
    else ⟨(ByteArray.empty, default), 0, (q (zs.drop (textR zs).done)).err⟩
  else ⟨(ByteArray.empty, default), 0, (textR zs).err⟩
end Go.Proofs.Ytcecdklgiocbaaa
