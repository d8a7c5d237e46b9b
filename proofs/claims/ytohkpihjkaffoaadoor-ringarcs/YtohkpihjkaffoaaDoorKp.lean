/-
  Worlds that part in some blocks alone; what lies in other blocks stays; rows of items with the blocks that they may lie in.
-/
import Derived.Test.YtohkpihjkaffoaaDoorRows
import Derived.WalkKit
import Derived.WalkSpells
import Derived.WalkLawsBesides
import Derived.Deep.QuietTactic
import Derived.BigQuiet
import Derived.Deep.OwnRows
import Derived.Laws.CopyOwn
import Derived.OpenShut
import Derived.Deep.RegionHeld3
import Derived.Laws.AppendOwnNone
import Derived.Deep.AppendLies
import Derived.ArgAppend
namespace Go.Proofs.YtohkpihjkaffoaaDoor
open Go.RowKit
set_option maxRecDepth 100000
set_option linter.unusedVariables false
set_option linter.unusedSimpArgs false

/-- But for the blocks S, and what is new, the world is as it was. -/
structure Kept (S : Nat → Prop) (w w' : World) : Prop where
  os : w'.os = w.os
  tape : w'.tape = w.tape
  output : w'.output = w.output
  size : w.heap.size ≤ w'.heap.size
  block : ∀ k, k < w.heap.size → ¬ S k → w'.heap[k]? = w.heap[k]?

theorem Kept.refl (S : Nat → Prop) (w : World) : Kept S w w := ⟨rfl, rfl, rfl, Nat.le_refl _, fun _ _ _ => rfl⟩

theorem Kept.trans {S S' : Nat → Prop} {a b c : World} (h : Kept S a b) (k : Kept S' b c) (hs : ∀ i, i < a.heap.size → S' i → S i) : Kept S a c :=
  ⟨k.os.trans h.os, k.tape.trans h.tape, k.output.trans h.output, Nat.le_trans h.size k.size, fun i hi hn => (k.block i (Nat.lt_of_lt_of_le hi h.size) (fun e => hn (hs i hi e))).trans (h.block i hi hn)⟩

theorem Kept.wide {S S' : Nat → Prop} {a b : World} (h : Kept S a b) (hs : ∀ i, i < a.heap.size → S i → S' i) : Kept S' a b :=
  ⟨h.os, h.tape, h.output, h.size, fun i hi hn => h.block i hi (fun e => hn (hs i hi e))⟩

theorem kept_of {S : Nat → Prop} {w w' : World} (h : Below w.heap.size w w') : Kept S w w' := ⟨h.os, h.tape, h.output, h.size, fun k hk _ => h.block k hk⟩

theorem Kept.below {S : Nat → Prop} {w w' : World} (h : Kept S w w') {B : Nat} (hB : B ≤ w.heap.size) (hs : ∀ k, k < w.heap.size → S k → B ≤ k) : Below B w w' :=
  ⟨h.os, h.tape, h.output, h.size, fun k hk => h.block k (by omega) (fun e => by have := hs k (by omega) e; omega)⟩

theorem kept_grown {w w' : World} {row : Option Nat} (h : w.grownBy w' row) : Kept (fun k => row = some k) w w' :=
  ⟨h.os, h.tape, h.output, h.size, fun k hk hn => h.block k hk (fun e => hn e.symm)⟩

theorem Kept.setCell {S : Nat → Prop} {a w : World} (h : Kept S a w) {p : Addr} (hp : p.block < a.heap.size → S p.block) (u : Value) : Kept S a (w.setCell p u) :=
  h.trans (S' := fun k => k = p.block) ⟨rfl, rfl, rfl, by simp [World.setCell], fun k hk hn => Below.heap_setCell _ _ _ _ hn⟩ (fun i hi e => by subst e; exact hp hi)

theorem Kept.alloc {S : Nat → Prop} {a w : World} (h : Kept S a w) (o : Obj) : Kept S a (w.alloc o) :=
  h.trans (S' := fun _ => False) (kept_of ((Below.refl _ _).alloc (Nat.le_refl _) _)) (fun _ _ e => e.elim)

theorem Kept.new {S : Nat → Prop} {a w w' : World} (h : Kept S a w) (hB : Below w.heap.size w w') : Kept S a w' := h.trans (S' := fun _ => False) (kept_of hB) (fun _ _ e => e.elim)

theorem Kept.cell {S : Nat → Prop} {w w' : World} (h : Kept S w w') {p : Addr} (hp : p.block < w.heap.size) (hn : ¬ S p.block) : w'.cell? p = w.cell? p := World.cell?_of_block (w := w) (h.block _ hp hn)

theorem own_block_lt {w : World} {base : Nat} {e : TypeId} {size : Nat} {v : Value} {n : Nat} {xs : List Value} (h : w.ownsRow base e size v n xs) : ∀ k, v.ownBlock = some k → k < w.heap.size := fun k hk => (World.ownsRow.lt h k hk).2

theorem ownsRow_kept {S : Nat → Prop} {w W : World} {base : Nat} {e : TypeId} {size : Nat} {v : Value} {n : Nat} {xs : List Value} (h : w.ownsRow base e size v n xs) (hK : Kept S w W) (hn : ∀ k, v.ownBlock = some k → ¬ S k) : W.ownsRow base e size v n xs := by
  refine ⟨h.1, ?_⟩
  rcases h.2 with h2 | ⟨g, cap, cur, hv, hg, hh, r⟩
  · exact .inl h2
  · exact .inr ⟨g, cap, cur, hv, hg, by rw [hK.block g (Array.getElem?_eq_some_iff.1 hh).1 (hn g (by rw [hv]; rfl))]; exact hh, r⟩

/-- A slice whose elements, size cells each, are seen as xs. -/
def View {α : Type} [Inhabited α] (size : Nat) (V : World → α → (Nat → Value) → Prop) (w : World) (a : Option Addr) (len cap : Nat) (xs : List α) : Prop :=
  xs.length = len ∧ len ≤ cap ∧ cap ≤ maxLen ∧ (a = none → len = 0 ∧ cap = 0) ∧
  (0 < len → ∃ b off, a = some ⟨b, off, none⟩ ∧ b < w.heap.size ∧ ∀ i, i < len → ∃ c : Nat → Value, (∀ j, j < size → w.cell? ⟨b, off + (i * size + j), none⟩ = some (c j)) ∧ V w (xs.getD i default) c)

/-- What is seen of an item stays, if the blocks that it leads to do. -/
def Stays {α : Type} (size : Nat) (V : World → α → (Nat → Value) → Prop) : Prop :=
  ∀ (w w' : World) (S : Nat → Prop) (x : α) (c c' : Nat → Value), V w x c → (∀ j, j < size → c' j = c j) → Kept S w w' → (∀ j k, j < size → (c j).ownBlock = some k → ¬ S k) → V w' x c'

theorem View.old {α : Type} [Inhabited α] {size : Nat} {V : World → α → (Nat → Value) → Prop} (hV : Stays size V) {w W : World} {a : Option Addr} {len cap : Nat} {xs : List α} (h : View size V w a len cap xs) (hB : Below w.heap.size w W) : View size V W a len cap xs := by
  obtain ⟨h1, h2, h3, h4, h5⟩ := h
  refine ⟨h1, h2, h3, h4, fun hp => ?_⟩
  obtain ⟨b, off, ha, hb, hc⟩ := h5 hp
  refine ⟨b, off, ha, Nat.lt_of_lt_of_le hb hB.size, fun i hi => ?_⟩
  obtain ⟨c, hcell, hv⟩ := hc i hi
  exact ⟨c, fun j hj => (hB.cell (p := ⟨b, off + (i * size + j), none⟩) hb).trans (hcell j hj), hV w W (fun _ => False) _ c c hv (fun _ _ => rfl) (kept_of hB) (fun _ _ _ _ e => e)⟩

theorem view_nil {α : Type} [Inhabited α] (size : Nat) (V : World → α → (Nat → Value) → Prop) (w : World) : View size V w none 0 0 [] :=
  ⟨rfl, Nat.le_refl _, by unfold maxLen; omega, fun _ => ⟨rfl, rfl⟩, fun h => by omega⟩

/-- A slice that owns its row of items; it, and what they lead to, lies in blocks of F; what they lead to in other blocks than the row. -/
def Own {α : Type} [Inhabited α] (e : TypeId) (size : Nat) (V : World → α → (Nat → Value) → Prop) (w : World) (F : Nat → Prop) (v : Value) (xs : List α) : Prop :=
  ∃ cs : List Value, w.ownsRow 0 e size v xs.length cs ∧ (∀ k, v.ownBlock = some k → F k) ∧ (∀ u ∈ cs, u.oneCell' = true) ∧ ∀ i, i < xs.length → V w (xs.getD i default) (fun j => cs.getD (i * size + j) default) ∧
    ∀ j k, j < size → (cs.getD (i * size + j) default).ownBlock = some k → k < w.heap.size ∧ v.ownBlock ≠ some k ∧ F k

theorem own_nil {α : Type} [Inhabited α] (e : TypeId) (size : Nat) (V : World → α → (Nat → Value) → Prop) (w : World) (F : Nat → Prop) : Own e size V w F (.slice none 0 0) ([] : List α) :=
  ⟨[], World.ownsRow_nil _ _ _ _, (fun k h => by simp [Value.ownBlock] at h), (fun u h => by cases h), (fun i hi => by simp at hi)⟩

section
variable {α : Type} [Inhabited α] {e : TypeId} {size : Nat} {V : World → α → (Nat → Value) → Prop}

theorem Own.lt {w : World} {F : Nat → Prop} {v : Value} {xs : List α} (h : Own e size V w F v xs) : ∀ k, v.ownBlock = some k → F k ∧ k < w.heap.size := by
  obtain ⟨cs, ho, hF, _⟩ := h
  exact fun k hk => ⟨hF k hk, own_block_lt ho k hk⟩

theorem Own.wide {w : World} {F F' : Nat → Prop} {v : Value} {xs : List α} (h : Own e size V w F v xs) (hF : ∀ k, k < w.heap.size → F k → F' k) : Own e size V w F' v xs := by
  obtain ⟨cs, ho, h1, h2, h3⟩ := h
  refine ⟨cs, ho, fun k hk => hF k (own_block_lt ho k hk) (h1 k hk), h2, fun i hi => ⟨(h3 i hi).1, fun j k hj hk => ?_⟩⟩
  obtain ⟨a, b, c⟩ := (h3 i hi).2 j k hj hk
  exact ⟨a, b, hF k a c⟩

theorem Own.kept (hV : Stays size V) {w W : World} {F S : Nat → Prop} {v : Value} {xs : List α} (h : Own e size V w F v xs) (hK : Kept S w W) (hn : ∀ k, k < w.heap.size → F k → ¬ S k) : Own e size V W F v xs := by
  obtain ⟨cs, ho, h1, h2, h3⟩ := h
  refine ⟨cs, ownsRow_kept ho hK (fun k hk => hn k (own_block_lt ho k hk) (h1 k hk)), h1, h2, fun i hi => ?_⟩
  obtain ⟨hv, hb⟩ := h3 i hi
  refine ⟨hV w W S _ _ _ hv (fun _ _ => rfl) hK (fun j k hj hk => hn k (hb j k hj hk).1 (hb j k hj hk).2.2), fun j k hj hk => ?_⟩
  obtain ⟨a, b, c⟩ := hb j k hj hk
  exact ⟨Nat.lt_of_lt_of_le a hK.size, b, c⟩

theorem Own.old (hV : Stays size V) {w W : World} {F : Nat → Prop} {v : Value} {xs : List α} (h : Own e size V w F v xs) (hB : Below w.heap.size w W) : Own e size V W F v xs :=
  h.kept hV (kept_of (S := fun _ => False) hB) (fun _ _ _ e => e)

/-- What is owned, seen. -/
theorem Own.view {w : World} {F : Nat → Prop} {v : Value} {xs : List α} (h : Own e size V w F v xs) :
    ∃ a cap, v = .slice a xs.length cap ∧ View size V w a xs.length cap xs ∧ (∀ p, a = some p → F p.block ∧ p.block < w.heap.size) := by
  obtain ⟨cs, ho, hF, hc1, hc⟩ := h
  have ho' := ho
  obtain ⟨hlen, h2⟩ := ho'
  rcases h2 with ⟨rfl, h0⟩ | ⟨g, cap, cur, rfl, hg, hh, hnc, hm, hs, htake⟩
  · obtain rfl : xs = [] := List.eq_nil_of_length_eq_zero h0
    exact ⟨none, 0, rfl, view_nil _ _ _, fun p e => by cases e⟩
  · have hgs := (Array.getElem?_eq_some_iff.1 hh).1
    refine ⟨_, cap, rfl, ⟨rfl, hnc, hm, (fun e => by cases e), fun hp => ⟨g, 0, rfl, hgs, fun i hi => ⟨_, fun j hj => ?_, (hc i hi).1⟩⟩⟩, fun p e => by cases e; exact ⟨hF g rfl, hgs⟩⟩
    have hij : i * size + j < xs.length * size := by
      have : (i + 1) * size ≤ xs.length * size := Nat.mul_le_mul_right _ hi
      rw [Nat.succ_mul] at this
      omega
    rw [Nat.zero_add]
    have hcell := ho.cells (g := g) rfl (i * size + j) (cs.getD (i * size + j) default) (by rw [List.getD_eq_getElem?_getD, List.getElem?_eq_getElem (by omega)]; rfl)
    have hplain : (⟨g, 0, none⟩ : Addr).add (i * size + j) = ⟨g, i * size + j, none⟩ := by unfold Addr.add; split <;> simp_all
    rw [hplain] at hcell
    exact hcell

/-- What the program's table says of a type of slices. -/
def Elem (t e : TypeId) (size bytes : Nat) : Prop :=
  0 < size ∧ Tryd.prog.underlying t = some (.slice e) ∧ ∃ i z, Tryd.prog.info? e = some i ∧ i.zero = some z ∧ i.size = size ∧ i.bytes = bytes ∧ z.cells.size = size

theorem getD_append_left' {cs news : List Value} {n : Nat} (h : n < cs.length) : (cs ++ news).getD n default = cs.getD n default := by
  rw [List.getD_eq_getElem?_getD, List.getD_eq_getElem?_getD, List.getElem?_append_left h]

theorem getD_append_right' {cs news : List Value} (n j : Nat) (h : n = cs.length + j) : (cs ++ news).getD n default = news.getD j default := by
  subst h
  rw [List.getD_eq_getElem?_getD, List.getD_eq_getElem?_getD, List.getElem?_append_right (by omega)]
  congr 2; omega

/-- append of items onto a slice that owns its row. -/
theorem append_items_run {t : TypeId} {bytes : Nat} (hV : Stays size V) (hE : Elem t e size bytes) {w : World} {F : Nat → Prop} {v : Value} {xs : List α} (h : Own e size V w F v xs)
    {ad : Addr} {news : List Value} {ys : List α} (hnews : ∀ j u, news[j]? = some u → w.cell? (ad.add j) = some u) (hn : news.length = ys.length * size) (h1 : ∀ u ∈ news, u.oneCell' = true)
    (hy : ∀ i, i < ys.length → V w (ys.getD i default) (fun j => news.getD (i * size + j) default) ∧ ∀ j k, j < size → (news.getD (i * size + j) default).ownBlock = some k → k < w.heap.size ∧ v.ownBlock ≠ some k ∧ F k)
    (hF : F w.heap.size) (h63 : xs.length + ys.length ≤ maxLen) (hbd : (xs.length + ys.length) * bytes ≤ 140737488355328) (ty : TypeId) (c : Nat) :
    ∃ v' w', (Builtin.append_ #[t, t] ty #[v, .slice (some ad) ys.length c]).run Tryd.prog w = .ok v' w' ∧ Own e size V w' F v' (xs ++ ys) ∧ Kept (fun k => v.ownBlock = some k) w w' ∧ (v'.ownBlock = v.ownBlock ∨ v'.ownBlock = some w.heap.size) := by
  obtain ⟨hsz, ht, i, z, hi, hz, hsize, hby, hzs⟩ := hE
  obtain ⟨cs, ho, hF1, hc1, hc⟩ := h
  have hcl := ho.1
  obtain ⟨v', w', hr, ho', hg, hnil, hat⟩ := run_append_own_at (P := Tryd.prog) w 0 t ty e i z size bytes ht hi hz hsize hby hzs hsz v xs.length cs ho ad ys.length c news hn hnews h1 h63 hbd (by omega)
  have hK := kept_grown hg
  have hfar : ∀ k, k < w.heap.size → v.ownBlock ≠ some k → v'.ownBlock ≠ some k := by
    intro k hk hne e
    rcases hat with hat | hat
    · exact hne (by rw [← hat]; exact e)
    · rw [hat] at e; simp only [Option.some.injEq] at e; omega
  refine ⟨v', w', hr, ⟨cs ++ news, by rw [List.length_append]; exact ho', fun k hk => ?_, fun u hu => ?_, fun i hi => ?_⟩, hK, hat⟩
  · rcases hat with hat | hat
    · exact hF1 k (by rw [← hat]; exact hk)
    · rw [hat] at hk; simp only [Option.some.injEq] at hk; subst hk; exact hF
  · rcases List.mem_append.1 hu with hu | hu
    · exact hc1 u hu
    · exact h1 u hu
  · simp only [List.length_append] at hi
    by_cases hlt2 : i < xs.length
    · have hij : ∀ j, j < size → (cs ++ news).getD (i * size + j) default = cs.getD (i * size + j) default := fun j hj => by
        have : (i + 1) * size ≤ xs.length * size := Nat.mul_le_mul_right _ hlt2
        rw [Nat.succ_mul] at this
        exact getD_append_left' (by omega)
      obtain ⟨hv, hb⟩ := hc i hlt2
      have hxi : (xs ++ ys).getD i default = xs.getD i default := by rw [List.getD_eq_getElem?_getD, List.getD_eq_getElem?_getD, List.getElem?_append_left hlt2]
      rw [hxi]
      refine ⟨hV w w' _ _ _ _ hv (fun j hj => hij j hj) hK (fun j k hj hk => (hb j k hj hk).2.1), fun j k hj hk => ?_⟩
      rw [hij j hj] at hk
      obtain ⟨hb1, hb2, hb3⟩ := hb j k hj hk
      exact ⟨Nat.lt_of_lt_of_le hb1 hK.size, hfar k hb1 hb2, hb3⟩
    · obtain ⟨n, rfl⟩ : ∃ n, i = xs.length + n := ⟨i - xs.length, by omega⟩
      have hij : ∀ j, j < size → (cs ++ news).getD ((xs.length + n) * size + j) default = news.getD (n * size + j) default := fun j hj => getD_append_right' _ _ (by rw [hcl, Nat.add_mul]; omega)
      have hxi : (xs ++ ys).getD (xs.length + n) default = ys.getD n default := by rw [List.getD_eq_getElem?_getD, List.getD_eq_getElem?_getD, List.getElem?_append_right (by omega)]; congr 2; omega
      rw [hxi]
      obtain ⟨hv, hb⟩ := hy n (by omega)
      refine ⟨hV w w' _ _ _ _ hv (fun j hj => hij j hj) hK (fun j k hj hk => (hb j k hj hk).2.1), fun j k hj hk => ?_⟩
      rw [hij j hj] at hk
      obtain ⟨hb1, hb2, hb3⟩ := hb j k hj hk
      exact ⟨Nat.lt_of_lt_of_le hb1 hK.size, hfar k hb1 hb2, hb3⟩

/-- append of one item that lies in a block of its own. -/
theorem append_item_run {t : TypeId} {bytes : Nat} (hV : Stays size V) (hE : Elem t e size bytes) {w : World} {F : Nat → Prop} {v : Value} {xs : List α} (h : Own e size V w F v xs)
    {B : Nat} {news : List Value} {tt : TypeId} {fr : Nat × Nat} (hB : w.heap[B]? = some (.cells news.toArray tt fr)) (hn : news.length = size) (h1 : ∀ u ∈ news, u.oneCell' = true) (x : α) (hx : V w x (fun j => news.getD j default))
    (hxb : ∀ j k, j < size → (news.getD j default).ownBlock = some k → k < w.heap.size ∧ v.ownBlock ≠ some k ∧ F k) (hF : F w.heap.size) (h63 : xs.length + 1 ≤ maxLen) (hbd : (xs.length + 1) * bytes ≤ 140737488355328) (ty : TypeId) (c : Nat) :
    ∃ v' w', (Builtin.append_ #[t, t] ty #[v, .slice (some ⟨B, 0, none⟩) 1 c]).run Tryd.prog w = .ok v' w' ∧ Own e size V w' F v' (xs ++ [x]) ∧ Kept (fun k => v.ownBlock = some k) w w' ∧ (v'.ownBlock = v.ownBlock ∨ v'.ownBlock = some w.heap.size) :=
  append_items_run hV hE h (ad := ⟨B, 0, none⟩) (news := news) (ys := [x]) (World.news_of_block hB) (by simpa using hn) h1 (fun i hi => by
    obtain rfl : i = 0 := by simpa using hi
    refine ⟨by simpa using hx, fun j k hj hk => hxb j k hj (by simpa using hk)⟩) hF h63 hbd ty c

theorem wpList_append_item {ops : Array Oper} {rest : List Oper} {o : Oper} {a : Act} {Q : Exit → Act → World → Prop} {w : World} (hgd : o.guard = none) (s y : Operand) (t : TypeId)
    (ho : o.op = .call { callee := .builtin .append, args := #[s, y], argTypes := #[t, t] })
    {bytes : Nat} (hV : Stays size V) (hE : Elem t e size bytes) {F : Nat → Prop} {v : Value} {xs : List α} (hs : a.eval s = v) (h : Own e size V w F v xs)
    {B c : Nat} {news : List Value} {tt : TypeId} {fr : Nat × Nat} (hy : a.eval y = .slice (some ⟨B, 0, none⟩) 1 c) (hB : w.heap[B]? = some (.cells news.toArray tt fr)) (hn : news.length = size) (h1 : ∀ u ∈ news, u.oneCell' = true) (x : α) (hx : V w x (fun j => news.getD j default))
    (hxb : ∀ j k, j < size → (news.getD j default).ownBlock = some k → k < w.heap.size ∧ v.ownBlock ≠ some k ∧ F k) (hF : F w.heap.size) (h63 : xs.length + 1 ≤ maxLen) (hbd : (xs.length + 1) * bytes ≤ 140737488355328)
    (hk : ∀ v' w', Own e size V w' F v' (xs ++ [x]) → Kept (fun k => v.ownBlock = some k) w w' → (v'.ownBlock = v.ownBlock ∨ v'.ownBlock = some w.heap.size) → wpList Tryd.prog ops Q rest (a.put o.dst v') w') : wpList Tryd.prog ops Q (o :: rest) a w := by
  refine wpList_plain hgd fun K hK => ?_
  obtain ⟨v', w', hr, h2, h3, h4⟩ := append_item_run hV hE h hB hn h1 x hx hxb hF h63 hbd o.type c
  unfold Oper.wp
  simp [execOp, ho, resolve, invoke, builtin, hs, hy, hr, Result.andThen]
  exact hK _ _ (hk v' w' h2 h3 h4)

theorem step_append_item {ops : Array Oper} {o : Oper} {a : Act} {K : Act → World → Prop} {Q : Exit → Act → World → Prop} {E : Prop} {w : World} (hgd : o.guard = none) (s y : Operand) (t : TypeId)
    (ho : o.op = .call { callee := .builtin .append, args := #[s, y], argTypes := #[t, t] })
    {bytes : Nat} (hV : Stays size V) (hE : Elem t e size bytes) {F : Nat → Prop} {v : Value} {xs : List α} (hs : a.eval s = v) (h : Own e size V w F v xs)
    {B c : Nat} {news : List Value} {tt : TypeId} {fr : Nat × Nat} (hy : a.eval y = .slice (some ⟨B, 0, none⟩) 1 c) (hB : w.heap[B]? = some (.cells news.toArray tt fr)) (hn : news.length = size) (h1 : ∀ u ∈ news, u.oneCell' = true) (x : α) (hx : V w x (fun j => news.getD j default))
    (hxb : ∀ j k, j < size → (news.getD j default).ownBlock = some k → k < w.heap.size ∧ v.ownBlock ≠ some k ∧ F k) (hF : F w.heap.size) (h63 : xs.length + 1 ≤ maxLen) (hbd : (xs.length + 1) * bytes ≤ 140737488355328)
    (hk : ∀ v' w', Own e size V w' F v' (xs ++ [x]) → Kept (fun k => v.ownBlock = some k) w w' → (v'.ownBlock = v.ownBlock ∨ v'.ownBlock = some w.heap.size) → K (a.put o.dst v') w') :
    if Region.wanted o (yielded ops a.tmps) = true then Oper.wp Tryd.prog o a w K Q else E := by
  have hw : Region.wanted o (yielded ops a.tmps) = true := by simp [Region.wanted, hgd]
  rw [if_pos hw]
  obtain ⟨v', w', hr, h2, h3, h4⟩ := append_item_run hV hE h hB hn h1 x hx hxb hF h63 hbd o.type c
  unfold Oper.wp
  simp [execOp, ho, resolve, invoke, builtin, hs, hy, hr, Result.andThen]
  exact hk v' w' h2 h3 h4
end

theorem below_one (w : World) (o : Obj) : Below w.heap.size w (w.alloc o) := (Below.refl _ _).alloc (Nat.le_refl _) _

theorem kept_below {n : Nat} {w w' : World} (h : Below n w w') : Kept (fun k => n ≤ k) w w' := ⟨h.os, h.tape, h.output, h.size, fun k hk hn => h.block k (by omega)⟩

theorem Own.shape {α : Type} [Inhabited α] {e : TypeId} {size : Nat} {V : World → α → (Nat → Value) → Prop} {w : World} {F : Nat → Prop} {v : Value} {xs : List α} (h : Own e size V w F v xs) : ∃ a n cap, v = .slice a n cap := by
  obtain ⟨a, cap, hv, _⟩ := h.view
  exact ⟨a, _, cap, hv⟩

/-- A text; a place. -/
def VS (_ : World) (s : ByteArray) (c : Nat → Value) : Prop := c 0 = .string s
def VP (_ : World) (p : Int × ByteArray) (c : Nat → Value) : Prop := c 0 = .int .i64 p.1 ∧ c 1 = .string p.2

theorem stays_s : Stays 1 VS := fun _ _ _ _ _ _ h hc _ _ => (hc 0 (by omega)).trans h
theorem stays_p : Stays 2 VP := fun _ _ _ _ _ _ h hc _ _ => ⟨(hc 0 (by omega)).trans h.1, (hc 1 (by omega)).trans h.2⟩

theorem View.str {w : World} {a : Option Addr} {len cap : Nat} {ss : List ByteArray} (h : View 1 VS w a len cap ss) {k : Nat} (hk : k < len) : ∃ b off, a = some ⟨b, off, none⟩ ∧ b < w.heap.size ∧ w.cell? ⟨b, off + k, none⟩ = some (.string (ss.getD k default)) := by
  obtain ⟨h1, h2, h3, h4, h5⟩ := h
  obtain ⟨b, off, ha, hb, hc⟩ := h5 (by omega)
  obtain ⟨c, hcell, hv⟩ := hc k hk
  have := hcell 0 (by omega)
  rw [hv] at this
  exact ⟨b, off, ha, hb, by simpa using this⟩

theorem View.pl {w : World} {a : Option Addr} {len cap : Nat} {xs : List (Int × ByteArray)} (h : View 2 VP w a len cap xs) {i : Nat} (hi : i < len) :
    ∃ b off, a = some ⟨b, off, none⟩ ∧ b < w.heap.size ∧ w.cell? ⟨b, off + i * 2, none⟩ = some (.int .i64 (xs.getD i default).1) ∧ w.cell? ⟨b, off + i * 2 + 1, none⟩ = some (.string (xs.getD i default).2) := by
  obtain ⟨h1, h2, h3, h4, h5⟩ := h
  obtain ⟨b, off, rfl, hb, hc⟩ := h5 (by omega)
  obtain ⟨c, hcell, hk, h0⟩ := hc i hi
  have e0 := hcell 0 (by omega)
  have e1 := hcell 1 (by omega)
  rw [hk] at e0
  rw [h0] at e1
  exact ⟨b, off, rfl, hb, by simpa using e0, by rw [Nat.add_assoc]; exact e1⟩

theorem str_of_list {x y : ByteArray} (h : x.toList = y.toList) : x = y := by
  rw [ByteArray.toList_eq, ByteArray.toList_eq] at h
  exact ByteArray.ext (Array.toList_inj.mp h)

theorem Tryd.info9 : (Tryd.prog.info? 9).map (fun i => (i.zero, i.size, i.bytes)) = some (some (.string ⟨#[]⟩), 1, 16) := by kernel_rfl
theorem Tryd.info46 : (Tryd.prog.info? 46).map (fun i => (i.zero, i.size, i.bytes)) = some (some (.agg #[.int .i64 0, .string ⟨#[]⟩]), 2, 24) := by kernel_rfl
theorem Tryd.info34 : (Tryd.prog.info? 34).map (fun i => (i.zero, i.size, i.bytes)) = some (some (.agg #[.int .i64 0, .string ⟨#[]⟩]), 2, 24) := by kernel_rfl

theorem elem_s : Elem 39 9 1 16 := by
  obtain ⟨i0, hi, hz0, hz1, hz2⟩ := info_parts Tryd.info9
  exact ⟨by decide, Tryd.underlying39, i0, _, hi, hz0, hz1, hz2, rfl⟩
theorem elem_p : Elem 22 46 2 24 := by
  obtain ⟨i0, hi, hz0, hz1, hz2⟩ := info_parts Tryd.info46
  exact ⟨by decide, Tryd.underlying22, i0, _, hi, hz0, hz1, hz2, rfl⟩
theorem elem_q : Elem 28 34 2 24 := by
  obtain ⟨i0, hi, hz0, hz1, hz2⟩ := info_parts Tryd.info34
  exact ⟨by decide, Tryd.underlying28, i0, _, hi, hz0, hz1, hz2, rfl⟩
end Go.Proofs.YtohkpihjkaffoaaDoor
