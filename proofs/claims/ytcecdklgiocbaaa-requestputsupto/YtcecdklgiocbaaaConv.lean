/-
  The contracts of the statements' own texts, pairs, multis, entries: items as the document has them.
-/
import Derived.Test.YtcecdklgiocbaaaSlight8
import Derived.Deep.RegionHeld3
namespace Go.Proofs.Ytcecdklgiocbaaa
open Go.RowKit
set_option linter.unusedVariables false
set_option linter.unusedSimpArgs false

theorem step_append_item {ops : Array Oper} {o : Oper} {a : Act} {w : World} {K : Act → World → Prop} {Q : Exit → Act → World → Prop} {E : Prop} (hgd : o.guard = none) (s y : Operand) (t : TypeId)
    (ho : o.op = .call { callee := .builtin .append, args := #[s, y], argTypes := #[t, t] })
    {α : Type} [Inhabited α] {e : TypeId} {size bytes : Nat} {V : World → α → (Nat → Value) → Prop} (hV : Stays size V) (hE : Elem t e size bytes) {base : Nat} {v : Value} {xs : List α} (hs : a.eval s = v) (h : Own e size V w base v xs)
    {B c : Nat} {news : List Value} {tt : TypeId} {fr : Nat × Nat} (hy : a.eval y = .slice (some ⟨B, 0, none⟩) 1 c) (hB : w.heap[B]? = some (.cells news.toArray tt fr)) (hn : news.length = size) (h1 : ∀ u ∈ news, u.oneCell' = true) (x : α) (hx : V w x (fun j => news.getD j default))
    (hxb : ∀ j k, j < size → (news.getD j default).ownBlock = some k → k < w.heap.size ∧ v.ownBlock ≠ some k ∧ base ≤ k) (h63 : xs.length + 1 ≤ maxLen) (hbd : (xs.length + 1) * bytes ≤ 140737488355328) (hbase : base ≤ w.heap.size)
    (hk : ∀ v' w', Own e size V w' base v' (xs ++ [x]) → Below base w w' → K (a.put o.dst v') w') :
    if Region.wanted o (yielded ops a.tmps) = true then Oper.wp Try.prog o a w K Q else E := by
  have hw : Region.wanted o (yielded ops a.tmps) = true := by simp [Region.wanted, hgd]
  rw [if_pos hw]
  obtain ⟨v', w', hr, h2, h3⟩ := append_item_run hV hE h hB hn h1 x hx hxb h63 hbd hbase o.type c
  unfold Oper.wp
  simp [execOp, ho, resolve, invoke, builtin, hs, hy, hr, Result.andThen]
  exact hk v' w' h2 h3

/-- The five cells of an item that leads nowhere. -/
def flat5 (k t : ByteArray) (n : Int) (b : ByteArray) : List Value := [.string k, .string t, .slice none 0 0, .int .i64 n, .string b]

theorem flat5_one (k t : ByteArray) (n : Int) (b : ByteArray) : ∀ u ∈ flat5 k t n b, u.oneCell' = true := by
  intro u hu
  simp [flat5] at hu
  rcases hu with rfl | rfl | rfl | rfl | rfl <;> rfl
theorem flat5_block {H base : Nat} {v : Value} (k t : ByteArray) (n : Int) (b : ByteArray) : ∀ j i, j < 5 → ((flat5 k t n b).getD j default).ownBlock = some i → i < H ∧ v.ownBlock ≠ some i ∧ base ≤ i := by
  intro j i hj hi
  match j, hj with
  | 0, _ => simp [flat5, Value.ownBlock] at hi
  | 1, _ => simp [flat5, Value.ownBlock] at hi
  | 2, _ => simp [flat5, Value.ownBlock] at hi
  | 3, _ => simp [flat5, Value.ownBlock] at hi
  | 4, _ => simp [flat5, Value.ownBlock] at hi
theorem flat5_vi (w : World) (k t : ByteArray) (n : Int) (b : ByteArray) : VI w (k, t, [], n, b) (fun j => (flat5 k t n b).getD j default) :=
  ⟨rfl, rfl, ⟨none, 0, 0, rfl, view_nil _ _ _⟩, rfl, rfl⟩

def keyIt (s : ByteArray) : It := (s, ByteArray.empty, [], 0, ByteArray.empty)
def pairIt (p : ByteArray × ByteArray) : It := (p.1, p.2, [], 0, ByteArray.empty)
def multiIt (p : ByteArray × List ByteArray) : It := (p.1, ByteArray.empty, p.2, 0, ByteArray.empty)
def entryIt (p : ByteArray × Int × ByteArray) : It := (p.1, ByteArray.empty, [], p.2.1, p.2.2)

theorem map_take_succ {α β : Type} [Inhabited α] (f : α → β) (xs : List α) (k : Nat) (h : k < xs.length) : (xs.take (k + 1)).map f = (xs.take k).map f ++ [f (xs.getD k default)] := by
  rw [List.take_add_one, List.map_append, List.getD_eq_getElem?_getD, List.getElem?_eq_getElem h]
  simp

theorem View.lt {α : Type} [Inhabited α] {size : Nat} {V : World → α → (Nat → Value) → Prop} {w : World} {a : Option Addr} {len cap : Nat} {xs : List α} (h : View size V w a len cap xs) {b off : Nat} (ha : a = some ⟨b, off, none⟩) (hp : 0 < len) : b < w.heap.size := by
  obtain ⟨b', off', h1, h2, _⟩ := h.2.2.2.2 hp
  rw [ha] at h1
  cases h1
  exact h2


theorem strs_one (ss : List ByteArray) : ∀ u ∈ ss.map Value.string, u.oneCell' = true := by
  intro u hu
  obtain ⟨s, _, rfl⟩ := List.mem_map.1 hu
  rfl

theorem View.news {w : World} {x : Addr} {len cap : Nat} {ss : List ByteArray} (h : View 1 VS w (some x) len cap ss) : ∀ j u, (ss.map Value.string)[j]? = some u → w.cell? (x.add j) = some u := by
  intro j u hj
  have hjl : j < len := by have := (List.getElem?_eq_some_iff.1 hj).1; rw [List.length_map, h.1] at this; exact this
  obtain ⟨b, off, hx, hc⟩ := h.str hjl
  cases hx
  have hplain : (⟨b, off, none⟩ : Addr).add j = ⟨b, off + j, none⟩ := by unfold Addr.add; split <;> simp_all
  rw [hplain, hc, ← hj, List.getElem?_map, List.getD_eq_getElem?_getD, List.getElem?_eq_getElem (by rw [h.1]; exact hjl)]
  rfl

/-- A list of texts, copied onto nothing. -/
theorem append_strs_run {w : World} {xa : Option Addr} {len cap : Nat} {ss : List ByteArray} (h : View 1 VS w xa len cap ss) (hbd : len * 16 ≤ 140737488355328) (ty : TypeId) :
    ∃ v' w', (Builtin.append_ #[26, 26] ty #[.slice none 0 0, .slice xa len cap]).run Try.prog w = .ok v' w' ∧ Own 9 1 VS w' w.heap.size v' ss ∧ Below w.heap.size w w' := by
  obtain ⟨i0, hi, hz0, hz1, hz2⟩ := info_parts Try.info9
  cases xa with
  | none =>
    obtain ⟨h1, h2, h3, h4, h5⟩ := h
    obtain ⟨rfl, rfl⟩ := h4 rfl
    obtain rfl : ss = [] := List.eq_nil_of_length_eq_zero h1
    exact ⟨_, w, run_append_owned_none (P := Try.prog) (w := w) w.heap.size 26 ty 9 i0 1 Try.underlying26 hi (.slice none 0 0) 0 [] (World.ownsRow_nil _ _ _ _), own_nil _ _ _ _ _, Below.refl _ _⟩
  | some x =>
    have hl : (ss.map Value.string).length = len * 1 := by rw [List.length_map, h.1, Nat.mul_one]
    obtain ⟨v', w', hr, h2, h3, h4⟩ := run_append_own (P := Try.prog) w w.heap.size 26 ty 9 i0 (.string ⟨#[]⟩) 1 16 Try.underlying26 hi hz0 hz1 hz2 rfl (by decide) (.slice none 0 0) 0 [] (World.ownsRow_nil _ _ _ _) x len cap _ hl h.news (strs_one ss) (by unfold maxLen; omega) (by omega) (Nat.le_refl _)
    rw [Nat.zero_add, List.nil_append] at h2
    refine ⟨v', w', hr, ⟨_, by rw [h.1]; exact h2, fun i hi => ?_⟩, (Below.refl _ _).grown h3 (Nat.le_refl _) (fun k hk => by simp [Value.ownBlock] at hk)⟩
    have e : (ss.map Value.string).getD (i * 1 + 0) default = .string (ss.getD i default) := by
      rw [List.getD_eq_getElem?_getD, List.getD_eq_getElem?_getD, List.getElem?_map, Nat.mul_one, Nat.add_zero, List.getElem?_eq_getElem hi]
      rfl
    refine ⟨e, fun j k hj hk => ?_⟩
    obtain rfl : j = 0 := by omega
    rw [e] at hk
    simp [Value.ownBlock] at hk

theorem wpList_append_strs {ops : Array Oper} {rest : List Oper} {o : Oper} {a : Act} {w : World} {Q : Exit → Act → World → Prop} (hgd : o.guard = none) (s y : Operand)
    (ho : o.op = .call { callee := .builtin .append, args := #[s, y], argTypes := #[26, 26] }) (hs : a.eval s = .slice none 0 0)
    {xa : Option Addr} {len cap : Nat} {ss : List ByteArray} (hx : a.eval y = .slice xa len cap) (h : View 1 VS w xa len cap ss) (hbd : len * 16 ≤ 140737488355328)
    (hk : ∀ v' w', Own 9 1 VS w' w.heap.size v' ss → Below w.heap.size w w' → wpList Try.prog ops Q rest (a.put o.dst v') w') : wpList Try.prog ops Q (o :: rest) a w := by
  refine wpList_plain hgd fun K hK => ?_
  obtain ⟨v', w', hr, h2, h3⟩ := append_strs_run h hbd o.type
  unfold Oper.wp
  simp [execOp, ho, resolve, invoke, builtin, hs, hx, hr, Result.andThen]
  exact hK _ _ (hk v' w' h2 h3)

end Go.Proofs.Ytcecdklgiocbaaa
