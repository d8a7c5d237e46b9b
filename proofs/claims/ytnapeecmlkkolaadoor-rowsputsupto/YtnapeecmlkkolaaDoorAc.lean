/-
  Kids, GetK, GetU, GetT, One, laid together.
-/
import Derived.Test.YtnapeecmlkkolaaDoorAb
namespace Go.Proofs.YtnapeecmlkkolaaDoor
open Go.RowKit
set_option linter.unusedVariables false
set_option linter.unusedSimpArgs false

/-- A slice that owns a row of types; what they lead to lies in other blocks, and in none of u's. -/
def OwnK (n : Nat) (w : World) (base : Nat) (v u : Value) (xs : List Ty) : Prop :=
  (∀ k, v.ownBlock = some k → u.ownBlock ≠ some k) ∧ ∃ cs : List Value, w.ownsRow base 62 5 v xs.length cs ∧
    ∀ i x, xs[i]? = some x → VT n (fun k => base ≤ k ∧ k < w.heap.size ∧ v.ownBlock ≠ some k ∧ u.ownBlock ≠ some k) w x (fun j => cs.getD (i * 5 + j) default)

/-- A slice that owns a row of texts, in no block of u's. -/
def OwnS (w : World) (base : Nat) (v u : Value) (ss : List ByteArray) : Prop :=
  (∀ k, v.ownBlock = some k → u.ownBlock ≠ some k) ∧ w.ownsRow base 9 1 v ss.length (ss.map Value.string) ∧ ∀ s ∈ ss, s.size ≤ maxLen

theorem ownK_nil (n : Nat) (w : World) (base : Nat) (u : Value) : OwnK n w base (.slice none 0 0) u [] :=
  ⟨fun k hk => by simp [Value.ownBlock] at hk, [], World.ownsRow_nil _ _ _ _, fun i x hx => by simp at hx⟩
theorem ownS_nil (w : World) (base : Nat) (u : Value) : OwnS w base (.slice none 0 0) u [] :=
  ⟨fun k hk => by simp [Value.ownBlock] at hk, World.ownsRow_nil _ _ _ _, fun s hs => by simp at hs⟩

theorem OwnK.lt {n : Nat} {w : World} {base : Nat} {v u : Value} {xs : List Ty} (h : OwnK n w base v u xs) : ∀ k, v.ownBlock = some k → base ≤ k ∧ k < w.heap.size := by
  obtain ⟨_, cs, ho, _⟩ := h
  exact World.ownsRow.lt ho
theorem OwnS.lt {w : World} {base : Nat} {v u : Value} {ss : List ByteArray} (h : OwnS w base v u ss) : ∀ k, v.ownBlock = some k → base ≤ k ∧ k < w.heap.size := World.ownsRow.lt h.2.1

theorem ownsRow_keep {w W : World} {base : Nat} {e : TypeId} {size : Nat} {v : Value} {n : Nat} {cs : List Value} (h : w.ownsRow base e size v n cs) (hb : ∀ k, v.ownBlock = some k → W.heap[k]? = w.heap[k]?) : W.ownsRow base e size v n cs := by
  refine ⟨h.1, ?_⟩
  rcases h.2 with h2 | ⟨g, cap, cur, hv, hg, hh, r⟩
  · exact .inl h2
  · exact .inr ⟨g, cap, cur, hv, hg, by rw [hb g (by rw [hv]; rfl)]; exact hh, r⟩

theorem OwnK.keep {n : Nat} {w W : World} {base : Nat} {v u u' : Value} {xs : List Ty} (h : OwnK n w base v u xs) (hb : ∀ k, base ≤ k → k < w.heap.size → u.ownBlock ≠ some k → W.heap[k]? = w.heap[k]?) (hs : w.heap.size ≤ W.heap.size)
    (hu : ∀ k, k < w.heap.size → u'.ownBlock = some k → u.ownBlock = some k) : OwnK n W base v u' xs := by
  have hlt := h.lt
  obtain ⟨hsep, cs, ho, hc⟩ := h
  refine ⟨fun k hk e => hsep k hk (hu k (hlt k hk).2 e), cs, ownsRow_keep ho (fun k hk => hb k (hlt k hk).1 (hlt k hk).2 (hsep k hk)), fun i x hx => ?_⟩
  exact VT.mono (fun k hk hF => ⟨⟨hF.1, Nat.lt_of_lt_of_le hk hs, hF.2.2.1, fun e => hF.2.2.2 (hu k hk e)⟩, hb k hF.1 hk hF.2.2.2⟩) hs (hc i x hx)

theorem OwnK.old {n : Nat} {w W : World} {base : Nat} {v u : Value} {xs : List Ty} (h : OwnK n w base v u xs) (hB : Below w.heap.size w W) : OwnK n W base v u xs :=
  h.keep (fun k _ hk _ => hB.block k hk) hB.size (fun _ _ e => e)

theorem OwnK.other {n : Nat} {w W : World} {base : Nat} {v u u' : Value} {xs : List Ty} (h : OwnK n w base v u xs) (hg : w.grownBy W u.ownBlock) (hm : Moved w u u') : OwnK n W base v u' xs :=
  h.keep (fun k _ hk hu => hg.block k hk (fun e => hu e.symm)) hg.size (fun k hk e => by
    rcases hm with hm | ⟨g, hg2, hl⟩
    · rw [← hm]; exact e
    · rw [hg2] at e; cases e; omega)

theorem OwnK.set {n : Nat} {w : World} {base : Nat} {v u : Value} {xs : List Ty} (h : OwnK n w base v u xs) {ob j : Nat} (hob : ob < base) (x : Value) : OwnK n (w.setCell ⟨ob, j, none⟩ x) base v u xs :=
  h.keep (fun k hk _ _ => Below.heap_setCell _ _ _ _ (by show k ≠ ob; omega)) (by simp) (fun _ _ e => e)

theorem OwnS.keep {w W : World} {base : Nat} {v u u' : Value} {ss : List ByteArray} (h : OwnS w base v u ss) (hb : ∀ k, base ≤ k → k < w.heap.size → u.ownBlock ≠ some k → W.heap[k]? = w.heap[k]?)
    (hu : ∀ k, k < w.heap.size → u'.ownBlock = some k → u.ownBlock = some k) : OwnS W base v u' ss :=
  ⟨fun k hk e => h.1 k hk (hu k (h.lt k hk).2 e), ownsRow_keep h.2.1 (fun k hk => hb k (h.lt k hk).1 (h.lt k hk).2 (h.1 k hk)), h.2.2⟩

theorem OwnS.old {w W : World} {base : Nat} {v u : Value} {ss : List ByteArray} (h : OwnS w base v u ss) (hB : Below w.heap.size w W) : OwnS W base v u ss :=
  h.keep (fun k _ hk _ => hB.block k hk) (fun _ _ e => e)

theorem OwnS.other {w W : World} {base : Nat} {v u u' : Value} {ss : List ByteArray} (h : OwnS w base v u ss) (hg : w.grownBy W u.ownBlock) (hm : Moved w u u') : OwnS W base v u' ss :=
  h.keep (fun k _ hk hu => hg.block k hk (fun e => hu e.symm)) (fun k hk e => by
    rcases hm with hm | ⟨g, hg2, hl⟩
    · rw [← hm]; exact e
    · rw [hg2] at e; cases e; omega)

theorem OwnS.set {w : World} {base : Nat} {v u : Value} {ss : List ByteArray} (h : OwnS w base v u ss) {ob j : Nat} (hob : ob < base) (x : Value) : OwnS (w.setCell ⟨ob, j, none⟩ x) base v u ss :=
  h.keep (fun k hk _ _ => Below.heap_setCell _ _ _ _ (by show k ≠ ob; omega)) (fun _ _ e => e)

theorem OwnK.flip {n : Nat} {w : World} {base : Nat} {v u : Value} {xs : List Ty} (h : OwnK n w base v u xs) : ∀ k, u.ownBlock = some k → v.ownBlock ≠ some k := fun k hu hv => h.1 k hv hu

theorem own_cell {w : World} {base : Nat} {e : TypeId} {size n : Nat} {v : Value} {cs : List Value} (ho : w.ownsRow base e size v n cs) {g : Nat} {len cap : Nat} (hv : v = .slice (some ⟨g, 0, none⟩) len cap) {i : Nat} (hi : i < cs.length) : w.cell? ⟨g, i, none⟩ = some (cs.getD i default) := by
  have hcell := ho.cells (g := g) (by rw [hv]; rfl) i (cs.getD i default) (by rw [List.getD_eq_getElem?_getD, List.getElem?_eq_getElem hi]; rfl)
  have hplain : (⟨g, 0, none⟩ : Addr).add i = ⟨g, i, none⟩ := by unfold Addr.add; split <;> simp_all
  rw [hplain] at hcell
  exact hcell

/-- What is owned, seen. -/
theorem OwnK.sees {n : Nat} {w : World} {base : Nat} {v u : Value} {xs : List Ty} (h : OwnK n w base v u xs) :
    ∃ a cap, v = .slice a xs.length cap ∧ Sees 5 (fun k => base ≤ k ∧ k < w.heap.size) (VT n (fun k => base ≤ k ∧ k < w.heap.size) w) w a xs.length cap xs := by
  obtain ⟨hsep, cs, ho, hc⟩ := h
  have ho' := ho
  obtain ⟨hlen, h2⟩ := ho'
  rcases h2 with ⟨rfl, h0⟩ | ⟨g, cap, cur, rfl, hg, hh, hnc, hm, hs, htake⟩
  · obtain rfl : xs = [] := List.eq_nil_of_length_eq_zero h0
    exact ⟨none, 0, rfl, sees_nil _ _ _ _⟩
  · have hgs := (Array.getElem?_eq_some_iff.1 hh).1
    refine ⟨_, cap, rfl, rfl, hnc, hm, (fun e => by cases e), fun hp => ⟨g, 0, rfl, hgs, ⟨hg, hgs⟩, fun i x hx => ⟨_, fun j hj => ?_, VT.mono (fun k hk hF => ⟨⟨hF.1, hF.2.1⟩, rfl⟩) (Nat.le_refl _) (hc i x hx)⟩⟩⟩
    have hi := (List.getElem?_eq_some_iff.1 hx).1
    rw [Nat.zero_add]
    exact own_cell ho rfl (by rw [hlen]; omega)

theorem OwnS.sees {w : World} {base : Nat} {v u : Value} {ss : List ByteArray} (h : OwnS w base v u ss) :
    ∃ a cap, v = .slice a ss.length cap ∧ Sees 1 (fun k => base ≤ k ∧ k < w.heap.size) VS w a ss.length cap ss := by
  obtain ⟨hsep, ho, hm1⟩ := h
  have ho' := ho
  obtain ⟨hlen, h2⟩ := ho'
  rcases h2 with ⟨rfl, h0⟩ | ⟨g, cap, cur, rfl, hg, hh, hnc, hm, hs, htake⟩
  · obtain rfl : ss = [] := List.eq_nil_of_length_eq_zero h0
    exact ⟨none, 0, rfl, sees_nil _ _ _ _⟩
  · have hgs := (Array.getElem?_eq_some_iff.1 hh).1
    refine ⟨_, cap, rfl, rfl, hnc, hm, (fun e => by cases e), fun hp => ⟨g, 0, rfl, hgs, ⟨hg, hgs⟩, fun i x hx => ⟨fun _ => .string x, fun j hj => ?_, rfl, hm1 x (List.mem_of_getElem? hx)⟩⟩⟩
    have hi := (List.getElem?_eq_some_iff.1 hx).1
    obtain rfl : j = 0 := by omega
    rw [Nat.zero_add, Nat.mul_one, Nat.add_zero]
    rw [own_cell ho rfl (i := i) (by rw [List.length_map]; exact hi), List.getD_eq_getElem?_getD, List.getElem?_map, hx]; rfl

theorem Tryd.info62 : (Tryd.prog.info? 62).map (fun i => (i.zero, i.size, i.bytes)) = some (some (.agg #[.int .u16 0, .string ⟨#[]⟩, .string ⟨#[]⟩, .slice none 0 0, .slice none 0 0]), 5, 88) := by kernel_rfl
theorem Tryd.info9 : (Tryd.prog.info? 9).map (fun i => (i.zero, i.size, i.bytes)) = some (some (.string ⟨#[]⟩), 1, 16) := by kernel_rfl

theorem getD_left {cs news : List Value} {n : Nat} (h : n < cs.length) : (cs ++ news).getD n default = cs.getD n default := by
  rw [List.getD_eq_getElem?_getD, List.getD_eq_getElem?_getD, List.getElem?_append_left h]
theorem getD_right {cs news : List Value} (n j : Nat) (h : n = cs.length + j) : (cs ++ news).getD n default = news.getD j default := by
  subst h
  rw [List.getD_eq_getElem?_getD, List.getD_eq_getElem?_getD, List.getElem?_append_right (by omega)]
  congr 2; omega

theorem moved_lies {w : World} {v : Value} {g len cap : Nat} (h : v.ownBlock = some g ∨ g = w.heap.size) : Moved w v (.slice (some ⟨g, 0, none⟩) len cap) := by
  rcases h with h | h
  · exact .inl h.symm
  · exact .inr ⟨g, rfl, by omega⟩

theorem VT.cells {n : Nat} {F : Nat → Prop} {w : World} {t : Ty} {c c' : Nat → Value} (h : VT n F w t c) (hc : ∀ j, j < 5 → c' j = c j) : VT n F w t c' := by
  cases n with
  | zero => exact h.elim
  | succ n =>
    obtain ⟨na, nl, nc, ka, kl, kc, h0, h1, h2, h3, h4, r⟩ := h
    exact ⟨na, nl, nc, ka, kl, kc, (hc 0 (by omega)).trans h0, (hc 1 (by omega)).trans h1, (hc 2 (by omega)).trans h2, (hc 3 (by omega)).trans h3, (hc 4 (by omega)).trans h4, r⟩

/-- append of one type. -/
theorem append_kid_run {n : Nat} {w : World} {base : Nat} {v u : Value} {xs : List Ty} (h : OwnK n w base v u xs) {B : Nat} {news : List Value} {tt : TypeId} {fr : Nat × Nat} (hB : w.heap[B]? = some (.cells news.toArray tt fr)) (hn : news.length = 5) (h1 : ∀ y ∈ news, y.oneCell' = true)
    (x : Ty) (hx : VT n (fun k => base ≤ k ∧ k < w.heap.size ∧ v.ownBlock ≠ some k ∧ u.ownBlock ≠ some k) w x (fun j => news.getD j default)) (hul : ∀ k, u.ownBlock = some k → k < w.heap.size) (hbd : (xs.length + 1) * 88 ≤ 140737488355328) (hbase : base ≤ w.heap.size) (ty : TypeId) (c : Nat) :
    ∃ v' w', (Builtin.append_ #[60, 60] ty #[v, .slice (some ⟨B, 0, none⟩) 1 c]).run Tryd.prog w = .ok v' w' ∧ OwnK n w' base v' u (xs ++ [x]) ∧ w.grownBy w' v.ownBlock ∧ Moved w v v' := by
  obtain ⟨i, hi, hz, hsize, hby⟩ := info_parts Tryd.info62
  obtain ⟨hsep, cs, ho, hc⟩ := h
  have hcl := ho.1
  obtain ⟨g, cap, w', hr, ho', hg, hat, hlt⟩ := run_append_lies (P := Tryd.prog) w 60 ty base 62 i _ 5 88 Tryd.underlying60 hi hz hsize hby rfl (by decide) v xs.length cs ho ⟨B, 0, none⟩ 1 c news (by omega) (World.news_of_block hB) h1 (by omega) (by unfold maxLen; omega) hbd hbase _ rfl
  have hmv : Moved w v (.slice (some ⟨g, 0, none⟩) (xs.length + 1) cap) := moved_lies hat
  have hF : ∀ k, k < w.heap.size → (base ≤ k ∧ k < w.heap.size ∧ v.ownBlock ≠ some k ∧ u.ownBlock ≠ some k) → (base ≤ k ∧ k < w'.heap.size ∧ (Value.slice (some ⟨g, 0, none⟩) (xs.length + 1) cap).ownBlock ≠ some k ∧ u.ownBlock ≠ some k) ∧ w'.heap[k]? = w.heap[k]? := by
    rintro k hk ⟨f1, f2, f3, f4⟩
    refine ⟨⟨f1, Nat.lt_of_lt_of_le hk hg.size, fun e => ?_, f4⟩, hg.block k hk (fun e => f3 e.symm)⟩
    rcases hmv with hm | ⟨g2, hg2, hl⟩
    · rw [hm] at e; exact f3 e
    · rw [hg2] at e; cases e; omega
  refine ⟨_, w', hr, ⟨fun k hk e => ?_, cs ++ news, by rw [List.length_append]; exact ho', fun j y hy => ?_⟩, hg, hmv⟩
  · rcases hmv with hm | ⟨g2, hg2, hl⟩
    · rw [hm] at hk; exact hsep k hk e
    · rw [hg2] at hk; cases hk
      have := hul _ e
      omega
  by_cases hlt2 : j < xs.length
  · rw [List.getElem?_append_left hlt2] at hy
    refine VT.mono hF hg.size ((hc j y hy).cells fun q hq => ?_)
    exact getD_left (by omega)
  · have hj : j = xs.length := by
      have := (List.getElem?_eq_some_iff.1 hy).1
      simp at this; omega
    subst hj
    obtain rfl : x = y := by simpa using hy
    refine VT.mono hF hg.size (hx.cells fun q hq => ?_)
    exact getD_right _ q (by omega)

theorem wpList_append_kid {ops : Array Oper} {rest : List Oper} {o : Oper} {a : Act} {Q : Exit → Act → World → Prop} {w : World} (hgd : o.guard = none) (s y : Operand)
    (ho : o.op = .call { callee := .builtin .append, args := #[s, y], argTypes := #[60, 60] })
    {n : Nat} {base : Nat} {v u : Value} {xs : List Ty} (hs : a.eval s = v) (h : OwnK n w base v u xs) {B c : Nat} {news : List Value} {tt : TypeId} {fr : Nat × Nat} (hy : a.eval y = .slice (some ⟨B, 0, none⟩) 1 c) (hB : w.heap[B]? = some (.cells news.toArray tt fr)) (hn : news.length = 5) (h1 : ∀ y ∈ news, y.oneCell' = true)
    (x : Ty) (hx : VT n (fun k => base ≤ k ∧ k < w.heap.size ∧ v.ownBlock ≠ some k ∧ u.ownBlock ≠ some k) w x (fun j => news.getD j default)) (hul : ∀ k, u.ownBlock = some k → k < w.heap.size) (hbd : (xs.length + 1) * 88 ≤ 140737488355328) (hbase : base ≤ w.heap.size)
    (hk : ∀ v' w', Hid (OwnK n w' base v' u (xs ++ [x])) → Hid (w.grownBy w' v.ownBlock) → Hid (Moved w v v') → wpList Tryd.prog ops Q rest (a.put o.dst v') w') : wpList Tryd.prog ops Q (o :: rest) a w := by
  refine wpList_plain hgd fun K hK => ?_
  obtain ⟨v', w', hr, h2, h3, h4⟩ := append_kid_run h hB hn h1 x hx hul hbd hbase o.type c
  unfold Oper.wp
  simp [execOp, ho, resolve, invoke, builtin, hs, hy, hr, Result.andThen]
  exact hK _ _ (hk v' w' h2 h3 h4)

/-- append of one name. -/
theorem append_name_run {w : World} {base : Nat} {v u : Value} {ss : List ByteArray} (h : OwnS w base v u ss) {B : Nat} {s : ByteArray} {tt : TypeId} {fr : Nat × Nat} (hB : w.heap[B]? = some (.cells #[.string s] tt fr)) (hsm : s.size ≤ maxLen)
    (hul : ∀ k, u.ownBlock = some k → k < w.heap.size) (hbd : (ss.length + 1) * 16 ≤ 140737488355328) (hbase : base ≤ w.heap.size) (ty : TypeId) (c : Nat) :
    ∃ v' w', (Builtin.append_ #[59, 59] ty #[v, .slice (some ⟨B, 0, none⟩) 1 c]).run Tryd.prog w = .ok v' w' ∧ OwnS w' base v' u (ss ++ [s]) ∧ w.grownBy w' v.ownBlock ∧ Moved w v v' := by
  obtain ⟨i, hi, hz, hsize, hby⟩ := info_parts Tryd.info9
  obtain ⟨hsep, ho, hm1⟩ := h
  obtain ⟨g, cap, w', hr, ho', hg, hat, hlt⟩ := run_append_lies (P := Tryd.prog) w 59 ty base 9 i _ 1 16 Tryd.underlying59 hi hz hsize hby rfl (by decide) v ss.length _ ho ⟨B, 0, none⟩ 1 c [.string s] rfl (World.news_of_block hB) (by intro y hy; simp at hy; subst hy; rfl) (by omega) (by unfold maxLen; omega) hbd hbase _ rfl
  have hmv : Moved w v (.slice (some ⟨g, 0, none⟩) (ss.length + 1) cap) := moved_lies hat
  refine ⟨_, w', hr, ⟨fun k hk e => ?_, by rw [List.length_append, List.map_append]; exact ho', fun y hy => ?_⟩, hg, hmv⟩
  · rcases hmv with hm | ⟨g2, hg2, hl⟩
    · rw [hm] at hk; exact hsep k hk e
    · rw [hg2] at hk; cases hk
      have := hul _ e
      omega
  · rcases List.mem_append.1 hy with hy | hy
    · exact hm1 y hy
    · obtain rfl : y = s := by simpa using hy
      exact hsm

theorem wpList_append_name {ops : Array Oper} {rest : List Oper} {o : Oper} {a : Act} {Q : Exit → Act → World → Prop} {w : World} (hgd : o.guard = none) (s y : Operand)
    (ho : o.op = .call { callee := .builtin .append, args := #[s, y], argTypes := #[59, 59] })
    {base : Nat} {v u : Value} {ss : List ByteArray} (hs : a.eval s = v) (h : OwnS w base v u ss) {B c : Nat} {st : ByteArray} {tt : TypeId} {fr : Nat × Nat} (hy : a.eval y = .slice (some ⟨B, 0, none⟩) 1 c) (hB : w.heap[B]? = some (.cells #[.string st] tt fr)) (hsm : st.size ≤ maxLen)
    (hul : ∀ k, u.ownBlock = some k → k < w.heap.size) (hbd : (ss.length + 1) * 16 ≤ 140737488355328) (hbase : base ≤ w.heap.size)
    (hk : ∀ v' w', Hid (OwnS w' base v' u (ss ++ [st])) → Hid (w.grownBy w' v.ownBlock) → Hid (Moved w v v') → wpList Tryd.prog ops Q rest (a.put o.dst v') w') : wpList Tryd.prog ops Q (o :: rest) a w := by
  refine wpList_plain hgd fun K hK => ?_
  obtain ⟨v', w', hr, h2, h3, h4⟩ := append_name_run h hB hsm hul hbd hbase o.type c
  unfold Oper.wp
  simp [execOp, ho, resolve, invoke, builtin, hs, hy, hr, Result.andThen]
  exact hK _ _ (hk v' w' h2 h3 h4)
end Go.Proofs.YtnapeecmlkkolaaDoor

namespace Go.Proofs.YtnapeecmlkkolaaDoor
open Go.RowKit
set_option linter.unusedVariables false
set_option linter.unusedSimpArgs false

/-- What is got: what it is, how many bytes are done with, the error. -/
structure Res (α : Type) where
  val : α
  done : Nat
  err : Int

def textR (zs : List Int) : Res ByteArray := ⟨strOfNums (textA zs).bytes, (textA zs).done, (textA zs).err⟩

/-- So many items from place d on, behind those that are got already. -/
def goR {α : Type} (p : List Int → Res α) (zs : List Int) : Nat → Nat → List α → Res (List α)
  | 0, d, acc => ⟨acc, d, 0⟩
  | n + 1, d, acc => if (p (zs.drop d)).err = 0 then goR p zs n (d + (p (zs.drop d)).done) (acc ++ [(p (zs.drop d)).val]) else ⟨[], 0, (p (zs.drop d)).err⟩

/-- No type. -/
def tyNil : Ty := ⟨0, ⟨#[]⟩, ⟨#[]⟩, [], []⟩

/-- A name, and a type. -/
def fieldR (q : List Int → Res Ty) (zs : List Int) : Res (ByteArray × Ty) :=
  if (textR zs).err = 0 then
    if (q (zs.drop (textR zs).done)).err = 0 then ⟨((textR zs).val, (q (zs.drop (textR zs).done)).val), (textR zs).done + (q (zs.drop (textR zs).done)).done, 0⟩
    else ⟨(ByteArray.empty, tyNil), 0, (q (zs.drop (textR zs).done)).err⟩
  else ⟨(ByteArray.empty, tyNil), 0, (textR zs).err⟩

/-- How many, as a short, and so many kids. -/
def tupleR (q : List Int → Res Ty) (zs : List Int) : Res (List Ty) :=
  if zs.length < 2 then ⟨[], 0, 10⟩ else goR q zs (numTo zs 2).toNat 2 []

/-- What a Udt has behind its Id. -/
def udtR (q : List Int → Res Ty) (zs : List Int) : Res Ty :=
  if (textR zs).err = 0 then
    if (textR (zs.drop (textR zs).done)).err = 0 then
      if (zs.drop ((textR zs).done + (textR (zs.drop (textR zs).done)).done)).length < 2 then ⟨tyNil, 0, 10⟩ else
      let d := (textR zs).done + (textR (zs.drop (textR zs).done)).done
      let r := goR (fieldR q) zs (numTo (zs.drop d) 2).toNat (d + 2) []
      if r.err = 0 then ⟨⟨48, (textR zs).val, (textR (zs.drop (textR zs).done)).val, r.val.map (·.1), r.val.map (·.2)⟩, r.done, 0⟩ else ⟨tyNil, 0, r.err⟩
    else ⟨tyNil, 0, (textR (zs.drop (textR zs).done)).err⟩
  else ⟨tyNil, 0, (textR zs).err⟩

/-- A type, so many deep at most. -/
def tyR : Nat → List Int → Res Ty
  | 0, _ => ⟨tyNil, 0, 13⟩
  | n + 1, zs =>
    if zs.length < 2 then ⟨tyNil, 0, 10⟩ else
    let id := numTo zs 2
    let ys := zs.drop 2
    if id = 0 then (if (textR ys).err = 0 then ⟨⟨0, ⟨#[]⟩, (textR ys).val, [], []⟩, 2 + (textR ys).done, 0⟩ else ⟨tyNil, 0, (textR ys).err⟩)
    else if id = 48 then (if (udtR (tyR n) ys).err = 0 then ⟨(udtR (tyR n) ys).val, 2 + (udtR (tyR n) ys).done, 0⟩ else ⟨tyNil, 0, (udtR (tyR n) ys).err⟩)
    else if id = 32 ∨ id = 34 ∨ id = 33 ∨ id = 49 then
      let r := if id = 49 then tupleR (tyR n) ys else goR (tyR n) ys (if id = 33 then 2 else 1) 0 []
      if r.err = 0 then ⟨⟨id, ⟨#[]⟩, ⟨#[]⟩, [], r.val⟩, 2 + r.done, 0⟩ else ⟨tyNil, 0, r.err⟩
    else if plainB id = true then ⟨⟨id, ⟨#[]⟩, ⟨#[]⟩, [], []⟩, 2, 0⟩ else ⟨tyNil, 0, 11⟩

theorem goR_step {α : Type} {p : List Int → Res α} {zs : List Int} {k n d : Nat} {acc : List α} {X : Res (List α)} (h : goR p zs (n - k) d acc = X) (hk : k < n) (he : (p (zs.drop d)).err = 0) :
    goR p zs (n - (k + 1)) (d + (p (zs.drop d)).done) (acc ++ [(p (zs.drop d)).val]) = X := by
  rw [show n - k = (n - (k + 1)) + 1 by omega, goR, if_pos he] at h
  exact h

theorem goR_stop {α : Type} {p : List Int → Res α} {zs : List Int} {k n d : Nat} {acc : List α} {X : Res (List α)} (h : goR p zs (n - k) d acc = X) (hk : k < n) (he : (p (zs.drop d)).err ≠ 0) :
    X = ⟨[], 0, (p (zs.drop d)).err⟩ := by
  rw [show n - k = (n - (k + 1)) + 1 by omega, goR, if_neg he] at h
  exact h.symm

theorem goR_end {α : Type} {p : List Int → Res α} {zs : List Int} {k n d : Nat} {acc : List α} {X : Res (List α)} (h : goR p zs (n - k) d acc = X) (hk : n ≤ k) : X = ⟨acc, d, 0⟩ := by
  rw [show n - k = 0 by omega, goR] at h
  exact h.symm

theorem Behind.row {w : World} {b o : Nat} {r : Option Addr} {lr cr : Nat} {zs : List Int} {d : Nat} {er : Int} (h : Behind w (some ⟨b, o, none⟩) r lr cr zs d er) (he : er = 0) : d ≤ zs.length ∧ ∃ off, r = some ⟨b, off, none⟩ ∧ BRow w b off lr cr (zs.drop d) := by
  rcases h with ⟨h, _⟩ | ⟨_, h1, _, h2⟩
  · exact absurd he h
  · obtain ⟨b', o', off, ha, hr, _, hR⟩ := h2
    cases ha
    exact ⟨h1, off, hr, hR⟩

theorem getText_r {w : World} {a : Option Addr} {len cap : Nat} {zs : List Int} (h : IsB w a len cap zs) (hsm : len ≤ 140737488351232) {X : Res ByteArray} (hX : X = textR zs) :
    Calls Tryd.prog 71 #[.slice a len cap] w fun e w' => ∃ r lr cr, e = .returned (.tuple #[.string X.val, .slice r lr cr, .int .i64 X.err]) ∧ Hid (Behind w' a r lr cr zs X.done X.err) ∧ Below w.heap.size w w' := by
  subst hX; exact getText_any h hsm

/-- Blocks that are new since base. -/
def New (base : Nat) (w : World) : Nat → Prop := fun k => base ≤ k ∧ k < w.heap.size

/-- The contract of getType, so many deep. -/
def GetsTy (f : Nat) : Prop := ∀ (w : World) (a : Option Addr) (len cap : Nat) (zs : List Int), IsB w a len cap zs → Tab w → len ≤ 140737488351232 → ∀ X : Res Ty, X = tyR f zs → ∀ p : Int, p = 21 - f →
  Calls Tryd.prog 85 #[.slice a len cap, .int .i64 p] w fun e w' => ∃ r lr cr na nl nc ka kl kc, e = .returned (.tuple #[.agg #[.int .u16 X.val.id, .string X.val.space, .string X.val.name, .slice na nl nc, .slice ka kl kc], .slice r lr cr, .int .i64 X.err]) ∧
    Hid (TyAt (f - 1) (New w.heap.size w') w' X.val na nl nc ka kl kc) ∧ Hid (Behind w' a r lr cr zs X.done X.err) ∧ Below w.heap.size w w'

theorem tyAt_nil (n : Nat) (F : Nat → Prop) (w : World) : TyAt n F w tyNil none 0 0 none 0 0 :=
  ⟨⟨by decide, by decide⟩, by unfold maxLen; show 0 ≤ _; omega, by unfold maxLen; show 0 ≤ _; omega, sees_nil _ _ _ _, sees_nil _ _ _ _⟩

theorem TyAt.vt {n : Nat} {F : Nat → Prop} {w : World} {t : Ty} {na : Option Addr} {nl nc : Nat} {ka : Option Addr} {kl kc : Nat} (h : TyAt n F w t na nl nc ka kl kc) : VT (n + 1) F w t (fun j => [Value.int .u16 t.id, .string t.space, .string t.name, .slice na nl nc, .slice ka kl kc].getD j default) :=
  ⟨na, nl, nc, ka, kl, kc, rfl, rfl, rfl, rfl, rfl, h⟩

theorem five_one (a : Int) (b c : ByteArray) (na : Option Addr) (nl nc : Nat) (ka : Option Addr) (kl kc : Nat) : ∀ y ∈ [Value.int .u16 a, .string b, .string c, .slice na nl nc, .slice ka kl kc], y.oneCell' = true := by
  intro y hy
  simp at hy
  rcases hy with rfl | rfl | rfl | rfl | rfl <;> rfl

theorem two_new (w : World) (o : Obj) (c : Array Value) (ty : TypeId) : ((w.alloc o).alloc (.cells c ty)).heap[w.heap.size + 1]? = some (.cells c ty (0, 0)) := by
  have := heap_alloc_new (w.alloc o) (.cells c ty)
  rw [World.size_alloc] at this
  exact this

theorem OwnK.mono {n : Nat} {w : World} {base base' : Nat} {v u : Value} {xs : List Ty} (h : OwnK n w base v u xs) (hb : base' ≤ base) : OwnK n w base' v u xs := by
  obtain ⟨hsep, cs, ho, hc⟩ := h
  refine ⟨hsep, cs, ⟨ho.1, ?_⟩, fun i x hx => VT.mono (fun k hk hF => ⟨⟨Nat.le_trans hb hF.1, hF.2⟩, rfl⟩) (Nat.le_refl _) (hc i x hx)⟩
  rcases ho.2 with h2 | ⟨g, cap, cur, hv, hg, r⟩
  · exact .inl h2
  · exact .inr ⟨g, cap, cur, hv, Nat.le_trans hb hg, r⟩

theorem BRow.len_le {w : World} {b off len cap : Nat} {zs : List Int} (h : BRow w b off len cap zs) : len = zs.length := h.len_eq.symm

set_option maxHeartbeats 1000000 in
theorem getKids_any (f : Nat) (hf : f ≤ 20) (ih : GetsTy f) {w : World} {b off len cap : Nat} {zs : List Int} (h : BRow w b off len cap zs) (hb : b < w.heap.size) (hT : Tab w) (hsm : len ≤ 140737488351232) (N d0 : Nat) (hN : N < 65536)
    {ys : List Int} (hys : zs = ys.drop d0) {Y : Res (List Ty)} (hY : Y = goR (tyR f) ys N d0 []) (q p : Int) (hq : q = N) (hp : p = 21 - f) (hyl : d0 + zs.length = ys.length) :
    Calls Tryd.prog 90 #[.slice (some ⟨b, off, none⟩) len cap, .int .u64 q, .int .i64 p] w fun e w' => ∃ v r lr cr, e = .returned (.tuple #[v, .slice r lr cr, .int .i64 Y.err]) ∧
      Hid (OwnK f w' w.heap.size v (.slice none 0 0) Y.val) ∧ Hid ((Y.err ≠ 0 ∧ lr = 0) ∨ (Y.err = 0 ∧ Y.done ≤ ys.length ∧ ∃ o, r = some ⟨b, o, none⟩ ∧ BRow w' b o lr cr (ys.drop Y.done))) ∧ Below w.heap.size w w' := by
  have hz := h.len_eq
  have HL : Hid (Y = goR (tyR f) ys N d0 []) := hY
  have H : Hid (BRow w b off len cap (ys.drop d0)) := hys ▸ h
  have HYL : Hid (ys.length ≤ d0 + 140737488351232) := by show _ ≤ _; omega
  have HD0 : Hid (d0 ≤ ys.length) := by show _ ≤ _; omega
  have HT : Hid (Tab w) := hT
  have IH : Hid (GetsTy f) := ih
  have HP : Hid _ := hp
  subst hq
  clear h hz hY hys hT ih hyl hp
  go_enter Tryd.func90, Tryd.ntmps90
  go_wp2_with fail
  go_loopw [9, 10, 16] (fun l r i wr => ∃ k d off lr cr acc, k ≤ N ∧ i = .int .u64 k ∧ r = .slice (some ⟨b, off, none⟩) lr cr ∧ Hid (BRow wr b off lr cr (ys.drop d)) ∧ Hid (d0 ≤ d ∧ d ≤ ys.length) ∧ Hid (OwnK f wr w.heap.size l (.slice none 0 0) acc) ∧ acc.length = k ∧
      Hid (goR (tyR f) ys (N - k) d acc = Y) ∧ Below w.heap.size w wr) (fun _ _ i _ => N - (intOf i).toNat)
  case atStart => exact ⟨0, d0, off, _, _, [], by omega, rfl, rfl, H, ⟨Nat.le_refl _, HD0.out⟩, ownK_nil _ _ _ _, rfl, HL.out.symm, Below.refl _ _⟩
  case round =>
    obtain ⟨k, d, off', lr, cr, acc, hk, rfl, rfl, HR, HD, HO, hacc, HG, hB⟩ := hrel
    by_cases hlt : k < N
    · have HLR : Hid (lr ≤ 140737488351232) := by
        show _ ≤ _
        have := HYL.out
        have := HD.out.1
        rw [HR.out.len_le, List.length_drop]; omega
      obtain ⟨X, hX⟩ : ∃ X, X = tyR f (ys.drop d) := ⟨_, rfl⟩
      have HX : Hid _ := hX
      clear hX
      go_wp2_with fail
      refine (IH.out wr _ lr cr _ HR.out.isB (HT.out.old hB) HLR.out X HX.out _ HP.out).mono ?_
      rintro e w2 ⟨r2, lr2, cr2, na, nl, nc, ka, kl, kc, rfl, HTY, HB2, hB2⟩
      have hbs := hB.size
      have hbs2 := hB2.size
      by_cases he : X.err = 0
      · obtain ⟨hd2, off2, rfl, hR2⟩ := HB2.out.row he
        rw [List.drop_drop] at hR2
        rw [List.length_drop] at hd2
        have HD2 : Hid (d0 ≤ d + X.done ∧ d + X.done ≤ ys.length) := by
          have := HD.out
          exact ⟨by omega, by omega⟩
        have HG2 : Hid (goR (tyR f) ys (N - (k + 1)) (d + X.done) (acc ++ [X.val]) = Y) := by
          have := goR_step HG.out hlt (by rw [← HX.out]; exact he)
          rw [← HX.out] at this
          exact this
        obtain ⟨f', hf'⟩ : ∃ f', f = f' + 1 := by
          cases f with
          | zero => rw [HX.out] at he; exact absurd (show (13 : Int) = 0 from he) (by decide)
          | succ f' => exact ⟨f', rfl⟩
        have HF' : Hid _ := hf'
        clear hf'
        have HR2 : Hid (BRow w2 b off2 lr2 cr2 (ys.drop (d + X.done))) := hR2
        clear hR2 hd2
        rw [he]
        go_wp2_with (at_builtin; refine wpList_append_kid (n := f) (base := w.heap.size) (xs := acc) (u := .slice none 0 0) (news := [.int .u16 X.val.id, .string X.val.space, .string X.val.name, .slice na nl nc, .slice ka kl kc]) rfl (.tmp 28) (.tmp 30) rfl rfl ?c0 rfl (two_new _ _ _ _) rfl (five_one _ _ _ _ _ _ _ _ _) X.val ?c2 ?c3 ?c4 ?c5 ?_)
        case c0 => exact (HO.out.old hB2).old ((below_one _ _).alloc (by simp) _)
        case c2 =>
          have h1 := (HF'.out ▸ HTY.out : TyAt (f' + 1 - 1) (New wr.heap.size w2) w2 X.val na nl nc ka kl kc).vt
          rw [Nat.add_sub_cancel, ← HF'.out] at h1
          refine VT.mono (fun j hj hF => ?_) (by simp; omega) h1
          have h2 : u9.ownBlock ≠ some j := fun e => by
            have := (HO.out.lt j e).2
            have := hF.1
            omega
          have h3 : w.heap.size ≤ j := by have := hF.1; omega
          exact ⟨⟨h3, by simp; omega, h2, fun e => by simp [Value.ownBlock] at e⟩, ((below_one w2 _).alloc (by simp) _).block j hj⟩
        case c3 => intro j hj; simp [Value.ownBlock] at hj
        case c4 => omega
        case c5 => simp; omega
        intro v3 w3 HO3 HG3 HM3
        have hB3 : Below w.heap.size w w3 := ((hB.trans (hB2.mono hbs)).trans (((below_one w2 _).alloc (by simp) _).mono (by omega))).grown HG3.out (by simp; omega) (fun j hj => (HO.out.lt j hj).1)
        have HR3 : Hid (BRow w3 b off2 lr2 cr2 (ys.drop (d + X.done))) := by
          refine (HR2.out.old ((below_one w2 _).alloc (by simp) _)).below (base := w.heap.size) ((Below.refl _ _).grown HG3.out (by simp; omega) (fun j hj => (HO.out.lt j hj).1)) (fun _ => hb)
        go_wp2_with fail
        go_roundw
        case rel => exact ⟨k + 1, d + X.done, off2, lr2, cr2, acc ++ [X.val], by omega, by go_num, rfl, HR3, HD2, HO3, by simp [hacc], HG2, hB3⟩
        case measure => simp [intOf]; omega
      · have t : (X.err == 0) = false := by simpa using he
        have HE := goR_stop HG.out hlt (by rw [← HX.out]; exact he)
        have HHE : Hid _ := HE
        have HE2 : Hid _ := he
        clear HE he
        go_wp2_with fail
        go_ret3
        exact ⟨.slice none 0 0, none, 0, 0, by rw [HHE.out, ← HX.out]; rfl, by rw [HHE.out]; exact ownK_nil _ _ _ _, by rw [HHE.out, ← HX.out]; exact .inl ⟨HE2.out, rfl⟩, (hB.trans (hB2.mono hbs)).trans ((below_one w2 _).mono (by omega))⟩
    · have HE := goR_end HG.out (by omega)
      have HHE : Hid _ := HE
      clear HE
      go_wp2_with fail
      go_ret3
      exact ⟨_, _, _, _, by rw [HHE.out]; rfl, by rw [HHE.out]; exact HO, by rw [HHE.out]; exact .inr ⟨rfl, HD.out.2, off', rfl, HR.out⟩, hB⟩

set_option maxHeartbeats 1000000 in
theorem getTuple_any (f : Nat) (hf : f ≤ 20) (ih : GetsTy f) {w : World} {b off len cap : Nat} {zs : List Int} (h : BRow w b off len cap zs) (hb : b < w.heap.size) (hT : Tab w) (hsm : len ≤ 140737488351232) {Y : Res (List Ty)} (hY : Y = tupleR (tyR f) zs) (p : Int) (hp : p = 20 - f) :
    Calls Tryd.prog 92 #[.slice (some ⟨b, off, none⟩) len cap, .int .i64 p] w fun e w' => ∃ v r lr cr, e = .returned (.tuple #[v, .slice r lr cr, .int .i64 Y.err]) ∧
      Hid (OwnK f w' w.heap.size v (.slice none 0 0) Y.val) ∧ Hid ((Y.err ≠ 0 ∧ lr = 0) ∨ (Y.err = 0 ∧ Y.done ≤ zs.length ∧ ∃ o, r = some ⟨b, o, none⟩ ∧ BRow w' b o lr cr (zs.drop Y.done))) ∧ Below w.heap.size w w' := by
  have hz := h.len_eq
  have hp1 : 0 ≤ p := by omega
  have hp2 : p ≤ 20 := by omega
  have HP : Hid (p + 1 = 21 - f) := by show _ = _; omega
  by_cases hl : len < 2
  · have hY2 : Y = ⟨[], 0, 10⟩ := by rw [hY, tupleR, if_pos (by omega)]
    subst hY2
    clear hY h hz hT hp
    go_enter Tryd.func92, Tryd.ntmps92
    go_wp2_with fail
    refine (bget_short _ len cap 2 _ (by omega) (by omega) hl _ rfl).mono ?_
    rintro e w1 ⟨rfl, rfl⟩
    go_wp2_with fail
    go_ret3
    exact ⟨_, _, _, _, rfl, ownK_nil _ _ _ _, .inl ⟨(by decide : (10 : Int) ≠ 0), rfl⟩, Below.refl _ _⟩
  · obtain ⟨N, hN⟩ := Int.eq_ofNat_of_zero_le (numTo_bound zs h.rng 2 (by omega)).1
    have hN2 := (numTo_bound zs h.rng 2 (by omega)).2
    rw [hN] at hN2
    have hN3 : N < 65536 := by have h4 : (256 : Int) ^ 2 = 65536 := by decide
                               omega
    have HY : Hid (Y = goR (tyR f) zs N 2 []) := by
      show _ = _
      rw [hY, tupleR, if_neg (by omega), hN, Int.toNat_natCast]
    have H : Hid (BRow w b off len cap zs) := h
    have HN : Hid (numTo zs 2 = N) := hN
    have HZ : Hid (zs.length = len) := hz
    have HT : Hid (Tab w) := hT
    clear h hN hN2 hz hY hT hp
    go_enter Tryd.func92, Tryd.ntmps92
    go_wp2_with fail
    refine (bget H.out 2 (by omega) (by omega) (by omega) _ rfl).mono ?_
    rintro e w1 ⟨off1, rfl, hR1, hB1⟩
    rw [HN.out]
    have HR1 : Hid (BRow _ _ _ _ _ _) := hR1
    have hbs := hB1.size
    clear hR1
    go_wp2_with fail
    refine (getKids_any f hf ih HR1.out (by omega) (HT.out.old hB1) (by omega) N 2 hN3 rfl HY.out _ _ rfl HP.out (by have := HZ.out; have := HR1.out.len_eq; omega)).mono ?_
    rintro e w2 ⟨v, r, lr, cr, rfl, HO, HBh, hB2⟩
    go_wp2_with fail
    go_ret3
    exact ⟨v, r, lr, cr, rfl, HO.out.mono hbs, HBh, hB1.trans (hB2.mono hbs)⟩
end Go.Proofs.YtnapeecmlkkolaaDoor

namespace Go.Proofs.YtnapeecmlkkolaaDoor
open Go.RowKit
set_option linter.unusedVariables false
set_option linter.unusedSimpArgs false

theorem bcell {W w1 : World} (hb : Below W.heap.size W w1) : (∀ b o, b < W.heap.size → w1.cell? ⟨b, o, none⟩ = W.cell? ⟨b, o, none⟩) ∧ (∀ b o, b < W.heap.size → w1.frozen? ⟨b, o, none⟩ = W.frozen? ⟨b, o, none⟩) :=
  ⟨fun b o h => hb.cell (p := ⟨b, o, none⟩) h, fun b o h => hb.frozen (p := ⟨b, o, none⟩) h⟩

/-- Five cells of one block are written. -/
def five (w : World) (s : Nat) (a b c d e : Value) : World := ((((w.setCell ⟨s, 0, none⟩ a).setCell ⟨s, 1, none⟩ b).setCell ⟨s, 2, none⟩ c).setCell ⟨s, 3, none⟩ d).setCell ⟨s, 4, none⟩ e

theorem below_five (w : World) (s : Nat) (a b c d e : Value) : Below s w (five w s a b c d e) :=
  (((((Below.refl s w).setCell (p := ⟨s, 0, none⟩) (Nat.le_refl _) a).setCell (p := ⟨s, 1, none⟩) (Nat.le_refl _) b).setCell (p := ⟨s, 2, none⟩) (Nat.le_refl _) c).setCell (p := ⟨s, 3, none⟩) (Nat.le_refl _) d).setCell (p := ⟨s, 4, none⟩) (Nat.le_refl _) e

theorem five_heap (w : World) (s : Nat) (a b c d e : Value) (k : Nat) (h : k ≠ s) : (five w s a b c d e).heap[k]? = w.heap[k]? := by
  unfold five
  rw [Below.heap_setCell _ _ _ _ (by exact h), Below.heap_setCell _ _ _ _ (by exact h), Below.heap_setCell _ _ _ _ (by exact h), Below.heap_setCell _ _ _ _ (by exact h), Below.heap_setCell _ _ _ _ (by exact h)]
theorem five_size (w : World) (s : Nat) (a b c d e : Value) : (five w s a b c d e).heap.size = w.heap.size := by simp [five]

/-- What is left: nothing at an error, else the bytes from a place on. -/
def Rest (w : World) (b : Nat) (r : Option Addr) (lr cr : Nat) (zs : List Int) (d : Nat) (er : Int) : Prop :=
  (er ≠ 0 ∧ lr = 0) ∨ (er = 0 ∧ d ≤ zs.length ∧ ∃ o, r = some ⟨b, o, none⟩ ∧ BRow w b o lr cr (zs.drop d))

theorem textR_size (zs : List Int) (h : zs.length ≤ maxLen) : (textR zs).val.size ≤ maxLen := by
  rw [textR, strOfNums_size]
  unfold textA
  split
  · simp
  · split
    · simp
    · simp only [List.length_take, List.length_drop]; omega

/-- The box of a Udt that is being got. -/
structure OBox (w : World) (ob : Nat) (sp nm : ByteArray) (vn vk : Value) : Prop where
  c0 : w.cell? ⟨ob, 0, none⟩ = some (.int .u16 48)
  c1 : w.cell? ⟨ob, 1, none⟩ = some (.string sp)
  c2 : w.cell? ⟨ob, 2, none⟩ = some (.string nm)
  c3 : w.cell? ⟨ob, 3, none⟩ = some vn
  c4 : w.cell? ⟨ob, 4, none⟩ = some vk
  f3 : w.frozen? ⟨ob, 3, none⟩ = false
  f4 : w.frozen? ⟨ob, 4, none⟩ = false
  lt : ob < w.heap.size

theorem OBox.keep {w W : World} {ob : Nat} {sp nm : ByteArray} {vn vk : Value} (h : OBox w ob sp nm vn vk) (hk : W.heap[ob]? = w.heap[ob]?) (hs : w.heap.size ≤ W.heap.size) : OBox W ob sp nm vn vk := by
  have hc : ∀ j, W.cell? ⟨ob, j, none⟩ = w.cell? ⟨ob, j, none⟩ := fun j => World.cell?_of_block (w := w) (w' := W) (a := ⟨ob, j, none⟩) hk
  have hf : ∀ j, W.frozen? ⟨ob, j, none⟩ = w.frozen? ⟨ob, j, none⟩ := fun j => World.frozen?_of_block (w := w) (w' := W) (a := ⟨ob, j, none⟩) hk
  exact ⟨(hc 0).trans h.c0, (hc 1).trans h.c1, (hc 2).trans h.c2, (hc 3).trans h.c3, (hc 4).trans h.c4, (hf 3).trans h.f3, (hf 4).trans h.f4, Nat.lt_of_lt_of_le h.lt hs⟩

theorem OBox.set3 {w : World} {ob : Nat} {sp nm : ByteArray} {vn vk : Value} (h : OBox w ob sp nm vn vk) (v : Value) : OBox (w.setCell ⟨ob, 3, none⟩ v) ob sp nm v vk := by
  refine ⟨?_, ?_, ?_, World.cell?_setCell_same _ _ _ h.c3, ?_, ?_, ?_, by simpa using h.lt⟩
  · rw [World.cell?_setCell_other _ _ _ _ (by intro e; cases e)]; exact h.c0
  · rw [World.cell?_setCell_other _ _ _ _ (by intro e; cases e)]; exact h.c1
  · rw [World.cell?_setCell_other _ _ _ _ (by intro e; cases e)]; exact h.c2
  · rw [World.cell?_setCell_other _ _ _ _ (by intro e; cases e)]; exact h.c4
  · rw [World.frozen?_setCell]; exact h.f3
  · rw [World.frozen?_setCell]; exact h.f4

theorem OBox.set4 {w : World} {ob : Nat} {sp nm : ByteArray} {vn vk : Value} (h : OBox w ob sp nm vn vk) (v : Value) : OBox (w.setCell ⟨ob, 4, none⟩ v) ob sp nm vn v := by
  refine ⟨?_, ?_, ?_, ?_, World.cell?_setCell_same _ _ _ h.c4, ?_, ?_, by simpa using h.lt⟩
  · rw [World.cell?_setCell_other _ _ _ _ (by intro e; cases e)]; exact h.c0
  · rw [World.cell?_setCell_other _ _ _ _ (by intro e; cases e)]; exact h.c1
  · rw [World.cell?_setCell_other _ _ _ _ (by intro e; cases e)]; exact h.c2
  · rw [World.cell?_setCell_other _ _ _ _ (by intro e; cases e)]; exact h.c3
  · rw [World.frozen?_setCell]; exact h.f3
  · rw [World.frozen?_setCell]; exact h.f4

theorem OBox.start (w : World) (sp nm : ByteArray) : OBox (w.alloc (.cells #[.int .u16 48, .string sp, .string nm, .slice none 0 0, .slice none 0 0] 62)) w.heap.size sp nm (.slice none 0 0) (.slice none 0 0) := by
  refine ⟨cell_box _ _ _ _ _ rfl, cell_box _ _ _ _ _ rfl, cell_box _ _ _ _ _ rfl, cell_box _ _ _ _ _ rfl, cell_box _ _ _ _ _ rfl, ?_, ?_, by simp⟩
  · simp [go_sem]
  · simp [go_sem]

abbrev zeroOb : Obj := .cells #[.int .u16 0, .string ⟨#[]⟩, .string ⟨#[]⟩, .slice none 0 0, .slice none 0 0] 62

set_option maxHeartbeats 4000000 in
theorem getUdt_any (f : Nat) (hf20 : f ≤ 19) (ih : GetsTy f) {w : World} {b off len cap : Nat} {zs : List Int} (h : BRow w b off len cap zs) (hb : b < w.heap.size) (hT : Tab w) (hsm : len ≤ 140737488351232) {Y : Res Ty} (hY : Y = udtR (tyR f) zs) (p : Int) (hp : p = 20 - f) :
    Calls Tryd.prog 91 #[.slice (some ⟨b, off, none⟩) len cap, .int .i64 p] w fun e w' => ∃ r lr cr na nl nc ka kl kc, e = .returned (.tuple #[.agg #[.int .u16 Y.val.id, .string Y.val.space, .string Y.val.name, .slice na nl nc, .slice ka kl kc], .slice r lr cr, .int .i64 Y.err]) ∧
      Hid (TyAt f (New w.heap.size w') w' Y.val na nl nc ka kl kc) ∧ Hid (Rest w' b r lr cr zs Y.done Y.err) ∧ Below w.heap.size w w' := by
  have hz := h.len_eq
  have hp1 : 0 ≤ p := by omega
  have hp2 : p ≤ 20 := by omega
  have HP : Hid (p + 1 = 21 - f) := by show _ = _; omega
  have HLM : Hid (zs.length ≤ 140737488351232) := by show _ ≤ _; omega
  have H : Hid (BRow w b off len cap zs) := h
  have HT : Hid (Tab w) := hT
  have IH : Hid (GetsTy f) := ih
  obtain ⟨A, hA⟩ : ∃ A, A = textR zs := ⟨_, rfl⟩
  obtain ⟨C, hC⟩ : ∃ C, C = textR (zs.drop A.done) := ⟨_, rfl⟩
  rw [udtR, ← hA, ← hC] at hY
  have HY : Hid _ := hY
  have HA : Hid _ := hA
  have HC : Hid _ := hC
  clear h hz hT hp hY hA hC ih
  go_enter Tryd.func91, Tryd.ntmps91
  go_wp2_with fail
  refine (getText_r (H.out.old (below_one _ _)).isB hsm HA.out).mono ?_
  rintro e w1 ⟨r1, lr1, cr1, rfl, HB1, hB1⟩
  by_cases he1 : A.err = 0
  · obtain ⟨hd1, off1, rfl, hR1⟩ := HB1.out.row he1
    have HR1 : Hid (BRow w1 b off1 lr1 cr1 (zs.drop A.done)) := hR1
    have HD1 : Hid _ := hd1
    have HL1 : Hid (lr1 ≤ 140737488351232) := by show _ ≤ _; have := HLM.out; rw [hR1.len_le, List.length_drop]; omega
    clear hR1 hd1
    rw [he1]
    go_wp2_with fail
    refine (getText_r HR1.out.isB HL1.out HC.out).mono ?_
    rintro e w2 ⟨r2, lr2, cr2, rfl, HB2, hB2a⟩
    have hB2 := hB1.trans (hB2a.mono hB1.size)
    by_cases he2 : C.err = 0
    · obtain ⟨hd2, off2, rfl, hR2⟩ := HB2.out.row he2
      rw [List.drop_drop] at hR2
      rw [List.length_drop] at hd2
      obtain ⟨D, hD⟩ : ∃ D, D = A.done + C.done := ⟨_, rfl⟩
      rw [← hD] at hR2
      have HR2 : Hid (BRow w2 b off2 lr2 cr2 (zs.drop D)) := hR2
      have HD : Hid _ := hD
      have HDL : Hid (D ≤ zs.length) := by show _ ≤ _; have := HD1.out; omega
      have HLL : Hid (lr2 = (zs.drop D).length) := hR2.len_le
      clear hR2 hd2 hD
      by_cases hl3 : lr2 < 2
      · have HE : Hid (Y = ⟨tyNil, 0, 10⟩) := by
          show _ = _
          rw [HY.out, if_pos he1, if_pos he2, ← HD.out, if_pos (by rw [← HLL.out]; exact hl3)]
        have HNE : Hid ((10 : Int) ≠ 0) := (by decide : (10 : Int) ≠ 0)
        rw [he2]
        go_wp2_with fail
        refine (bget_short _ lr2 cr2 2 _ (by omega) (by omega) hl3 _ rfl).mono ?_
        rintro e w3 ⟨rfl, rfl⟩
        obtain ⟨hc, hf⟩ := bcell hB2
        have hs : w.heap.size < w3.heap.size := by have := hB2.size; simp at this; omega
        go_wp2_with fail
        exact bodyPost_ret (v := .tuple #[.agg #[.int .u16 0, .string ⟨#[]⟩, .string ⟨#[]⟩, .slice none 0 0, .slice none 0 0], .slice none 0 0, .int .i64 10]) (by simp [results, Tryd.results91, go_sem, hc, hs]) rfl
          ⟨none, 0, 0, none, 0, 0, none, 0, 0, by rw [HE.out]; rfl, by rw [HE.out]; exact tyAt_nil _ _ _, by rw [HE.out]; exact .inl ⟨HNE.out, rfl⟩, ((below_one w _).trans (hB2.mono (by simp))).trans ((below_five _ _ _ _ _ _ _).mono (Nat.le_refl _))⟩
      · obtain ⟨N, hN⟩ := Int.eq_ofNat_of_zero_le (numTo_bound (zs.drop D) HR2.out.rng 2 (by have := HLL.out; omega)).1
        have hN2 := (numTo_bound (zs.drop D) HR2.out.rng 2 (by have := HLL.out; omega)).2
        rw [hN] at hN2
        have hN3 : N < 65536 := by have h4 : (256 : Int) ^ 2 = 65536 := by decide
                                   omega
        obtain ⟨G, hG⟩ : ∃ G, G = goR (fieldR (tyR f)) zs N (D + 2) [] := ⟨_, rfl⟩
        have HY2 : Hid (Y = if G.err = 0 then ⟨⟨48, A.val, C.val, G.val.map (·.1), G.val.map (·.2)⟩, G.done, 0⟩ else ⟨tyNil, 0, G.err⟩) := by
          show _ = _
          rw [HY.out, if_pos he1, if_pos he2, ← HD.out, if_neg (by rw [← HLL.out]; exact hl3), hG]
          simp only [hN, Int.toNat_natCast]
        have HG : Hid _ := hG
        have HN : Hid (numTo (zs.drop D) 2 = N) := hN
        have HSZ : Hid (A.val.size ≤ maxLen ∧ C.val.size ≤ maxLen) := by
          have := HLM.out
          exact ⟨by rw [HA.out]; exact textR_size _ (by unfold maxLen; omega), by rw [HC.out]; exact textR_size _ (by unfold maxLen; rw [List.length_drop]; omega)⟩
        clear hN hN2 hG
        rw [he2]
        go_wp2_with fail
        refine (bget HR2.out 2 (by omega) (by omega) (by omega) _ rfl).mono ?_
        rintro e w3 ⟨off3, rfl, hR3, hB3a⟩
        have hB3 := hB2.trans (hB3a.mono hB2.size)
        rw [List.drop_drop] at hR3
        rw [HN.out]
        have HR3 : Hid (BRow w3 b off3 (lr2 - 2) (cr2 - 2) (zs.drop (D + 2))) := hR3
        have hs3 : w.heap.size < w3.heap.size := by have := hB3.size; simp at this; omega
        have HT3 : Hid (Tab w3) := HT.out.old ((below_one w _).trans (hB3.mono (by simp)))
        have HB3 : Hid (Below (w.alloc zeroOb).heap.size (w.alloc zeroOb) w3) := hB3
        clear hR3 hB3a hB1 hB2 hB2a
        go_wp2_with fail
        go_loopw [8, 49] (fun r i wr => ∃ k d off lr cr ns ks vn vk, k ≤ N ∧ i = .int .u64 k ∧ r = .slice (some ⟨b, off, none⟩) lr cr ∧ Hid (BRow wr b off lr cr (zs.drop d)) ∧ Hid (d ≤ zs.length) ∧ Hid (OBox wr w3.heap.size A.val C.val vn vk) ∧
            Hid (OwnS wr (w3.heap.size + 1) vn vk ns) ∧ Hid (OwnK f wr (w3.heap.size + 1) vk vn ks) ∧ ns.length = k ∧ ks.length = k ∧ Hid (goR (fieldR (tyR f)) zs (N - k) d (ns.zip ks) = G) ∧ Below w3.heap.size w3 wr ∧ w3.heap.size + 1 ≤ wr.heap.size) (fun _ i _ => N - (intOf i).toNat)
        case atStart => exact ⟨0, D + 2, off3, _, _, [], [], _, _, by omega, rfl, rfl, HR3.out.old (below_one _ _), (by have := HLL.out; rw [List.length_drop] at this; show _ ≤ _; omega), OBox.start _ _ _, ownS_nil _ _ _, ownK_nil _ _ _ _, rfl, rfl, HG.out.symm, below_one _ _, by simp⟩
        case round =>
          obtain ⟨k, d, off', lr, cr, ns, ks, vn, vk, hk, rfl, rfl, HR, HDd, HOB, HOS, HOK, hns, hks, HGO, hBr, hsr⟩ := hrel
          have hbw : b < w3.heap.size := by omega
          by_cases hlt : k < N
          · obtain ⟨X, hX⟩ : ∃ X, X = textR (zs.drop d) := ⟨_, rfl⟩
            obtain ⟨Z, hZ⟩ : ∃ Z, Z = tyR f (zs.drop (d + X.done)) := ⟨_, rfl⟩
            have HX : Hid _ := hX
            have HZ : Hid _ := hZ
            have HFR : Hid (fieldR (tyR f) (zs.drop d) = if X.err = 0 then if Z.err = 0 then ⟨(X.val, Z.val), X.done + Z.done, 0⟩ else ⟨(ByteArray.empty, tyNil), 0, Z.err⟩ else ⟨(ByteArray.empty, tyNil), 0, X.err⟩) := by
              show _ = _
              rw [fieldR, ← hX, List.drop_drop, ← hZ]
            have HLR : Hid (lr ≤ 140737488351232) := by show _ ≤ _; have := HLM.out; rw [HR.out.len_le, List.length_drop]; omega
            have HXS : Hid (X.val.size ≤ maxLen) := by show _ ≤ _; have := HLM.out; rw [hX]; exact textR_size _ (by unfold maxLen; rw [List.length_drop]; omega)
            clear hX hZ
            go_wp2_with fail
            refine (getText_r HR.out.isB HLR.out HX.out).mono ?_
            rintro e w4 ⟨r4, lr4, cr4, rfl, HB4, hB4⟩
            have hB34 : Below w3.heap.size w3 w4 := hBr.trans (hB4.mono hBr.size)
            by_cases he4 : X.err = 0
            · obtain ⟨hd4, off4, rfl, hR4⟩ := HB4.out.row he4
              rw [List.drop_drop] at hR4
              rw [List.length_drop] at hd4
              have HD4 : Hid (d + X.done ≤ zs.length) := by show _ ≤ _; have := HDd.out; omega
              have HR4 : Hid (BRow w4 b off4 lr4 cr4 (zs.drop (d + X.done))) := hR4
              have HLR4 : Hid (lr4 ≤ 140737488351232) := by show _ ≤ _; have := HLM.out; rw [hR4.len_le, List.length_drop]; omega
              have hbs4 := hB4.size
              have h34 : w3.heap.size < w4.heap.size := by omega
              clear hR4 hd4
              rw [he4]
              go_wp2_with fail
              refine (IH.out _ _ lr4 cr4 _ (HR4.out.old (below_one _ _)).isB ((HT3.out.old hB34).old (below_one _ _)) HLR4.out Z HZ.out _ HP.out).mono ?_
              rintro e w5 ⟨r5, lr5, cr5, na, nl, nc, ka, kl, kc, rfl, HTY, HB5, hB5⟩
              have hs5 := hB5.size
              simp at hs5
              obtain ⟨hc5, hf5⟩ := bcell hB5
              have hs45 : w4.heap.size < w5.heap.size := by omega
              have hB45 : Below w4.heap.size w4 w5 := (below_one w4 _).trans (hB5.mono (by simp))
              have hBr5 : Below wr.heap.size wr w5 := hB4.trans (hB45.mono hbs4)
              by_cases he5 : Z.err = 0
              · obtain ⟨hd5, off5, rfl, hR5⟩ := HB5.out.row he5
                rw [List.drop_drop] at hR5
                rw [List.length_drop] at hd5
                have HD5 : Hid (d + X.done + Z.done ≤ zs.length) := by show _ ≤ _; have := HD4.out; omega
                have HR5 : Hid (BRow w5 b off5 lr5 cr5 (zs.drop (d + X.done + Z.done))) := hR5
                have HGO2 : Hid (goR (fieldR (tyR f)) zs (N - (k + 1)) (d + (X.done + Z.done)) (ns.zip ks ++ [(X.val, Z.val)]) = G) := by
                  have hfr := HFR.out
                  rw [if_pos he4, if_pos he5] at hfr
                  have := goR_step HGO.out hlt (by rw [hfr])
                  rw [hfr] at this
                  exact this
                obtain ⟨f', hf'⟩ : ∃ f', f = f' + 1 := by
                  cases f with
                  | zero => rw [HZ.out] at he5; exact absurd (show (13 : Int) = 0 from he5) (by decide)
                  | succ f' => exact ⟨f', rfl⟩
                have HF' : Hid _ := hf'
                clear hf' hR5 hd5
                -- the world with the kid in its box
                obtain ⟨w6, hw6⟩ : ∃ w6, w6 = five w5 w4.heap.size (.int .u16 Z.val.id) (.string Z.val.space) (.string Z.val.name) (.slice na nl nc) (.slice ka kl kc) := ⟨_, rfl⟩
                have hbl : ∀ q, q ≠ w4.heap.size → w6.heap[q]? = w5.heap[q]? := fun q hq => by rw [hw6]; exact five_heap _ _ _ _ _ _ _ q hq
                have hsz6 : w6.heap.size = w5.heap.size := by rw [hw6]; exact five_size _ _ _ _ _ _ _
                have HW6 : Hid _ := hw6
                have HBL : Hid _ := hbl
                have hob := HOB.out.lt
                have HOB6 : Hid (OBox w6 w3.heap.size A.val C.val vn vk) := HOB.out.keep (by rw [hbl _ (by omega)]; exact hBr5.block _ hob) (by rw [hsz6]; exact hBr5.size)
                have HOS6 : Hid (OwnS w6 (w3.heap.size + 1) vn vk ns) := HOS.out.keep (fun q _ hq _ => by rw [hbl _ (by omega)]; exact hBr5.block q hq) (fun _ _ e => e)
                have HOK6 : Hid (OwnK f w6 (w3.heap.size + 1) vk vn ks) := HOK.out.keep (fun q _ hq _ => by rw [hbl _ (by omega)]; exact hBr5.block q hq) (by rw [hsz6]; exact hBr5.size) (fun _ _ e => e)
                have hB36 : Below w3.heap.size w3 w6 := (hB34.trans (hB45.mono hB34.size)).trans (by rw [hw6]; exact (below_five _ _ _ _ _ _ _).mono hB34.size)
                have HTY6 : Hid (TyAt (f - 1) (New (w4.heap.size + 1) w5) w6 Z.val na nl nc ka kl kc) := by
                  refine HTY.out.mono (fun q hq hF => ?_) (by rw [hsz6]; exact Nat.le_refl _)
                  have hF1 : w4.heap.size + 1 ≤ q := by have := hF.1; simpa using this
                  exact ⟨⟨hF1, hq⟩, hbl q (by omega)⟩
                have HR6 : Hid (BRow w6 b off5 lr5 cr5 (zs.drop (d + X.done + Z.done))) := by
                  show BRow _ _ _ _ _ _
                  rw [hw6]
                  exact HR5.out.below (below_five _ _ _ _ _ _ _) (fun _ => by omega)
                have k0 : w6.cell? ⟨w4.heap.size, 0, .none⟩ = some (.int .u16 Z.val.id) := by rw [hw6]; simp [five, go_sem, hc5, hs45]
                have k1 : w6.cell? ⟨w4.heap.size, 1, .none⟩ = some (.string Z.val.space) := by rw [hw6]; simp [five, go_sem, hc5, hs45]
                have k2 : w6.cell? ⟨w4.heap.size, 2, .none⟩ = some (.string Z.val.name) := by rw [hw6]; simp [five, go_sem, hc5, hs45]
                have k3 : w6.cell? ⟨w4.heap.size, 3, .none⟩ = some (.slice na nl nc) := by rw [hw6]; simp [five, go_sem, hc5, hs45]
                have k4 : w6.cell? ⟨w4.heap.size, 4, .none⟩ = some (.slice ka kl kc) := by rw [hw6]; simp [five, go_sem, hc5, hs45]
                have hL6 : ((((w5.setCell ⟨w4.heap.size, 0, .none⟩ (.int .u16 Z.val.id)).setCell ⟨w4.heap.size, 1, .none⟩ (.string Z.val.space)).setCell ⟨w4.heap.size, 2, .none⟩ (.string Z.val.name)).setCell ⟨w4.heap.size, 3, .none⟩ (.slice na nl nc)).setCell ⟨w4.heap.size, 4, .none⟩ (.slice ka kl kc) = w6 := hw6.symm
                have c63 := HOB6.out.c3
                have f63 := HOB6.out.f3
                have hs6a : w6.heap.size ≤ w5.heap.size := by omega
                have hs6b : w5.heap.size ≤ w6.heap.size := by omega
                clear hw6 hbl hsz6
                rw [he5]
                go_wp2_with (at_builtin; refine wpList_append_name (base := w3.heap.size + 1) (v := vn) (u := vk) (ss := ns) rfl (.tmp 74) (.tmp 76) rfl rfl ?c0 rfl (heap_alloc_new w6 _) HXS.out ?c3 ?c4 ?c5 ?_)
                case c0 => exact HOS6.out.old (below_one _ _)
                case c3 => intro q hq; have := (HOK6.out.lt q hq).2; simp; omega
                case c4 => omega
                case c5 => simp; omega
                intro v7 w7 HOS7 HG7 HM7
                have hfar : ∀ q, q ≤ w3.heap.size → vn.ownBlock ≠ some q := fun q hq e => by have := (HOS.out.lt q e).1; omega
                have hfar2 : ∀ q, w4.heap.size ≤ q → vn.ownBlock ≠ some q := fun q hq e => by have := (HOS.out.lt q e).2; omega
                have hbl7 : ∀ q, q < w6.heap.size → vn.ownBlock ≠ some q → w7.heap[q]? = w6.heap[q]? := fun q hq hne => by
                  rw [HG7.out.block q (by simp; omega) (fun e => hne e.symm)]; exact (below_one w6 _).block q hq
                have hs7 := HG7.out.size
                simp at hs7
                have HOB7 : Hid (OBox w7 w3.heap.size A.val C.val vn vk) := HOB6.out.keep (hbl7 _ HOB6.out.lt (hfar _ (Nat.le_refl _))) (by omega)
                have HOK7 : Hid (OwnK f w7 (w3.heap.size + 1) vk v7 ks) := (HOK6.out.old (below_one _ _)).other HG7.out HM7.out
                have HTY7 : Hid (TyAt (f - 1) (New (w4.heap.size + 1) w5) w7 Z.val na nl nc ka kl kc) := by
                  refine HTY6.out.mono (fun q hq hF => ⟨hF, hbl7 q hq (hfar2 q (by have := hF.1; omega))⟩) (by omega)
                have hkb : w4.heap.size < w6.heap.size := by omega
                have hcb : ∀ j, w7.cell? ⟨w4.heap.size, j, .none⟩ = w6.cell? ⟨w4.heap.size, j, .none⟩ := fun j => World.cell?_of_block (w := w6) (w' := w7) (a := ⟨w4.heap.size, j, .none⟩) (hbl7 _ hkb (hfar2 _ (Nat.le_refl _)))
                have hB37 : Below w3.heap.size w3 w7 := (hB36.trans ((below_one w6 _).mono (by omega))).grown HG7.out (by simp; omega) (fun q hq => by have := (HOS.out.lt q hq).1; omega)
                have HR7 : Hid (BRow w7 b off5 lr5 cr5 (zs.drop (d + X.done + Z.done))) :=
                  (HR6.out.old (below_one w6 _)).below (base := w3.heap.size) ((Below.refl _ _).grown HG7.out (by simp; omega) (fun q hq => by have := (HOS.out.lt q hq).1; omega)) (fun _ => hbw)
                obtain ⟨a7, c7, hv7, hsee7⟩ := HOS7.out.sees
                obtain ⟨L7, hL7⟩ : ∃ L7, L7 = (ns ++ [X.val]).length := ⟨_, rfl⟩
                rw [← hL7] at hv7
                subst hv7
                obtain ⟨w8, hw8⟩ : ∃ w8, w8 = w7.setCell ⟨w3.heap.size, 3, .none⟩ (.slice a7 L7 c7) := ⟨_, rfl⟩
                have hne8 : ∀ q, q ≠ w3.heap.size → w8.heap[q]? = w7.heap[q]? := fun q hq => by rw [hw8]; exact Below.heap_setCell _ _ _ _ (by exact hq)
                have hs8 : w8.heap.size = w7.heap.size := by rw [hw8]; simp
                have HOB8 : Hid (OBox w8 w3.heap.size A.val C.val (.slice a7 L7 c7) vk) := by show OBox _ _ _ _ _ _; rw [hw8]; exact HOB7.out.set3 _
                have HOK8 : Hid (OwnK f w8 (w3.heap.size + 1) vk (.slice a7 L7 c7) ks) := by show OwnK _ _ _ _ _ _; rw [hw8]; exact HOK7.out.set (by omega) _
                have HOS8 : Hid (OwnS w8 (w3.heap.size + 1) (.slice a7 L7 c7) vk (ns ++ [X.val])) := by show OwnS _ _ _ _ _; rw [hw8]; exact HOS7.out.set (by omega) _
                have HTY8 : Hid (TyAt (f - 1) (New (w4.heap.size + 1) w5) w8 Z.val na nl nc ka kl kc) :=
                  HTY7.out.mono (fun q hq hF => ⟨hF, hne8 q (by have := hF.1; omega)⟩) (by omega)
                have hcb8 : ∀ j, w8.cell? ⟨w4.heap.size, j, .none⟩ = w6.cell? ⟨w4.heap.size, j, .none⟩ := fun j => (World.cell?_of_block (w := w7) (w' := w8) (a := ⟨w4.heap.size, j, .none⟩) (hne8 w4.heap.size (by omega))).trans (hcb j)
                have hB38 : Below w3.heap.size w3 w8 := by rw [hw8]; exact hB37.setCell (p := ⟨w3.heap.size, 3, .none⟩) (Nat.le_refl _) _
                have HR8 : Hid (BRow w8 b off5 lr5 cr5 (zs.drop (d + X.done + Z.done))) := by
                  show BRow _ _ _ _ _ _
                  rw [hw8]; exact HR7.out.below ((Below.refl w3.heap.size w7).setCell (p := ⟨w3.heap.size, 3, .none⟩) (Nat.le_refl _) _) (fun _ => hbw)
                have m0 := (hcb8 0).trans k0
                have m1 := (hcb8 1).trans k1
                have m2 := (hcb8 2).trans k2
                have m3 := (hcb8 3).trans k3
                have m4 := (hcb8 4).trans k4
                have c73 := HOB7.out.c3
                have f73 := HOB7.out.f3
                have c84 := HOB8.out.c4
                have hL8 : w7.setCell ⟨w3.heap.size, 3, .none⟩ (.slice a7 L7 c7) = w8 := hw8.symm
                have HVL : Hid (∀ q, (Value.slice a7 L7 c7).ownBlock = some q → q < w8.heap.size) := fun q hq => (HOS8.out.lt q hq).2
                have HL7 : Hid _ := hL7
                have hs8a : w8.heap.size ≤ w7.heap.size := by omega
                have hs8b : w7.heap.size ≤ w8.heap.size := by omega
                clear hs8
                clear hw8 hne8 hcb hcb8 hbl7 hfar hfar2 k0 k1 k2 k3 k4 hL6 c63 f63 hL7 hsee7
                go_wp2_with (at_builtin; refine wpList_append_kid (n := f) (base := w3.heap.size + 1) (v := vk) (u := .slice a7 L7 c7) (xs := ks) (news := [.int .u16 Z.val.id, .string Z.val.space, .string Z.val.name, .slice na nl nc, .slice ka kl kc]) rfl (.tmp 80) (.tmp 82) rfl rfl ?d0 rfl (heap_alloc_new w8 _) rfl (five_one _ _ _ _ _ _ _ _ _) Z.val ?d2 ?d3 ?d4 ?d5 ?_)
                case d0 => exact HOK8.out.old (below_one _ _)
                case d2 =>
                  have h1 := (HF'.out ▸ HTY8.out : TyAt (f' + 1 - 1) (New (w4.heap.size + 1) w5) w8 Z.val na nl nc ka kl kc).vt
                  rw [Nat.add_sub_cancel, ← HF'.out] at h1
                  refine VT.mono (fun q hq hF => ?_) (by simp) h1
                  have hF1 : w4.heap.size + 1 ≤ q := hF.1
                  have h2 : vk.ownBlock ≠ some q := fun e => by have := (HOK.out.lt q e).2; omega
                  have h3 : (Value.slice a7 L7 c7).ownBlock ≠ some q := fun e => by
                    rcases HM7.out with hm | ⟨g, hg, hl⟩
                    · rw [hm] at e
                      have := (HOS.out.lt q e).2
                      omega
                    · rw [hg] at e; cases e
                      simp at hl
                      have := hF.2
                      omega
                  exact ⟨⟨by omega, by simp; omega, h2, h3⟩, (below_one w8 _).block q hq⟩
                case d3 => intro q hq; have := HVL.out q hq; simp; omega
                case d4 => omega
                case d5 => simp; omega
                intro v9 w9 HOK9 HG9 HM9
                have hfar : ∀ q, q ≤ w3.heap.size → vk.ownBlock ≠ some q := fun q hq e => by have := (HOK.out.lt q e).1; omega
                have hbl9 : ∀ q, q < w8.heap.size → vk.ownBlock ≠ some q → w9.heap[q]? = w8.heap[q]? := fun q hq hne => by
                  rw [HG9.out.block q (by simp; omega) (fun e => hne e.symm)]; exact (below_one w8 _).block q hq
                have hs9 := HG9.out.size
                simp at hs9
                have HOB9 : Hid (OBox w9 w3.heap.size A.val C.val (.slice a7 L7 c7) vk) := HOB8.out.keep (hbl9 _ HOB8.out.lt (hfar _ (Nat.le_refl _))) (by omega)
                have HOS9 : Hid (OwnS w9 (w3.heap.size + 1) (.slice a7 L7 c7) v9 (ns ++ [X.val])) := (HOS8.out.old (below_one _ _)).other HG9.out HM9.out
                have hB39 : Below w3.heap.size w3 w9 := (hB38.trans ((below_one w8 _).mono (by omega))).grown HG9.out (by simp; omega) (fun q hq => by have := (HOK.out.lt q hq).1; omega)
                have HR9 : Hid (BRow w9 b off5 lr5 cr5 (zs.drop (d + X.done + Z.done))) :=
                  (HR8.out.old (below_one w8 _)).below (base := w3.heap.size) ((Below.refl _ _).grown HG9.out (by simp; omega) (fun q hq => by have := (HOK.out.lt q hq).1; omega)) (fun _ => hbw)
                obtain ⟨a9, c9, hv9, hsee9⟩ := HOK9.out.sees
                obtain ⟨L9, hL9⟩ : ∃ L9, L9 = (ks ++ [Z.val]).length := ⟨_, rfl⟩
                rw [← hL9] at hv9
                subst hv9
                obtain ⟨w10, hw10⟩ : ∃ w10, w10 = w9.setCell ⟨w3.heap.size, 4, .none⟩ (.slice a9 L9 c9) := ⟨_, rfl⟩
                have hs10 : w9.heap.size ≤ w10.heap.size := by rw [hw10]; simp
                have HOB10 : Hid (OBox w10 w3.heap.size A.val C.val (.slice a7 L7 c7) (.slice a9 L9 c9)) := by show OBox _ _ _ _ _ _; rw [hw10]; exact HOB9.out.set4 _
                have HOK10 : Hid (OwnK f w10 (w3.heap.size + 1) (.slice a9 L9 c9) (.slice a7 L7 c7) (ks ++ [Z.val])) := by show OwnK _ _ _ _ _ _; rw [hw10]; exact HOK9.out.set (by omega) _
                have HOS10 : Hid (OwnS w10 (w3.heap.size + 1) (.slice a7 L7 c7) (.slice a9 L9 c9) (ns ++ [X.val])) := by show OwnS _ _ _ _ _; rw [hw10]; exact HOS9.out.set (by omega) _
                have hB310 : Below w3.heap.size w3 w10 := by rw [hw10]; exact hB39.setCell (p := ⟨w3.heap.size, 4, .none⟩) (Nat.le_refl _) _
                have HR10 : Hid (BRow w10 b off5 lr5 cr5 (zs.drop (d + (X.done + Z.done)))) := by
                  show BRow _ _ _ _ _ _
                  rw [← Nat.add_assoc, hw10]; exact HR9.out.below ((Below.refl w3.heap.size w9).setCell (p := ⟨w3.heap.size, 4, .none⟩) (Nat.le_refl _) _) (fun _ => hbw)
                have HGO3 : Hid (goR (fieldR (tyR f)) zs (N - (k + 1)) (d + (X.done + Z.done)) ((ns ++ [X.val]).zip (ks ++ [Z.val])) = G) := by
                  show _ = _
                  rw [List.zip_append (by omega)]
                  exact HGO2.out
                have hL10 : w9.setCell ⟨w3.heap.size, 4, .none⟩ (.slice a9 L9 c9) = w10 := hw10.symm
                have c94 := HOB9.out.c4
                have f94 := HOB9.out.f4
                clear hw10 hbl9 hfar hL9 hsee9 m0 m1 m2 m3 m4 hL8 c73 f73 c84
                go_wp2_with fail
                go_roundw
                case rel => exact ⟨k + 1, d + (X.done + Z.done), off5, lr5, cr5, ns ++ [X.val], ks ++ [Z.val], _, _, by omega, by go_num, rfl, HR10, (by have := HD5.out; show _ ≤ _; omega), HOB10, HOS10, HOK10, by simp [hns], by simp [hks], HGO3, hB310, by omega⟩
                case measure => simp [intOf]; omega
              · have t5 : (Z.err == 0) = false := by simpa using he5
                have HE : Hid (Y = ⟨tyNil, 0, Z.err⟩) := by
                  have hfr := HFR.out
                  rw [if_pos he4, if_neg he5] at hfr
                  have := goR_stop HGO.out hlt (by rw [hfr]; exact he5)
                  rw [hfr] at this
                  show _ = _
                  rw [HY2.out, this, if_neg (by exact he5)]
                have HNE : Hid (Z.err ≠ 0) := he5
                obtain ⟨w6, hw6⟩ : ∃ w6, w6 = five w5 w4.heap.size (.int .u16 Z.val.id) (.string Z.val.space) (.string Z.val.name) (.slice na nl nc) (.slice ka kl kc) := ⟨_, rfl⟩
                have hB36 : Below w3.heap.size w3 w6 := (hB34.trans (hB45.mono hB34.size)).trans (by rw [hw6]; exact (below_five _ _ _ _ _ _ _).mono hB34.size)
                have hBx : Below (w.alloc zeroOb).heap.size (w.alloc zeroOb) w6 := HB3.out.trans (hB36.mono HB3.out.size)
                have hL6 : ((((w5.setCell ⟨w4.heap.size, 0, .none⟩ (.int .u16 Z.val.id)).setCell ⟨w4.heap.size, 1, .none⟩ (.string Z.val.space)).setCell ⟨w4.heap.size, 2, .none⟩ (.string Z.val.name)).setCell ⟨w4.heap.size, 3, .none⟩ (.slice na nl nc)).setCell ⟨w4.heap.size, 4, .none⟩ (.slice ka kl kc) = w6 := hw6.symm
                clear he5 hw6
                obtain ⟨hc, hf⟩ := bcell hBx
                have hs : w.heap.size < w6.heap.size := by have := hBx.size; simp at this; omega
                go_wp2_with fail
                exact bodyPost_ret (v := .tuple #[.agg #[.int .u16 0, .string ⟨#[]⟩, .string ⟨#[]⟩, .slice none 0 0, .slice none 0 0], .slice none 0 0, .int .i64 Z.err]) (by simp [results, Tryd.results91, go_sem, hc, hs]) rfl
                  ⟨none, 0, 0, none, 0, 0, none, 0, 0, by rw [HE.out]; rfl, by rw [HE.out]; exact tyAt_nil _ _ _, by rw [HE.out]; exact .inl ⟨HNE.out, rfl⟩, ((below_one w _).trans (hBx.mono (by simp))).trans ((below_five _ _ _ _ _ _ _).mono (Nat.le_refl _))⟩
            · have t4 : (X.err == 0) = false := by simpa using he4
              have HE : Hid (Y = ⟨tyNil, 0, X.err⟩) := by
                have hfr := HFR.out
                rw [if_neg he4] at hfr
                have := goR_stop HGO.out hlt (by rw [hfr]; exact he4)
                rw [hfr] at this
                show _ = _
                rw [HY2.out, this, if_neg (by exact he4)]
              have HNE : Hid (X.err ≠ 0) := he4
              have hBx : Below (w.alloc zeroOb).heap.size (w.alloc zeroOb) w4 := HB3.out.trans (hB34.mono HB3.out.size)
              clear he4
              obtain ⟨hc, hf⟩ := bcell hBx
              have hs : w.heap.size < w4.heap.size := by have := hBx.size; simp at this; omega
              go_wp2_with fail
              exact bodyPost_ret (v := .tuple #[.agg #[.int .u16 0, .string ⟨#[]⟩, .string ⟨#[]⟩, .slice none 0 0, .slice none 0 0], .slice none 0 0, .int .i64 X.err]) (by simp [results, Tryd.results91, go_sem, hc, hs]) rfl
                ⟨none, 0, 0, none, 0, 0, none, 0, 0, by rw [HE.out]; rfl, by rw [HE.out]; exact tyAt_nil _ _ _, by rw [HE.out]; exact .inl ⟨HNE.out, rfl⟩, ((below_one w _).trans (hBx.mono (by simp))).trans ((below_five _ _ _ _ _ _ _).mono (Nat.le_refl _))⟩
          · have HOBB := HOB.out
            have HE := goR_end HGO.out (by omega)
            obtain ⟨an, cn, hvn, hSn⟩ := (HOS.out).sees
            obtain ⟨ak, ck, hvk, hSk⟩ := (HOK.out).sees
            obtain ⟨ln, hln⟩ : ∃ ln, ln = ns.length := ⟨_, rfl⟩
            obtain ⟨lk, hlk⟩ : ∃ lk, lk = ks.length := ⟨_, rfl⟩
            rw [← hln] at hvn hSn
            rw [← hlk] at hvk hSk
            subst hvn hvk
            have HYE : Hid (Y = ⟨⟨48, A.val, C.val, ns, ks⟩, d, 0⟩) := by
              show _ = _
              rw [HY2.out, HE, if_pos (by rfl)]
              simp only [Res.mk.injEq, Ty.mk.injEq, true_and, and_true]
              exact ⟨List.map_fst_zip (by omega), List.map_snd_zip (by omega)⟩
            obtain ⟨o0, o1, o2, o3, o4, _, _, _⟩ := HOBB
            have HSn : Hid (Sees 1 (fun q => w3.heap.size + 1 ≤ q ∧ q < wr.heap.size) VS wr an ln cn ns) := hSn
            have HSk : Hid (Sees 5 (fun q => w3.heap.size + 1 ≤ q ∧ q < wr.heap.size) (VT f (fun q => w3.heap.size + 1 ≤ q ∧ q < wr.heap.size) wr) wr ak lk ck ks) := hSk
            have hBx : Below (w.alloc zeroOb).heap.size (w.alloc zeroOb) wr := HB3.out.trans (hBr.mono HB3.out.size)
            obtain ⟨hc, hf⟩ := bcell hBx
            have hs : w.heap.size < wr.heap.size := by omega
            clear HE hSn hSk hln hlk
            go_wp2_with fail
            refine bodyPost_ret (v := .tuple #[.agg #[.int .u16 48, .string A.val, .string C.val, .slice an ln cn, .slice ak lk ck], .slice (some ⟨b, off', none⟩) lr cr, .int .i64 0]) (by simp [results, Tryd.results91, go_sem, hc, hs]) rfl
              ⟨some ⟨b, off', none⟩, lr, cr, an, ln, cn, ak, lk, ck, by rw [HYE.out], ?_, by rw [HYE.out]; exact .inr ⟨rfl, HDd.out, off', rfl, HR.out.below (below_five _ _ _ _ _ _ _) (fun _ => hb)⟩, ((below_one w _).trans (hBx.mono (by simp))).trans ((below_five _ _ _ _ _ _ _).mono (Nat.le_refl _))⟩
            rw [HYE.out]
            refine ⟨⟨by show (0 : Int) ≤ 48; decide, by show (48 : Int) < 65536; decide⟩, HSZ.out.1, HSZ.out.2, HSn.out.mono (fun q hq hF => ?_) ?_ (fun _ _ _ h => h), HSk.out.mono (fun q hq hF => ?_) ?_ (fun _ _ _ h => VT.mono (fun q hq hF => ?_) ?_ h)⟩
            · exact ⟨⟨by have := hF.1; omega, by have := five_size wr w.heap.size (.int .u16 48) (.string A.val) (.string C.val) (.slice an ln cn) (.slice ak lk ck); show q < (five _ _ _ _ _ _ _).heap.size; omega⟩, five_heap _ _ _ _ _ _ _ q (by have := hF.1; omega)⟩
            · simp
            · exact ⟨⟨by have := hF.1; omega, by have := five_size wr w.heap.size (.int .u16 48) (.string A.val) (.string C.val) (.slice an ln cn) (.slice ak lk ck); show q < (five _ _ _ _ _ _ _).heap.size; omega⟩, five_heap _ _ _ _ _ _ _ q (by have := hF.1; omega)⟩
            · simp
            · exact ⟨⟨by have := hF.1; omega, by have := five_size wr w.heap.size (.int .u16 48) (.string A.val) (.string C.val) (.slice an ln cn) (.slice ak lk ck); show q < (five _ _ _ _ _ _ _).heap.size; omega⟩, five_heap _ _ _ _ _ _ _ q (by have := hF.1; omega)⟩
            · simp
    · have t2 : (C.err == 0) = false := by simpa using he2
      have HE : Hid (Y = ⟨tyNil, 0, C.err⟩) := by
        show _ = _
        rw [HY.out, if_pos he1, if_neg he2]
      have HNE : Hid (C.err ≠ 0) := he2
      clear he2
      obtain ⟨hc, hf⟩ := bcell hB2
      have hs : w.heap.size < w2.heap.size := by have := hB2.size; simp at this; omega
      go_wp2_with fail
      exact bodyPost_ret (v := .tuple #[.agg #[.int .u16 0, .string ⟨#[]⟩, .string ⟨#[]⟩, .slice none 0 0, .slice none 0 0], .slice none 0 0, .int .i64 C.err]) (by simp [results, Tryd.results91, go_sem, hc, hs]) rfl
        ⟨none, 0, 0, none, 0, 0, none, 0, 0, by rw [HE.out]; rfl, by rw [HE.out]; exact tyAt_nil _ _ _, by rw [HE.out]; exact .inl ⟨HNE.out, rfl⟩, ((below_one w _).trans (hB2.mono (by simp))).trans ((below_five _ _ _ _ _ _ _).mono (Nat.le_refl _))⟩
  · have t1 : (A.err == 0) = false := by simpa using he1
    have HE : Hid (Y = ⟨tyNil, 0, A.err⟩) := by
      show _ = _
      rw [HY.out, if_neg he1]
    have HNE : Hid (A.err ≠ 0) := he1
    clear he1
    obtain ⟨hc, hf⟩ := bcell hB1
    have hs : w.heap.size < w1.heap.size := by have := hB1.size; simp at this; omega
    go_wp2_with fail
    exact bodyPost_ret (v := .tuple #[.agg #[.int .u16 0, .string ⟨#[]⟩, .string ⟨#[]⟩, .slice none 0 0, .slice none 0 0], .slice none 0 0, .int .i64 A.err]) (by simp [results, Tryd.results91, go_sem, hc, hs]) rfl
      ⟨none, 0, 0, none, 0, 0, none, 0, 0, by rw [HE.out]; rfl, by rw [HE.out]; exact tyAt_nil _ _ _, by rw [HE.out]; exact .inl ⟨HNE.out, rfl⟩, ((below_one w _).trans (hB1.mono (by simp))).trans ((below_five _ _ _ _ _ _ _).mono (Nat.le_refl _))⟩
end Go.Proofs.YtnapeecmlkkolaaDoor

namespace Go.Proofs.YtnapeecmlkkolaaDoor
open Go.RowKit
set_option linter.unusedVariables false
set_option linter.unusedSimpArgs false

theorem five_new {w wx : World} {q base : Nat} {a b c d e : Value} (hs : w.heap.size < base) (hq : base ≤ q) (hl : q < wx.heap.size) : New w.heap.size (five wx w.heap.size a b c d e) q ∧ (five wx w.heap.size a b c d e).heap[q]? = wx.heap[q]? :=
  ⟨⟨by omega, by rw [five_size]; exact hl⟩, five_heap _ _ _ _ _ _ _ q (by omega)⟩

set_option maxHeartbeats 1000000 in
theorem getType_deep (w : World) (a : Option Addr) (len cap : Nat) (zs : List Int) (p : Int) (hp : p = 21) :
    Calls Tryd.prog 85 #[.slice a len cap, .int .i64 p] w fun e w' => e = .returned (.tuple #[.agg #[.int .u16 0, .string ⟨#[]⟩, .string ⟨#[]⟩, .slice none 0 0, .slice none 0 0], .slice none 0 0, .int .i64 13]) ∧ Below w.heap.size w w' := by
  subst hp
  go_enter Tryd.func85, Tryd.ntmps85
  go_wp2_with fail
  exact bodyPost_ret (v := .tuple #[.agg #[.int .u16 0, .string ⟨#[]⟩, .string ⟨#[]⟩, .slice none 0 0, .slice none 0 0], .slice none 0 0, .int .i64 13]) (by simp [results, Tryd.results85, go_sem]) rfl ⟨rfl, below_one _ _⟩

set_option maxHeartbeats 1000000 in
theorem getType_short (w : World) (a : Option Addr) (len cap : Nat) (zs : List Int) (hl : len < 2) (p : Int) (hp : p ≤ 20) (hp1 : 0 ≤ p) :
    Calls Tryd.prog 85 #[.slice a len cap, .int .i64 p] w fun e w' => e = .returned (.tuple #[.agg #[.int .u16 0, .string ⟨#[]⟩, .string ⟨#[]⟩, .slice none 0 0, .slice none 0 0], .slice none 0 0, .int .i64 10]) ∧ Below w.heap.size w w' := by
  have hd : decide ((20 : Int) < p) = false := by simp; omega
  go_enter Tryd.func85, Tryd.ntmps85
  go_wp2_with fail
  refine (bget_short a len cap 2 _ (by omega) (by omega) hl _ rfl).mono ?_
  rintro e w1 ⟨rfl, rfl⟩
  go_wp2_with fail
  exact bodyPost_ret (v := .tuple #[.agg #[.int .u16 0, .string ⟨#[]⟩, .string ⟨#[]⟩, .slice none 0 0, .slice none 0 0], .slice none 0 0, .int .i64 10]) (by simp [results, Tryd.results85, go_sem]) rfl ⟨rfl, below_one _ _⟩

/-- What getType gives. -/
def GotTy (f : Nat) (w : World) (b : Nat) (zs : List Int) (Y : Res Ty) (e : Ending) (w' : World) : Prop := ∃ r lr cr na nl nc ka kl kc, e = .returned (.tuple #[.agg #[.int .u16 Y.val.id, .string Y.val.space, .string Y.val.name, .slice na nl nc, .slice ka kl kc], .slice r lr cr, .int .i64 Y.err]) ∧
  Hid (TyAt f (New w.heap.size w') w' Y.val na nl nc ka kl kc) ∧ Hid (Rest w' b r lr cr zs Y.done Y.err) ∧ Below w.heap.size w w'

theorem gotTy_err {f : Nat} {w w' : World} {b : Nat} {zs : List Int} {Y : Res Ty} {er : Int} (hY : Y = ⟨tyNil, 0, er⟩) (he : er ≠ 0) (hB : Below w.heap.size w w') : GotTy f w b zs Y (.returned (.tuple #[.agg #[.int .u16 0, .string ⟨#[]⟩, .string ⟨#[]⟩, .slice none 0 0, .slice none 0 0], .slice none 0 0, .int .i64 er])) w' := by
  subst hY
  exact ⟨none, 0, 0, none, 0, 0, none, 0, 0, rfl, tyAt_nil _ _ _, .inl ⟨he, rfl⟩, hB⟩

theorem rest_drop {w : World} {b : Nat} {r : Option Addr} {lr cr : Nat} {zs : List Int} {k d : Nat} (hk : k ≤ zs.length) (h : Rest w b r lr cr (zs.drop k) d 0) : Rest w b r lr cr zs (k + d) 0 := by
  rcases h with ⟨h, _⟩ | ⟨_, h1, o, h2, h3⟩
  · exact absurd rfl h
  · rw [List.length_drop] at h1
    rw [List.drop_drop] at h3
    exact .inr ⟨rfl, by omega, o, h2, h3⟩

theorem behind_rest {w : World} {b o : Nat} {r : Option Addr} {lr cr : Nat} {zs : List Int} {d : Nat} {er : Int} (h : Behind w (some ⟨b, o, none⟩) r lr cr zs d er) : Rest w b r lr cr zs d er := by
  by_cases he : er = 0
  · obtain ⟨h1, off, h2, h3⟩ := h.row he
    exact .inr ⟨he, h1, off, h2, h3⟩
  · rcases h with ⟨h1, h2⟩ | ⟨h1, _⟩
    · exact .inl ⟨h1, h2⟩
    · exact absurd h1 he

theorem Rest.below {w W : World} {base b : Nat} {r : Option Addr} {lr cr : Nat} {zs : List Int} {d : Nat} {er : Int} (h : Rest w b r lr cr zs d er) (hB : Below base w W) (hb : b < base) : Rest W b r lr cr zs d er := by
  rcases h with h | ⟨h1, h2, o, h3, h4⟩
  · exact .inl h
  · exact .inr ⟨h1, h2, o, h3, h4.below hB (fun _ => hb)⟩

set_option maxHeartbeats 2000000 in
theorem getType_custom (f : Nat) (hf19 : f ≤ 19) (ih : GetsTy f) {w : World} {b off len cap : Nat} {zs : List Int} (h : BRow w b off len cap zs) (hb : b < w.heap.size) (hT : Tab w) (hsm : len ≤ 140737488351232) (hl : 2 ≤ len) (I : Int) (hI : numTo zs 2 = I) (hI0 : 0 ≤ I) (hI1 : I < 65536) (q0 : (I == 0) = true) (p : Int) (hp : p = 20 - f) {A : Res ByteArray} (hA : A = textR (zs.drop 2)) {Y : Res Ty} (hY : Y = if A.err = 0 then ⟨⟨I, ⟨#[]⟩, A.val, [], []⟩, 2 + A.done, 0⟩ else ⟨tyNil, 0, A.err⟩) :
    Calls Tryd.prog 85 #[.slice (some ⟨b, off, none⟩) len cap, .int .i64 p] w (GotTy f w b zs Y) := by
  have hz := h.len_eq
  have hd : decide ((20 : Int) < p) = false := by simp; omega
  have hp1 : 0 ≤ p := by omega
  have hp2 : p ≤ 20 := by omega
  have HP : Hid (p + 1 = 21 - f) := by show _ = _; omega
  have HPP : Hid (p = 20 - f) := hp
  have H : Hid (BRow w b off len cap zs) := h
  have HI : Hid _ := hI
  have HZ : Hid (zs.length = len) := hz
  have HT : Hid (Tab w) := hT
  have IH : Hid (GetsTy f) := ih
  have HA : Hid _ := hA
  have HY : Hid _ := hY
  have HAS : Hid (A.val.size ≤ maxLen) := by show _ ≤ _; rw [hA]; exact textR_size _ (by unfold maxLen; rw [List.length_drop]; omega)
  clear hA hY
  clear h hz hT ih hI hp
  go_enter Tryd.func85, Tryd.ntmps85
  go_wp2_with fail
  refine (bget (H.out.old (below_one _ _)) 2 (by omega) (by omega) (by omega) _ rfl).mono ?_
  rintro e w1 ⟨off1, rfl, hR1, hB1⟩
  rw [HI.out]
  have HR1 : Hid (BRow w1 b off1 (len - 2) (cap - 2) (zs.drop 2)) := hR1
  have hs1 : w.heap.size < w1.heap.size := by have := hB1.size; simp at this; omega
  have hbw : b < w1.heap.size := by omega
  have HT1 : Hid (Tab w1) := HT.out.old ((below_one w _).trans (hB1.mono (by simp)))
  clear hR1
  go_wp2_with fail
  refine (getText_r (HR1.out.old (below_one _ _)).isB (by omega) HA.out).mono ?_
  rintro e w2 ⟨r2, lr2, cr2, rfl, HB2, hB2⟩
  have hB2w : Below w1.heap.size w1 w2 := (below_one w1 _).trans (hB2.mono (by simp))
  obtain ⟨hc2, hf2⟩ := bcell hB2
  have hs2 : w1.heap.size < w2.heap.size := by have := hB2.size; simp at this; omega
  obtain ⟨w3, hw3⟩ : ∃ w3, w3 = w2.setCell ⟨w1.heap.size, 2, .none⟩ (.string A.val) := ⟨_, rfl⟩
  have hL3 : w2.setCell ⟨w1.heap.size, 2, .none⟩ (.string A.val) = w3 := hw3.symm
  have hB13 : Below w1.heap.size w1 w3 := by rw [hw3]; exact hB2w.setCell (p := ⟨w1.heap.size, 2, .none⟩) (Nat.le_refl _) _
  have hBx : Below (w.alloc (.cells #[.int .u16 0, .string ⟨#[]⟩, .string ⟨#[]⟩, .slice none 0 0, .slice none 0 0] 62)).heap.size (w.alloc (.cells #[.int .u16 0, .string ⟨#[]⟩, .string ⟨#[]⟩, .slice none 0 0, .slice none 0 0] 62)) w3 := hB1.trans (hB13.mono hB1.size)
  have hs3 : w2.heap.size ≤ w3.heap.size := by rw [hw3]; simp
  have hs3' : w3.heap.size ≤ w2.heap.size := by rw [hw3]; simp
  have n0 : w3.cell? ⟨w1.heap.size, 0, .none⟩ = some (.int .u16 I) := by rw [hw3]; simp [go_sem, hc2, hs2]
  have n1 : w3.cell? ⟨w1.heap.size, 1, .none⟩ = some (.string ⟨#[]⟩) := by rw [hw3]; simp [go_sem, hc2, hs2]
  have n2 : w3.cell? ⟨w1.heap.size, 2, .none⟩ = some (.string A.val) := by rw [hw3]; simp [go_sem, hc2, hs2]
  have n3 : w3.cell? ⟨w1.heap.size, 3, .none⟩ = some (.slice none 0 0) := by rw [hw3]; simp [go_sem, hc2, hs2]
  have n4 : w3.cell? ⟨w1.heap.size, 4, .none⟩ = some (.slice none 0 0) := by rw [hw3]; simp [go_sem, hc2, hs2]
  have HW3 : Hid _ := hw3
  clear hw3
  by_cases he : A.err = 0
  · rw [he]
    obtain ⟨hc, hf⟩ := bcell hBx
    have hs : w.heap.size < w3.heap.size := by omega
    have HYE : Hid (Y = ⟨⟨I, ⟨#[]⟩, A.val, [], []⟩, 2 + A.done, 0⟩) := by show _ = _; rw [HY.out, if_pos he]
    go_wp2_with fail
    refine bodyPost_ret (v := .tuple #[.agg #[.int .u16 I, .string ⟨#[]⟩, .string A.val, .slice none 0 0, .slice none 0 0], .slice r2 lr2 cr2, .int .i64 0]) (by simp [results, Tryd.results85, go_sem, hc, hs]) rfl
      ⟨r2, lr2, cr2, none, 0, 0, none, 0, 0, by rw [HYE.out], ?_, ?_, (((below_one w _).trans (hBx.mono (by simp))).trans ((below_five _ _ _ _ _ _ _).mono (Nat.le_refl _)))⟩
    · rw [HYE.out]
      exact ⟨⟨hI0, hI1⟩, by unfold maxLen; show 0 ≤ _; omega, HAS.out, sees_nil _ _ _ _, sees_nil _ _ _ _⟩
    · rw [HYE.out]
      have hrest := behind_rest HB2.out
      rw [he] at hrest
      refine rest_drop (by have := HZ.out; omega) ?_
      refine (hrest.below (W := w3) (base := w1.heap.size) (by rw [HW3.out]; exact (Below.refl _ _).setCell (p := ⟨w1.heap.size, 2, .none⟩) (Nat.le_refl _) _) hbw).below (base := w.heap.size) (below_five _ _ _ _ _ _ _) hb
  · have te : (A.err == 0) = false := by simpa using he
    have HE : Hid (Y = ⟨tyNil, 0, A.err⟩) := by show _ = _; rw [HY.out, if_neg he]
    have HNE : Hid (A.err ≠ 0) := he
    clear he
    obtain ⟨hc, hf⟩ := bcell hBx
    have hs : w.heap.size < w3.heap.size := by have := hBx.size; simp at this; omega
    go_wp2_with fail
    exact bodyPost_ret (v := .tuple #[.agg #[.int .u16 0, .string ⟨#[]⟩, .string ⟨#[]⟩, .slice none 0 0, .slice none 0 0], .slice none 0 0, .int .i64 A.err]) (by simp [results, Tryd.results85, go_sem, hc, hs]) rfl (gotTy_err HE.out HNE.out (((below_one w _).trans (hBx.mono (by simp))).trans ((below_five _ _ _ _ _ _ _).mono (Nat.le_refl _))))

set_option maxHeartbeats 2000000 in
theorem getType_list (f : Nat) (hf19 : f ≤ 19) (ih : GetsTy f) {w : World} {b off len cap : Nat} {zs : List Int} (h : BRow w b off len cap zs) (hb : b < w.heap.size) (hT : Tab w) (hsm : len ≤ 140737488351232) (hl : 2 ≤ len) (I : Int) (hI : numTo zs 2 = I) (hI0 : 0 ≤ I) (hI1 : I < 65536) (q0 : (I == 0) = false) (q1 : (I == 32) = true) (p : Int) (hp : p = 20 - f) {G : Res (List Ty)} (hG : G = goR (tyR f) (zs.drop 2) 1 0 []) {Y : Res Ty} (hY : Y = if G.err = 0 then ⟨⟨I, ⟨#[]⟩, ⟨#[]⟩, [], G.val⟩, 2 + G.done, 0⟩ else ⟨tyNil, 0, G.err⟩) :
    Calls Tryd.prog 85 #[.slice (some ⟨b, off, none⟩) len cap, .int .i64 p] w (GotTy f w b zs Y) := by
  have hz := h.len_eq
  have hd : decide ((20 : Int) < p) = false := by simp; omega
  have hp1 : 0 ≤ p := by omega
  have hp2 : p ≤ 20 := by omega
  have HP : Hid (p + 1 = 21 - f) := by show _ = _; omega
  have HPP : Hid (p = 20 - f) := hp
  have H : Hid (BRow w b off len cap zs) := h
  have HI : Hid _ := hI
  have HZ : Hid (zs.length = len) := hz
  have HT : Hid (Tab w) := hT
  have IH : Hid (GetsTy f) := ih
  have HG : Hid _ := hG
  have HY : Hid _ := hY
  clear hG hY
  clear h hz hT ih hI hp
  go_enter Tryd.func85, Tryd.ntmps85
  go_wp2_with fail
  refine (bget (H.out.old (below_one _ _)) 2 (by omega) (by omega) (by omega) _ rfl).mono ?_
  rintro e w1 ⟨off1, rfl, hR1, hB1⟩
  rw [HI.out]
  have HR1 : Hid (BRow w1 b off1 (len - 2) (cap - 2) (zs.drop 2)) := hR1
  have hs1 : w.heap.size < w1.heap.size := by have := hB1.size; simp at this; omega
  have hbw : b < w1.heap.size := by omega
  have HT1 : Hid (Tab w1) := HT.out.old ((below_one w _).trans (hB1.mono (by simp)))
  clear hR1
  go_wp2_with fail
  refine (getKids_any f (by omega) IH.out (HR1.out.old (below_one _ _)) (by simp; omega) (HT1.out.old (below_one _ _)) (by omega) 1 0 (by omega) rfl HG.out _ _ rfl HP.out (by simp)).mono ?_
  rintro e w2 ⟨vk, r2, lr2, cr2, rfl, HOK, HB2, hB2⟩
  obtain ⟨ak, ck, hvk, hSk⟩ := (HOK.out).sees
  obtain ⟨lk, hlk⟩ : ∃ lk, lk = G.val.length := ⟨_, rfl⟩
  rw [← hlk] at hvk hSk
  subst hvk
  have HSK : Hid (Sees 5 (fun q => w1.heap.size + 1 ≤ q ∧ q < w2.heap.size) (VT f (fun q => w1.heap.size + 1 ≤ q ∧ q < w2.heap.size) w2) w2 ak lk ck G.val) := by show Sees _ _ _ _ _ _ _ _; simpa using hSk
  clear hSk hlk
  have hB2w : Below w1.heap.size w1 w2 := (below_one w1 _).trans (hB2.mono (by simp))
  obtain ⟨hc2, hf2⟩ := bcell hB2
  have hs2 : w1.heap.size < w2.heap.size := by have := hB2.size; simp at this; omega
  obtain ⟨w3, hw3⟩ : ∃ w3, w3 = w2.setCell ⟨w1.heap.size, 4, .none⟩ (.slice ak lk ck) := ⟨_, rfl⟩
  have hL3 : w2.setCell ⟨w1.heap.size, 4, .none⟩ (.slice ak lk ck) = w3 := hw3.symm
  have hB13 : Below w1.heap.size w1 w3 := by rw [hw3]; exact hB2w.setCell (p := ⟨w1.heap.size, 4, .none⟩) (Nat.le_refl _) _
  have hBx : Below (w.alloc (.cells #[.int .u16 0, .string ⟨#[]⟩, .string ⟨#[]⟩, .slice none 0 0, .slice none 0 0] 62)).heap.size (w.alloc (.cells #[.int .u16 0, .string ⟨#[]⟩, .string ⟨#[]⟩, .slice none 0 0, .slice none 0 0] 62)) w3 := hB1.trans (hB13.mono hB1.size)
  have hs3 : w2.heap.size ≤ w3.heap.size := by rw [hw3]; simp
  have hs3' : w3.heap.size ≤ w2.heap.size := by rw [hw3]; simp
  have n0 : w3.cell? ⟨w1.heap.size, 0, .none⟩ = some (.int .u16 I) := by rw [hw3]; simp [go_sem, hc2, hs2]
  have n1 : w3.cell? ⟨w1.heap.size, 1, .none⟩ = some (.string ⟨#[]⟩) := by rw [hw3]; simp [go_sem, hc2, hs2]
  have n2 : w3.cell? ⟨w1.heap.size, 2, .none⟩ = some (.string ⟨#[]⟩) := by rw [hw3]; simp [go_sem, hc2, hs2]
  have n3 : w3.cell? ⟨w1.heap.size, 3, .none⟩ = some (.slice none 0 0) := by rw [hw3]; simp [go_sem, hc2, hs2]
  have n4 : w3.cell? ⟨w1.heap.size, 4, .none⟩ = some (.slice ak lk ck) := by rw [hw3]; simp [go_sem, hc2, hs2]
  have HW3 : Hid _ := hw3
  clear hw3
  by_cases he : G.err = 0
  · rw [he]
    obtain ⟨hc, hf⟩ := bcell hBx
    have hs : w.heap.size < w3.heap.size := by omega
    have HYE : Hid (Y = ⟨⟨I, ⟨#[]⟩, ⟨#[]⟩, [], G.val⟩, 2 + G.done, 0⟩) := by show _ = _; rw [HY.out, if_pos he]
    go_wp2_with fail
    refine bodyPost_ret (v := .tuple #[.agg #[.int .u16 I, .string ⟨#[]⟩, .string ⟨#[]⟩, .slice none 0 0, .slice ak lk ck], .slice r2 lr2 cr2, .int .i64 0]) (by simp [results, Tryd.results85, go_sem, hc, hs]) rfl
      ⟨r2, lr2, cr2, none, 0, 0, ak, lk, ck, by rw [HYE.out], ?_, ?_, (((below_one w _).trans (hBx.mono (by simp))).trans ((below_five _ _ _ _ _ _ _).mono (Nat.le_refl _)))⟩
    · rw [HYE.out]
      refine ⟨⟨hI0, hI1⟩, by unfold maxLen; show 0 ≤ _; omega, by unfold maxLen; show 0 ≤ _; omega, sees_nil _ _ _ _, ?_⟩
      have hkb : ∀ q, w1.heap.size + 1 ≤ q → w3.heap[q]? = w2.heap[q]? := fun q hq => by rw [HW3.out]; exact Below.heap_setCell _ _ _ _ (by show q ≠ w1.heap.size; omega)
      refine HSK.out.mono (fun q hq hF => ?_) (by simp; omega) (fun _ _ _ hh => VT.mono (fun q hq hF => ?_) (by simp; omega) hh)
      · have := five_new (w := w) (wx := w3) (q := q) (base := w1.heap.size + 1) (a := .int .u16 I) (b := .string ⟨#[]⟩) (c := .string ⟨#[]⟩) (d := .slice none 0 0) (e := .slice ak lk ck) (by omega) hF.1 (by omega)
        exact ⟨this.1, this.2.trans (hkb q hF.1)⟩
      · have := five_new (w := w) (wx := w3) (q := q) (base := w1.heap.size + 1) (a := .int .u16 I) (b := .string ⟨#[]⟩) (c := .string ⟨#[]⟩) (d := .slice none 0 0) (e := .slice ak lk ck) (by omega) hF.1 (by omega)
        exact ⟨this.1, this.2.trans (hkb q hF.1)⟩
    · rw [HYE.out]
      have hrest := (show Rest w2 b r2 lr2 cr2 (zs.drop 2) G.done G.err from HB2.out)
      rw [he] at hrest
      refine rest_drop (by have := HZ.out; omega) ?_
      refine (hrest.below (W := w3) (base := w1.heap.size) (by rw [HW3.out]; exact (Below.refl _ _).setCell (p := ⟨w1.heap.size, 4, .none⟩) (Nat.le_refl _) _) hbw).below (base := w.heap.size) (below_five _ _ _ _ _ _ _) hb
  · have te : (G.err == 0) = false := by simpa using he
    have HE : Hid (Y = ⟨tyNil, 0, G.err⟩) := by show _ = _; rw [HY.out, if_neg he]
    have HNE : Hid (G.err ≠ 0) := he
    clear he
    obtain ⟨hc, hf⟩ := bcell hBx
    have hs : w.heap.size < w3.heap.size := by have := hBx.size; simp at this; omega
    go_wp2_with fail
    exact bodyPost_ret (v := .tuple #[.agg #[.int .u16 0, .string ⟨#[]⟩, .string ⟨#[]⟩, .slice none 0 0, .slice none 0 0], .slice none 0 0, .int .i64 G.err]) (by simp [results, Tryd.results85, go_sem, hc, hs]) rfl (gotTy_err HE.out HNE.out (((below_one w _).trans (hBx.mono (by simp))).trans ((below_five _ _ _ _ _ _ _).mono (Nat.le_refl _))))

set_option maxHeartbeats 2000000 in
theorem getType_set (f : Nat) (hf19 : f ≤ 19) (ih : GetsTy f) {w : World} {b off len cap : Nat} {zs : List Int} (h : BRow w b off len cap zs) (hb : b < w.heap.size) (hT : Tab w) (hsm : len ≤ 140737488351232) (hl : 2 ≤ len) (I : Int) (hI : numTo zs 2 = I) (hI0 : 0 ≤ I) (hI1 : I < 65536) (q0 : (I == 0) = false) (q1 : (I == 32) = false) (q2 : (I == 34) = true) (p : Int) (hp : p = 20 - f) {G : Res (List Ty)} (hG : G = goR (tyR f) (zs.drop 2) 1 0 []) {Y : Res Ty} (hY : Y = if G.err = 0 then ⟨⟨I, ⟨#[]⟩, ⟨#[]⟩, [], G.val⟩, 2 + G.done, 0⟩ else ⟨tyNil, 0, G.err⟩) :
    Calls Tryd.prog 85 #[.slice (some ⟨b, off, none⟩) len cap, .int .i64 p] w (GotTy f w b zs Y) := by
  have hz := h.len_eq
  have hd : decide ((20 : Int) < p) = false := by simp; omega
  have hp1 : 0 ≤ p := by omega
  have hp2 : p ≤ 20 := by omega
  have HP : Hid (p + 1 = 21 - f) := by show _ = _; omega
  have HPP : Hid (p = 20 - f) := hp
  have H : Hid (BRow w b off len cap zs) := h
  have HI : Hid _ := hI
  have HZ : Hid (zs.length = len) := hz
  have HT : Hid (Tab w) := hT
  have IH : Hid (GetsTy f) := ih
  have HG : Hid _ := hG
  have HY : Hid _ := hY
  clear hG hY
  clear h hz hT ih hI hp
  go_enter Tryd.func85, Tryd.ntmps85
  go_wp2_with fail
  refine (bget (H.out.old (below_one _ _)) 2 (by omega) (by omega) (by omega) _ rfl).mono ?_
  rintro e w1 ⟨off1, rfl, hR1, hB1⟩
  rw [HI.out]
  have HR1 : Hid (BRow w1 b off1 (len - 2) (cap - 2) (zs.drop 2)) := hR1
  have hs1 : w.heap.size < w1.heap.size := by have := hB1.size; simp at this; omega
  have hbw : b < w1.heap.size := by omega
  have HT1 : Hid (Tab w1) := HT.out.old ((below_one w _).trans (hB1.mono (by simp)))
  clear hR1
  go_wp2_with fail
  refine (getKids_any f (by omega) IH.out (HR1.out.old (below_one _ _)) (by simp; omega) (HT1.out.old (below_one _ _)) (by omega) 1 0 (by omega) rfl HG.out _ _ rfl HP.out (by simp)).mono ?_
  rintro e w2 ⟨vk, r2, lr2, cr2, rfl, HOK, HB2, hB2⟩
  obtain ⟨ak, ck, hvk, hSk⟩ := (HOK.out).sees
  obtain ⟨lk, hlk⟩ : ∃ lk, lk = G.val.length := ⟨_, rfl⟩
  rw [← hlk] at hvk hSk
  subst hvk
  have HSK : Hid (Sees 5 (fun q => w1.heap.size + 1 ≤ q ∧ q < w2.heap.size) (VT f (fun q => w1.heap.size + 1 ≤ q ∧ q < w2.heap.size) w2) w2 ak lk ck G.val) := by show Sees _ _ _ _ _ _ _ _; simpa using hSk
  clear hSk hlk
  have hB2w : Below w1.heap.size w1 w2 := (below_one w1 _).trans (hB2.mono (by simp))
  obtain ⟨hc2, hf2⟩ := bcell hB2
  have hs2 : w1.heap.size < w2.heap.size := by have := hB2.size; simp at this; omega
  obtain ⟨w3, hw3⟩ : ∃ w3, w3 = w2.setCell ⟨w1.heap.size, 4, .none⟩ (.slice ak lk ck) := ⟨_, rfl⟩
  have hL3 : w2.setCell ⟨w1.heap.size, 4, .none⟩ (.slice ak lk ck) = w3 := hw3.symm
  have hB13 : Below w1.heap.size w1 w3 := by rw [hw3]; exact hB2w.setCell (p := ⟨w1.heap.size, 4, .none⟩) (Nat.le_refl _) _
  have hBx : Below (w.alloc (.cells #[.int .u16 0, .string ⟨#[]⟩, .string ⟨#[]⟩, .slice none 0 0, .slice none 0 0] 62)).heap.size (w.alloc (.cells #[.int .u16 0, .string ⟨#[]⟩, .string ⟨#[]⟩, .slice none 0 0, .slice none 0 0] 62)) w3 := hB1.trans (hB13.mono hB1.size)
  have hs3 : w2.heap.size ≤ w3.heap.size := by rw [hw3]; simp
  have hs3' : w3.heap.size ≤ w2.heap.size := by rw [hw3]; simp
  have n0 : w3.cell? ⟨w1.heap.size, 0, .none⟩ = some (.int .u16 I) := by rw [hw3]; simp [go_sem, hc2, hs2]
  have n1 : w3.cell? ⟨w1.heap.size, 1, .none⟩ = some (.string ⟨#[]⟩) := by rw [hw3]; simp [go_sem, hc2, hs2]
  have n2 : w3.cell? ⟨w1.heap.size, 2, .none⟩ = some (.string ⟨#[]⟩) := by rw [hw3]; simp [go_sem, hc2, hs2]
  have n3 : w3.cell? ⟨w1.heap.size, 3, .none⟩ = some (.slice none 0 0) := by rw [hw3]; simp [go_sem, hc2, hs2]
  have n4 : w3.cell? ⟨w1.heap.size, 4, .none⟩ = some (.slice ak lk ck) := by rw [hw3]; simp [go_sem, hc2, hs2]
  have HW3 : Hid _ := hw3
  clear hw3
  by_cases he : G.err = 0
  · rw [he]
    obtain ⟨hc, hf⟩ := bcell hBx
    have hs : w.heap.size < w3.heap.size := by omega
    have HYE : Hid (Y = ⟨⟨I, ⟨#[]⟩, ⟨#[]⟩, [], G.val⟩, 2 + G.done, 0⟩) := by show _ = _; rw [HY.out, if_pos he]
    go_wp2_with fail
    refine bodyPost_ret (v := .tuple #[.agg #[.int .u16 I, .string ⟨#[]⟩, .string ⟨#[]⟩, .slice none 0 0, .slice ak lk ck], .slice r2 lr2 cr2, .int .i64 0]) (by simp [results, Tryd.results85, go_sem, hc, hs]) rfl
      ⟨r2, lr2, cr2, none, 0, 0, ak, lk, ck, by rw [HYE.out], ?_, ?_, (((below_one w _).trans (hBx.mono (by simp))).trans ((below_five _ _ _ _ _ _ _).mono (Nat.le_refl _)))⟩
    · rw [HYE.out]
      refine ⟨⟨hI0, hI1⟩, by unfold maxLen; show 0 ≤ _; omega, by unfold maxLen; show 0 ≤ _; omega, sees_nil _ _ _ _, ?_⟩
      have hkb : ∀ q, w1.heap.size + 1 ≤ q → w3.heap[q]? = w2.heap[q]? := fun q hq => by rw [HW3.out]; exact Below.heap_setCell _ _ _ _ (by show q ≠ w1.heap.size; omega)
      refine HSK.out.mono (fun q hq hF => ?_) (by simp; omega) (fun _ _ _ hh => VT.mono (fun q hq hF => ?_) (by simp; omega) hh)
      · have := five_new (w := w) (wx := w3) (q := q) (base := w1.heap.size + 1) (a := .int .u16 I) (b := .string ⟨#[]⟩) (c := .string ⟨#[]⟩) (d := .slice none 0 0) (e := .slice ak lk ck) (by omega) hF.1 (by omega)
        exact ⟨this.1, this.2.trans (hkb q hF.1)⟩
      · have := five_new (w := w) (wx := w3) (q := q) (base := w1.heap.size + 1) (a := .int .u16 I) (b := .string ⟨#[]⟩) (c := .string ⟨#[]⟩) (d := .slice none 0 0) (e := .slice ak lk ck) (by omega) hF.1 (by omega)
        exact ⟨this.1, this.2.trans (hkb q hF.1)⟩
    · rw [HYE.out]
      have hrest := (show Rest w2 b r2 lr2 cr2 (zs.drop 2) G.done G.err from HB2.out)
      rw [he] at hrest
      refine rest_drop (by have := HZ.out; omega) ?_
      refine (hrest.below (W := w3) (base := w1.heap.size) (by rw [HW3.out]; exact (Below.refl _ _).setCell (p := ⟨w1.heap.size, 4, .none⟩) (Nat.le_refl _) _) hbw).below (base := w.heap.size) (below_five _ _ _ _ _ _ _) hb
  · have te : (G.err == 0) = false := by simpa using he
    have HE : Hid (Y = ⟨tyNil, 0, G.err⟩) := by show _ = _; rw [HY.out, if_neg he]
    have HNE : Hid (G.err ≠ 0) := he
    clear he
    obtain ⟨hc, hf⟩ := bcell hBx
    have hs : w.heap.size < w3.heap.size := by have := hBx.size; simp at this; omega
    go_wp2_with fail
    exact bodyPost_ret (v := .tuple #[.agg #[.int .u16 0, .string ⟨#[]⟩, .string ⟨#[]⟩, .slice none 0 0, .slice none 0 0], .slice none 0 0, .int .i64 G.err]) (by simp [results, Tryd.results85, go_sem, hc, hs]) rfl (gotTy_err HE.out HNE.out (((below_one w _).trans (hBx.mono (by simp))).trans ((below_five _ _ _ _ _ _ _).mono (Nat.le_refl _))))

set_option maxHeartbeats 2000000 in
theorem getType_map (f : Nat) (hf19 : f ≤ 19) (ih : GetsTy f) {w : World} {b off len cap : Nat} {zs : List Int} (h : BRow w b off len cap zs) (hb : b < w.heap.size) (hT : Tab w) (hsm : len ≤ 140737488351232) (hl : 2 ≤ len) (I : Int) (hI : numTo zs 2 = I) (hI0 : 0 ≤ I) (hI1 : I < 65536) (q0 : (I == 0) = false) (q1 : (I == 32) = false) (q2 : (I == 34) = false) (q3 : (I == 33) = true) (p : Int) (hp : p = 20 - f) {G : Res (List Ty)} (hG : G = goR (tyR f) (zs.drop 2) 2 0 []) {Y : Res Ty} (hY : Y = if G.err = 0 then ⟨⟨I, ⟨#[]⟩, ⟨#[]⟩, [], G.val⟩, 2 + G.done, 0⟩ else ⟨tyNil, 0, G.err⟩) :
    Calls Tryd.prog 85 #[.slice (some ⟨b, off, none⟩) len cap, .int .i64 p] w (GotTy f w b zs Y) := by
  have hz := h.len_eq
  have hd : decide ((20 : Int) < p) = false := by simp; omega
  have hp1 : 0 ≤ p := by omega
  have hp2 : p ≤ 20 := by omega
  have HP : Hid (p + 1 = 21 - f) := by show _ = _; omega
  have HPP : Hid (p = 20 - f) := hp
  have H : Hid (BRow w b off len cap zs) := h
  have HI : Hid _ := hI
  have HZ : Hid (zs.length = len) := hz
  have HT : Hid (Tab w) := hT
  have IH : Hid (GetsTy f) := ih
  have HG : Hid _ := hG
  have HY : Hid _ := hY
  clear hG hY
  clear h hz hT ih hI hp
  go_enter Tryd.func85, Tryd.ntmps85
  go_wp2_with fail
  refine (bget (H.out.old (below_one _ _)) 2 (by omega) (by omega) (by omega) _ rfl).mono ?_
  rintro e w1 ⟨off1, rfl, hR1, hB1⟩
  rw [HI.out]
  have HR1 : Hid (BRow w1 b off1 (len - 2) (cap - 2) (zs.drop 2)) := hR1
  have hs1 : w.heap.size < w1.heap.size := by have := hB1.size; simp at this; omega
  have hbw : b < w1.heap.size := by omega
  have HT1 : Hid (Tab w1) := HT.out.old ((below_one w _).trans (hB1.mono (by simp)))
  clear hR1
  go_wp2_with fail
  refine (getKids_any f (by omega) IH.out (HR1.out.old (below_one _ _)) (by simp; omega) (HT1.out.old (below_one _ _)) (by omega) 2 0 (by omega) rfl HG.out _ _ rfl HP.out (by simp)).mono ?_
  rintro e w2 ⟨vk, r2, lr2, cr2, rfl, HOK, HB2, hB2⟩
  obtain ⟨ak, ck, hvk, hSk⟩ := (HOK.out).sees
  obtain ⟨lk, hlk⟩ : ∃ lk, lk = G.val.length := ⟨_, rfl⟩
  rw [← hlk] at hvk hSk
  subst hvk
  have HSK : Hid (Sees 5 (fun q => w1.heap.size + 1 ≤ q ∧ q < w2.heap.size) (VT f (fun q => w1.heap.size + 1 ≤ q ∧ q < w2.heap.size) w2) w2 ak lk ck G.val) := by show Sees _ _ _ _ _ _ _ _; simpa using hSk
  clear hSk hlk
  have hB2w : Below w1.heap.size w1 w2 := (below_one w1 _).trans (hB2.mono (by simp))
  obtain ⟨hc2, hf2⟩ := bcell hB2
  have hs2 : w1.heap.size < w2.heap.size := by have := hB2.size; simp at this; omega
  obtain ⟨w3, hw3⟩ : ∃ w3, w3 = w2.setCell ⟨w1.heap.size, 4, .none⟩ (.slice ak lk ck) := ⟨_, rfl⟩
  have hL3 : w2.setCell ⟨w1.heap.size, 4, .none⟩ (.slice ak lk ck) = w3 := hw3.symm
  have hB13 : Below w1.heap.size w1 w3 := by rw [hw3]; exact hB2w.setCell (p := ⟨w1.heap.size, 4, .none⟩) (Nat.le_refl _) _
  have hBx : Below (w.alloc (.cells #[.int .u16 0, .string ⟨#[]⟩, .string ⟨#[]⟩, .slice none 0 0, .slice none 0 0] 62)).heap.size (w.alloc (.cells #[.int .u16 0, .string ⟨#[]⟩, .string ⟨#[]⟩, .slice none 0 0, .slice none 0 0] 62)) w3 := hB1.trans (hB13.mono hB1.size)
  have hs3 : w2.heap.size ≤ w3.heap.size := by rw [hw3]; simp
  have hs3' : w3.heap.size ≤ w2.heap.size := by rw [hw3]; simp
  have n0 : w3.cell? ⟨w1.heap.size, 0, .none⟩ = some (.int .u16 I) := by rw [hw3]; simp [go_sem, hc2, hs2]
  have n1 : w3.cell? ⟨w1.heap.size, 1, .none⟩ = some (.string ⟨#[]⟩) := by rw [hw3]; simp [go_sem, hc2, hs2]
  have n2 : w3.cell? ⟨w1.heap.size, 2, .none⟩ = some (.string ⟨#[]⟩) := by rw [hw3]; simp [go_sem, hc2, hs2]
  have n3 : w3.cell? ⟨w1.heap.size, 3, .none⟩ = some (.slice none 0 0) := by rw [hw3]; simp [go_sem, hc2, hs2]
  have n4 : w3.cell? ⟨w1.heap.size, 4, .none⟩ = some (.slice ak lk ck) := by rw [hw3]; simp [go_sem, hc2, hs2]
  have HW3 : Hid _ := hw3
  clear hw3
  by_cases he : G.err = 0
  · rw [he]
    obtain ⟨hc, hf⟩ := bcell hBx
    have hs : w.heap.size < w3.heap.size := by omega
    have HYE : Hid (Y = ⟨⟨I, ⟨#[]⟩, ⟨#[]⟩, [], G.val⟩, 2 + G.done, 0⟩) := by show _ = _; rw [HY.out, if_pos he]
    go_wp2_with fail
    refine bodyPost_ret (v := .tuple #[.agg #[.int .u16 I, .string ⟨#[]⟩, .string ⟨#[]⟩, .slice none 0 0, .slice ak lk ck], .slice r2 lr2 cr2, .int .i64 0]) (by simp [results, Tryd.results85, go_sem, hc, hs]) rfl
      ⟨r2, lr2, cr2, none, 0, 0, ak, lk, ck, by rw [HYE.out], ?_, ?_, (((below_one w _).trans (hBx.mono (by simp))).trans ((below_five _ _ _ _ _ _ _).mono (Nat.le_refl _)))⟩
    · rw [HYE.out]
      refine ⟨⟨hI0, hI1⟩, by unfold maxLen; show 0 ≤ _; omega, by unfold maxLen; show 0 ≤ _; omega, sees_nil _ _ _ _, ?_⟩
      have hkb : ∀ q, w1.heap.size + 1 ≤ q → w3.heap[q]? = w2.heap[q]? := fun q hq => by rw [HW3.out]; exact Below.heap_setCell _ _ _ _ (by show q ≠ w1.heap.size; omega)
      refine HSK.out.mono (fun q hq hF => ?_) (by simp; omega) (fun _ _ _ hh => VT.mono (fun q hq hF => ?_) (by simp; omega) hh)
      · have := five_new (w := w) (wx := w3) (q := q) (base := w1.heap.size + 1) (a := .int .u16 I) (b := .string ⟨#[]⟩) (c := .string ⟨#[]⟩) (d := .slice none 0 0) (e := .slice ak lk ck) (by omega) hF.1 (by omega)
        exact ⟨this.1, this.2.trans (hkb q hF.1)⟩
      · have := five_new (w := w) (wx := w3) (q := q) (base := w1.heap.size + 1) (a := .int .u16 I) (b := .string ⟨#[]⟩) (c := .string ⟨#[]⟩) (d := .slice none 0 0) (e := .slice ak lk ck) (by omega) hF.1 (by omega)
        exact ⟨this.1, this.2.trans (hkb q hF.1)⟩
    · rw [HYE.out]
      have hrest := (show Rest w2 b r2 lr2 cr2 (zs.drop 2) G.done G.err from HB2.out)
      rw [he] at hrest
      refine rest_drop (by have := HZ.out; omega) ?_
      refine (hrest.below (W := w3) (base := w1.heap.size) (by rw [HW3.out]; exact (Below.refl _ _).setCell (p := ⟨w1.heap.size, 4, .none⟩) (Nat.le_refl _) _) hbw).below (base := w.heap.size) (below_five _ _ _ _ _ _ _) hb
  · have te : (G.err == 0) = false := by simpa using he
    have HE : Hid (Y = ⟨tyNil, 0, G.err⟩) := by show _ = _; rw [HY.out, if_neg he]
    have HNE : Hid (G.err ≠ 0) := he
    clear he
    obtain ⟨hc, hf⟩ := bcell hBx
    have hs : w.heap.size < w3.heap.size := by have := hBx.size; simp at this; omega
    go_wp2_with fail
    exact bodyPost_ret (v := .tuple #[.agg #[.int .u16 0, .string ⟨#[]⟩, .string ⟨#[]⟩, .slice none 0 0, .slice none 0 0], .slice none 0 0, .int .i64 G.err]) (by simp [results, Tryd.results85, go_sem, hc, hs]) rfl (gotTy_err HE.out HNE.out (((below_one w _).trans (hBx.mono (by simp))).trans ((below_five _ _ _ _ _ _ _).mono (Nat.le_refl _))))

set_option maxHeartbeats 2000000 in
theorem getType_tuple (f : Nat) (hf19 : f ≤ 19) (ih : GetsTy f) {w : World} {b off len cap : Nat} {zs : List Int} (h : BRow w b off len cap zs) (hb : b < w.heap.size) (hT : Tab w) (hsm : len ≤ 140737488351232) (hl : 2 ≤ len) (I : Int) (hI : numTo zs 2 = I) (hI0 : 0 ≤ I) (hI1 : I < 65536) (q0 : (I == 0) = false) (q1 : (I == 32) = false) (q2 : (I == 34) = false) (q3 : (I == 33) = false) (q4 : (I == 48) = false) (q5 : (I == 49) = true) (p : Int) (hp : p = 20 - f) {G : Res (List Ty)} (hG : G = tupleR (tyR f) (zs.drop 2)) {Y : Res Ty} (hY : Y = if G.err = 0 then ⟨⟨I, ⟨#[]⟩, ⟨#[]⟩, [], G.val⟩, 2 + G.done, 0⟩ else ⟨tyNil, 0, G.err⟩) :
    Calls Tryd.prog 85 #[.slice (some ⟨b, off, none⟩) len cap, .int .i64 p] w (GotTy f w b zs Y) := by
  have hz := h.len_eq
  have hd : decide ((20 : Int) < p) = false := by simp; omega
  have hp1 : 0 ≤ p := by omega
  have hp2 : p ≤ 20 := by omega
  have HP : Hid (p + 1 = 21 - f) := by show _ = _; omega
  have HPP : Hid (p = 20 - f) := hp
  have H : Hid (BRow w b off len cap zs) := h
  have HI : Hid _ := hI
  have HZ : Hid (zs.length = len) := hz
  have HT : Hid (Tab w) := hT
  have IH : Hid (GetsTy f) := ih
  have HG : Hid _ := hG
  have HY : Hid _ := hY
  clear hG hY
  clear h hz hT ih hI hp
  go_enter Tryd.func85, Tryd.ntmps85
  go_wp2_with fail
  refine (bget (H.out.old (below_one _ _)) 2 (by omega) (by omega) (by omega) _ rfl).mono ?_
  rintro e w1 ⟨off1, rfl, hR1, hB1⟩
  rw [HI.out]
  have HR1 : Hid (BRow w1 b off1 (len - 2) (cap - 2) (zs.drop 2)) := hR1
  have hs1 : w.heap.size < w1.heap.size := by have := hB1.size; simp at this; omega
  have hbw : b < w1.heap.size := by omega
  have HT1 : Hid (Tab w1) := HT.out.old ((below_one w _).trans (hB1.mono (by simp)))
  clear hR1
  go_wp2_with fail
  refine (getTuple_any f (by omega) IH.out (HR1.out.old (below_one _ _)) (by simp; omega) (HT1.out.old (below_one _ _)) (by omega) HG.out _ HPP.out).mono ?_
  rintro e w2 ⟨vk, r2, lr2, cr2, rfl, HOK, HB2, hB2⟩
  obtain ⟨ak, ck, hvk, hSk⟩ := (HOK.out).sees
  obtain ⟨lk, hlk⟩ : ∃ lk, lk = G.val.length := ⟨_, rfl⟩
  rw [← hlk] at hvk hSk
  subst hvk
  have HSK : Hid (Sees 5 (fun q => w1.heap.size + 1 ≤ q ∧ q < w2.heap.size) (VT f (fun q => w1.heap.size + 1 ≤ q ∧ q < w2.heap.size) w2) w2 ak lk ck G.val) := by show Sees _ _ _ _ _ _ _ _; simpa using hSk
  clear hSk hlk
  have hB2w : Below w1.heap.size w1 w2 := (below_one w1 _).trans (hB2.mono (by simp))
  obtain ⟨hc2, hf2⟩ := bcell hB2
  have hs2 : w1.heap.size < w2.heap.size := by have := hB2.size; simp at this; omega
  obtain ⟨w3, hw3⟩ : ∃ w3, w3 = w2.setCell ⟨w1.heap.size, 4, .none⟩ (.slice ak lk ck) := ⟨_, rfl⟩
  have hL3 : w2.setCell ⟨w1.heap.size, 4, .none⟩ (.slice ak lk ck) = w3 := hw3.symm
  have hB13 : Below w1.heap.size w1 w3 := by rw [hw3]; exact hB2w.setCell (p := ⟨w1.heap.size, 4, .none⟩) (Nat.le_refl _) _
  have hBx : Below (w.alloc (.cells #[.int .u16 0, .string ⟨#[]⟩, .string ⟨#[]⟩, .slice none 0 0, .slice none 0 0] 62)).heap.size (w.alloc (.cells #[.int .u16 0, .string ⟨#[]⟩, .string ⟨#[]⟩, .slice none 0 0, .slice none 0 0] 62)) w3 := hB1.trans (hB13.mono hB1.size)
  have hs3 : w2.heap.size ≤ w3.heap.size := by rw [hw3]; simp
  have hs3' : w3.heap.size ≤ w2.heap.size := by rw [hw3]; simp
  have n0 : w3.cell? ⟨w1.heap.size, 0, .none⟩ = some (.int .u16 I) := by rw [hw3]; simp [go_sem, hc2, hs2]
  have n1 : w3.cell? ⟨w1.heap.size, 1, .none⟩ = some (.string ⟨#[]⟩) := by rw [hw3]; simp [go_sem, hc2, hs2]
  have n2 : w3.cell? ⟨w1.heap.size, 2, .none⟩ = some (.string ⟨#[]⟩) := by rw [hw3]; simp [go_sem, hc2, hs2]
  have n3 : w3.cell? ⟨w1.heap.size, 3, .none⟩ = some (.slice none 0 0) := by rw [hw3]; simp [go_sem, hc2, hs2]
  have n4 : w3.cell? ⟨w1.heap.size, 4, .none⟩ = some (.slice ak lk ck) := by rw [hw3]; simp [go_sem, hc2, hs2]
  have HW3 : Hid _ := hw3
  clear hw3
  by_cases he : G.err = 0
  · rw [he]
    obtain ⟨hc, hf⟩ := bcell hBx
    have hs : w.heap.size < w3.heap.size := by omega
    have HYE : Hid (Y = ⟨⟨I, ⟨#[]⟩, ⟨#[]⟩, [], G.val⟩, 2 + G.done, 0⟩) := by show _ = _; rw [HY.out, if_pos he]
    go_wp2_with fail
    refine bodyPost_ret (v := .tuple #[.agg #[.int .u16 I, .string ⟨#[]⟩, .string ⟨#[]⟩, .slice none 0 0, .slice ak lk ck], .slice r2 lr2 cr2, .int .i64 0]) (by simp [results, Tryd.results85, go_sem, hc, hs]) rfl
      ⟨r2, lr2, cr2, none, 0, 0, ak, lk, ck, by rw [HYE.out], ?_, ?_, (((below_one w _).trans (hBx.mono (by simp))).trans ((below_five _ _ _ _ _ _ _).mono (Nat.le_refl _)))⟩
    · rw [HYE.out]
      refine ⟨⟨hI0, hI1⟩, by unfold maxLen; show 0 ≤ _; omega, by unfold maxLen; show 0 ≤ _; omega, sees_nil _ _ _ _, ?_⟩
      have hkb : ∀ q, w1.heap.size + 1 ≤ q → w3.heap[q]? = w2.heap[q]? := fun q hq => by rw [HW3.out]; exact Below.heap_setCell _ _ _ _ (by show q ≠ w1.heap.size; omega)
      refine HSK.out.mono (fun q hq hF => ?_) (by simp; omega) (fun _ _ _ hh => VT.mono (fun q hq hF => ?_) (by simp; omega) hh)
      · have := five_new (w := w) (wx := w3) (q := q) (base := w1.heap.size + 1) (a := .int .u16 I) (b := .string ⟨#[]⟩) (c := .string ⟨#[]⟩) (d := .slice none 0 0) (e := .slice ak lk ck) (by omega) hF.1 (by omega)
        exact ⟨this.1, this.2.trans (hkb q hF.1)⟩
      · have := five_new (w := w) (wx := w3) (q := q) (base := w1.heap.size + 1) (a := .int .u16 I) (b := .string ⟨#[]⟩) (c := .string ⟨#[]⟩) (d := .slice none 0 0) (e := .slice ak lk ck) (by omega) hF.1 (by omega)
        exact ⟨this.1, this.2.trans (hkb q hF.1)⟩
    · rw [HYE.out]
      have hrest := (show Rest w2 b r2 lr2 cr2 (zs.drop 2) G.done G.err from HB2.out)
      rw [he] at hrest
      refine rest_drop (by have := HZ.out; omega) ?_
      refine (hrest.below (W := w3) (base := w1.heap.size) (by rw [HW3.out]; exact (Below.refl _ _).setCell (p := ⟨w1.heap.size, 4, .none⟩) (Nat.le_refl _) _) hbw).below (base := w.heap.size) (below_five _ _ _ _ _ _ _) hb
  · have te : (G.err == 0) = false := by simpa using he
    have HE : Hid (Y = ⟨tyNil, 0, G.err⟩) := by show _ = _; rw [HY.out, if_neg he]
    have HNE : Hid (G.err ≠ 0) := he
    clear he
    obtain ⟨hc, hf⟩ := bcell hBx
    have hs : w.heap.size < w3.heap.size := by have := hBx.size; simp at this; omega
    go_wp2_with fail
    exact bodyPost_ret (v := .tuple #[.agg #[.int .u16 0, .string ⟨#[]⟩, .string ⟨#[]⟩, .slice none 0 0, .slice none 0 0], .slice none 0 0, .int .i64 G.err]) (by simp [results, Tryd.results85, go_sem, hc, hs]) rfl (gotTy_err HE.out HNE.out (((below_one w _).trans (hBx.mono (by simp))).trans ((below_five _ _ _ _ _ _ _).mono (Nat.le_refl _))))

set_option maxHeartbeats 2000000 in
theorem getType_udt (f : Nat) (hf19 : f ≤ 19) (ih : GetsTy f) {w : World} {b off len cap : Nat} {zs : List Int} (h : BRow w b off len cap zs) (hb : b < w.heap.size) (hT : Tab w) (hsm : len ≤ 140737488351232) (hl : 2 ≤ len) (I : Int) (hI : numTo zs 2 = I) (hI0 : 0 ≤ I) (hI1 : I < 65536) (q0 : (I == 0) = false) (q1 : (I == 32) = false) (q2 : (I == 34) = false) (q3 : (I == 33) = false) (q4 : (I == 48) = true) (p : Int) (hp : p = 20 - f) {G : Res Ty} (hG : G = udtR (tyR f) (zs.drop 2)) {Y : Res Ty} (hY : Y = if G.err = 0 then ⟨G.val, 2 + G.done, 0⟩ else ⟨tyNil, 0, G.err⟩) (hGN : G.err ≠ 0 → G.val = tyNil) :
    Calls Tryd.prog 85 #[.slice (some ⟨b, off, none⟩) len cap, .int .i64 p] w (GotTy f w b zs Y) := by
  have hz := h.len_eq
  have hd : decide ((20 : Int) < p) = false := by simp; omega
  have hp1 : 0 ≤ p := by omega
  have hp2 : p ≤ 20 := by omega
  have HP : Hid (p + 1 = 21 - f) := by show _ = _; omega
  have HPP : Hid (p = 20 - f) := hp
  have H : Hid (BRow w b off len cap zs) := h
  have HI : Hid _ := hI
  have HZ : Hid (zs.length = len) := hz
  have HT : Hid (Tab w) := hT
  have IH : Hid (GetsTy f) := ih
  have HG : Hid _ := hG
  have HY : Hid _ := hY
  have HGN : Hid _ := hGN
  clear hG hY hGN
  clear h hz hT ih hI hp
  go_enter Tryd.func85, Tryd.ntmps85
  go_wp2_with fail
  refine (bget (H.out.old (below_one _ _)) 2 (by omega) (by omega) (by omega) _ rfl).mono ?_
  rintro e w1 ⟨off1, rfl, hR1, hB1⟩
  rw [HI.out]
  have HR1 : Hid (BRow w1 b off1 (len - 2) (cap - 2) (zs.drop 2)) := hR1
  have hs1 : w.heap.size < w1.heap.size := by have := hB1.size; simp at this; omega
  have hbw : b < w1.heap.size := by omega
  have HT1 : Hid (Tab w1) := HT.out.old ((below_one w _).trans (hB1.mono (by simp)))
  clear hR1
  go_wp2_with fail
  refine (getUdt_any f (by omega) IH.out (HR1.out.old (below_one _ _)) (by simp; omega) (HT1.out.old (below_one _ _)) (by omega) HG.out _ HPP.out).mono ?_
  rintro e w2 ⟨r2, lr2, cr2, na, nl, nc, ka, kl, kc, rfl, HTY, HB2, hB2⟩
  have hB2w : Below w1.heap.size w1 w2 := (below_one w1 _).trans (hB2.mono (by simp))
  have hs2 : w1.heap.size < w2.heap.size := by have := hB2.size; simp at this; omega
  have hBx : Below (w.alloc (.cells #[.int .u16 0, .string ⟨#[]⟩, .string ⟨#[]⟩, .slice none 0 0, .slice none 0 0] 62)).heap.size (w.alloc (.cells #[.int .u16 0, .string ⟨#[]⟩, .string ⟨#[]⟩, .slice none 0 0, .slice none 0 0] 62)) w2 := hB1.trans (hB2w.mono hB1.size)
  obtain ⟨hc, hf⟩ := bcell hBx
  have hs : w.heap.size < w2.heap.size := by omega
  have HYV : Hid (Y.val = G.val ∧ Y.err = G.err) := by
    show _ ∧ _
    rw [HY.out]
    split
    · rename_i he; exact ⟨rfl, he.symm⟩
    · rename_i he; exact ⟨(HGN.out he).symm, rfl⟩
  go_wp2_with fail
  refine bodyPost_ret (v := .tuple #[.agg #[.int .u16 G.val.id, .string G.val.space, .string G.val.name, .slice na nl nc, .slice ka kl kc], .slice r2 lr2 cr2, .int .i64 G.err]) (by simp [results, Tryd.results85, go_sem, hc, hs]) rfl
    ⟨r2, lr2, cr2, na, nl, nc, ka, kl, kc, by rw [HYV.out.1, HYV.out.2], ?_, ?_, (((below_one w _).trans (hBx.mono (by simp))).trans ((below_five _ _ _ _ _ _ _).mono (Nat.le_refl _)))⟩
  · rw [HYV.out.1]
    refine HTY.out.mono (fun q hq hF => ?_) (by simp)
    have hF1 : w1.heap.size + 1 ≤ q := by have := hF.1; simpa using this
    exact five_new (base := w1.heap.size + 1) (by omega) hF1 (by omega)
  · have hrest : Rest w2 b r2 lr2 cr2 (zs.drop 2) G.done G.err := HB2.out
    by_cases he : G.err = 0
    · rw [HY.out, if_pos he]
      rw [he] at hrest
      exact (rest_drop (by have := HZ.out; omega) hrest).below (base := w.heap.size) (below_five _ _ _ _ _ _ _) hb
    · rw [HY.out, if_neg he]
      rcases hrest with ⟨h1, h2⟩ | ⟨h1, _⟩
      · exact .inl ⟨he, h2⟩
      · exact absurd h1 he

set_option maxHeartbeats 2000000 in
theorem getType_else (f : Nat) (hf19 : f ≤ 19) (ih : GetsTy f) {w : World} {b off len cap : Nat} {zs : List Int} (h : BRow w b off len cap zs) (hb : b < w.heap.size) (hT : Tab w) (hsm : len ≤ 140737488351232) (hl : 2 ≤ len) (I : Int) (hI : numTo zs 2 = I) (hI0 : 0 ≤ I) (hI1 : I < 65536) (q0 : (I == 0) = false) (q1 : (I == 32) = false) (q2 : (I == 34) = false) (q3 : (I == 33) = false) (q4 : (I == 48) = false) (q5 : (I == 49) = false) (p : Int) (hp : p = 20 - f) {d : Bool} (hd1 : d = plainB I) {Y : Res Ty} (hY : Y = if d = true then ⟨⟨I, ⟨#[]⟩, ⟨#[]⟩, [], []⟩, 2, 0⟩ else ⟨tyNil, 0, 11⟩) :
    Calls Tryd.prog 85 #[.slice (some ⟨b, off, none⟩) len cap, .int .i64 p] w (GotTy f w b zs Y) := by
  have hz := h.len_eq
  have hd : decide ((20 : Int) < p) = false := by simp; omega
  have hp1 : 0 ≤ p := by omega
  have hp2 : p ≤ 20 := by omega
  have HP : Hid (p + 1 = 21 - f) := by show _ = _; omega
  have HPP : Hid (p = 20 - f) := hp
  have H : Hid (BRow w b off len cap zs) := h
  have HI : Hid _ := hI
  have HZ : Hid (zs.length = len) := hz
  have HT : Hid (Tab w) := hT
  have IH : Hid (GetsTy f) := ih
  have HD : Hid _ := hd1
  have HY : Hid _ := hY
  clear hd1 hY
  clear h hz hT ih hI hp
  go_enter Tryd.func85, Tryd.ntmps85
  go_wp2_with fail
  refine (bget (H.out.old (below_one _ _)) 2 (by omega) (by omega) (by omega) _ rfl).mono ?_
  rintro e w1 ⟨off1, rfl, hR1, hB1⟩
  rw [HI.out]
  have HR1 : Hid (BRow w1 b off1 (len - 2) (cap - 2) (zs.drop 2)) := hR1
  have hs1 : w.heap.size < w1.heap.size := by have := hB1.size; simp at this; omega
  have hbw : b < w1.heap.size := by omega
  have HT1 : Hid (Tab w1) := HT.out.old ((below_one w _).trans (hB1.mono (by simp)))
  clear hR1
  go_wp2_with fail
  refine (isPlain_any _ (HT1.out.old (below_one _ _)) I hI0 hI1 HD.out).mono ?_
  rintro e w2 ⟨rfl, rfl⟩
  have hBx : Below (w.alloc (.cells #[.int .u16 0, .string ⟨#[]⟩, .string ⟨#[]⟩, .slice none 0 0, .slice none 0 0] 62)).heap.size (w.alloc (.cells #[.int .u16 0, .string ⟨#[]⟩, .string ⟨#[]⟩, .slice none 0 0, .slice none 0 0] 62)) w1 := hB1
  obtain ⟨hc, hf⟩ := bcell hBx
  cases d with
  | true =>
    have HYE : Hid (Y = ⟨⟨I, ⟨#[]⟩, ⟨#[]⟩, [], []⟩, 2, 0⟩) := HY.out
    go_wp2_with fail
    refine bodyPost_ret (v := .tuple #[.agg #[.int .u16 I, .string ⟨#[]⟩, .string ⟨#[]⟩, .slice none 0 0, .slice none 0 0], .slice (some ⟨b, off1, none⟩) (len - 2) (cap - 2), .int .i64 0]) (by simp [results, Tryd.results85, go_sem, hc, hs1]) rfl
      ⟨_, _, _, none, 0, 0, none, 0, 0, by rw [HYE.out], ?_, ?_, ?_⟩
    · rw [HYE.out]
      exact ⟨⟨hI0, hI1⟩, by unfold maxLen; show 0 ≤ _; omega, by unfold maxLen; show 0 ≤ _; omega, sees_nil _ _ _ _, sees_nil _ _ _ _⟩
    · rw [HYE.out]
      exact .inr ⟨rfl, (by have := HZ.out; show 2 ≤ _; omega), off1, rfl, (HR1.out.below (base := w.heap.size) (below_five _ _ _ _ _ _ _) (fun _ => hb)).old (below_one _ _)⟩
    · exact ((below_one w _).trans (hB1.mono (by simp))).trans ((below_five _ _ _ _ _ _ _).alloc (by rw [five_size]; omega) _)
  | false =>
    have HE : Hid (Y = ⟨tyNil, 0, 11⟩) := HY.out
    go_wp2_with fail
    refine bodyPost_ret (v := .tuple #[.agg #[.int .u16 0, .string ⟨#[]⟩, .string ⟨#[]⟩, .slice none 0 0, .slice none 0 0], .slice none 0 0, .int .i64 11]) (by simp [results, Tryd.results85, go_sem, hc, hs1]) rfl (gotTy_err HE.out (by decide) ?_)
    exact ((below_one w _).trans (hB1.mono (by simp))).trans ((below_five _ _ _ _ _ _ _).alloc (by rw [five_size]; omega) _)

theorem udtR_nil (q : List Int → Res Ty) (zs : List Int) : (udtR q zs).err ≠ 0 → (udtR q zs).val = tyNil := by
  unfold udtR
  split
  · split
    · split
      · intro _; rfl
      · simp only
        split
        · intro h; exact absurd rfl h
        · intro _; rfl
    · intro _; rfl
  · intro _; rfl

theorem rest_behind {w : World} {b off : Nat} {r : Option Addr} {lr cr : Nat} {zs : List Int} {d : Nat} {er : Int} (h : Rest w b r lr cr zs d er) (hz : 0 < zs.length) (hb : b < w.heap.size) : Behind w (some ⟨b, off, none⟩) r lr cr zs d er := by
  rcases h with h | ⟨h1, h2, o, h3, h4⟩
  · exact .inl h
  · exact .inr ⟨h1, h2, hz, b, off, o, rfl, h3, hb, h4⟩

theorem getType_step (f : Nat) (hf : f ≤ 19) (ih : GetsTy f) : GetsTy (f + 1) := by
  intro w a len cap zs h hT hsm X hX p hp
  have hp' : p = 20 - f := by omega
  by_cases hl : len < 2
  · have hX2 : X = ⟨tyNil, 0, 10⟩ := by rw [hX, tyR, if_pos (by rw [h.1]; exact hl)]
    subst hX2
    refine (getType_short w a len cap zs hl p (by omega) (by omega)).mono ?_
    rintro e w' ⟨rfl, hB⟩
    exact ⟨none, 0, 0, none, 0, 0, none, 0, 0, rfl, tyAt_nil _ _ _, .inl ⟨by decide, rfl⟩, hB⟩
  · obtain ⟨b, off, rfl, hR⟩ := h.2.2.2.2 (by omega)
    have hb := hR.lt (by omega)
    have hz : zs.length = len := h.1
    obtain ⟨I, hI⟩ : ∃ I, numTo zs 2 = I := ⟨_, rfl⟩
    have hb1 := numTo_bound zs hR.rng 2 (by omega)
    rw [hI, show (256 : Int) ^ 2 = 65536 by decide] at hb1
    have fin : Calls Tryd.prog 85 #[.slice (some ⟨b, off, none⟩) len cap, .int .i64 p] w (GotTy f w b zs X) → Calls Tryd.prog 85 #[.slice (some ⟨b, off, none⟩) len cap, .int .i64 p] w fun e w' => ∃ r lr cr na nl nc ka kl kc, e = .returned (.tuple #[.agg #[.int .u16 X.val.id, .string X.val.space, .string X.val.name, .slice na nl nc, .slice ka kl kc], .slice r lr cr, .int .i64 X.err]) ∧
        Hid (TyAt (f + 1 - 1) (New w.heap.size w') w' X.val na nl nc ka kl kc) ∧ Hid (Behind w' (some ⟨b, off, none⟩) r lr cr zs X.done X.err) ∧ Below w.heap.size w w' := by
      intro hc
      refine hc.mono ?_
      rintro e w' ⟨r, lr, cr, na, nl, nc, ka, kl, kc, rfl, h1, h2, h3⟩
      exact ⟨r, lr, cr, na, nl, nc, ka, kl, kc, rfl, h1, rest_behind h2.out (by omega) (Nat.lt_of_lt_of_le hb h3.size), h3⟩
    apply fin
    rw [tyR, if_neg (by omega)] at hX
    simp only [hI] at hX
    by_cases h0 : I = 0
    · rw [if_pos h0] at hX
      exact getType_custom f hf ih hR hb hT hsm (by omega) I hI hb1.1 hb1.2 (by simp [h0]) p hp' rfl (by rw [hX, h0])
    rw [if_neg h0] at hX
    have q0 : (I == 0) = false := by simpa using h0
    by_cases h48 : I = 48
    · rw [if_pos h48] at hX
      exact getType_udt f hf ih hR hb hT hsm (by omega) I hI hb1.1 hb1.2 q0 (by simp [h48]) (by simp [h48]) (by simp [h48]) (by simp [h48]) p hp' rfl hX (udtR_nil _ _)
    rw [if_neg h48] at hX
    have q48 : (I == 48) = false := by simpa using h48
    by_cases h32 : I = 32
    · rw [if_pos (.inl h32)] at hX
      rw [if_neg (show ¬ I = 49 by omega), if_neg (show ¬ I = 33 by omega)] at hX
      exact getType_list f hf ih hR hb hT hsm (by omega) I hI hb1.1 hb1.2 q0 (by simp [h32]) p hp' rfl hX
    have q32 : (I == 32) = false := by simpa using h32
    by_cases h34 : I = 34
    · rw [if_pos (.inr (.inl h34))] at hX
      rw [if_neg (show ¬ I = 49 by omega), if_neg (show ¬ I = 33 by omega)] at hX
      exact getType_set f hf ih hR hb hT hsm (by omega) I hI hb1.1 hb1.2 q0 q32 (by simp [h34]) p hp' rfl hX
    have q34 : (I == 34) = false := by simpa using h34
    by_cases h33 : I = 33
    · rw [if_pos (.inr (.inr (.inl h33)))] at hX
      rw [if_neg (show ¬ I = 49 by omega), if_pos h33] at hX
      exact getType_map f hf ih hR hb hT hsm (by omega) I hI hb1.1 hb1.2 q0 q32 q34 (by simp [h33]) p hp' rfl hX
    have q33 : (I == 33) = false := by simpa using h33
    by_cases h49 : I = 49
    · rw [if_pos (.inr (.inr (.inr h49)))] at hX
      rw [if_pos h49] at hX
      exact getType_tuple f hf ih hR hb hT hsm (by omega) I hI hb1.1 hb1.2 q0 q32 q34 q33 q48 (by simp [h49]) p hp' rfl hX
    have q49 : (I == 49) = false := by simpa using h49
    rw [if_neg (by omega)] at hX
    exact getType_else f hf ih hR hb hT hsm (by omega) I hI hb1.1 hb1.2 q0 q32 q34 q33 q48 q49 p hp' rfl hX

theorem getType_any (f : Nat) (hf : f ≤ 20) : GetsTy f := by
  induction f with
  | zero =>
    intro w a len cap zs h hT hsm X hX p hp
    obtain rfl : X = ⟨tyNil, 0, 13⟩ := hX
    refine (getType_deep w a len cap zs p (by omega)).mono ?_
    rintro e w' ⟨rfl, hB⟩
    exact ⟨none, 0, 0, none, 0, 0, none, 0, 0, rfl, tyAt_nil _ _ _, .inl ⟨by decide, rfl⟩, hB⟩
  | succ f ih => exact getType_step f (by omega) (ih (by omega))

set_option maxHeartbeats 1000000 in
theorem Get_any {w : World} {a : Option Addr} {len cap : Nat} {zs : List Int} (h : IsB w a len cap zs) (hT : Tab w) (hsm : len ≤ 140737488351232) {X : Res Ty} (hX : X = tyR 20 zs) :
    Calls Tryd.prog 73 #[.slice a len cap] w fun e w' => ∃ r lr cr na nl nc ka kl kc, e = .returned (.tuple #[.agg #[.int .u16 X.val.id, .string X.val.space, .string X.val.name, .slice na nl nc, .slice ka kl kc], .slice r lr cr, .int .i64 X.err]) ∧
      Hid (TyAt 19 (New w.heap.size w') w' X.val na nl nc ka kl kc) ∧ Hid (Behind w' a r lr cr zs X.done X.err) ∧ Below w.heap.size w w' := by
  have H : Hid (IsB w a len cap zs) := h
  have HT : Hid (Tab w) := hT
  have HX : Hid _ := hX
  clear h hT hX
  go_enter Tryd.func73, Tryd.ntmps73
  go_wp2_with fail
  refine (getType_any 20 (by omega) _ a len cap zs (H.out.old (below_one _ _)) (HT.out.old (below_one _ _)) hsm X HX.out 1 rfl).mono ?_
  rintro e w2 ⟨r2, lr2, cr2, na, nl, nc, ka, kl, kc, rfl, HTY, HB2, hB2⟩
  have hs2 : w.heap.size < w2.heap.size := by have := hB2.size; simp at this; omega
  obtain ⟨hc, hf⟩ := bcell hB2
  go_wp2_with fail
  refine bodyPost_ret (v := .tuple #[.agg #[.int .u16 X.val.id, .string X.val.space, .string X.val.name, .slice na nl nc, .slice ka kl kc], .slice r2 lr2 cr2, .int .i64 X.err]) (by simp [results, Tryd.results73, go_sem, hc, hs2]) rfl
    ⟨r2, lr2, cr2, na, nl, nc, ka, kl, kc, rfl, ?_, ?_, (((below_one w _).trans (hB2.mono (by simp))).trans ((below_five _ _ _ _ _ _ _).mono (Nat.le_refl _)))⟩
  · refine HTY.out.mono (fun q hq hF => ?_) (by simp)
    have hF1 : w.heap.size + 1 ≤ q := by have := hF.1; simpa using this
    exact five_new (base := w.heap.size + 1) (by omega) hF1 hq
  · rcases HB2.out with h | ⟨h1, h2, h3, b, o, of, h4, h5, h6, h7⟩
    · exact .inl h
    · subst h4
      have hbb : b < w.heap.size := H.out.2.2.2.2 (by have := H.out.1; omega) |>.elim fun b' hh => hh.elim fun o' h8 => by
        obtain ⟨h9, h10⟩ := h8
        cases h9
        exact h10.lt (by have := H.out.1; omega)
      exact .inr ⟨h1, h2, h3, b, o, of, rfl, h5, by show b < (five _ _ _ _ _ _ _).heap.size; rw [five_size]; exact h6, h7.below (base := w.heap.size) (below_five _ _ _ _ _ _ _) (fun _ => hbb)⟩
end Go.Proofs.YtnapeecmlkkolaaDoor

namespace Go.Proofs.YtnapeecmlkkolaaDoor
open Go.RowKit
set_option linter.unusedVariables false
set_option linter.unusedSimpArgs false

theorem isB_block {w : World} {g : Nat} {X : List Int} (h : w.heap[g]? = some (.cells (X.map (Value.int .u8)).toArray 5 (0, 0))) (hr : ∀ j : Nat, 0 ≤ X[j]?.getD 0 ∧ X[j]?.getD 0 ≤ 255) (hl : X.length ≤ maxLen) : IsB w (some ⟨g, 0, none⟩) X.length X.length X := by
  refine ⟨rfl, Nat.le_refl _, hl, (fun e => by cases e), fun hp => ⟨g, 0, rfl, rfl, Nat.le_refl _, hl, fun _ => (Array.getElem?_eq_some_iff.1 h).1, fun i hi => ?_, hr⟩⟩
  rw [Nat.zero_add]; exact row_cell h i hi

/-- One kid in a block. -/
theorem sees_one {n : Nat} {F : Nat → Prop} {w : World} {g : Nat} {x : Ty} {na : Option Addr} {nl nc : Nat} {ka : Option Addr} {kl kc : Nat} (hb : w.heap[g]? = some (.cells #[.int .u16 x.id, .string x.space, .string x.name, .slice na nl nc, .slice ka kl kc] 62 (0, 0))) (hF : F g) (h : TyAt n F w x na nl nc ka kl kc) :
    Sees 5 F (VT (n + 1) F w) w (some ⟨g, 0, none⟩) 1 1 [x] := by
  refine ⟨rfl, Nat.le_refl _, by unfold maxLen; omega, (fun e => by cases e), fun hp => ⟨g, 0, rfl, (Array.getElem?_eq_some_iff.1 hb).1, hF, fun i y hy => ?_⟩⟩
  have hi : i = 0 := by
    have := (List.getElem?_eq_some_iff.1 hy).1
    simp at this; exact this
  subst hi
  obtain rfl : x = y := by simpa using hy
  refine ⟨_, fun j hj => ?_, h.vt⟩
  rw [Nat.zero_add, Nat.zero_mul, Nat.zero_add, Lib.cell_of_heap hb]
  rcases (show j = 0 ∨ j = 1 ∨ j = 2 ∨ j = 3 ∨ j = 4 by omega) with rfl | rfl | rfl | rfl | rfl <;> rfl

def plainTy (id : Int) : Ty := ⟨id, ⟨#[]⟩, ⟨#[]⟩, [], []⟩

theorem tyAt_plain (n : Nat) (F : Nat → Prop) (w : World) (id : Int) (h0 : 0 ≤ id) (h1 : id < 65536) : TyAt n F w (plainTy id) none 0 0 none 0 0 :=
  ⟨⟨h0, h1⟩, by unfold maxLen; show 0 ≤ _; omega, by unfold maxLen; show 0 ≤ _; omega, sees_nil _ _ _ _, sees_nil _ _ _ _⟩

theorem cells5 {w : World} {s : Nat} {a b c d e : Value} (h : w.heap[s]? = some (.cells #[a, b, c, d, e] 62 (0, 0))) : w.cell? ⟨s, 0, none⟩ = some a ∧ w.cell? ⟨s, 1, none⟩ = some b ∧ w.cell? ⟨s, 2, none⟩ = some c ∧ w.cell? ⟨s, 3, none⟩ = some d ∧ w.cell? ⟨s, 4, none⟩ = some e := by
  refine ⟨?_, ?_, ?_, ?_, ?_⟩ <;> (rw [Lib.cell_of_heap h]; rfl)

theorem frozen5 {w : World} {s : Nat} {cs : Array Value} (h : w.heap[s]? = some (.cells cs 62 (0, 0))) : w.frozen? ⟨s, 0, none⟩ = false ∧ w.frozen? ⟨s, 1, none⟩ = false ∧ w.frozen? ⟨s, 2, none⟩ = false ∧ w.frozen? ⟨s, 3, none⟩ = false ∧ w.frozen? ⟨s, 4, none⟩ = false := by
  refine ⟨?_, ?_, ?_, ?_, ?_⟩ <;> simp [World.frozen?, h]

theorem deepB_kids {f : Nat} {t : Ty} (h : deepB (f + 1) t = false) : ∀ k ∈ t.kids, deepB f k = false := fun k hk => by
  rw [deepB] at h
  have := List.any_eq_false.1 h k hk
  simpa using this

theorem deep_up : ∀ (f : Nat) (t : Ty), deepB f t = false → deepB (f + 1) t = false
  | 0, t, h => by cases h
  | f + 1, t, h => by
    have hk := deepB_kids h
    rw [deepB]
    apply List.any_eq_false.2
    intro k hk2
    rw [deep_up f k (hk k hk2)]; decide

/-- The two boxes' cells, in a later world. -/
theorem boxes {w W : World} {a b c d e a' b' c' d' e' : Value} (h : Below (w.heap.size + 2) ((w.alloc (.cells #[a, b, c, d, e] 62)).alloc (.cells #[a', b', c', d', e'] 62)) W) :
    (W.cell? ⟨w.heap.size, 0, none⟩ = some a ∧ W.cell? ⟨w.heap.size, 1, none⟩ = some b ∧ W.cell? ⟨w.heap.size, 2, none⟩ = some c ∧ W.cell? ⟨w.heap.size, 3, none⟩ = some d ∧ W.cell? ⟨w.heap.size, 4, none⟩ = some e) ∧
    (W.cell? ⟨w.heap.size + 1, 0, none⟩ = some a' ∧ W.cell? ⟨w.heap.size + 1, 1, none⟩ = some b' ∧ W.cell? ⟨w.heap.size + 1, 2, none⟩ = some c' ∧ W.cell? ⟨w.heap.size + 1, 3, none⟩ = some d' ∧ W.cell? ⟨w.heap.size + 1, 4, none⟩ = some e') ∧ w.heap.size + 1 < W.heap.size := by
  refine ⟨cells5 ?_, cells5 ?_, ?_⟩
  · rw [h.block _ (by omega), (below_one (w.alloc _) _).block _ (by simp)]
    exact heap_alloc_new w _
  · rw [h.block _ (by omega)]
    exact two_new _ _ _ _
  · have := h.size; simp at this; omega

theorem sum_mem {ks : List Ty} {f : Ty → Nat} {x : Ty} (hx : x ∈ ks) : f x ≤ (ks.map f).sum := by
  induction ks with
  | nil => cases hx
  | cons y r ih =>
    rw [List.map_cons, List.sum_cons]
    rcases List.mem_cons.1 hx with h | h
    · subst h; omega
    · have := ih h; omega
end Go.Proofs.YtnapeecmlkkolaaDoor
