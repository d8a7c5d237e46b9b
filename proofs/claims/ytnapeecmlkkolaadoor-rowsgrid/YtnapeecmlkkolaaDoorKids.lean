/-
  Rows of types and of names that a call makes: what they own, and append of one more.
-/
import Derived.Test.YtnapeecmlkkolaaDoorPutU
namespace Go.Proofs.YtnapeecmlkkolaaDoor
open Go.RowKit
set_option linter.unusedVariables false
set_option linter.unusedSimpArgs false

/-- A slice that owns a row of types; what they lead to lies in other blocks, and in none of u's. -/
def OwnK (n : Nat) (w : World) (base : Nat) (v u : Value) (xs : List Ty) : Prop :=
  (∀ k, v.ownBlock = some k → u.ownBlock ≠ some k) ∧ ∃ cs : List Value, w.ownsRow base 62 5 v xs.length cs ∧
    ∀ i x, xs[i]? = some x → VT n (fun k => base ≤ k ∧ k < w.heap.size ∧ v.ownBlock ≠ some k ∧ u.ownBlock ≠ some k) w x (fun j => cs.getD (i * 5 + j) default)

/-- A slice that owns a row of texts, in no block of u's. -/
def OwnS (w : World) (base : Nat) (v u : Value) (ss : List ByteArray) : Prop :=
  (∀ k, v.ownBlock = some k → u.ownBlock ≠ some k) ∧ w.ownsRow base 9 1 v ss.length (ss.map Value.string) ∧ ∀ s ∈ ss, s.size ≤ maxLen

theorem ownK_nil (n : Nat) (w : World) (base : Nat) (u : Value) : OwnK n w base (.slice none 0 0) u [] :=
  ⟨fun k hk => by simp [Value.ownBlock] at hk, [], World.ownsRow_nil _ _ _ _, fun i x hx => by simp at hx⟩
theorem ownS_nil (w : World) (base : Nat) (u : Value) : OwnS w base (.slice none 0 0) u [] :=
  ⟨fun k hk => by simp [Value.ownBlock] at hk, World.ownsRow_nil _ _ _ _, fun s hs => by simp at hs⟩

theorem OwnK.lt {n : Nat} {w : World} {base : Nat} {v u : Value} {xs : List Ty} (h : OwnK n w base v u xs) : ∀ k, v.ownBlock = some k → base ≤ k ∧ k < w.heap.size := by
  obtain ⟨_, cs, ho, _⟩ := h
  exact World.ownsRow.lt ho
theorem OwnS.lt {w : World} {base : Nat} {v u : Value} {ss : List ByteArray} (h : OwnS w base v u ss) : ∀ k, v.ownBlock = some k → base ≤ k ∧ k < w.heap.size := World.ownsRow.lt h.2.1

theorem ownsRow_keep {w W : World} {base : Nat} {e : TypeId} {size : Nat} {v : Value} {n : Nat} {cs : List Value} (h : w.ownsRow base e size v n cs) (hb : ∀ k, v.ownBlock = some k → W.heap[k]? = w.heap[k]?) : W.ownsRow base e size v n cs := by
  refine ⟨h.1, ?_⟩
  rcases h.2 with h2 | ⟨g, cap, cur, hv, hg, hh, r⟩
  · exact .inl h2
  · exact .inr ⟨g, cap, cur, hv, hg, by rw [hb g (by rw [hv]; rfl)]; exact hh, r⟩

theorem OwnK.keep {n : Nat} {w W : World} {base : Nat} {v u u' : Value} {xs : List Ty} (h : OwnK n w base v u xs) (hb : ∀ k, base ≤ k → k < w.heap.size → u.ownBlock ≠ some k → W.heap[k]? = w.heap[k]?) (hs : w.heap.size ≤ W.heap.size)
    (hu : ∀ k, k < w.heap.size → u'.ownBlock = some k → u.ownBlock = some k) : OwnK n W base v u' xs := by
  have hlt := h.lt
  obtain ⟨hsep, cs, ho, hc⟩ := h
  refine ⟨fun k hk e => hsep k hk (hu k (hlt k hk).2 e), cs, ownsRow_keep ho (fun k hk => hb k (hlt k hk).1 (hlt k hk).2 (hsep k hk)), fun i x hx => ?_⟩
  exact VT.mono (fun k hk hF => ⟨⟨hF.1, Nat.lt_of_lt_of_le hk hs, hF.2.2.1, fun e => hF.2.2.2 (hu k hk e)⟩, hb k hF.1 hk hF.2.2.2⟩) hs (hc i x hx)

theorem OwnK.old {n : Nat} {w W : World} {base : Nat} {v u : Value} {xs : List Ty} (h : OwnK n w base v u xs) (hB : Below w.heap.size w W) : OwnK n W base v u xs :=
  h.keep (fun k _ hk _ => hB.block k hk) hB.size (fun _ _ e => e)

theorem OwnK.other {n : Nat} {w W : World} {base : Nat} {v u u' : Value} {xs : List Ty} (h : OwnK n w base v u xs) (hg : w.grownBy W u.ownBlock) (hm : Moved w u u') : OwnK n W base v u' xs :=
  h.keep (fun k _ hk hu => hg.block k hk (fun e => hu e.symm)) hg.size (fun k hk e => by
    rcases hm with hm | ⟨g, hg2, hl⟩
    · rw [← hm]; exact e
    · rw [hg2] at e; cases e; omega)

theorem OwnK.set {n : Nat} {w : World} {base : Nat} {v u : Value} {xs : List Ty} (h : OwnK n w base v u xs) {ob j : Nat} (hob : ob < base) (x : Value) : OwnK n (w.setCell ⟨ob, j, none⟩ x) base v u xs :=
  h.keep (fun k hk _ _ => Below.heap_setCell _ _ _ _ (by show k ≠ ob; omega)) (by simp) (fun _ _ e => e)

theorem OwnS.keep {w W : World} {base : Nat} {v u u' : Value} {ss : List ByteArray} (h : OwnS w base v u ss) (hb : ∀ k, base ≤ k → k < w.heap.size → u.ownBlock ≠ some k → W.heap[k]? = w.heap[k]?)
    (hu : ∀ k, k < w.heap.size → u'.ownBlock = some k → u.ownBlock = some k) : OwnS W base v u' ss :=
  ⟨fun k hk e => h.1 k hk (hu k (h.lt k hk).2 e), ownsRow_keep h.2.1 (fun k hk => hb k (h.lt k hk).1 (h.lt k hk).2 (h.1 k hk)), h.2.2⟩

theorem OwnS.old {w W : World} {base : Nat} {v u : Value} {ss : List ByteArray} (h : OwnS w base v u ss) (hB : Below w.heap.size w W) : OwnS W base v u ss :=
  h.keep (fun k _ hk _ => hB.block k hk) (fun _ _ e => e)

theorem OwnS.other {w W : World} {base : Nat} {v u u' : Value} {ss : List ByteArray} (h : OwnS w base v u ss) (hg : w.grownBy W u.ownBlock) (hm : Moved w u u') : OwnS W base v u' ss :=
  h.keep (fun k _ hk hu => hg.block k hk (fun e => hu e.symm)) (fun k hk e => by
    rcases hm with hm | ⟨g, hg2, hl⟩
    · rw [← hm]; exact e
    · rw [hg2] at e; cases e; omega)

theorem OwnS.set {w : World} {base : Nat} {v u : Value} {ss : List ByteArray} (h : OwnS w base v u ss) {ob j : Nat} (hob : ob < base) (x : Value) : OwnS (w.setCell ⟨ob, j, none⟩ x) base v u ss :=
  h.keep (fun k hk _ _ => Below.heap_setCell _ _ _ _ (by show k ≠ ob; omega)) (fun _ _ e => e)

theorem OwnK.flip {n : Nat} {w : World} {base : Nat} {v u : Value} {xs : List Ty} (h : OwnK n w base v u xs) : ∀ k, u.ownBlock = some k → v.ownBlock ≠ some k := fun k hu hv => h.1 k hv hu

theorem own_cell {w : World} {base : Nat} {e : TypeId} {size n : Nat} {v : Value} {cs : List Value} (ho : w.ownsRow base e size v n cs) {g : Nat} {len cap : Nat} (hv : v = .slice (some ⟨g, 0, none⟩) len cap) {i : Nat} (hi : i < cs.length) : w.cell? ⟨g, i, none⟩ = some (cs.getD i default) := by
  have hcell := ho.cells (g := g) (by rw [hv]; rfl) i (cs.getD i default) (by rw [List.getD_eq_getElem?_getD, List.getElem?_eq_getElem hi]; rfl)
  have hplain : (⟨g, 0, none⟩ : Addr).add i = ⟨g, i, none⟩ := by unfold Addr.add; split <;> simp_all
  rw [hplain] at hcell
  exact hcell

/-- What is owned, seen. -/
theorem OwnK.sees {n : Nat} {w : World} {base : Nat} {v u : Value} {xs : List Ty} (h : OwnK n w base v u xs) :
    ∃ a cap, v = .slice a xs.length cap ∧ Sees 5 (fun k => base ≤ k ∧ k < w.heap.size) (VT n (fun k => base ≤ k ∧ k < w.heap.size) w) w a xs.length cap xs := by
  obtain ⟨hsep, cs, ho, hc⟩ := h
  have ho' := ho
  obtain ⟨hlen, h2⟩ := ho'
  rcases h2 with ⟨rfl, h0⟩ | ⟨g, cap, cur, rfl, hg, hh, hnc, hm, hs, htake⟩
  · obtain rfl : xs = [] := List.eq_nil_of_length_eq_zero h0
    exact ⟨none, 0, rfl, sees_nil _ _ _ _⟩
  · have hgs := (Array.getElem?_eq_some_iff.1 hh).1
    refine ⟨_, cap, rfl, rfl, hnc, hm, (fun e => by cases e), fun hp => ⟨g, 0, rfl, hgs, ⟨hg, hgs⟩, fun i x hx => ⟨_, fun j hj => ?_, VT.mono (fun k hk hF => ⟨⟨hF.1, hF.2.1⟩, rfl⟩) (Nat.le_refl _) (hc i x hx)⟩⟩⟩
    have hi := (List.getElem?_eq_some_iff.1 hx).1
    rw [Nat.zero_add]
    exact own_cell ho rfl (by rw [hlen]; omega)

theorem OwnS.sees {w : World} {base : Nat} {v u : Value} {ss : List ByteArray} (h : OwnS w base v u ss) :
    ∃ a cap, v = .slice a ss.length cap ∧ Sees 1 (fun k => base ≤ k ∧ k < w.heap.size) VS w a ss.length cap ss := by
  obtain ⟨hsep, ho, hm1⟩ := h
  have ho' := ho
  obtain ⟨hlen, h2⟩ := ho'
  rcases h2 with ⟨rfl, h0⟩ | ⟨g, cap, cur, rfl, hg, hh, hnc, hm, hs, htake⟩
  · obtain rfl : ss = [] := List.eq_nil_of_length_eq_zero h0
    exact ⟨none, 0, rfl, sees_nil _ _ _ _⟩
  · have hgs := (Array.getElem?_eq_some_iff.1 hh).1
    refine ⟨_, cap, rfl, rfl, hnc, hm, (fun e => by cases e), fun hp => ⟨g, 0, rfl, hgs, ⟨hg, hgs⟩, fun i x hx => ⟨fun _ => .string x, fun j hj => ?_, rfl, hm1 x (List.mem_of_getElem? hx)⟩⟩⟩
    have hi := (List.getElem?_eq_some_iff.1 hx).1
    obtain rfl : j = 0 := by omega
    rw [Nat.zero_add, Nat.mul_one, Nat.add_zero]
    rw [own_cell ho rfl (i := i) (by rw [List.length_map]; exact hi), List.getD_eq_getElem?_getD, List.getElem?_map, hx]; rfl

theorem Tryd.info62 : (Tryd.prog.info? 62).map (fun i => (i.zero, i.size, i.bytes)) = some (some (.agg #[.int .u16 0, .string ⟨#[]⟩, .string ⟨#[]⟩, .slice none 0 0, .slice none 0 0]), 5, 88) := by kernel_rfl
theorem Tryd.info9 : (Tryd.prog.info? 9).map (fun i => (i.zero, i.size, i.bytes)) = some (some (.string ⟨#[]⟩), 1, 16) := by kernel_rfl

theorem getD_left {cs news : List Value} {n : Nat} (h : n < cs.length) : (cs ++ news).getD n default = cs.getD n default := by
  rw [List.getD_eq_getElem?_getD, List.getD_eq_getElem?_getD, List.getElem?_append_left h]
theorem getD_right {cs news : List Value} (n j : Nat) (h : n = cs.length + j) : (cs ++ news).getD n default = news.getD j default := by
  subst h
  rw [List.getD_eq_getElem?_getD, List.getD_eq_getElem?_getD, List.getElem?_append_right (by omega)]
  congr 2; omega

theorem moved_lies {w : World} {v : Value} {g len cap : Nat} (h : v.ownBlock = some g ∨ g = w.heap.size) : Moved w v (.slice (some ⟨g, 0, none⟩) len cap) := by
  rcases h with h | h
  · exact .inl h.symm
  · exact .inr ⟨g, rfl, by omega⟩

theorem VT.cells {n : Nat} {F : Nat → Prop} {w : World} {t : Ty} {c c' : Nat → Value} (h : VT n F w t c) (hc : ∀ j, j < 5 → c' j = c j) : VT n F w t c' := by
  cases n with
  | zero => exact h.elim
  | succ n =>
    obtain ⟨na, nl, nc, ka, kl, kc, h0, h1, h2, h3, h4, r⟩ := h
    exact ⟨na, nl, nc, ka, kl, kc, (hc 0 (by omega)).trans h0, (hc 1 (by omega)).trans h1, (hc 2 (by omega)).trans h2, (hc 3 (by omega)).trans h3, (hc 4 (by omega)).trans h4, r⟩

/-- append of one type. -/
theorem append_kid_run {n : Nat} {w : World} {base : Nat} {v u : Value} {xs : List Ty} (h : OwnK n w base v u xs) {B : Nat} {news : List Value} {tt : TypeId} {fr : Nat × Nat} (hB : w.heap[B]? = some (.cells news.toArray tt fr)) (hn : news.length = 5) (h1 : ∀ y ∈ news, y.oneCell' = true)
    (x : Ty) (hx : VT n (fun k => base ≤ k ∧ k < w.heap.size ∧ v.ownBlock ≠ some k ∧ u.ownBlock ≠ some k) w x (fun j => news.getD j default)) (hul : ∀ k, u.ownBlock = some k → k < w.heap.size) (hbd : (xs.length + 1) * 88 ≤ 140737488355328) (hbase : base ≤ w.heap.size) (ty : TypeId) (c : Nat) :
    ∃ v' w', (Builtin.append_ #[60, 60] ty #[v, .slice (some ⟨B, 0, none⟩) 1 c]).run Tryd.prog w = .ok v' w' ∧ OwnK n w' base v' u (xs ++ [x]) ∧ w.grownBy w' v.ownBlock ∧ Moved w v v' := by
  obtain ⟨i, hi, hz, hsize, hby⟩ := info_parts Tryd.info62
  obtain ⟨hsep, cs, ho, hc⟩ := h
  have hcl := ho.1
  obtain ⟨g, cap, w', hr, ho', hg, hat, hlt⟩ := run_append_lies (P := Tryd.prog) w 60 ty base 62 i _ 5 88 Tryd.underlying60 hi hz hsize hby rfl (by decide) v xs.length cs ho ⟨B, 0, none⟩ 1 c news (by omega) (World.news_of_block hB) h1 (by omega) (by unfold maxLen; omega) hbd hbase _ rfl
  have hmv : Moved w v (.slice (some ⟨g, 0, none⟩) (xs.length + 1) cap) := moved_lies hat
  have hF : ∀ k, k < w.heap.size → (base ≤ k ∧ k < w.heap.size ∧ v.ownBlock ≠ some k ∧ u.ownBlock ≠ some k) → (base ≤ k ∧ k < w'.heap.size ∧ (Value.slice (some ⟨g, 0, none⟩) (xs.length + 1) cap).ownBlock ≠ some k ∧ u.ownBlock ≠ some k) ∧ w'.heap[k]? = w.heap[k]? := by
    rintro k hk ⟨f1, f2, f3, f4⟩
    refine ⟨⟨f1, Nat.lt_of_lt_of_le hk hg.size, fun e => ?_, f4⟩, hg.block k hk (fun e => f3 e.symm)⟩
    rcases hmv with hm | ⟨g2, hg2, hl⟩
    · rw [hm] at e; exact f3 e
    · rw [hg2] at e; cases e; omega
  refine ⟨_, w', hr, ⟨fun k hk e => ?_, cs ++ news, by rw [List.length_append]; exact ho', fun j y hy => ?_⟩, hg, hmv⟩
  · rcases hmv with hm | ⟨g2, hg2, hl⟩
    · rw [hm] at hk; exact hsep k hk e
    · rw [hg2] at hk; cases hk
      have := hul _ e
      omega
  by_cases hlt2 : j < xs.length
  · rw [List.getElem?_append_left hlt2] at hy
    refine VT.mono hF hg.size ((hc j y hy).cells fun q hq => ?_)
    exact getD_left (by omega)
  · have hj : j = xs.length := by
      have := (List.getElem?_eq_some_iff.1 hy).1
      simp at this; omega
    subst hj
    obtain rfl : x = y := by simpa using hy
    refine VT.mono hF hg.size (hx.cells fun q hq => ?_)
    exact getD_right _ q (by omega)

theorem wpList_append_kid {ops : Array Oper} {rest : List Oper} {o : Oper} {a : Act} {Q : Exit → Act → World → Prop} {w : World} (hgd : o.guard = none) (s y : Operand)
    (ho : o.op = .call { callee := .builtin .append, args := #[s, y], argTypes := #[60, 60] })
    {n : Nat} {base : Nat} {v u : Value} {xs : List Ty} (hs : a.eval s = v) (h : OwnK n w base v u xs) {B c : Nat} {news : List Value} {tt : TypeId} {fr : Nat × Nat} (hy : a.eval y = .slice (some ⟨B, 0, none⟩) 1 c) (hB : w.heap[B]? = some (.cells news.toArray tt fr)) (hn : news.length = 5) (h1 : ∀ y ∈ news, y.oneCell' = true)
    (x : Ty) (hx : VT n (fun k => base ≤ k ∧ k < w.heap.size ∧ v.ownBlock ≠ some k ∧ u.ownBlock ≠ some k) w x (fun j => news.getD j default)) (hul : ∀ k, u.ownBlock = some k → k < w.heap.size) (hbd : (xs.length + 1) * 88 ≤ 140737488355328) (hbase : base ≤ w.heap.size)
    (hk : ∀ v' w', Hid (OwnK n w' base v' u (xs ++ [x])) → Hid (w.grownBy w' v.ownBlock) → Hid (Moved w v v') → wpList Tryd.prog ops Q rest (a.put o.dst v') w') : wpList Tryd.prog ops Q (o :: rest) a w := by
  refine wpList_plain hgd fun K hK => ?_
  obtain ⟨v', w', hr, h2, h3, h4⟩ := append_kid_run h hB hn h1 x hx hul hbd hbase o.type c
  unfold Oper.wp
  simp [execOp, ho, resolve, invoke, builtin, hs, hy, hr, Result.andThen]
  exact hK _ _ (hk v' w' h2 h3 h4)

/-- append of one name. -/
theorem append_name_run {w : World} {base : Nat} {v u : Value} {ss : List ByteArray} (h : OwnS w base v u ss) {B : Nat} {s : ByteArray} {tt : TypeId} {fr : Nat × Nat} (hB : w.heap[B]? = some (.cells #[.string s] tt fr)) (hsm : s.size ≤ maxLen)
    (hul : ∀ k, u.ownBlock = some k → k < w.heap.size) (hbd : (ss.length + 1) * 16 ≤ 140737488355328) (hbase : base ≤ w.heap.size) (ty : TypeId) (c : Nat) :
    ∃ v' w', (Builtin.append_ #[59, 59] ty #[v, .slice (some ⟨B, 0, none⟩) 1 c]).run Tryd.prog w = .ok v' w' ∧ OwnS w' base v' u (ss ++ [s]) ∧ w.grownBy w' v.ownBlock ∧ Moved w v v' := by
  obtain ⟨i, hi, hz, hsize, hby⟩ := info_parts Tryd.info9
  obtain ⟨hsep, ho, hm1⟩ := h
  obtain ⟨g, cap, w', hr, ho', hg, hat, hlt⟩ := run_append_lies (P := Tryd.prog) w 59 ty base 9 i _ 1 16 Tryd.underlying59 hi hz hsize hby rfl (by decide) v ss.length _ ho ⟨B, 0, none⟩ 1 c [.string s] rfl (World.news_of_block hB) (by intro y hy; simp at hy; subst hy; rfl) (by omega) (by unfold maxLen; omega) hbd hbase _ rfl
  have hmv : Moved w v (.slice (some ⟨g, 0, none⟩) (ss.length + 1) cap) := moved_lies hat
  refine ⟨_, w', hr, ⟨fun k hk e => ?_, by rw [List.length_append, List.map_append]; exact ho', fun y hy => ?_⟩, hg, hmv⟩
  · rcases hmv with hm | ⟨g2, hg2, hl⟩
    · rw [hm] at hk; exact hsep k hk e
    · rw [hg2] at hk; cases hk
      have := hul _ e
      omega
  · rcases List.mem_append.1 hy with hy | hy
    · exact hm1 y hy
    · obtain rfl : y = s := by simpa using hy
      exact hsm

theorem wpList_append_name {ops : Array Oper} {rest : List Oper} {o : Oper} {a : Act} {Q : Exit → Act → World → Prop} {w : World} (hgd : o.guard = none) (s y : Operand)
    (ho : o.op = .call { callee := .builtin .append, args := #[s, y], argTypes := #[59, 59] })
    {base : Nat} {v u : Value} {ss : List ByteArray} (hs : a.eval s = v) (h : OwnS w base v u ss) {B c : Nat} {st : ByteArray} {tt : TypeId} {fr : Nat × Nat} (hy : a.eval y = .slice (some ⟨B, 0, none⟩) 1 c) (hB : w.heap[B]? = some (.cells #[.string st] tt fr)) (hsm : st.size ≤ maxLen)
    (hul : ∀ k, u.ownBlock = some k → k < w.heap.size) (hbd : (ss.length + 1) * 16 ≤ 140737488355328) (hbase : base ≤ w.heap.size)
    (hk : ∀ v' w', Hid (OwnS w' base v' u (ss ++ [st])) → Hid (w.grownBy w' v.ownBlock) → Hid (Moved w v v') → wpList Tryd.prog ops Q rest (a.put o.dst v') w') : wpList Tryd.prog ops Q (o :: rest) a w := by
  refine wpList_plain hgd fun K hK => ?_
  obtain ⟨v', w', hr, h2, h3, h4⟩ := append_name_run h hB hsm hul hbd hbase o.type c
  unfold Oper.wp
  simp [execOp, ho, resolve, invoke, builtin, hs, hy, hr, Result.andThen]
  exact hK _ _ (hk v' w' h2 h3 h4)
end Go.Proofs.YtnapeecmlkkolaaDoor
