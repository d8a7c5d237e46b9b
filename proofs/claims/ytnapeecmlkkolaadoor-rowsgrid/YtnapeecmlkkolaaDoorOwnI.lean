/-
  A slice that owns its row of items, with all blocks that they lead to in a set; values, rows, columns, keys.
-/
import Derived.Test.YtnapeecmlkkolaaDoorKeep
namespace Go.Proofs.YtnapeecmlkkolaaDoor
open Go.RowKit
set_option maxRecDepth 100000
set_option linter.unusedVariables false
set_option linter.unusedSimpArgs false

theorem kept_grown {w w' : World} {row : Option Nat} (h : w.grownBy w' row) : Kept (fun k => row = some k) w w' :=
  ⟨h.os, h.tape, h.output, h.size, fun k hk hn => h.block k hk (fun e => hn e.symm)⟩

theorem kept_below {n : Nat} {w w' : World} (h : Below n w w') : Kept (fun k => n ≤ k) w w' := ⟨h.os, h.tape, h.output, h.size, fun k hk hn => h.block k (by omega)⟩

theorem own_block_lt {w : World} {base : Nat} {e : TypeId} {size : Nat} {v : Value} {n : Nat} {xs : List Value} (h : w.ownsRow base e size v n xs) : ∀ k, v.ownBlock = some k → k < w.heap.size := fun k hk => (World.ownsRow.lt h k hk).2

/-- An item's view: in a world, with its blocks in a set. -/
abbrev Vw (α : Type) := (Nat → Prop) → World → α → (Nat → Value) → Prop

/-- A slice that owns its row of items, with all blocks that they lead to in a set. -/
def OwnI {α : Type} (e : TypeId) (size : Nat) (V : Vw α) (w : World) (F : Nat → Prop) (v : Value) (xs : List α) : Prop :=
  ∃ cs : List Value, w.ownsRow 0 e size v xs.length cs ∧ (∀ k, v.ownBlock = some k → F k) ∧ (∀ u ∈ cs, u.oneCell' = true) ∧
    ∀ i x, xs[i]? = some x → V (fun k => k < w.heap.size ∧ v.ownBlock ≠ some k ∧ F k) w x (fun j => cs.getD (i * size + j) default)

def StaysI {α : Type} (size : Nat) (V : Vw α) : Prop :=
  ∀ (F F' : Nat → Prop) (w w' : World) (x : α) (c c' : Nat → Value), V F w x c → (∀ j, j < size → c' j = c j) → (∀ k, k < w.heap.size → F k → w'.heap[k]? = w.heap[k]?) → w.heap.size ≤ w'.heap.size → (∀ k, k < w.heap.size → F k → F' k) → V F' w' x c'

theorem ownI_nil {α : Type} (e : TypeId) (size : Nat) (V : Vw α) (w : World) (F : Nat → Prop) : OwnI e size V w F (.slice none 0 0) ([] : List α) :=
  ⟨[], World.ownsRow_nil _ _ _ _, (fun k h => by simp [Value.ownBlock] at h), (fun u h => by cases h), (fun i x hi => by simp at hi)⟩

/-- What the program's table says of a type of slices. -/
def Elem (t e : TypeId) (size bytes : Nat) : Prop :=
  0 < size ∧ Tryd.prog.underlying t = some (.slice e) ∧ ∃ i z, Tryd.prog.info? e = some i ∧ i.zero = some z ∧ i.size = size ∧ i.bytes = bytes ∧ z.cells.size = size

section
variable {α : Type} {e : TypeId} {size : Nat} {V : Vw α}

theorem OwnI.lt {w : World} {F : Nat → Prop} {v : Value} {xs : List α} (h : OwnI e size V w F v xs) : ∀ k, v.ownBlock = some k → F k ∧ k < w.heap.size := by
  obtain ⟨cs, ho, hF, _⟩ := h
  exact fun k hk => ⟨hF k hk, own_block_lt ho k hk⟩

theorem OwnI.shape {w : World} {F : Nat → Prop} {v : Value} {xs : List α} (h : OwnI e size V w F v xs) : ∃ a cap, v = .slice a xs.length cap := by
  obtain ⟨cs, ho, _⟩ := h
  rcases ho.2 with ⟨rfl, h0⟩ | ⟨g, cap, cur, rfl, _⟩
  · exact ⟨none, 0, by rw [h0]⟩
  · exact ⟨_, cap, rfl⟩

theorem OwnI.kept (hV : StaysI size V) {w W : World} {F F' : Nat → Prop} {v : Value} {xs : List α} (h : OwnI e size V w F v xs) (hb : ∀ k, k < w.heap.size → F k → W.heap[k]? = w.heap[k]?) (hs : w.heap.size ≤ W.heap.size) (hF : ∀ k, k < w.heap.size → F k → F' k) : OwnI e size V W F' v xs := by
  obtain ⟨cs, ho, h1, h2, h3⟩ := h
  refine ⟨cs, ⟨ho.1, ?_⟩, fun k hk => hF k (own_block_lt ho k hk) (h1 k hk), h2, fun i x hi => ?_⟩
  · rcases ho.2 with h4 | ⟨g, cap, cur, hv, hg, hh, r⟩
    · exact .inl h4
    · exact .inr ⟨g, cap, cur, hv, hg, by rw [hb g (block_lt hh) (h1 g (by rw [hv]; rfl))]; exact hh, r⟩
  · exact hV _ _ w W _ _ _ (h3 i x hi) (fun _ _ => rfl) (fun k hk hf => hb k hk hf.2.2) hs (fun k hk hf => ⟨Nat.lt_of_lt_of_le hf.1 hs, hf.2.1, hF k hk hf.2.2⟩)

theorem OwnI.old (hV : StaysI size V) {w W : World} {F : Nat → Prop} {v : Value} {xs : List α} (h : OwnI e size V w F v xs) (hB : Below w.heap.size w W) : OwnI e size V W F v xs :=
  h.kept hV (fun k hk _ => hB.block k hk) hB.size (fun _ _ hf => hf)

/-- Blocks outside the set are written, or made: what is owned stays. -/
theorem OwnI.apart (hV : StaysI size V) {w W : World} {F K : Nat → Prop} {v : Value} {xs : List α} (h : OwnI e size V w F v xs) (hK : Kept K w W) (hn : ∀ k, k < w.heap.size → F k → ¬ K k) : OwnI e size V W F v xs :=
  h.kept hV (fun k hk hf => hK.block k hk (hn k hk hf)) hK.size (fun _ _ hf => hf)

theorem OwnI.sub (hV : StaysI size V) {w : World} {F F' : Nat → Prop} {v : Value} {xs : List α} (h : OwnI e size V w F v xs) (hF : ∀ k, k < w.heap.size → F k → F' k) : OwnI e size V w F' v xs :=
  h.kept hV (fun _ _ _ => rfl) (Nat.le_refl _) hF

/-- What is owned, seen. -/
theorem OwnI.sees {w : World} {F : Nat → Prop} {v : Value} {xs : List α} {U : α → (Nat → Value) → Prop} (h : OwnI e size V w F v xs) (hU : ∀ x c, x ∈ xs → V F w x c → U x c) (hV : StaysI size V) :
    ∃ a cap, v = .slice a xs.length cap ∧ Sees size F U w a xs.length cap xs := by
  obtain ⟨cs, ho, hF, hc1, hc⟩ := h
  have ho' := ho
  obtain ⟨hlen, h2⟩ := ho'
  rcases h2 with ⟨rfl, h0⟩ | ⟨g, cap, cur, rfl, hg, hh, hnc, hm, hs, htake⟩
  · obtain rfl : xs = [] := List.eq_nil_of_length_eq_zero h0
    exact ⟨none, 0, rfl, sees_nil _ _ _ _⟩
  · have hgs := (Array.getElem?_eq_some_iff.1 hh).1
    refine ⟨_, cap, rfl, rfl, hnc, hm, (fun e => by cases e), fun hp => ⟨g, 0, rfl, hgs, hF g rfl, fun i x hx => ⟨fun j => cs.getD (i * size + j) default, fun j hj => ?_, hU x _ (List.mem_of_getElem? hx) ?_⟩⟩⟩
    · have hi := (List.getElem?_eq_some_iff.1 hx).1
      have hij : i * size + j < xs.length * size := by
        have : (i + 1) * size ≤ xs.length * size := Nat.mul_le_mul_right _ hi
        rw [Nat.succ_mul] at this
        omega
      rw [Nat.zero_add]
      have hcell := ho.cells (g := g) rfl (i * size + j) (cs.getD (i * size + j) default) (by rw [List.getD_eq_getElem?_getD, List.getElem?_eq_getElem (by omega)]; rfl)
      have hplain : (⟨g, 0, none⟩ : Addr).add (i * size + j) = ⟨g, i * size + j, none⟩ := by unfold Addr.add; split <;> simp_all
      rw [hplain] at hcell
      exact hcell
    · exact hV _ _ w w _ _ _ (hc i x hx) (fun _ _ => rfl) (fun _ _ _ => rfl) (Nat.le_refl _) (fun k hk hf => hf.2.2)

/-- append of one item that lies in a block of its own. -/
theorem appendI_run {t : TypeId} {bytes : Nat} (hV : StaysI size V) (hE : Elem t e size bytes) {w : World} {F : Nat → Prop} {v : Value} {xs : List α} (h : OwnI e size V w F v xs)
    {B : Nat} {news : List Value} {tt : TypeId} {fr : Nat × Nat} (hB : w.heap[B]? = some (.cells news.toArray tt fr)) (hn : news.length = size) (h1 : ∀ u ∈ news, u.oneCell' = true) (x : α) (hx : V (fun k => k < w.heap.size ∧ v.ownBlock ≠ some k ∧ F k) w x (fun j => news.getD j default))
    (hF : F w.heap.size) (h63 : xs.length + 1 ≤ maxLen) (hbd : (xs.length + 1) * bytes ≤ 140737488355328) (ty : TypeId) (c : Nat) :
    ∃ v' w', (Builtin.append_ #[t, t] ty #[v, .slice (some ⟨B, 0, none⟩) 1 c]).run Tryd.prog w = .ok v' w' ∧ OwnI e size V w' F v' (xs ++ [x]) ∧ Kept (fun k => v.ownBlock = some k) w w' ∧ (v'.ownBlock = v.ownBlock ∨ v'.ownBlock = some w.heap.size) := by
  obtain ⟨hsz, ht, i, z, hi, hz, hsize, hby, hzs⟩ := hE
  obtain ⟨cs, ho, hF1, hc1, hc⟩ := h
  have hcl := ho.1
  obtain ⟨v', w', hr, ho', hg, hnil, hat⟩ := run_append_own_at (P := Tryd.prog) w 0 t ty e i z size bytes ht hi hz hsize hby hzs hsz v xs.length cs ho ⟨B, 0, none⟩ 1 c news (by rw [hn, Nat.one_mul]) (World.news_of_block hB) h1 h63 hbd (by omega)
  have hK := kept_grown hg
  have hfar : ∀ k, k < w.heap.size → v.ownBlock ≠ some k → v'.ownBlock ≠ some k := by
    intro k hk hne e
    rcases hat with hat | hat
    · exact hne (by rw [← hat]; exact e)
    · rw [hat] at e; simp only [Option.some.injEq] at e; omega
  refine ⟨v', w', hr, ⟨cs ++ news, by rw [List.length_append]; exact ho', fun k hk => ?_, fun u hu => ?_, fun i y hi => ?_⟩, hK, hat⟩
  · rcases hat with hat | hat
    · exact hF1 k (by rw [← hat]; exact hk)
    · rw [hat] at hk; simp only [Option.some.injEq] at hk; subst hk; exact hF
  · rcases List.mem_append.1 hu with hu | hu
    · exact hc1 u hu
    · exact h1 u hu
  · by_cases hlt2 : i < xs.length
    · rw [List.getElem?_append_left hlt2] at hi
      have hij : ∀ j, j < size → (cs ++ news).getD (i * size + j) default = cs.getD (i * size + j) default := fun j hj => by
        have : (i + 1) * size ≤ xs.length * size := Nat.mul_le_mul_right _ hlt2
        rw [Nat.succ_mul] at this
        exact getD_left (by omega)
      exact hV _ _ w w' _ _ _ (hc i y hi) (fun j hj => hij j hj) (fun k hk hf => hK.block k hk hf.2.1) hK.size (fun k hk hf => ⟨Nat.lt_of_lt_of_le hf.1 hK.size, hfar k hf.1 hf.2.1, hf.2.2⟩)
    · have hlen := (List.getElem?_eq_some_iff.1 hi).1
      rw [List.length_append, List.length_singleton] at hlen
      obtain rfl : i = xs.length := by omega
      have hij : ∀ j, j < size → (cs ++ news).getD (xs.length * size + j) default = news.getD j default := fun j hj => getD_right _ j (by omega)
      obtain rfl : x = y := by simpa using hi
      exact hV _ _ w w' _ _ _ hx (fun j hj => hij j hj) (fun k hk hf => hK.block k hk hf.2.1) hK.size (fun k hk hf => ⟨Nat.lt_of_lt_of_le hf.1 hK.size, hfar k hf.1 hf.2.1, hf.2.2⟩)

theorem wpList_appendI {ops : Array Oper} {rest : List Oper} {o : Oper} {a : Act} {Q : Exit → Act → World → Prop} {w : World} (hgd : o.guard = none) (s y : Operand) (t : TypeId)
    (ho : o.op = .call { callee := .builtin .append, args := #[s, y], argTypes := #[t, t] })
    {bytes : Nat} (hV : StaysI size V) (hE : Elem t e size bytes) {F : Nat → Prop} {v : Value} {xs : List α} (hs : a.eval s = v) (h : OwnI e size V w F v xs)
    {B c : Nat} {news : List Value} {tt : TypeId} {fr : Nat × Nat} (hy : a.eval y = .slice (some ⟨B, 0, none⟩) 1 c) (hB : w.heap[B]? = some (.cells news.toArray tt fr)) (hn : news.length = size) (h1 : ∀ u ∈ news, u.oneCell' = true) (x : α) (hx : V (fun k => k < w.heap.size ∧ v.ownBlock ≠ some k ∧ F k) w x (fun j => news.getD j default))
    (hF : F w.heap.size) (h63 : xs.length + 1 ≤ maxLen) (hbd : (xs.length + 1) * bytes ≤ 140737488355328)
    (hk : Hid (∀ v' w', OwnI e size V w' F v' (xs ++ [x]) → Kept (fun k => v.ownBlock = some k) w w' → (v'.ownBlock = v.ownBlock ∨ v'.ownBlock = some w.heap.size) → wpList Tryd.prog ops Q rest (a.put o.dst v') w')) : wpList Tryd.prog ops Q (o :: rest) a w := by
  refine wpList_plain hgd fun K hK => ?_
  obtain ⟨v', w', hr, h2, h3, h4⟩ := appendI_run hV hE h hB hn h1 x hx hF h63 hbd o.type c
  unfold Oper.wp
  simp [execOp, ho, resolve, invoke, builtin, hs, hy, hr, Result.andThen]
  exact hK _ _ (hk.out v' w' h2 h3 h4)
end

/-- Bytes that lie in blocks of a set. -/
def IsBF (F : Nat → Prop) (w : World) (a : Option Addr) (l c : Nat) (zs : List Int) : Prop := IsB w a l c zs ∧ ∀ q, a = some q → 0 < l → F q.block ∧ q.block < w.heap.size

theorem IsBF.stay {F F' : Nat → Prop} {w w' : World} {a : Option Addr} {l c : Nat} {zs : List Int} (h : IsBF F w a l c zs) (hb : ∀ k, k < w.heap.size → F k → w'.heap[k]? = w.heap[k]?) (hs : w.heap.size ≤ w'.heap.size) (hF : ∀ k, k < w.heap.size → F k → F' k) : IsBF F' w' a l c zs := by
  obtain ⟨⟨h1, h2, h3, h4, h5⟩, h6⟩ := h
  refine ⟨⟨h1, h2, h3, h4, fun hp => ?_⟩, fun q hq hl => ⟨hF _ (h6 q hq hl).2 (h6 q hq hl).1, Nat.lt_of_lt_of_le (h6 q hq hl).2 hs⟩⟩
  obtain ⟨b, off, rfl, hR⟩ := h5 hp
  obtain ⟨hf, hlt⟩ := h6 _ rfl hp
  exact ⟨b, off, rfl, hR.len_eq, hR.le, hR.cap_le, fun _ => Nat.lt_of_lt_of_le hlt hs, fun i hi => (World.cell?_of_block (w := w) (w' := w') (a := ⟨b, off + i, none⟩) (hb b hlt hf)).trans (hR.cell i hi), hR.rng⟩

/-- A value, a row of values, a column. -/
def VVal : Vw Vl := fun F w x c => c 0 = .int .i64 x.1 ∧ ∃ a l cp, c 1 = .slice a l cp ∧ IsBF F w a l cp (sNums x.2)
def VRow : Vw (List Vl) := fun F w xs c => OwnI 26 2 VVal w F (c 0) xs
abbrev Col := ByteArray × ByteArray × ByteArray × Ty
def VCol (n : Nat) : Vw Col := fun F w x c => (c 0 = .string x.1 ∧ x.1.size ≤ maxLen) ∧ (c 1 = .string x.2.1 ∧ x.2.1.size ≤ maxLen) ∧ (c 2 = .string x.2.2.1 ∧ x.2.2.1.size ≤ maxLen) ∧ VT n F w x.2.2.2 (fun j => c (3 + j))
def VKey : Vw Int := fun _ _ x c => c 0 = .int .u16 x

theorem stays_val : StaysI 2 VVal := by
  intro F F' w w' x c c' h hc hb hs hF
  obtain ⟨h0, a, l, cp, h1, hv⟩ := h
  exact ⟨(hc 0 (by omega)).trans h0, a, l, cp, (hc 1 (by omega)).trans h1, hv.stay hb hs hF⟩
theorem stays_row : StaysI 1 VRow := by
  intro F F' w w' x c c' h hc hb hs hF
  unfold VRow at h ⊢
  rw [hc 0 (by omega)]
  exact OwnI.kept stays_val h hb hs hF
theorem stays_col (n : Nat) : StaysI 8 (VCol n) := by
  intro F F' w w' x c c' h hc hb hs hF
  obtain ⟨⟨h0, m0⟩, ⟨h1, m1⟩, ⟨h2, m2⟩, h3⟩ := h
  refine ⟨⟨(hc 0 (by omega)).trans h0, m0⟩, ⟨(hc 1 (by omega)).trans h1, m1⟩, ⟨(hc 2 (by omega)).trans h2, m2⟩, ?_⟩
  exact (VT.mono (fun k hk hf => ⟨hF k hk hf, hb k hk hf⟩) hs h3).cells (fun j hj => hc (3 + j) (by omega))
theorem stays_key : StaysI 1 VKey := fun _ _ _ _ _ _ _ h hc _ _ _ => (hc 0 (by omega)).trans h

theorem Tryd.info26 : (Tryd.prog.info? 26).map (fun i => (i.zero, i.size, i.bytes)) = some (some (.agg #[.int .i64 0, .slice none 0 0]), 2, 32) := by kernel_rfl
theorem Tryd.info65 : (Tryd.prog.info? 65).map (fun i => (i.zero, i.size, i.bytes)) = some (some (.slice none 0 0), 1, 24) := by kernel_rfl
theorem Tryd.info64 : (Tryd.prog.info? 64).map (fun i => (i.zero, i.size, i.bytes)) = some (some (.agg #[.string ⟨#[]⟩, .string ⟨#[]⟩, .string ⟨#[]⟩, .int .u16 0, .string ⟨#[]⟩, .string ⟨#[]⟩, .slice none 0 0, .slice none 0 0]), 8, 136) := by kernel_rfl
theorem Tryd.info51 : (Tryd.prog.info? 51).map (fun i => (i.zero, i.size, i.bytes)) = some (some (.int .u16 0), 1, 2) := by kernel_rfl
theorem elem_val : Elem 65 26 2 32 := by
  obtain ⟨i0, hi, hz0, hz1, hz2⟩ := info_parts Tryd.info26
  exact ⟨by decide, Tryd.underlying65, i0, _, hi, hz0, hz1, hz2, rfl⟩
theorem elem_row : Elem 27 65 1 24 := by
  obtain ⟨i0, hi, hz0, hz1, hz2⟩ := info_parts Tryd.info65
  exact ⟨by decide, Tryd.underlying27, i0, _, hi, hz0, hz1, hz2, rfl⟩
theorem elem_col : Elem 24 64 8 136 := by
  obtain ⟨i0, hi, hz0, hz1, hz2⟩ := info_parts Tryd.info64
  exact ⟨by decide, Tryd.underlying24, i0, _, hi, hz0, hz1, hz2, rfl⟩
theorem elem_key : Elem 44 51 1 2 := by
  obtain ⟨i0, hi, hz0, hz1, hz2⟩ := info_parts Tryd.info51
  exact ⟨by decide, Tryd.underlying44, i0, _, hi, hz0, hz1, hz2, rfl⟩

end Go.Proofs.YtnapeecmlkkolaaDoor
