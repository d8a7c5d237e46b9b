/-
  What the ring calls of the library, in the words of these texts: is a host empty, a clone of places, places sorted.
-/
import Derived.Test.YtohkpihjkaffoaaDoorMath
import Derived.Test.YtohkpihjkaffoaaDoorShelf
import Derived.Shelf.SlSortCmp.WholeK

namespace Go.Proofs.YtohkpihjkaffoaaDoor
open Go.RowKit Go.Lib Go.Shelf Go.Sort
set_option maxRecDepth 100000
set_option linter.unusedVariables false
set_option linter.unusedSimpArgs false

/-- A place's two cells. -/
def encP (p : Pl) : List Value := [.int .i64 p.1, .string p.2]
def cellsP (zs : List Pl) : List Value := zs.flatMap encP

theorem cellsP_len : ∀ zs : List Pl, (cellsP zs).length = zs.length * 2
  | [] => rfl
  | p :: r => by
    show (encP p ++ cellsP r).length = _
    rw [List.length_append, cellsP_len r, List.length_cons]; simp [encP]; omega

theorem cellsP_at : ∀ (zs : List Pl) (i : Nat), i < zs.length → (cellsP zs)[i * 2]? = some (.int .i64 (zs.getD i default).1) ∧ (cellsP zs)[i * 2 + 1]? = some (.string (zs.getD i default).2)
  | [], i, h => by simp at h
  | p :: r, 0, _ => ⟨rfl, rfl⟩
  | p :: r, i + 1, h => by
    have := cellsP_at r i (by simpa using h)
    have e1 : (cellsP (p :: r))[(i + 1) * 2]? = (cellsP r)[i * 2]? := by
      show (encP p ++ cellsP r)[(i + 1) * 2]? = _
      rw [List.getElem?_append_right (by simp [encP]; omega)]
      congr 1; simp [encP]; omega
    have e2 : (cellsP (p :: r))[(i + 1) * 2 + 1]? = (cellsP r)[i * 2 + 1]? := by
      show (encP p ++ cellsP r)[(i + 1) * 2 + 1]? = _
      rw [List.getElem?_append_right (by simp [encP]; omega)]
      congr 1; simp [encP]; omega
    rw [e1, e2]
    simpa using this

theorem cellsP_one : ∀ (zs : List Pl), ∀ u ∈ cellsP zs, u.oneCell' = true
  | [], u, h => by cases h
  | p :: r, u, h => by
    rcases List.mem_append.1 (show u ∈ encP p ++ cellsP r from h) with h | h
    · simp [encP] at h; rcases h with rfl | rfl <;> rfl
    · exact cellsP_one r u h

theorem ownsRow_low {w : World} {base : Nat} {e : TypeId} {size : Nat} {v : Value} {n : Nat} {xs : List Value} (h : w.ownsRow base e size v n xs) : w.ownsRow 0 e size v n xs := by
  refine ⟨h.1, ?_⟩
  rcases h.2 with h2 | ⟨g, cap, cur, hv, hg, r⟩
  · exact .inl h2
  · exact .inr ⟨g, cap, cur, hv, Nat.zero_le _, r⟩

theorem add_plain (b off j : Nat) : (⟨b, off, none⟩ : Addr).add j = ⟨b, off + j, none⟩ := by unfold Addr.add; split <;> simp_all

/-- A row of the call's own, of places' cells, is a row of places. -/
theorem own_cells {e : TypeId} {w : World} {base : Nat} {v : Value} {zs : List Pl} (h : w.ownsRow base e 2 v zs.length (cellsP zs)) : Own e 2 VP w (fun k => base ≤ k) v zs := by
  refine ⟨cellsP zs, ownsRow_low h, fun k hk => (World.ownsRow.lt h k hk).1, cellsP_one zs, fun i hi => ?_⟩
  obtain ⟨e0, e1⟩ := cellsP_at zs i hi
  have g0 : (cellsP zs).getD (i * 2 + 0) default = .int .i64 (zs.getD i default).1 := by rw [List.getD_eq_getElem?_getD, Nat.add_zero, e0]; rfl
  have g1 : (cellsP zs).getD (i * 2 + 1) default = .string (zs.getD i default).2 := by rw [List.getD_eq_getElem?_getD, e1]; rfl
  refine ⟨⟨g0, g1⟩, fun j k hj hk => ?_⟩
  rcases (by omega : j = 0 ∨ j = 1) with rfl | rfl
  · rw [g0] at hk; simp [Value.ownBlock] at hk
  · rw [g1] at hk; simp [Value.ownBlock] at hk

theorem cells_eq {e : TypeId} {w : World} {F : Nat → Prop} {v : Value} {zs : List Pl} (h : Own e 2 VP w F v zs) : ∃ base, w.ownsRow base e 2 v zs.length (cellsP zs) ∧ base = 0 := by
  obtain ⟨cs, ho, h1, h2, h3⟩ := h
  refine ⟨0, ?_, rfl⟩
  have hl : cs.length = zs.length * 2 := ho.1
  have : cs = cellsP zs := by
    apply List.ext_getElem?
    intro j
    by_cases hj : j < zs.length * 2
    · have hi : j / 2 < zs.length := by omega
      obtain ⟨g0, g1⟩ := (h3 (j / 2) hi).1
      obtain ⟨e0, e1⟩ := cellsP_at zs (j / 2) hi
      rw [List.getElem?_eq_getElem (by omega)]
      rcases Nat.mod_two_eq_zero_or_one j with e | e
      · have ej : j = j / 2 * 2 := by omega
        simp only [] at g0
        rw [Nat.add_zero, ← ej, List.getD_eq_getElem?_getD, List.getElem?_eq_getElem (by omega)] at g0
        rw [← ej] at e0
        rw [e0]; exact congrArg some g0
      · have ej : j = j / 2 * 2 + 1 := by omega
        simp only [] at g1
        rw [← ej, List.getD_eq_getElem?_getD, List.getElem?_eq_getElem (by omega)] at g1
        rw [← ej] at e1
        rw [e1]; exact congrArg some g1
    · rw [List.getElem?_eq_none (by omega), List.getElem?_eq_none (by rw [cellsP_len]; omega)]
  rw [← this]; exact ho

theorem view_cells {w : World} {b off len cap : Nat} {zs : List Pl} (h : View 2 VP w (some ⟨b, off, none⟩) len cap zs) : ∀ j u, (cellsP zs)[j]? = some u → w.cell? ⟨b, off + j, none⟩ = some u := by
  intro j u hu
  have hjl : j < (cellsP zs).length := (List.getElem?_eq_some_iff.1 hu).1
  rw [cellsP_len] at hjl
  have hi : j / 2 < len := by have := h.1; omega
  obtain ⟨b', off', he, _, c0, c1⟩ := h.pl hi
  cases he
  obtain ⟨e0, e1⟩ := cellsP_at zs (j / 2) (by omega)
  rcases Nat.mod_two_eq_zero_or_one j with e | e
  · have ej : j / 2 * 2 = j := by omega
    rw [ej] at e0 c0; rw [e0] at hu; cases hu; exact c0
  · have ej : j / 2 * 2 + 1 = j := by omega
    rw [ej] at e1; rw [e1] at hu; cases hu
    rw [Nat.add_assoc, ej] at c1; exact c1

/-! The closures. -/
theorem emp_eq (h : ByteArray) : h.toList.isEmpty = empB h := by
  rw [ByteArray.toList_eq]
  unfold empB
  show h.data.toList.isEmpty = decide (h.data.size = 0)
  rw [← Array.length_toList]
  cases h.data.toList <;> rfl

theorem hostless_any (p : Pl) (W : World) : Calls Tryd.prog 22 #[.agg #[.int .i64 p.1, .string p.2]] W fun e w' => e = .returned (.bool (empB p.2)) ∧ Below W.heap.size W w' := by
  obtain ⟨t, s⟩ := p
  have he := emp_eq s
  go_enter Tryd.func22, Tryd.ntmps22
  go_wp2_with fail
  go_ret
  refine ⟨?_, below_one _ _⟩
  rw [← he]
  rfl

theorem below_hostless (w : World) : PredBelow Tryd.prog 22 #[] (fun x => .agg (encP x).toArray) (fun p => empB p.2) w := fun W x hb =>
  (hostless_any x W).mono fun e w' ⟨he, hB⟩ => ⟨he, hb.trans (hB.mono hb.size)⟩

theorem hasEmpty_any {w : World} {a : Option Addr} {len cap : Nat} {zs : List Pl} (h : View 2 VP w a len cap zs) :
    Calls Tryd.prog 21 #[.slice a len cap, .func (.func 22) #[] #[]] w fun e w' => e = .returned (.bool (empH zs)) ∧ Below w.heap.size w w' := by
  have eg : ∀ args w, (callFunc 22 args).run Tryd.prog w = .ok (.enter 22 args) w := enters_of Tryd.func22 (by kernel_rfl) rfl
  by_cases hp : 0 < len
  · obtain ⟨b, off, ha, hb, _⟩ := h.2.2.2.2 hp
    subst ha
    have hcon := AnyQ.slices_ContainsFunc Tryd.hasL 2 Tryd.isAgg46 Tryd.sizeOf46 encP (fun _ => rfl) (fun p => empB p.2) 22 #[] eg b off len cap zs w (below_hostless w) (by have := h.1; omega) (by have := h.2.1; have := h.2.2.1; unfold maxLen at this; omega) hb (fun j hj i v hi => by
      obtain ⟨b', off', he, _, c0, c1⟩ := h.pl (i := j) (by have := h.1; omega)
      cases he
      have ej : zs[j]! = zs.getD j default := by rw [List.getElem!_eq_getElem?_getD, List.getD_eq_getElem?_getD]
      rw [ej] at hi
      match i, hi with
      | 0, hi => simp [encP] at hi; rw [← hi]; exact c0
      | 1, hi => simp [encP] at hi; rw [← hi]; exact c1
      | i + 2, hi => simp [encP] at hi)
    rw [List.take_of_length_le (by have := h.1; omega)] at hcon
    exact hcon
  · obtain rfl : len = 0 := by omega
    obtain rfl : zs = [] := List.eq_nil_of_length_eq_zero h.1
    have h32 : ∀ W : World, Calls Tryd.prog 32 #[.slice a 0 cap, .func (.func 22) #[] #[]] W fun e w' => e = .returned (.int .i64 (-1)) ∧ w' = W := by
      intro W
      clear h
      go_enter Tryd.func32, Tryd.ntmps32
      go_wp2_with fail
      refine wp_loop_rounds 1 ?_
      rw [rounds_succ]
      go_wp2_with fail
      go_ret
      exact ⟨rfl, rfl⟩
    clear h
    go_enter Tryd.func21, Tryd.ntmps21
    go_wp2_with (go_at_call 32; refine (h32 _).mono ?_; rintro e w' ⟨rfl, rfl⟩)
    go_ret
    exact ⟨rfl, Below.refl _ _⟩

/-- append of places that are seen, onto a slice that owns its row: the run. -/
theorem append_view_run {t e : TypeId} (hE : Elem t e 2 24) {w : World} {F : Nat → Prop} {v : Value} {xs ys : List Pl} (h : Own e 2 VP w F v xs) {y0 : Option Addr} {n c : Nat} (hn : ys.length = n) (hz : y0 = none → n = 0 ∧ c = 0)
    (hc : ∀ ad, y0 = some ad → ∀ j u, (cellsP ys)[j]? = some u → w.cell? (ad.add j) = some u) (hF : F w.heap.size) (hb : xs.length + ys.length ≤ 2000000) (ty : TypeId) :
    ∃ v' w', (Builtin.append_ #[t, t] ty #[v, .slice y0 n c]).run Tryd.prog w = .ok v' w' ∧ Own e 2 VP w' F v' (xs ++ ys) ∧ Kept (fun k => v.ownBlock = some k) w w' ∧ (v'.ownBlock = v.ownBlock ∨ v'.ownBlock = some w.heap.size) := by
  subst hn
  cases y0 with
  | none =>
    obtain ⟨h0, rfl⟩ := hz rfl
    obtain rfl : ys = [] := List.eq_nil_of_length_eq_zero h0
    obtain ⟨hsz, ht, i, z, hi, hz1, hsize, hby, hzs⟩ := hE
    obtain ⟨b0, ho, _⟩ := cells_eq h
    exact ⟨v, w, run_append_owned_none (P := Tryd.prog) (w := w) b0 t ty e i 2 ht hi v xs.length (cellsP xs) ho, by rw [List.append_nil]; exact h, Kept.refl _ _, .inl rfl⟩
  | some ad =>
    exact append_items_run stays_p hE h (hc ad rfl) (cellsP_len ys) (cellsP_one ys) (fun i hi => by
      obtain ⟨e0, e1⟩ := cellsP_at ys i hi
      have g0 : (cellsP ys).getD (i * 2 + 0) default = .int .i64 (ys.getD i default).1 := by rw [List.getD_eq_getElem?_getD, Nat.add_zero, e0]; rfl
      have g1 : (cellsP ys).getD (i * 2 + 1) default = .string (ys.getD i default).2 := by rw [List.getD_eq_getElem?_getD, e1]; rfl
      refine ⟨⟨g0, g1⟩, fun j k hj hk => ?_⟩
      rcases (by omega : j = 0 ∨ j = 1) with rfl | rfl
      · rw [g0] at hk; simp [Value.ownBlock] at hk
      · rw [g1] at hk; simp [Value.ownBlock] at hk) hF (by unfold maxLen; omega) (by omega) ty c

theorem wpList_append_view {ops : Array Oper} {rest : List Oper} {o : Oper} {a : Act} {Q : Exit → Act → World → Prop} {w : World} (hgd : o.guard = none) (s y : Operand) (t : TypeId)
    (ho : o.op = .call { callee := .builtin .append, args := #[s, y], argTypes := #[t, t] }) {e : TypeId} (hE : Elem t e 2 24) {F : Nat → Prop} {v : Value} {xs ys : List Pl} (hs : a.eval s = v) (h : Own e 2 VP w F v xs)
    {y0 : Option Addr} {n c : Nat} (hy : a.eval y = .slice y0 n c) (hn : ys.length = n) (hz : y0 = none → n = 0 ∧ c = 0) (hc : ∀ ad, y0 = some ad → ∀ j u, (cellsP ys)[j]? = some u → w.cell? (ad.add j) = some u) (hF : F w.heap.size) (hb : xs.length + ys.length ≤ 2000000)
    (hk : ∀ v' w', Own e 2 VP w' F v' (xs ++ ys) → Kept (fun k => v.ownBlock = some k) w w' → (v'.ownBlock = v.ownBlock ∨ v'.ownBlock = some w.heap.size) → wpList Tryd.prog ops Q rest (a.put o.dst v') w') : wpList Tryd.prog ops Q (o :: rest) a w := by
  refine wpList_plain hgd fun K hK => ?_
  obtain ⟨v', w', hr, h2, h3, h4⟩ := append_view_run hE h hn hz hc hF hb o.type
  unfold Oper.wp
  simp [execOp, ho, resolve, invoke, builtin, hs, hy, hr, Result.andThen]
  exact hK _ _ (hk v' w' h2 h3 h4)

/-- What is seen, cell by cell. -/
theorem view_some {w : World} {y0 : Option Addr} {n c : Nat} {ys : List Pl} (h : View 2 VP w y0 n c ys) : ∀ ad, y0 = some ad → ∀ j u, (cellsP ys)[j]? = some u → w.cell? (ad.add j) = some u := by
  intro ad e j u hu
  subst e
  have hjl : j < (cellsP ys).length := (List.getElem?_eq_some_iff.1 hu).1
  rw [cellsP_len, h.1] at hjl
  obtain ⟨b, off, he, _, _⟩ := h.2.2.2.2 (by omega)
  cases he
  rw [add_plain]
  exact view_cells h j u hu

set_option maxHeartbeats 400000 in
theorem clone_any {w : World} {a : Option Addr} {len cap : Nat} {zs : List Pl} (h : View 2 VP w a len cap zs) (hl : len ≤ 1000000) :
    Calls Tryd.prog 23 #[.slice a len cap] w fun e w' => ∃ v, e = .returned v ∧ Own 46 2 VP w' (fun k => w.heap.size ≤ k) v zs ∧ Below w.heap.size w w' := by
  have q : ∀ (w : World) (a : Option Addr) (n c n' c' : Nat), (binOp .eql 22 (.slice a n c) (.slice none n' c')).run Tryd.prog w = .ok (.bool a.isNone) w := fun w a n c n' c' => Lib.run_eql_slice_nil w _ _ a n c n' c' Tryd.underlying22
  cases a with
  | none =>
    obtain ⟨rfl, rfl⟩ := h.2.2.2.1 rfl
    obtain rfl : zs = [] := List.eq_nil_of_length_eq_zero h.1
    clear h
    go_enter Tryd.func23, Tryd.ntmps23
    go_wp2_with fail
    go_ret
    exact ⟨_, rfl, own_nil _ _ _ _ _, Below.refl _ _⟩
  | some x =>
    have HV : Hid (View 2 VP (w.alloc (.cells #[] 46)) (some x) len cap zs) := h.old stays_p (below_one _ _)
    have HO : Hid (Own 46 2 VP (w.alloc (.cells #[] 46)) (fun k => w.heap.size ≤ k) (.slice (some ⟨w.heap.size, 0, none⟩) 0 0) []) :=
      own_cells (zs := []) ⟨rfl, .inr ⟨w.heap.size, 0, #[], rfl, Nat.le_refl _, heap_alloc_new w _, Nat.le_refl _, by unfold maxLen; omega, rfl, rfl⟩⟩
    have HN : Hid (zs.length = len) := h.1
    clear h
    go_enter Tryd.func23, Tryd.ntmps23
    go_wp2_with (at_builtin; refine wpList_append_view rfl (.tmp 5) (.tmp 6) 22 rfl elem_p rfl HO.out rfl HN.out (fun e => by cases e) (view_some HV.out) (by simp) (by have := HN.out; simp; omega) ?_)
    intro v w1 ho hK _
    have HO1 : Hid (Own 46 2 VP w1 (fun k => w.heap.size ≤ k) v zs) := ho
    have HB1 : Hid (Below w.heap.size w w1) := (below_one _ _).trans (hK.below (by simp) (fun k _ e => by simp [Value.ownBlock] at e; omega))
    clear ho hK
    go_wp2_with fail
    go_ret
    exact ⟨_, rfl, HO1.out, HB1.out⟩

/-! The sort. -/
theorem block_lt' {w : World} {b : Nat} {o : Obj} (h : w.heap[b]? = some o) : b < w.heap.size := (Array.getElem?_eq_some_iff.1 h).1

theorem byTok_any (x y : Pl) (W : World) : Calls Tryd.prog 25 #[.agg #[.int .i64 x.1, .string x.2], .agg #[.int .i64 y.1, .string y.2]] W fun e w' => e = .returned (.int .i64 (Lib.compareInt x.1 y.1)) ∧ ∃ q os', w' = grow (W.drewN q) os' := by
  have hcon := fun W' => AnyG.cmp_Compare_int Tryd.cmpL x.1 y.1 W'
  change ∀ W', Calls Tryd.prog 35 _ _ _ at hcon
  generalize Lib.compareInt x.1 y.1 = r at hcon ⊢
  go_enter Tryd.func25, Tryd.ntmps25
  go_wp2_with (go_at_call 35; refine (hcon _).mono ?_; rintro e w' ⟨rfl, rfl⟩)
  go_ret
  exact ⟨rfl, 0, _, by rw [alloc_eq_grow, alloc_eq_grow, grow_grow]; rfl⟩

theorem lays_byTok (blk off size : Nat) (w : World) : CmpLays Tryd.prog 25 #[] encP 2 (fun x y => Lib.compareInt x.1 y.1) blk off size w :=
  fun _ _ _ _ x y => byTok_any x y _

theorem lt_tok (x y : Pl) : ltOf (fun x y : Pl => Lib.compareInt x.1 y.1) x y = decide (x.1 < y.1) := by
  unfold ltOf Lib.compareInt
  by_cases h1 : x.1 < y.1
  · simp [h1]
  · by_cases h2 : y.1 < x.1 <;> simp [h1, h2]

theorem swo_tok : SWO (ltOf fun x y : Pl => Lib.compareInt x.1 y.1) where
  irrefl x := by rw [lt_tok]; simp
  trans x y z h1 h2 := by rw [lt_tok] at *; simp at *; omega
  ntrans x y z h1 h2 := by rw [lt_tok] at *; simp at *; omega

/-- Nothing to sort. -/
theorem sort_none (w : World) (a : Option Addr) (c : Nat) : Calls Tryd.prog 24 #[.slice a 0 c, .func (.func 25) #[] #[]] w fun e w' => e = .returned (.tuple #[]) ∧ w' = w := by
  have h50 : ∀ W : World, Calls Tryd.prog 50 #[.int .u64 0] W fun e w' => (∃ l, e = .returned (.int .i64 l)) ∧ w' = W := by
    intro W
    go_enter Tryd.func50, Tryd.ntmps50
    go_wp2_with fail
    go_ret
    exact ⟨⟨_, rfl⟩, rfl⟩
  have h34 : ∀ W : World, Calls Tryd.prog 34 #[.int .u64 0] W fun e w' => (∃ l, e = .returned (.int .i64 l)) ∧ w' = W := by
    intro W
    go_enter Tryd.func34, Tryd.ntmps34
    go_wp2_with (go_at_call 50; refine (h50 _).mono ?_; rintro e w' ⟨⟨l, rfl⟩, rfl⟩)
    go_ret
    exact ⟨⟨_, rfl⟩, rfl⟩
  have h41 : ∀ W : World, Calls Tryd.prog 41 #[.slice a 0 c, .int .i64 0, .int .i64 0, .func (.func 25) #[] #[]] W fun e w' => e = .returned (.tuple #[]) ∧ w' = W := by
    intro W
    go_enter Tryd.func41, Tryd.ntmps41
    go_wp2_with fail
    refine wp_loop_rounds 1 ?_
    rw [rounds_succ]
    go_wp2_with fail
    go_end0
    exact ⟨rfl, rfl⟩
  have h33 : ∀ (l : Int) (W : World), Calls Tryd.prog 33 #[.slice a 0 c, .int .i64 0, .int .i64 0, .int .i64 l, .func (.func 25) #[] #[]] W fun e w' => e = .returned (.tuple #[]) ∧ w' = W := by
    intro l W
    go_enter Tryd.func33, Tryd.ntmps33
    go_wp2_with fail
    refine wp_loop_rounds 1 ?_
    rw [rounds_succ]
    go_wp2_with (go_at_call 41; refine (h41 _).mono ?_; rintro e w' ⟨rfl, rfl⟩)
    refine bodyPost_ret (results_none rfl _ _ _) rfl ?_
    exact ⟨rfl, rfl⟩
  go_enter Tryd.func24, Tryd.ntmps24
  go_wp2_with (first
    | (go_at_call 34; refine (h34 _).mono ?_; rintro e w' ⟨⟨l, rfl⟩, rfl⟩)
    | (go_at_call 33; refine (h33 _ _).mono ?_; rintro e w' ⟨rfl, rfl⟩))
  go_end0
  exact ⟨rfl, rfl⟩

theorem flat_cells (zs : List Pl) : (flatK encP 2 zs.toArray).toList = cellsP zs := by
  apply List.ext_getElem?
  intro j
  by_cases hj : j < zs.length * 2
  · have hs : j < (flatK encP 2 zs.toArray).size := by rw [size_flatK]; simpa using hj
    have h1 := get_flatK encP 2 zs.toArray j (by simpa using hj)
    rw [getElem!_pos _ j hs] at h1
    rw [Array.getElem?_toList, Array.getElem?_eq_getElem hs, h1]
    have hi : j / 2 < zs.length := by omega
    obtain ⟨e0, e1⟩ := cellsP_at zs (j / 2) hi
    have hd : zs.toArray[j / 2]! = zs.getD (j / 2) default := by rw [getElem!_pos _ _ (by simpa using hi), List.getElem_toArray, List.getD_eq_getElem?_getD, List.getElem?_eq_getElem hi]; rfl
    rw [hd]
    rcases Nat.mod_two_eq_zero_or_one j with e | e
    · have ej : j / 2 * 2 = j := by omega
      rw [ej] at e0; rw [e0, e]; rfl
    · have ej : j / 2 * 2 + 1 = j := by omega
      rw [ej] at e1; rw [e1, e]; rfl
  · rw [List.getElem?_eq_none (by rw [Array.length_toList, size_flatK]; simp; omega), List.getElem?_eq_none (by rw [cellsP_len]; omega)]

theorem take_put (cur F : Array Value) (h : F.size ≤ cur.size) : (putCells id 0 F cur).toList.take F.size = F.toList := by
  apply List.ext_getElem?
  intro j
  by_cases hj : j < F.size
  · rw [List.getElem?_take_of_lt hj, Array.getElem?_toList]
    simp [putCells, hj, show j < cur.size by omega]
  · rw [List.getElem?_take_eq_none (by omega), List.getElem?_eq_none (by simp; omega)]

theorem sort_any {w : World} {F : Nat → Prop} {v : Value} {zs : List Pl} (h : Own 46 2 VP w F v zs) (hl : zs.length ≤ 1000000) :
    Calls Tryd.prog 24 #[v, .func (.func 25) #[] #[]] w fun e w' => e = .returned (.tuple #[]) ∧ ∃ zs' : List Pl, zs'.Perm zs ∧ Srt zs' ∧ Own 46 2 VP w' F v zs' ∧ Kept (fun k => v.ownBlock = some k) w w' := by
  obtain ⟨b0, ho, rfl⟩ := cells_eq h
  have hF : ∀ k, v.ownBlock = some k → F k := fun k hk => (h.lt k hk).1
  rcases ho.2 with ⟨rfl, h0⟩ | ⟨g, cap, cur, rfl, hg, hh, hnc, hm, hs, htake⟩
  · obtain rfl : zs = [] := List.eq_nil_of_length_eq_zero h0
    exact (sort_none w none 0).mono fun e w' ⟨he, hw⟩ => ⟨he, [], List.Perm.refl _, List.Pairwise.nil, by rw [hw]; exact own_nil _ _ _ _ _, by rw [hw]; exact Kept.refl _ _⟩
  · have hgs := block_lt' hh
    have eg : ∀ args w, (callFunc 25 args).run Tryd.prog w = .ok (.enter 25 args) w := enters_of Tryd.func25 (by kernel_rfl) rfl
    have hH : HoldsK encP 2 w g 0 zs.toArray := by
      intro t ht
      have ht' : t < zs.length * 2 := by simpa using ht
      refine ⟨?_, by simp [World.frozen?, hh]⟩
      have e1 : (cellsP zs)[t]? = some ((flatK encP 2 zs.toArray)[t]!) := by
        rw [← flat_cells, Array.getElem?_toList, Array.getElem?_eq_getElem ht, getElem!_pos _ t ht]
      rw [← htake, List.getElem?_take_of_lt ht'] at e1
      simp only [World.cell?, hh, Nat.zero_add, Option.isSome_none, Bool.false_eq_true, if_false]
      rw [← Array.getElem?_toList, e1]
      rfl
    have hcon := AnyQ.slices_SortFunc Tryd.sortL 2 Tryd.isAgg46 Tryd.sizeOf46 encP (fun _ => rfl) (fun x v hv => by simp [encP] at hv; rcases hv with rfl | rfl <;> rfl) (fun x y => Lib.compareInt x.1 y.1) swo_tok 25 #[] g 0 cap zs.toArray w eg (lays_byTok g 0 _ w) hH hgs (by simp; omega)
    change Calls Tryd.prog 24 _ _ _ at hcon
    rw [show zs.toArray.size = zs.length by simp] at hcon
    refine hcon.mono ?_
    rintro e w' ⟨rfl, d', n, os, hp, hso, rfl⟩
    obtain ⟨hp1, _, hp3⟩ := hp
    have hsz : d'.size = zs.length := by rw [hp1]; simp
    have hperm : d'.toList.Perm zs := by
      have e1 : d'.extract 0 zs.length = d' := by rw [← hsz]; exact Array.extract_size
      have e2 : zs.toArray.extract 0 zs.length = zs.toArray := by simp
      rw [e1, e2] at hp3
      simpa using hp3
    have hsrt : Srt d'.toList := by
      unfold Srt
      rw [List.pairwise_iff_getElem]
      intro i j hi hj hij
      have hj' : j < zs.length := by rw [Array.length_toList] at hj; omega
      have := hso i j (Nat.zero_le _) hij hj'
      rw [lt_tok, getElem!_pos d' i (by omega), getElem!_pos d' j (by omega)] at this
      have := of_decide_eq_false this
      simp only [Array.getElem_toList]
      omega
    have hB : (grow (putRowK encP 2 (Sort.ahead w n) g 0 d') os).heap[g]? = some (.cells (putCells id 0 (flatK encP 2 d') cur) 46 (0, 0)) := by
      rw [heap_grow_old _ _ (by show g < (putRowK encP 2 (Sort.ahead w n) g 0 d').heap.size; unfold putRowK; rw [size_putRow]; exact hgs)]
      simp [putRowK, putRow, mapBlock, Sort.ahead, Array.getElem?_modify, hh, onCells]
    have hK : Kept (fun k => (Value.slice (some ⟨g, 0, none⟩) zs.length cap).ownBlock = some k) w (sortWorldK encP 2 w g 0 n d' os) := by
      refine ⟨rfl, rfl, rfl, by simp [sortWorldK, putRowK], fun k hk hne => ?_⟩
      unfold sortWorldK
      rw [heap_grow_old _ _ (by unfold putRowK; rw [size_putRow]; exact hk)]
      have : g ≠ k := fun e => hne (by rw [e]; rfl)
      simp [putRowK, putRow, mapBlock, Sort.ahead, Array.getElem?_modify, this]
    have hcs : (flatK encP 2 d').toList = cellsP d'.toList := by have := flat_cells d'.toList; rwa [Array.toArray_toList] at this
    have hll : d'.toList.length = zs.length := by rw [Array.length_toList]; exact hsz
    have hown : (sortWorldK encP 2 w g 0 n d' os).ownsRow 0 46 2 (.slice (some ⟨g, 0, none⟩) zs.length cap) d'.toList.length (cellsP d'.toList) := by
      refine ⟨cellsP_len _, .inr ⟨g, cap, _, by rw [hll], Nat.zero_le _, hB, by rw [hll]; exact hnc, hm, by simp [putCells, hs], ?_⟩⟩
      have hfs : (flatK encP 2 d').size = d'.toList.length * 2 := by rw [size_flatK, Array.length_toList]
      rw [← hfs, take_put _ _ (by rw [size_flatK, hsz, hs]; omega), hcs]
    refine ⟨rfl, d'.toList, hperm, hsrt, ?_, hK⟩
    obtain ⟨cs, q1, q2, q3, q4⟩ := own_cells hown
    exact ⟨cs, q1, hF, q3, fun i hi => ⟨(q4 i hi).1, fun j k hj hk => by
      obtain ⟨base, ho2, rfl⟩ := cells_eq (own_cells hown)
      exact absurd hk (by
        obtain ⟨g0, g1⟩ := (q4 i hi).1
        rcases (by omega : j = 0 ∨ j = 1) with rfl | rfl
        · simp only [] at g0; rw [g0]; simp [Value.ownBlock]
        · simp only [] at g1; rw [g1]; simp [Value.ownBlock])⟩⟩
end Go.Proofs.YtohkpihjkaffoaaDoor
