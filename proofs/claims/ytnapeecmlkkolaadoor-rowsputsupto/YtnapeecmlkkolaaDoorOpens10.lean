/-
  A type, a table that come in as arguments, opened.
-/
import Derived.Test.YtnapeecmlkkolaaDoorOpens
import Derived.Test.YtnapeecmlkkolaaDoorAwake10
import Derived.Test.YtnapeecmlkkolaaDoorFew
namespace Go.Proofs.YtnapeecmlkkolaaDoor
open Go.RowKit Go.ChangeShapes Go.WideShapes Go.Deep Go.ChangeAt
set_option maxRecDepth 100000
set_option linter.unusedVariables false
set_option linter.unusedSimpArgs false

theorem laidOut : laidOutB Tryd.prog = true := by kernel_rfl

theorem arg_ty {H : Type} {enc : TypeId × Value → H} {W : World} {base0 base : Nat} {v : Value} {d : DataW H} {p : List MemPlace} (hv : Value.okWide Tryd.prog W .any base0 62 v) (h : ∃ fuel, DataW.trod enc Tryd.prog W base (fun _ => true) true fuel 62 v.cells.toList = some (d, p)) :
    ∃ N t na nl nc ka kl kc, v = .agg #[.int .u16 t.id, .string t.space, .string t.name, .slice na nl nc, .slice ka kl kc] ∧ TyAt N (fun _ => True) W t na nl nc ka kl kc ∧ ∀ n, tlen n t + 2 ≤ 22 * Rows.uptoBulk d := by
  obtain ⟨cs, rfl, hsz⟩ := okWide_struct Tryd.underlying62 hv
  rw [cells62] at hsz
  obtain ⟨fuel, hf⟩ := h
  have hcs : (Value.agg cs).cells = cs := rfl
  rw [hcs] at hf
  obtain ⟨t, hvt, _, htl⟩ := open_ty fuel _ _ hf
  cases fuel with
  | zero => exact hvt.elim
  | succ n =>
    obtain ⟨na, nl, nc, ka, kl, kc, e0, e1, e2, e3, e4, hin⟩ := hvt
    obtain ⟨l⟩ := cs
    match l, hsz with
    | [c0, c1, c2, c3, c4], _ =>
      have e0' : c0 = .int .u16 t.id := e0
      have e1' : c1 = .string t.space := e1
      have e2' : c2 = .string t.name := e2
      have e3' : c3 = .slice na nl nc := e3
      have e4' : c4 = .slice ka kl kc := e4
      subst e0' e1' e2' e3' e4'
      exact ⟨n, t, na, nl, nc, ka, kl, kc, rfl, hin, htl⟩
end Go.Proofs.YtnapeecmlkkolaaDoor
namespace Go.Proofs.YtnapeecmlkkolaaDoor
open Go.RowKit Go.ChangeShapes Go.WideShapes Go.Deep Go.ChangeAt
set_option maxRecDepth 100000
set_option linter.unusedVariables false
set_option linter.unusedSimpArgs false

theorem bulk_mem {H : Type} {d : DataW H} {l : List (DataW H)} (h : d ∈ l) : Rows.uptoBulk d ≤ Rows.uptoBulkAll l := by
  induction l with
  | nil => cases h
  | cons x r ih =>
    rw [Rows.uptoBulkAll]
    rcases List.mem_cons.1 h with rfl | h
    · omega
    · have := ih h; omega

theorem bulk_lits {H : Type} (k : IntKind) (zs : List Int) : Rows.uptoBulkAll (lits (H := H) k zs) = zs.length := by
  induction zs with
  | nil => rfl
  | cons z r ih =>
    have e : lits (H := H) k (z :: r) = .lit (.int k z) :: lits k r := rfl
    rw [e, Rows.uptoBulkAll, ih, List.length_cons]
    have : Rows.uptoBulk (DataW.lit (H := H) (.int k z)) = 1 := rfl
    omega

theorem bulk_pos {H : Type} (d : DataW H) : 1 ≤ Rows.uptoBulk d := by
  cases d with
  | lit l => cases l <;> simp [Rows.uptoBulk]
  | _ => simp [Rows.uptoBulk]

theorem bulk_len {H : Type} (l : List (DataW H)) : l.length ≤ Rows.uptoBulkAll l := by
  induction l with
  | nil => exact Nat.zero_le _
  | cons x r ih =>
    have := bulk_pos x
    rw [Rows.uptoBulkAll, List.length_cons]
    omega

theorem cells26 : Tryd.prog.cellsOf 26 = 2 := by kernel_rfl
theorem cells65 : Tryd.prog.cellsOf 65 = 1 := by kernel_rfl
theorem cells27 : Tryd.prog.cellsOf 27 = 1 := by kernel_rfl
theorem cells64 : Tryd.prog.cellsOf 64 = 8 := by kernel_rfl
theorem cells29 : Tryd.prog.cellsOf 29 = 6 := by kernel_rfl
theorem cells24 : Tryd.prog.cellsOf 24 = 1 := by kernel_rfl
theorem cells3 : Tryd.prog.cellsOf 3 = 1 := by kernel_rfl
theorem cells4 : Tryd.prog.cellsOf 4 = 1 := by kernel_rfl
theorem cells22' : Tryd.prog.cellsOf 22 = 1 := by kernel_rfl

section
variable {H : Type} {enc : TypeId × Value → H} {W : World} {base : Nat}

theorem open_bytesB {fuel : Nat} {v : Value} {x : DataW H × List MemPlace} (h : DataW.trod enc Tryd.prog W base (fun _ => true) true fuel 22 [v] = some x) : ∃ a len cap zs, v = .slice a len cap ∧ IsB W a len cap zs ∧ len ≤ Rows.uptoBulk x.1 := by
  rcases open_ints Tryd.underlying22 Tryd.underlying5 (by kernel_rfl) h with ⟨hcs, _⟩ | ⟨y, l, c, zs, hcs, _, hl, hm, hz, hx, hcell, hwz⟩
  · simp at hcs
    exact ⟨none, 0, 0, [], hcs, isB_nil _, Nat.zero_le _⟩
  · simp at hcs
    have hz' : zs.length = c := by simpa using hz
    refine ⟨_, l, c, _, hcs, IsRow.isB (.inr ⟨_, rfl, hl, hm, hz', hcell, hwz⟩), ?_⟩
    rw [hx]
    simp only [Rows.uptoBulk, bulk_lits, List.length_take, List.length_drop]
    omega

theorem isB_true {a : Option Addr} {l c : Nat} {zs : List Int} (h : IsB W a l c zs) : IsBF (fun _ => True) W a l c zs := by
  refine ⟨h, fun q hq hl => ⟨trivial, ?_⟩⟩
  obtain ⟨b, off, e, hR⟩ := h.2.2.2.2 hl
  rw [hq] at e; cases e
  exact hR.lt hl

/-- Items that came in. -/
theorem open_items {α : Type} {S E : TypeId} {size : Nat} (hS : Tryd.prog.underlying S = some (.slice E)) (hE : Tryd.prog.cellsOf E = size) (hsz : 0 < size) {V : α → (Nat → Value) → Prop} {P : α → Nat → Prop} (hP : ∀ x m m', P x m → m ≤ m' → P x m')
    {fuel : Nat} (each : ∀ n, n < fuel → ∀ (cs : List Value) (x : DataW H × List MemPlace), DataW.trod enc Tryd.prog W base (fun _ => true) true n E cs = some x → ∃ y : α, V y (fun j => cs.getD j default) ∧ P y (Rows.uptoBulk x.1))
    {v : Value} {x : DataW H × List MemPlace} (h : DataW.trod enc Tryd.prog W base (fun _ => true) true fuel S [v] = some x) :
    ∃ a len cap xs, v = .slice a len cap ∧ Sees size (fun _ => True) V W a len cap xs ∧ ∀ y ∈ xs, P y (Rows.uptoBulk x.1) := by
  rcases DataW.trod_slice hS h with ⟨e4, hy4⟩ | ⟨a, len, cap, elems, rest, n', rfl, e4, hy4, hb, hlc, hm, hle, hel, hsp, hns⟩
  · simp at e4
    exact ⟨none, 0, 0, [], e4, sees_nil _ _ _ _, fun y hy => by cases hy⟩
  · simp at e4
    have hkid : ∀ i, i < len → ∃ y : α, (∃ c : Nat → Value, (∀ j, j < size → W.cell? (a.add (i * size + j)) = some (c j)) ∧ V y c) ∧ P y (Rows.uptoBulk x.1) := by
      intro i hi
      have h1 := hel i hi
      have hei : elems[i]? = some elems[i] := List.getElem?_eq_getElem (by omega)
      rw [hei, hE] at h1
      obtain ⟨cs', h2, h3⟩ := Option.bind_eq_some_iff.1 h1
      obtain ⟨y, hv, hp⟩ := each n' (by omega) cs' _ h3
      obtain ⟨_, hcell⟩ := cells_at h2 rfl
      refine ⟨y, ⟨_, hcell, hv⟩, hP _ _ _ hp ?_⟩
      rw [hy4]
      have := bulk_mem (H := H) (d := elems[i].1) (l := elems.map (·.1)) (List.mem_map.2 ⟨elems[i], List.getElem_mem _, rfl⟩)
      simp only [Rows.uptoBulk]
      omega
    obtain ⟨ks, hkl, hks⟩ := list_of hkid
    refine ⟨some a, len, cap, ks, e4, sees_of hsz hlc hm hkl (fun i t ht => (hks i t ht).1), fun y hy => ?_⟩
    obtain ⟨i, hi⟩ := List.getElem?_of_mem hy
    exact (hks i y hi).2

theorem open_val {fuel : Nat} {cs : List Value} {x : DataW H × List MemPlace} (h : DataW.trod enc Tryd.prog W base (fun _ => true) true fuel 26 cs = some x) :
    ∃ V : Vl, VVal (fun _ => True) W V (fun j => cs.getD j default) ∧ V.2.size ≤ Rows.uptoBulk x.1 := by
  obtain ⟨y0, y1, n, hx, hl, t0, t1⟩ := trod_struct2 Tryd.underlying26 h
  rw [cells26] at hl
  obtain ⟨c0, c1, rfl⟩ : ∃ c0 c1, cs = [c0, c1] := by
    match cs, hl with
    | [c0, c1], _ => exact ⟨c0, c1, rfl⟩
  simp [cells3, cells22'] at t0 t1
  obtain ⟨z, e0, _, wz⟩ := DataW.trod_int Tryd.underlying3 t0
  obtain ⟨a, l, c, zs, e1, hI, hb⟩ := open_bytesB t1
  simp at e0
  subst e0 e1
  have hs : sNums (strOfNums zs) = zs := sNums_strOfNums hI.range
  refine ⟨(z, strOfNums zs), ⟨rfl, a, l, c, rfl, by rw [hs]; exact isB_true hI⟩, ?_⟩
  have : (strOfNums zs).size = l := by rw [strOf_size, hI.1]
  rw [hx]
  simp only [Rows.uptoBulk, Rows.uptoBulkAll]
  show (strOfNums zs).size ≤ _
  omega

theorem open_vals {fuel : Nat} {v : Value} {x : DataW H × List MemPlace} (h : DataW.trod enc Tryd.prog W base (fun _ => true) true fuel 65 [v] = some x) :
    ∃ a len cap xs, v = .slice a len cap ∧ Sees 2 (fun _ => True) (VVal (fun _ => True) W) W a len cap xs ∧ ∀ V ∈ xs, V.2.size ≤ Rows.uptoBulk x.1 :=
  open_items (P := fun (V : Vl) m => V.2.size ≤ m) Tryd.underlying65 cells26 (by decide) (fun _ _ _ h1 h2 => Nat.le_trans h1 h2) (fun n _ cs x hx => open_val hx) h

theorem open_rowsS {fuel : Nat} {v : Value} {x : DataW H × List MemPlace} (h : DataW.trod enc Tryd.prog W base (fun _ => true) true fuel 27 [v] = some x) :
    ∃ a len cap xs, v = .slice a len cap ∧ Sees 1 (fun _ => True) (VRowS (fun _ => True) W) W a len cap xs ∧ ∀ r ∈ xs, ∀ V ∈ r, V.2.size ≤ Rows.uptoBulk x.1 :=
  open_items (P := fun (r : List Vl) m => ∀ V ∈ r, V.2.size ≤ m) Tryd.underlying27 cells65 (by decide) (fun _ _ _ h1 h2 V hV => Nat.le_trans (h1 V hV) h2) (fun n _ cs x hx => by
    rcases DataW.trod_slice Tryd.underlying65 hx with ⟨e4, _⟩ | ⟨a, len, cap, elems, rest, n', _, e4, _⟩
    all_goals
      subst e4
      obtain ⟨a2, l2, c2, xs, e, hs, hb⟩ := open_vals hx
      exact ⟨xs, ⟨a2, l2, c2, by simpa using e, hs⟩, hb⟩) h

theorem open_col {fuel : Nat} {cs : List Value} {x : DataW H × List MemPlace} (h : DataW.trod enc Tryd.prog W base (fun _ => true) true fuel 64 cs = some x) :
    ∃ c : Col, VCol fuel (fun _ => True) W c (fun j => cs.getD j default) := by
  obtain ⟨xs, n, hfu, rfl, hl, hlen, hf⟩ := DataW.trod_struct Tryd.underlying64 h
  rw [cells64] at hl
  obtain ⟨c0, c1, c2, c3, c4, c5, c6, c7, rfl⟩ : ∃ c0 c1 c2 c3 c4 c5 c6 c7, cs = [c0, c1, c2, c3, c4, c5, c6, c7] := by
    match cs, hl with
    | [c0, c1, c2, c3, c4, c5, c6, c7], _ => exact ⟨c0, c1, c2, c3, c4, c5, c6, c7, rfl⟩
  obtain ⟨y0, y1, y2, y3, rfl⟩ : ∃ y0 y1 y2 y3, xs = [y0, y1, y2, y3] := by
    match xs, hlen with
    | [y0, y1, y2, y3], _ => exact ⟨y0, y1, y2, y3, rfl⟩
  have t0 := hf 0 _ rfl
  have t1 := hf 1 _ rfl
  have t2 := hf 2 _ rfl
  have t3 := hf 3 _ rfl
  simp [cells9, cells62] at t0 t1 t2 t3
  obtain ⟨s1, e1, g1, m1⟩ := DataW.trod_string Tryd.underlying9 t0
  obtain ⟨s2, e2, g2, m2⟩ := DataW.trod_string Tryd.underlying9 t1
  obtain ⟨s3, e3, g3, m3⟩ := DataW.trod_string Tryd.underlying9 t2
  obtain ⟨t, hvt, _, _⟩ := open_ty n _ _ t3
  simp at e1 e2 e3
  subst e1 e2 e3
  refine ⟨(s1, s2, s3, t), ⟨rfl, m1⟩, ⟨rfl, m2⟩, ⟨rfl, m3⟩, ?_⟩
  refine (VT.ups (by omega) hvt).cells (fun j hj => ?_)
  rcases (show j = 0 ∨ j = 1 ∨ j = 2 ∨ j = 3 ∨ j = 4 by omega) with rfl | rfl | rfl | rfl | rfl <;> rfl

theorem open_cols {fuel : Nat} {v : Value} {x : DataW H × List MemPlace} (h : DataW.trod enc Tryd.prog W base (fun _ => true) true fuel 24 [v] = some x) :
    ∃ a len cap xs, v = .slice a len cap ∧ Sees 8 (fun _ => True) (VCol fuel (fun _ => True) W) W a len cap xs := by
  obtain ⟨a, l, c, xs, e, hs, _⟩ := open_items (P := fun (_ : Col) _ => True) (V := VCol fuel (fun _ => True) W) Tryd.underlying24 cells64 (by decide) (fun _ _ _ h _ => h) (fun n hn cs x hx => by
    obtain ⟨c, h0, h1, h2, h3⟩ := open_col hx
    exact ⟨c, ⟨h0, h1, h2, VT.ups (Nat.le_of_lt hn) h3⟩, trivial⟩) h
  exact ⟨a, l, c, xs, e, hs⟩
end

theorem bounds_i64' {z : Int} (h : (Lit.int .i64 z).wf = true) : -9223372036854775808 ≤ z ∧ z ≤ 9223372036854775807 := by
  simp [Lit.wf, IntKind.min, IntKind.max, IntKind.signed, IntKind.bits] at h; omega

/-- A table that came in. -/
theorem arg_table {H : Type} {enc : TypeId × Value → H} {W : World} {base0 base : Nat} {v : Value} {d : DataW H} {p : List MemPlace} (hv : Value.okWide Tryd.prog W .any base0 29 v) (h : ∃ fuel, DataW.trod enc Tryd.prog W base (fun _ => true) true fuel 29 v.cells.toList = some (d, p)) :
    ∃ (n : Nat) (cnt : Int) (L : List Col) (mo : Bool) (vk : Int) (vb : ByteArray) (Q : List (List Vl)) (ca : Option Addr) (cl cc : Nat) (x : Option Addr) (lx cx : Nat) (ra : Option Addr) (rl rc : Nat), v = .agg #[.int .i64 cnt, .slice ca cl cc, .bool mo, .int .i64 vk, .slice x lx cx, .slice ra rl rc] ∧
      TbV (n + 1) (fun _ => True) W ((cnt, L, mo, (vk, vb), Q) : Tb) ca cl cc x lx cx ra rl rc ∧ (-9223372036854775808 ≤ cnt ∧ cnt ≤ 9223372036854775807) ∧ vb.size ≤ Rows.uptoBulk d ∧ ∀ r ∈ Q, ∀ V ∈ r, V.2.size ≤ Rows.uptoBulk d := by
  obtain ⟨cs, rfl, hsz⟩ := okWide_struct Tryd.underlying29 hv
  rw [cells29] at hsz
  obtain ⟨fuel, hf⟩ := h
  have hcs : (Value.agg cs).cells = cs := rfl
  rw [hcs] at hf
  obtain ⟨l⟩ := cs
  obtain ⟨xs, n, hfu, hx, hl, hlen, hff⟩ := DataW.trod_struct Tryd.underlying29 hf
  match l, hsz with
  | [c0, c1, c2, c3, c4, c5], _ =>
    obtain ⟨y0, y1, y2, y3, y4, rfl⟩ : ∃ y0 y1 y2 y3 y4, xs = [y0, y1, y2, y3, y4] := by
      match xs, hlen with
      | [y0, y1, y2, y3, y4], _ => exact ⟨y0, y1, y2, y3, y4, rfl⟩
    have t0 := hff 0 _ rfl
    have t1 := hff 1 _ rfl
    have t2 := hff 2 _ rfl
    have t3 := hff 3 _ rfl
    have t4 := hff 4 _ rfl
    simp [cells3, cells24, cells4, cells26, cells27] at t0 t1 t2 t3 t4
    obtain ⟨z, e0, _, wz⟩ := DataW.trod_int Tryd.underlying3 t0
    obtain ⟨b, e2, _⟩ := DataW.trod_bool Tryd.underlying4 t2
    obtain ⟨V, ⟨v0, x, lx, cx, v1, hV⟩, hVb⟩ := open_val t3
    obtain ⟨ca, cl, cc, L, rfl, hL⟩ := open_cols t1
    obtain ⟨ra, rl, rc, Q, rfl, hQ, hQb⟩ := open_rowsS t4
    simp at e0 e2
    subst e0 e2
    have w0 : c3 = .int .i64 V.1 := v0
    have w1 : c4 = .slice x lx cx := v1
    subst w0 w1
    have hd : d = .agg [y0.1, y1.1, y2.1, y3.1, y4.1] := by have := congrArg Prod.fst hx; simpa using this
    refine ⟨n, z, L, b, V.1, V.2, Q, ca, cl, cc, x, lx, cx, ra, rl, rc, rfl, ⟨?_, hV, hQ⟩, bounds_i64' wz, ?_, fun r hr U hU => ?_⟩
    · exact hL.mono (fun k _ hk => ⟨hk, rfl⟩) (Nat.le_refl _) (fun c f _ hc => ⟨hc.1, hc.2.1, hc.2.2.1, VT.up _ hc.2.2.2⟩)
    · rw [hd]; simp only [Rows.uptoBulk, Rows.uptoBulkAll]; omega
    · have := hQb r hr U hU
      rw [hd]; simp only [Rows.uptoBulk, Rows.uptoBulkAll]; omega

end Go.Proofs.YtnapeecmlkkolaaDoor
