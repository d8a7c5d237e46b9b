/-
  A request that came in, opened: what it is seen as; its texts and values are no longer than the bound on all that comes in.
-/
import Derived.Test.YtcecdklgiocbaaaPut8
import Derived.Test.YtcecdklgiocbaaaTold8
import Derived.Deep.Strs
import Derived.ChangeSame
import Derived.ProofKit
namespace Go.Proofs.Ytcecdklgiocbaaa
open Go.RowKit Go.ChangeShapes Go.WideShapes Go.ChangeAt Go.Deep
set_option maxRecDepth 100000
set_option linter.unusedVariables false
set_option linter.unusedSimpArgs false

theorem cells3 : Try.prog.cellsOf 3 = 1 := by kernel_rfl
theorem cells4 : Try.prog.cellsOf 4 = 1 := by kernel_rfl
theorem cells9 : Try.prog.cellsOf 9 = 1 := by kernel_rfl
theorem cells23 : Try.prog.cellsOf 23 = 1 := by kernel_rfl
theorem cells25 : Try.prog.cellsOf 25 = 1 := by kernel_rfl
theorem cells28 : Try.prog.cellsOf 28 = 2 := by kernel_rfl
theorem cells87 : Try.prog.cellsOf 87 = 2 := by kernel_rfl
theorem cells60 : Try.prog.cellsOf 60 = 4 := by kernel_rfl
theorem cells30 : Try.prog.cellsOf 30 = 13 := by kernel_rfl
theorem cells33 : Try.prog.cellsOf 33 = 22 := by kernel_rfl
theorem cells5 : Try.prog.cellsOf 5 = 1 := by kernel_rfl
theorem cells2 : Try.prog.cellsOf 2 = 1 := by kernel_rfl
theorem cells21 : Try.prog.cellsOf 21 = 1 := by kernel_rfl
theorem cells22 : Try.prog.cellsOf 22 = 1 := by kernel_rfl
theorem cells24 : Try.prog.cellsOf 24 = 1 := by kernel_rfl
theorem cells26 : Try.prog.cellsOf 26 = 1 := by kernel_rfl
theorem cells31 : Try.prog.cellsOf 31 = 1 := by kernel_rfl

theorem bulk_mem {H : Type} {d : DataW H} {l : List (DataW H)} (h : d ∈ l) : Rows.uptoBulk d ≤ Rows.uptoBulkAll l := by
  induction l with
  | nil => cases h
  | cons x r ih =>
    rw [Rows.uptoBulkAll]
    rcases List.mem_cons.1 h with rfl | h
    · omega
    · have := ih h; omega

theorem bulk_lits {H : Type} (k : IntKind) (zs : List Int) : Rows.uptoBulkAll (lits (H := H) k zs) = zs.length := by
  induction zs with
  | nil => rfl
  | cons z r ih =>
    have e : lits (H := H) k (z :: r) = .lit (.int k z) :: lits k r := rfl
    rw [e, Rows.uptoBulkAll, ih, List.length_cons]
    have : Rows.uptoBulk (DataW.lit (H := H) (.int k z)) = 1 := rfl
    omega

theorem bulk_pos {H : Type} (d : DataW H) : 1 ≤ Rows.uptoBulk d := by
  cases d with
  | lit l => cases l <;> simp [Rows.uptoBulk]
  | _ => simp [Rows.uptoBulk]
theorem bulk_len {H : Type} (l : List (DataW H)) : l.length ≤ Rows.uptoBulkAll l := by
  induction l with
  | nil => exact Nat.zero_le _
  | cons x r ih =>
    have := bulk_pos x
    rw [Rows.uptoBulkAll, List.length_cons]
    omega

theorem wf_u8 {n : Int} (h : (Lit.int .u8 n).wf = true) : 0 ≤ n ∧ n ≤ 255 := by simp [Lit.wf, IntKind.min, IntKind.max, IntKind.signed, IntKind.bits] at h; omega

section
variable {H : Type} {enc : TypeId × Value → H} {W : World} {base : Nat}

/-- From each item's cells to the view of all of them. -/
theorem view_of {α : Type} [Inhabited α] {size : Nat} (hsz : 0 < size) {V : World → α → (Nat → Value) → Prop} {a : Addr} {len cap : Nat} (hl : len ≤ cap) (hm : cap ≤ maxLen) {R : α → Prop}
    (h : ∀ i, i < len → ∃ x : α, (∃ c : Nat → Value, (∀ j, j < size → W.cell? (a.add (i * size + j)) = some (c j)) ∧ V W x c) ∧ R x) : ∃ xs, View size V W (some a) len cap xs ∧ ∀ x ∈ xs, R x := by
  obtain ⟨f, hf⟩ := choose_lt h
  refine ⟨(List.range len).map f, ⟨by simp, hl, hm, (fun e => by cases e), fun hp => ?_⟩, fun x hx => ?_⟩
  · obtain ⟨b, off, spot⟩ := a
    obtain ⟨⟨c0, hc0, _⟩, _⟩ := hf 0 hp
    have hc := hc0 0 hsz
    have hspot : spot = none := by simpa [Addr.add] using World.cell?_spot hc
    subst hspot
    refine ⟨b, off, rfl, by have := block_lt_of_cell hc; simpa [Addr.add] using this, fun i hi => ?_⟩
    obtain ⟨⟨c, hcell, hv⟩, _⟩ := hf i hi
    refine ⟨c, fun j hj => ?_, ?_⟩
    · have := hcell j hj
      have hplain : (⟨b, off, none⟩ : Addr).add (i * size + j) = ⟨b, off + (i * size + j), none⟩ := by unfold Addr.add; split <;> simp_all
      rwa [hplain] at this
    · rw [List.getD_eq_getElem?_getD]
      simpa [hi] using hv
  · obtain ⟨i, hi, rfl⟩ := List.mem_map.1 hx
    exact (hf i (List.mem_range.1 hi)).2

/-- The cells of one item, written out. -/
theorem cells_at {a : Addr} {i size n : Nat} {cs : List Value} (h : W.cells? base (a.add (i * size)) n = some cs) (hn : n = size) : cs.length = size ∧ ∀ j, j < size → W.cell? (a.add (i * size + j)) = some (cs.getD j default) := by
  subst hn
  obtain ⟨_, hlen, hc⟩ := World.cells?_some h
  refine ⟨hlen, fun j hj => ?_⟩
  have := hc j hj
  rw [add_add] at this
  rw [this, List.getD_eq_getElem?_getD, List.getElem?_eq_getElem (by omega)]
  rfl

/-- A slice that came in, seen as its items, each within the bound. -/
theorem open_items {α : Type} [Inhabited α] {size : Nat} (hsz : 0 < size) (V : World → α → (Nat → Value) → Prop) (R : α → Prop) {t e : TypeId} (ht : Try.prog.underlying t = some (.slice e)) (hc : Try.prog.cellsOf e = size)
    (hitem : ∀ (n : Nat) (cs : List Value) (d : DataW H) (p : List MemPlace), cs.length = size → DataW.trod enc Try.prog W base (fun _ => true) true n e cs = some (d, p) → Rows.uptoBulk d ≤ 1048576 → ∃ x : α, V W x (fun j => cs.getD j default) ∧ R x)
    {fuel : Nat} {v : Value} {x : DataW H × List MemPlace} (h : DataW.trod enc Try.prog W base (fun _ => true) true fuel t [v] = some x) (hb : Rows.uptoBulk x.1 ≤ 1048576) :
    ∃ a len cap xs, v = .slice a len cap ∧ View size V W a len cap xs ∧ xs.length ≤ 1048576 ∧ ∀ y ∈ xs, R y := by
  rcases open_slice ht h with ⟨hcs, _⟩ | ⟨a, len, cap, m, n, D, Pl, hcs, _, hl, hm, hmm, hx0, hx⟩
  · simp at hcs
    exact ⟨none, 0, 0, [], hcs, view_nil _ _ _, by simp⟩
  · simp at hcs
    simp at hmm
    subst hmm
    have hD : ∀ i, i < len → Rows.uptoBulk (D i) ≤ 1048576 := by
      intro i hi
      have h1 := bulk_mem (H := H) (d := D i) (l := (List.range len).map D) (List.mem_map.2 ⟨i, List.mem_range.2 hi, rfl⟩)
      rw [hx0] at hb
      simp only [Rows.uptoBulk] at hb
      omega
    obtain ⟨xs, hv, hR⟩ := view_of (W := W) (a := a) (size := size) (V := V) (R := R) hsz hl hm (fun i hi => by
      obtain ⟨cs, h1, h2⟩ := hx i (by omega)
      rw [hc] at h1
      obtain ⟨hlen, hcell⟩ := cells_at h1 rfl
      obtain ⟨y, h3, h4⟩ := hitem n cs (D i) (Pl i) hlen h2 (hD i hi)
      exact ⟨y, ⟨_, hcell, h3⟩, h4⟩)
    have hlen : len ≤ 1048576 := by
      have h1 := bulk_len ((List.range len).map D)
      rw [List.length_map, List.length_range] at h1
      rw [hx0] at hb
      simp only [Rows.uptoBulk] at hb
      omega
    exact ⟨some a, len, _, xs, hcs, hv, by rw [hv.1]; exact hlen, hR⟩

theorem open_text {fuel : Nat} {cs : List Value} {x : DataW H × List MemPlace} (h : DataW.trod enc Try.prog W base (fun _ => true) true fuel 9 cs = some x) (hb : Rows.uptoBulk x.1 ≤ 1048576) : ∃ s : ByteArray, cs = [.string s] ∧ s.size ≤ 1048576 := by
  obtain ⟨s, h1, h2, h3⟩ := DataW.trod_string Try.underlying9 h
  refine ⟨s, h1, ?_⟩
  rw [h2] at hb
  simp only [Rows.uptoBulk] at hb
  have : s.data.toList.length = s.size := by simp
  omega

theorem open_bytes {fuel : Nat} {v : Value} {x : DataW H × List MemPlace} (h : DataW.trod enc Try.prog W base (fun _ => true) true fuel 23 [v] = some x) (hb : Rows.uptoBulk x.1 ≤ 1048576) : ∃ a len cap zs, v = .slice a len cap ∧ IsB W a len cap zs ∧ len ≤ 1048576 := by
  rcases open_ints Try.underlying23 Try.underlying5 (by kernel_rfl) h with ⟨hcs, _⟩ | ⟨y, l, c, zs, hcs, _, hl, hm, hz, hx, hcell, hwz⟩
  · simp at hcs
    exact ⟨none, 0, 0, [], hcs, isB_nil _, by omega⟩
  · simp at hcs
    have hzl : zs.length = c := by simpa using hz
    refine ⟨_, l, c, _, hcs, IsRow.isB (.inr ⟨_, rfl, hl, hm, hzl, hcell, hwz⟩), ?_⟩
    rw [hx] at hb
    simp only [Rows.uptoBulk, bulk_lits, List.length_take, List.length_drop] at hb
    omega

/-- Bytes that came in, as a text's. -/
theorem open_blob {fuel : Nat} {v : Value} {x : DataW H × List MemPlace} (h : DataW.trod enc Try.prog W base (fun _ => true) true fuel 23 [v] = some x) (hb : Rows.uptoBulk x.1 ≤ 1048576) : ∃ a len cap, ∃ s : ByteArray, v = .slice a len cap ∧ IsB W a len cap (sNums s) ∧ s.size ≤ 1048576 := by
  obtain ⟨a, len, cap, zs, e, hI, hl⟩ := open_bytes h hb
  refine ⟨a, len, cap, strOfNums zs, e, by rw [sNums_strOfNums hI.range]; exact hI, ?_⟩
  rw [strOfNums_size, hI.1]; exact hl

theorem two_of {cs : List Value} (h : cs.length = 2) : ∃ c0 c1, cs = [c0, c1] := by
  match cs, h with
  | [c0, c1], _ => exact ⟨c0, c1, rfl⟩
theorem four_of {cs : List Value} (h : cs.length = 4) : ∃ c0 c1 c2 c3, cs = [c0, c1, c2, c3] := by
  match cs, h with
  | [c0, c1, c2, c3], _ => exact ⟨c0, c1, c2, c3, rfl⟩

theorem open_texts {fuel : Nat} {v : Value} {x : DataW H × List MemPlace} (h : DataW.trod enc Try.prog W base (fun _ => true) true fuel 26 [v] = some x) (hb : Rows.uptoBulk x.1 ≤ 1048576) :
    ∃ a len cap ss, v = .slice a len cap ∧ View 1 VS W a len cap ss ∧ ss.length ≤ 1048576 ∧ ∀ s ∈ ss, s.size ≤ 1048576 := by
  refine open_items (by decide) VS _ Try.underlying26 cells9 (fun n cs d p hl hd hbd => ?_) h hb
  obtain ⟨s, h1, h2⟩ := open_text hd hbd
  exact ⟨s, by rw [h1]; rfl, h2⟩

theorem open_pairs {fuel : Nat} {v : Value} {x : DataW H × List MemPlace} (h : DataW.trod enc Try.prog W base (fun _ => true) true fuel 22 [v] = some x) (hb : Rows.uptoBulk x.1 ≤ 1048576) :
    ∃ a len cap ps, v = .slice a len cap ∧ View 2 VP W a len cap ps ∧ ps.length ≤ 1048576 ∧ ∀ y ∈ ps, y.1.size ≤ 1048576 ∧ y.2.size ≤ 1048576 := by
  refine open_items (by decide) VP (fun y => y.1.size ≤ 1048576 ∧ y.2.size ≤ 1048576) Try.underlying22 cells87 (fun n cs d p hl hd hbd => ?_) h hb
  obtain ⟨c0, c1, rfl⟩ := two_of hl
  obtain ⟨y0, y1, k, hx, _, t0, t1⟩ := trod_struct2 Try.underlying87 hd
  simp only [Prod.mk.injEq] at hx
  simp [cells9] at t0 t1
  rw [hx.1] at hbd
  simp only [Rows.uptoBulk, Rows.uptoBulkAll] at hbd
  obtain ⟨s0, e0, z0⟩ := open_text t0 (by omega)
  obtain ⟨s1, e1, z1⟩ := open_text t1 (by omega)
  simp at e0 e1
  subst e0 e1
  exact ⟨(s0, s1), ⟨rfl, rfl⟩, z0, z1⟩

/-- A value that came in. -/
theorem open_val {fuel : Nat} {c0 c1 : Value} {x : DataW H × List MemPlace} (h : DataW.trod enc Try.prog W base (fun _ => true) true fuel 28 [c0, c1] = some x) (hb : Rows.uptoBulk x.1 ≤ 1048576) :
    ∃ (k : Int) (s : ByteArray) (a : Option Addr) (l c : Nat), c0 = .int .i64 k ∧ c1 = .slice a l c ∧ IsB W a l c (sNums s) ∧ s.size ≤ 1048576 := by
  obtain ⟨y0, y1, n, hx, _, t0, t1⟩ := trod_struct2 Try.underlying28 h
  rw [hx] at hb
  simp only [Rows.uptoBulk, Rows.uptoBulkAll] at hb
  simp [cells3, cells23] at t0 t1
  obtain ⟨n0, e0, _, wk⟩ := DataW.trod_int Try.underlying3 t0
  obtain ⟨a, l, c, s, e1, hI, hs⟩ := open_blob t1 (by omega)
  simp at e0
  exact ⟨n0, s, a, l, c, e0, e1, hI, hs⟩

theorem open_values {fuel : Nat} {v : Value} {x : DataW H × List MemPlace} (h : DataW.trod enc Try.prog W base (fun _ => true) true fuel 25 [v] = some x) (hb : Rows.uptoBulk x.1 ≤ 1048576) :
    ∃ a len cap vs, v = .slice a len cap ∧ View 2 VV W a len cap vs ∧ vs.length ≤ 1048576 ∧ ∀ y ∈ vs, y.2.size ≤ 1048576 := by
  refine open_items (by decide) VV (fun y => y.2.size ≤ 1048576) Try.underlying25 cells28 (fun n cs d p hl hd hbd => ?_) h hb
  obtain ⟨c0, c1, rfl⟩ := two_of hl
  obtain ⟨k, s, a, l, c, e0, e1, hI, hs⟩ := open_val hd hbd
  subst e0 e1
  exact ⟨(k, s), ⟨rfl, a, l, c, rfl, hI⟩, hs⟩

theorem open_stms {fuel : Nat} {v : Value} {x : DataW H × List MemPlace} (h : DataW.trod enc Try.prog W base (fun _ => true) true fuel 31 [v] = some x) (hb : Rows.uptoBulk x.1 ≤ 1048576) :
    ∃ a len cap ss, v = .slice a len cap ∧ View 4 VSt W a len cap ss ∧ ss.length ≤ 1048576 ∧ ∀ s ∈ ss, s.text.size ≤ 1048576 ∧ s.id.size ≤ 1048576 ∧ s.vals.length ≤ 1048576 ∧ ∀ y ∈ s.vals, y.2.size ≤ 1048576 := by
  refine open_items (by decide) VSt (fun s => s.text.size ≤ 1048576 ∧ s.id.size ≤ 1048576 ∧ s.vals.length ≤ 1048576 ∧ ∀ y ∈ s.vals, y.2.size ≤ 1048576) Try.underlying31 cells60 (fun n cs d p hl hd hbd => ?_) h hb
  obtain ⟨c0, c1, c2, c3, rfl⟩ := four_of hl
  obtain ⟨xs, m, rfl, hx, _, hlen, hf⟩ := DataW.trod_struct Try.underlying60 hd
  obtain ⟨y0, y1, y2, y3, rfl⟩ : ∃ y0 y1 y2 y3, xs = [y0, y1, y2, y3] := by
    match xs, hlen with
    | [y0, y1, y2, y3], _ => exact ⟨y0, y1, y2, y3, rfl⟩
  have t0 := hf 0 _ rfl
  have t1 := hf 1 _ rfl
  have t2 := hf 2 _ rfl
  have t3 := hf 3 _ rfl
  simp [cells4, cells9, cells23, cells25] at t0 t1 t2 t3
  simp only [Prod.mk.injEq] at hx
  rw [hx.1] at hbd
  simp only [List.map_cons, List.map_nil, Rows.uptoBulk, Rows.uptoBulkAll] at hbd
  obtain ⟨b0, e0, _⟩ := DataW.trod_bool Try.underlying4 t0
  obtain ⟨s1, e1, z1⟩ := open_text t1 (by omega)
  obtain ⟨a2, l2, k2, s2, e2, hI2, z2⟩ := open_blob t2 (by omega)
  obtain ⟨a3, l3, k3, vs, e3, hV3, n3, z3⟩ := open_values t3 (by omega)
  simp at e0 e1
  subst e0 e1 e2 e3
  exact ⟨(b0, s1, s2, vs), ⟨rfl, rfl, ⟨a2, l2, k2, rfl, hI2⟩, a3, l3, k3, rfl, hV3⟩, z1, z2, n3, z3⟩
end

theorem wf_u16 {n : Int} (h : (Lit.int .u16 n).wf = true) : 0 ≤ n ∧ n ≤ 65535 := by simp [Lit.wf, IntKind.min, IntKind.max, IntKind.signed, IntKind.bits] at h; omega
theorem wf_i32 {n : Int} (h : (Lit.int .i32 n).wf = true) : -2147483648 ≤ n ∧ n ≤ 2147483647 := by simp [Lit.wf, IntKind.min, IntKind.max, IntKind.signed, IntKind.bits] at h; omega
theorem wf_i64 {n : Int} (h : (Lit.int .i64 n).wf = true) : -9223372036854775808 ≤ n ∧ n ≤ 9223372036854775807 := by simp [Lit.wf, IntKind.min, IntKind.max, IntKind.signed, IntKind.bits] at h; omega

/-- No text and no value of a request is longer than the bound. -/
structure Sm (x : Rq) : Prop where
  lens : x.opts.length ≤ 1048576 ∧ x.run.vals.length ≤ 1048576 ∧ x.run.names.length ≤ 1048576 ∧ x.evs.length ≤ 1048576 ∧ x.all.length ≤ 1048576
  opts : ∀ y ∈ x.opts, y.1.size ≤ 1048576 ∧ y.2.size ≤ 1048576
  text : x.text.size ≤ 1048576
  id : x.id.size ≤ 1048576
  vals : ∀ y ∈ x.run.vals, y.2.size ≤ 1048576
  names : ∀ y ∈ x.run.names, y.size ≤ 1048576
  state : x.run.state.2.size ≤ 1048576
  evs : ∀ y ∈ x.evs, y.size ≤ 1048576
  tok : x.tok.2.size ≤ 1048576
  all : ∀ s ∈ x.all, s.text.size ≤ 1048576 ∧ s.id.size ≤ 1048576 ∧ s.vals.length ≤ 1048576 ∧ ∀ y ∈ s.vals, y.2.size ≤ 1048576

theorem cells_22 {cs : Array Value} (h : cs.size = 22) : ∃ k0 k1 k2 k3 k4 k5 k6 k7 k8 k9 k10 k11 k12 k13 k14 k15 k16 k17 k18 k19 k20 k21, cs = #[k0, k1, k2, k3, k4, k5, k6, k7, k8, k9, k10, k11, k12, k13, k14, k15, k16, k17, k18, k19, k20, k21] := by
  obtain ⟨l⟩ := cs
  match l, h with
  | [k0, k1, k2, k3, k4, k5, k6, k7, k8, k9, k10, k11, k12, k13, k14, k15, k16, k17, k18, k19, k20, k21], _ => exact ⟨k0, k1, k2, k3, k4, k5, k6, k7, k8, k9, k10, k11, k12, k13, k14, k15, k16, k17, k18, k19, k20, k21, rfl⟩

theorem open_run {H : Type} {enc : TypeId × Value → H} {W : World} {base fuel : Nat} {k4 k5 k6 k7 k8 k9 k10 k11 k12 k13 k14 k15 k16 : Value} {x : DataW H × List MemPlace} (h : DataW.trod enc Try.prog W base (fun _ => true) true fuel 30 [k4, k5, k6, k7, k8, k9, k10, k11, k12, k13, k14, k15, k16] = some x) (hb : Rows.uptoBulk x.1 ≤ 1048576) :
    ∃ (co : Int) (a : Option Addr) (l c : Nat) (vs : List Vl) (na : Option Addr) (nl nc : Nat) (ns : List ByteArray) (sk pg : Bool) (pn : Int) (rs : Bool) (sk1 : Int) (sb : ByteArray) (sa : Option Addr) (sl sc : Nat) (se : Bool) (sr : Int) (ti : Bool) (tm : Int),
      [k4, k5, k6, k7, k8, k9, k10, k11, k12, k13, k14, k15, k16] = [.int .u16 co, .slice a l c, .slice na nl nc, .bool sk, .bool pg, .int .i32 pn, .bool rs, .int .i64 sk1, .slice sa sl sc, .bool se, .int .u16 sr, .bool ti, .int .i64 tm] ∧ RunAt W a l c na nl nc sa sl sc (co, vs, ns, sk, pg, pn, rs, (sk1, sb), se, sr, ti, tm) ∧
      (vs.length ≤ 1048576 ∧ ns.length ≤ 1048576) ∧ (∀ y ∈ vs, y.2.size ≤ 1048576) ∧ (∀ y ∈ ns, y.size ≤ 1048576) ∧ sb.size ≤ 1048576 := by
  obtain ⟨xs, m, rfl, hx, _, hlen, hf⟩ := DataW.trod_struct Try.underlying30 h
  obtain ⟨y0, y1, y2, y3, y4, y5, y6, y7, y8, y9, y10, y11, rfl⟩ : ∃ y0 y1 y2 y3 y4 y5 y6 y7 y8 y9 y10 y11, xs = [y0, y1, y2, y3, y4, y5, y6, y7, y8, y9, y10, y11] := by
    match xs, hlen with
    | [y0, y1, y2, y3, y4, y5, y6, y7, y8, y9, y10, y11], _ => exact ⟨y0, y1, y2, y3, y4, y5, y6, y7, y8, y9, y10, y11, rfl⟩
  have t0 := hf 0 _ rfl
  have t1 := hf 1 _ rfl
  have t2 := hf 2 _ rfl
  have t3 := hf 3 _ rfl
  have t4 := hf 4 _ rfl
  have t5 := hf 5 _ rfl
  have t6 := hf 6 _ rfl
  have t7 := hf 7 _ rfl
  have t8 := hf 8 _ rfl
  have t9 := hf 9 _ rfl
  have t10 := hf 10 _ rfl
  have t11 := hf 11 _ rfl
  simp [cells4, cells2, cells21, cells24, cells25, cells26, cells28] at t0 t1 t2 t3 t4 t5 t6 t7 t8 t9 t10 t11
  rw [hx] at hb
  simp only [List.map_cons, List.map_nil, Rows.uptoBulk, Rows.uptoBulkAll] at hb
  obtain ⟨co, e0, _, w0⟩ := DataW.trod_int Try.underlying24 t0
  obtain ⟨a, l, c, vs, e1, V1, n1, z1⟩ := open_values t1 (by omega)
  obtain ⟨na, nl, nc, ns, e2, V2, n2, z2⟩ := open_texts t2 (by omega)
  obtain ⟨sk, e3, _⟩ := DataW.trod_bool Try.underlying4 t3
  obtain ⟨pg, e4, _⟩ := DataW.trod_bool Try.underlying4 t4
  obtain ⟨pn, e5, _, w5⟩ := DataW.trod_int Try.underlying21 t5
  obtain ⟨rs, e6, _⟩ := DataW.trod_bool Try.underlying4 t6
  obtain ⟨sk1, sb, sa, sl, sc, e7, e8, V7, z7⟩ := open_val t7 (by omega)
  obtain ⟨se, e9, _⟩ := DataW.trod_bool Try.underlying4 t8
  obtain ⟨sr, e10, _, w9⟩ := DataW.trod_int Try.underlying24 t9
  obtain ⟨ti, e11, _⟩ := DataW.trod_bool Try.underlying4 t10
  obtain ⟨tm, e12, _, w11⟩ := DataW.trod_int Try.underlying2 t11
  simp at e0 e3 e4 e5 e6 e9 e10 e11 e12
  subst e0 e1 e2 e3 e4 e5 e6 e7 e8 e9 e10 e11 e12
  exact ⟨co, a, l, c, vs, na, nl, nc, ns, sk, pg, pn, rs, sk1, sb, sa, sl, sc, se, sr, ti, tm, rfl, ⟨V1, V2, V7, wf_u16 w0, wf_u16 w9, wf_i32 w5, wf_i64 w11⟩, ⟨n1, n2⟩, z1, z2, z7⟩

theorem open_req {H : Type} {enc : TypeId × Value → H} {W : World} {base b0 : Nat} {v : Value} {d : DataW H} {ps : List MemPlace}
    (hval : Value.okWide Try.prog W .any b0 33 v) (hd : DataW.Trod enc Try.prog W base (fun _ => true) true 33 v d ps) (hb : Rows.uptoBulk d ≤ 1048576) :
    ∃ (op : Int) (oa : Option Addr) (ol oc : Nat) (os : List (ByteArray × ByteArray)) (tx : ByteArray) (ia : Option Addr) (il ic : Nat) (id : ByteArray) (co : Int) (a : Option Addr) (l c : Nat) (vs : List Vl) (na : Option Addr) (nl nc : Nat) (ns : List ByteArray) (sk pg : Bool) (pn : Int) (rs : Bool) (sk1 : Int) (sb : ByteArray) (sa : Option Addr) (sl sc : Nat) (se : Bool) (sr : Int) (ti : Bool) (tm : Int) (ea : Option Addr) (el ec : Nat) (es : List ByteArray) (tk : Int) (tb : ByteArray) (ta : Option Addr) (tl tc : Nat) (kd : Int) (aa : Option Addr) (al ac : Nat) (ss : List St), v = .agg #[.int .u8 op, .slice oa ol oc, .string tx, .slice ia il ic, .int .u16 co, .slice a l c, .slice na nl nc, .bool sk, .bool pg, .int .i32 pn, .bool rs, .int .i64 sk1, .slice sa sl sc, .bool se, .int .u16 sr, .bool ti, .int .i64 tm, .slice ea el ec, .int .i64 tk, .slice ta tl tc, .int .u8 kd, .slice aa al ac] ∧
      RqAt W oa ol oc ia il ic a l c na nl nc sa sl sc ea el ec ta tl tc aa al ac (op, os, tx, id, (co, vs, ns, sk, pg, pn, rs, (sk1, sb), se, sr, ti, tm), es, (tk, tb), kd, ss) ∧ Sm (op, os, tx, id, (co, vs, ns, sk, pg, pn, rs, (sk1, sb), se, sr, ti, tm), es, (tk, tb), kd, ss) := by
  obtain ⟨cs, rfl, hsz⟩ := okWide_struct Try.underlying33 hval
  rw [cells33] at hsz
  obtain ⟨k0, k1, k2, k3, k4, k5, k6, k7, k8, k9, k10, k11, k12, k13, k14, k15, k16, k17, k18, k19, k20, k21, rfl⟩ := cells_22 hsz
  obtain ⟨fuel, h⟩ := hd
  obtain ⟨xs, n, rfl, hx, hl, hlen, hf⟩ := DataW.trod_struct Try.underlying33 h
  obtain ⟨y0, y1, y2, y3, y4, y5, y6, y7, y8, rfl⟩ : ∃ y0 y1 y2 y3 y4 y5 y6 y7 y8, xs = [y0, y1, y2, y3, y4, y5, y6, y7, y8] := by
    match xs, hlen with
    | [y0, y1, y2, y3, y4, y5, y6, y7, y8], _ => exact ⟨y0, y1, y2, y3, y4, y5, y6, y7, y8, rfl⟩
  have t0 := hf 0 _ rfl
  have t1 := hf 1 _ rfl
  have t2 := hf 2 _ rfl
  have t3 := hf 3 _ rfl
  have t4 := hf 4 _ rfl
  have t5 := hf 5 _ rfl
  have t6 := hf 6 _ rfl
  have t7 := hf 7 _ rfl
  have t8 := hf 8 _ rfl
  simp [cells5, cells9, cells22, cells23, cells26, cells28, cells30, cells31, Value.cells] at t0 t1 t2 t3 t4 t5 t6 t7 t8
  simp only [Prod.mk.injEq] at hx
  rw [hx.1] at hb
  simp only [List.map_cons, List.map_nil, Rows.uptoBulk, Rows.uptoBulkAll] at hb
  obtain ⟨op, e0, _, w0⟩ := DataW.trod_int Try.underlying5 t0
  obtain ⟨oa, ol, oc, os, e1, V1, n1, z1⟩ := open_pairs t1 (by omega)
  obtain ⟨tx, e2, z2⟩ := open_text t2 (by omega)
  obtain ⟨ia, il, ic, id, e3, V3, z3⟩ := open_blob t3 (by omega)
  obtain ⟨co, a, l, c, vs, na, nl, nc, ns, sk, pg, pn, rs, sk1, sb, sa, sl, sc, se, sr, ti, tm, e4, V4, n4, z4, z5, z6⟩ := open_run t4 (by omega)
  obtain ⟨ea, el, ec, es, e5, V5, n7, z7⟩ := open_texts t5 (by omega)
  obtain ⟨tk, tb, ta, tl, tc, e6, e6b, V6, z8⟩ := open_val t6 (by omega)
  obtain ⟨kd, e7, _, w7⟩ := DataW.trod_int Try.underlying5 t7
  obtain ⟨aa, al, ac, ss, e8, V8, n9, z9⟩ := open_stms t8 (by omega)
  simp at e0 e2 e7
  simp only [List.cons.injEq, and_true] at e4
  obtain ⟨q4, q5, q6, q7, q8, q9, q10, q11, q12, q13, q14, q15, q16⟩ := e4
  subst e0 e1 e2 e3 e5 e6 e6b e7 e8 q4 q5 q6 q7 q8 q9 q10 q11 q12 q13 q14 q15 q16
  exact ⟨op, oa, ol, oc, os, tx, ia, il, ic, id, co, a, l, c, vs, na, nl, nc, ns, sk, pg, pn, rs, sk1, sb, sa, sl, sc, se, sr, ti, tm, ea, el, ec, es, tk, tb, ta, tl, tc, kd, aa, al, ac, ss, rfl,
    ⟨wf_u8 w0, V1, V3, V4, V5, V6, wf_u8 w7, V8⟩, ⟨⟨n1, n4.1, n4.2, n7, n9⟩, z1, z2, z3, z4, z5, z6, z7, z8, z9⟩⟩
end Go.Proofs.Ytcecdklgiocbaaa
