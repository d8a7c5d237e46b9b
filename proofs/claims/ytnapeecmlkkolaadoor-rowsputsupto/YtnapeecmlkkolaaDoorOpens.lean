/-
  What the row's list gives: the program's table lies in its block. Arguments opened: types and bytes as they come in.
-/
import Derived.Test.YtnapeecmlkkolaaDoorCards
import Derived.Test.YtnapeecmlkkolaaDoorTie
import Derived.Test.YtnapeecmlkkolaaDoorAc
import Derived.ProofKit
import Derived.OpenShut
import Derived.ShutString
import Derived.ChangeOld
import Derived.Deep.DeepHandedRow
import Derived.Lib.LaidTab
import Derived.Test.YtnapeecmlkkolaaDoorFew
import Derived.Deep.Strs
import Derived.ChangeSame
namespace Go.Proofs.YtnapeecmlkkolaaDoor
open Go.ChangeShapes Go.WideShapes Go.ChangeAt Go.RowKit
set_option linter.unusedVariables false

theorem own : ownKnob Tryd.prog.godebug = none := by kernel_rfl
theorem gTab : Tryd.prog.globalNamed "signalbox/option.plainNames" = some 0 := by kernel_rfl
theorem gTabType : (Tryd.prog.globals[0]?).map (·.type) = some 160 := by kernel_rfl
theorem cells160 : Tryd.prog.cellsOf 160 = 21 := by kernel_rfl
theorem cells9 : Tryd.prog.cellsOf 9 = 1 := by kernel_rfl

/-- An array of texts that reads as the table holds the table's texts, cell for cell. -/
theorem cells_of_texts {H : Type} {enc : TypeId × Value → H} {P : Program} {w : World} {base : Nat} {sp : Nat → Bool} {held : Bool} {fuel : Nat} {t e : TypeId} {n : Nat} {cs : List Value} {zs : List (List UInt8)} {p : List MemPlace}
    (ht : P.underlying t = some (.array n e)) (he : P.underlying e = some .string) (hce : P.cellsOf e = 1) (hct : P.cellsOf t = n)
    (h : DataW.trod enc P w base sp held fuel t cs = some (.agg (zs.map fun z => .lit (.string z)), p)) : cs = zs.map fun z => Value.string ⟨z.toArray⟩ := by
  cases fuel with
  | zero => simp [DataW.trod] at h
  | succ fuel =>
    simp only [DataW.trod, ht, hce, hct, Nat.mul_one] at h
    split at h
    · rename_i hl
      obtain ⟨xs, hm, hx⟩ := Option.map_eq_some_iff.1 h
      have hxs : xs.map (·.1) = zs.map fun z => (DataW.lit (.string z) : DataW H) := by
        have := congrArg Prod.fst hx
        simpa using this
      have hxl : xs.length = n := by simpa using Lib.mapM_length hm
      have hzl : zs.length = n := by
        have := congrArg List.length hxs
        simp at this
        omega
      apply List.ext_getElem?
      intro i
      by_cases hi : i < n
      · obtain ⟨b, hb, hf⟩ := Lib.mapM_at hm i i (by simp [hi])
        obtain ⟨z, hc, rfl, _⟩ := DataW.trod_string he hf
        have h1 : cs[i]? = some (.string z) := by
          have := congrArg (·[0]?) hc
          simpa [List.getElem?_take, List.getElem?_drop] using this
        have h2 : (xs.map (·.1))[i]? = some (DataW.lit (.string z.data.toList) : DataW H) := by simp [hb]
        rw [hxs] at h2
        simp only [List.getElem?_map, Option.map_eq_some_iff, DataW.lit.injEq, Lit.string.injEq] at h2
        obtain ⟨z', hz', hz2⟩ := h2
        subst hz2
        simp [h1, hz']
      · rw [List.getElem?_eq_none (by omega), List.getElem?_eq_none (by simp; omega)]
    · cases h

theorem datum_texts : (Rows.laid_signalbox_option_plainNames : DataW Unit) = .agg ((plainTab.map (·.data.toList)).map fun z => .lit (.string z)) := by kernel_rfl

theorem tab_of_laid {W : World} (h : laidMetH Tryd.prog [("signalbox/option.plainNames", Rows.laid_signalbox_option_plainNames)] W) : Tab W := by
  have h' : laidMet Tryd.prog [("signalbox/option.plainNames", Rows.laid_signalbox_option_plainNames)] W := h
  obtain ⟨ps, ⟨g', t', cs, fuel, p, q, hg', ht', hvar, hd, _, _⟩, _⟩ := h'
  obtain rfl := Option.some.inj (gTab.symm.trans hg')
  obtain rfl := Option.some.inj (gTabType.symm.trans ht')
  rw [datum_texts] at hd
  have hcs := cells_of_texts Tryd.underlying160 Tryd.underlying9 cells9 cells160 hd
  have hcell : ∀ i, i < 21 → W.cell? ⟨0, i, none⟩ = some (.string (plainAt i)) := by
    intro i hi
    have h1 := World.var?_cell gTab hvar i
    rw [h1, ← Array.getElem?_toList, hcs]
    have hj : i < plainTab.length := hi
    simp only [List.getElem?_map, Option.map_map]
    rw [List.getElem?_eq_getElem hj, plainAt, List.getD_eq_getElem?_getD, List.getElem?_eq_getElem hj]
    rfl
  exact ⟨hcell, block_lt_of_cell (hcell 0 (by omega))⟩

/-- The table as its initialiser lays it. -/
def layTab : Obj → Obj
  | .cells _ t frozen => .cells (plainTab.map Value.string).toArray t frozen
  | o => o

/-- No parameter wants a stand-in; the program's own looks are off: what the cards ask. -/
theorem looks_off : false = Tryd.pinned.checked.prog.looks [] := by kernel_rfl
end Go.Proofs.YtnapeecmlkkolaaDoor
namespace Go.Proofs.YtnapeecmlkkolaaDoor
open Go.RowKit Go.ChangeShapes Go.WideShapes Go.Deep
set_option maxRecDepth 100000
set_option linter.unusedVariables false
set_option linter.unusedSimpArgs false

/-- How long a text may be at most. -/
def tlen : Nat → Ty → Nat
  | 0, _ => 0
  | n + 1, t => 20 + t.space.size + t.name.size + (t.kids.map (fun k => 2 + tlen n k)).sum

theorem cells51 : Tryd.prog.cellsOf 51 = 1 := by kernel_rfl
theorem cells59 : Tryd.prog.cellsOf 59 = 1 := by kernel_rfl
theorem cells60 : Tryd.prog.cellsOf 60 = 1 := by kernel_rfl
theorem cells62 : Tryd.prog.cellsOf 62 = 5 := by kernel_rfl

theorem VT.up : ∀ (n : Nat) {F : Nat → Prop} {w : World} {t : Ty} {c : Nat → Value}, VT n F w t c → VT (n + 1) F w t c
  | 0, F, w, t, c, h => h.elim
  | n + 1, F, w, t, c, h => by
    obtain ⟨na, nl, nc, ka, kl, kc, h0, h1, h2, h3, h4, hid, hs1, hs2, hn, hk⟩ := h
    exact ⟨na, nl, nc, ka, kl, kc, h0, h1, h2, h3, h4, hid, hs1, hs2, hn, hk.mono (fun k _ hF => ⟨hF, rfl⟩) (Nat.le_refl _) (fun x c _ hv => VT.up n hv)⟩

theorem VT.ups {n m : Nat} (hnm : n ≤ m) {F : Nat → Prop} {w : World} {t : Ty} {c : Nat → Value} (h : VT n F w t c) : VT m F w t c := by
  obtain ⟨k, rfl⟩ := Nat.le.dest hnm
  induction k with
  | zero => exact h
  | succ k ih => exact VT.up _ (ih (by omega))

theorem list_of {α : Type} {len : Nat} {P : Nat → α → Prop} (h : ∀ i, i < len → ∃ x : α, P i x) : ∃ xs : List α, xs.length = len ∧ ∀ i x, xs[i]? = some x → P i x := by
  induction len with
  | zero => exact ⟨[], rfl, fun i x hx => by simp at hx⟩
  | succ len ih =>
    obtain ⟨xs, hl, hx⟩ := ih (fun i hi => h i (by omega))
    obtain ⟨y, hy⟩ := h len (by omega)
    refine ⟨xs ++ [y], by simp [hl], fun i x hi => ?_⟩
    by_cases hlt : i < xs.length
    · rw [List.getElem?_append_left hlt] at hi
      exact hx i x hi
    · have h2 := (List.getElem?_eq_some_iff.1 hi).1
      simp at h2
      obtain rfl : i = xs.length := by omega
      obtain rfl : y = x := by simpa using hi
      rw [hl]; exact hy

theorem sum_bulk {H : Type} {g : Ty → Nat} : ∀ (xs : List Ty) (ds : List (DataW H)), xs.length = ds.length → (∀ (i : Nat) x d, xs[i]? = some x → ds[i]? = some d → g x ≤ 22 * Rows.uptoBulk d) → (xs.map g).sum ≤ 22 * Rows.uptoBulkAll ds
  | [], [], _, _ => by simp [Rows.uptoBulkAll]
  | x :: xs, d :: ds, hl, h => by
    have h1 := h 0 x d rfl rfl
    have h2 := sum_bulk xs ds (by simpa using hl) (fun i y e hy he => h (i + 1) y e (by simpa using hy) (by simpa using he))
    rw [List.map_cons, List.sum_cons, Rows.uptoBulkAll]
    omega
  | [], _ :: _, hl, _ => by simp at hl
  | _ :: _, [], hl, _ => by simp at hl

section
variable {H : Type} {enc : TypeId × Value → H} {W : World} {base : Nat}

/-- From each item's cells to what all of them are seen as. -/
theorem sees_of {α : Type} {size : Nat} (hsz : 0 < size) {V : α → (Nat → Value) → Prop} {a : Addr} {len cap : Nat} (hl : len ≤ cap) (hm : cap ≤ maxLen) {xs : List α} (hx : xs.length = len)
    (h : ∀ i x, xs[i]? = some x → ∃ c : Nat → Value, (∀ j, j < size → W.cell? (a.add (i * size + j)) = some (c j)) ∧ V x c) : Sees size (fun _ => True) V W (some a) len cap xs := by
  refine ⟨hx, hl, hm, (fun e => by cases e), fun hp => ?_⟩
  obtain ⟨b, off, spot⟩ := a
  obtain ⟨c0, hc0, _⟩ := h 0 _ (List.getElem?_eq_getElem (by omega))
  have hc := hc0 0 hsz
  have hspot : spot = none := by simpa [Addr.add] using World.cell?_spot hc
  subst hspot
  refine ⟨b, off, rfl, by have := block_lt_of_cell hc; simpa [Addr.add] using this, trivial, fun i x hx => ?_⟩
  obtain ⟨c, hcell, hv⟩ := h i x hx
  refine ⟨c, fun j hj => ?_, hv⟩
  have := hcell j hj
  have hplain : (⟨b, off, none⟩ : Addr).add (i * size + j) = ⟨b, off + (i * size + j), none⟩ := by unfold Addr.add; split <;> simp_all
  rwa [hplain] at this

theorem cells_at {a : Addr} {i size n : Nat} {cs : List Value} (h : W.cells? base (a.add (i * size)) n = some cs) (hn : n = size) : cs.length = size ∧ ∀ j, j < size → W.cell? (a.add (i * size + j)) = some (cs.getD j default) := by
  subst hn
  obtain ⟨_, hlen, hc⟩ := World.cells?_some h
  refine ⟨hlen, fun j hj => ?_⟩
  have := hc j hj
  rw [add_add] at this
  rw [this, List.getD_eq_getElem?_getD, List.getElem?_eq_getElem (by omega)]
  rfl

/-- Names that came in. -/
theorem open_names {fuel : Nat} {v : Value} {x : DataW H × List MemPlace} (h : DataW.trod enc Tryd.prog W base (fun _ => true) true fuel 59 [v] = some x) :
    ∃ a len cap ss, v = .slice a len cap ∧ Sees 1 (fun _ => True) VS W a len cap ss := by
  rcases open_strs Tryd.underlying59 Tryd.underlying9 cells9 h with ⟨hcs, _⟩ | ⟨a, len, cap, m, Sx, hcs, _, hl, hm, hmm, _, hc⟩
  · simp at hcs
    exact ⟨none, 0, 0, [], hcs, sees_nil _ _ _ _⟩
  · simp at hcs
    simp at hmm
    subst hmm
    refine ⟨some a, len, _, (List.range len).map Sx, hcs, sees_of (by decide) hl hm (by simp) (fun i s hs => ?_)⟩
    have hi := (List.getElem?_eq_some_iff.1 hs).1
    simp at hi
    simp [hi] at hs
    subst hs
    refine ⟨fun _ => .string (Sx i), fun j hj => ?_, rfl, (hc i (by omega)).2⟩
    obtain rfl : j = 0 := by omega
    simpa using (hc i (by omega)).1

/-- A type that came in. -/
theorem open_ty : ∀ (fuel : Nat) (cs : List Value) (x : DataW H × List MemPlace), DataW.trod enc Tryd.prog W base (fun _ => true) true fuel 62 cs = some x →
    ∃ t, VT fuel (fun _ => True) W t (fun j => cs.getD j default) ∧ cs.length = 5 ∧ ∀ n, tlen n t + 2 ≤ 22 * Rows.uptoBulk x.1 := by
  intro fuel
  induction fuel using Nat.strongRecOn with
  | ind fuel ih =>
    intro cs x h
    obtain ⟨xs, n, rfl, rfl, hl, hlen, hf⟩ := DataW.trod_struct Tryd.underlying62 h
    rw [cells62] at hl
    obtain ⟨c0, c1, c2, c3, c4, rfl⟩ : ∃ c0 c1 c2 c3 c4, cs = [c0, c1, c2, c3, c4] := by
      match cs, hl with
      | [c0, c1, c2, c3, c4], _ => exact ⟨c0, c1, c2, c3, c4, rfl⟩
    obtain ⟨y0, y1, y2, y3, y4, rfl⟩ : ∃ y0 y1 y2 y3 y4, xs = [y0, y1, y2, y3, y4] := by
      match xs, hlen with
      | [y0, y1, y2, y3, y4], _ => exact ⟨y0, y1, y2, y3, y4, rfl⟩
    have t0 := hf 0 _ rfl
    have t1 := hf 1 _ rfl
    have t2 := hf 2 _ rfl
    have t3 := hf 3 _ rfl
    have t4 := hf 4 _ rfl
    simp [cells9, cells51, cells59, cells60] at t0 t1 t2 t3 t4
    obtain ⟨z, e0, _, wz⟩ := DataW.trod_int Tryd.underlying51 t0
    obtain ⟨s1, e1, g1, m1⟩ := DataW.trod_string Tryd.underlying9 t1
    obtain ⟨s2, e2, g2, m2⟩ := DataW.trod_string Tryd.underlying9 t2
    obtain ⟨na, nl, nc, ss, e3, hss⟩ := open_names t3
    simp at e0 e1 e2
    subst e0 e1 e2 e3
    have hz : 0 ≤ z ∧ z < 65536 := by
      have := bounds_u16 wz
      omega
    rcases DataW.trod_slice Tryd.underlying60 t4 with ⟨e4, hy4⟩ | ⟨a, len, cap, elems, rest, n', rfl, e4, hy4, hb, hlc, hm, hle, hel, hsp, hns⟩
    · simp at e4
      subst e4
      refine ⟨⟨z, s1, s2, ss, []⟩, ⟨na, nl, nc, none, 0, 0, rfl, rfl, rfl, rfl, rfl, hz, m1, m2, hss, sees_nil _ _ _ _⟩, rfl, fun k => ?_⟩
      rw [g1, g2]
      cases k with
      | zero => simp [tlen, Rows.uptoBulk, Rows.uptoBulkAll]; omega
      | succ k =>
        have a1 : s1.data.toList.length = s1.size := Array.length_toList
        have a2 : s2.data.toList.length = s2.size := Array.length_toList
        simp only [tlen, List.map_cons, List.map_nil, Rows.uptoBulk, Rows.uptoBulkAll, List.sum_nil, a1, a2]
        omega
    · simp at e4
      subst e4
      have hkid : ∀ i, i < len → ∃ t : Ty, (∃ c : Nat → Value, (∀ j, j < 5 → W.cell? (a.add (i * 5 + j)) = some (c j)) ∧ VT n' (fun _ => True) W t c) ∧ ∀ d, (elems.map (·.1))[i]? = some d → ∀ k, tlen k t + 2 ≤ 22 * Rows.uptoBulk d := by
        intro i hi
        have h1 := hel i hi
        have hei : elems[i]? = some elems[i] := List.getElem?_eq_getElem (by omega)
        rw [hei, cells62] at h1
        obtain ⟨cs', h2, h3⟩ := Option.bind_eq_some_iff.1 h1
        obtain ⟨t, hv, hc5, htl⟩ := ih n' (by omega) cs' _ h3
        obtain ⟨_, hcell⟩ := cells_at h2 rfl
        refine ⟨t, ⟨_, hcell, hv⟩, fun d hd k => ?_⟩
        rw [List.getElem?_map, hei] at hd
        simp at hd
        subst hd
        exact htl k
      obtain ⟨ks, hkl, hks⟩ := list_of hkid
      refine ⟨⟨z, s1, s2, ss, ks⟩, ⟨na, nl, nc, some a, len, cap, rfl, rfl, rfl, rfl, rfl, hz, m1, m2, hss, sees_of (by decide) hlc hm hkl (fun i t ht => ?_)⟩, rfl, fun k => ?_⟩
      · obtain ⟨⟨c, h1, h2⟩, _⟩ := hks i t ht
        exact ⟨c, h1, VT.up _ h2⟩
      · rw [g1, g2, hy4]
        have a1 : s1.data.toList.length = s1.size := Array.length_toList
        have a2 : s2.data.toList.length = s2.size := Array.length_toList
        cases k with
        | zero => simp [tlen, Rows.uptoBulk, Rows.uptoBulkAll]; omega
        | succ k =>
          have hsum := sum_bulk (g := fun t => 2 + tlen k t) ks (elems.map (·.1)) (by rw [hkl, List.length_map, hle]) (fun i t d ht hd => by
            have := (hks i t ht).2 d hd k
            omega)
          simp only [tlen, List.map_cons, List.map_nil, Rows.uptoBulk, Rows.uptoBulkAll, a1, a2]
          omega

/-- Bytes that came in. -/
theorem open_bytes {fuel : Nat} {v : Value} {x : DataW H × List MemPlace} (h : DataW.trod enc Tryd.prog W base (fun _ => true) true fuel 22 [v] = some x) : ∃ a len cap zs, v = .slice a len cap ∧ IsB W a len cap zs := by
  rcases open_ints Tryd.underlying22 Tryd.underlying5 (by kernel_rfl) h with ⟨hcs, _⟩ | ⟨y, l, c, zs, hcs, _, hl, hm, hz, _, hcell, hwz⟩
  · simp at hcs
    exact ⟨none, 0, 0, [], hcs, isB_nil _⟩
  · simp at hcs
    exact ⟨_, l, c, _, hcs, IsRow.isB (.inr ⟨_, rfl, hl, hm, by simpa using hz, hcell, hwz⟩)⟩
end
end Go.Proofs.YtnapeecmlkkolaaDoor
