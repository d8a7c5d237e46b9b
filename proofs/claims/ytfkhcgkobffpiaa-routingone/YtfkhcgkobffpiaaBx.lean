/-
  Rows of bytes, of texts, of values in memory; bytes.Clone; append of a text.
-/
import Derived.Test.YtfkhcgkobffpiaaKeep
import Derived.Test.YtfkhcgkobffpiaaMt
import Derived.Deep.RegionHeld3
namespace Go.Proofs.Ytfkhcgkobffpiaa
open Go.RowKit
set_option linter.unusedVariables false
set_option linter.unusedSimpArgs false

theorem kept_below {n : Nat} {w w' : World} (h : Below n w w') : Kept (fun k => n ≤ k) w w' := ⟨h.os, h.tape, h.output, h.size, fun k hk hn => h.block k (by omega)⟩

theorem OwnB.old {w W : World} {base : Nat} {v : Value} {n : Nat} {X : List Int} (h : OwnB w base v n X) (hB : Below w.heap.size w W) : OwnB W base v n X :=
  ownsRow_kept h (kept_of (S := fun _ => False) hB) (fun _ _ e => e)

theorem OwnB.isB0 {w : World} {base : Nat} {v : Value} {n : Nat} {X : List Int} (h : OwnB w base v n X) (hr : Bs X) :
    ∃ x cap, v = .slice x n cap ∧ IsB w x n cap X ∧ ∀ p, x = some p → base ≤ p.block ∧ p.block < w.heap.size := by
  have hl := h.len
  obtain ⟨h1, h2⟩ := id h
  rcases h2 with ⟨rfl, rfl⟩ | ⟨g, cap, cur, rfl, hg, hh, hnc, hm, hs, htake⟩
  · obtain rfl : X = [] := List.eq_nil_of_length_eq_zero hl
    exact ⟨none, 0, rfl, isB_nil w, fun p e => by cases e⟩
  · have hgs := (Array.getElem?_eq_some_iff.1 hh).1
    refine ⟨_, cap, rfl, ⟨hl, hnc, hm, (fun e => by cases e), fun hp => ?_⟩, fun p e => by cases e; exact ⟨hg, hgs⟩⟩
    obtain ⟨g', cap', he, _, _, hR⟩ := h.row hp hr
    simp only [Value.slice.injEq, Option.some.injEq, Addr.mk.injEq, and_true, true_and] at he
    obtain ⟨rfl, rfl⟩ := he
    exact ⟨g, 0, rfl, hR⟩

theorem Own.shape {α : Type} [Inhabited α] {e : TypeId} {size : Nat} {V : World → α → (Nat → Value) → Prop} {w : World} {F : Nat → Prop} {v : Value} {xs : List α} (h : Own e size V w F v xs) : ∃ a n cap, v = .slice a n cap := by
  obtain ⟨a, cap, hv, _⟩ := h.view
  exact ⟨a, _, cap, hv⟩

/-- What is seen: bytes; a text; a value; a number of sixteen bits. -/
def VB (w : World) (X : List Int) (c : Nat → Value) : Prop := ∃ a l cp, c 0 = .slice a l cp ∧ IsB w a l cp X
def VS (_ : World) (s : ByteArray) (c : Nat → Value) : Prop := c 0 = .string s
def VV (w : World) (x : Int × List Int) (c : Nat → Value) : Prop := c 0 = .int .i64 x.1 ∧ ∃ a l cp, c 1 = .slice a l cp ∧ IsB w a l cp x.2
def VU (_ : World) (n : Int) (c : Nat → Value) : Prop := c 0 = .int .u16 n

theorem stays_b : Stays 1 VB := by
  intro w w' S x c c' h hc hK hn
  obtain ⟨a, l, cp, h0, hI⟩ := h
  exact ⟨a, l, cp, (hc 0 (by omega)).trans h0, hI.kept hK (fun p e _ => hn 0 _ (by omega) (by rw [h0, e]; rfl))⟩
theorem stays_s : Stays 1 VS := fun _ _ _ _ _ _ h hc _ _ => (hc 0 (by omega)).trans h
theorem stays_u : Stays 1 VU := fun _ _ _ _ _ _ h hc _ _ => (hc 0 (by omega)).trans h
theorem stays_v : Stays 2 VV := by
  intro w w' S x c c' h hc hK hn
  obtain ⟨hk, a, l, cp, h0, hI⟩ := h
  exact ⟨(hc 0 (by omega)).trans hk, a, l, cp, (hc 1 (by omega)).trans h0, hI.kept hK (fun p e _ => hn 1 _ (by omega) (by rw [h0, e]; rfl))⟩

/-- One of the rows. -/
theorem View.at {w : World} {a : Option Addr} {len cap : Nat} {xs : List (List Int)} (h : View 1 VB w a len cap xs) {i : Nat} (hi : i < len) :
    ∃ b off a' l cp, a = some ⟨b, off, none⟩ ∧ b < w.heap.size ∧ w.cell? ⟨b, off + i, none⟩ = some (.slice a' l cp) ∧ IsB w a' l cp (xs.getD i default) ∧ l = (xs.getD i default).length ∧ l ≤ cp ∧ cp ≤ maxLen := by
  obtain ⟨h1, h2, h3, h4, h5⟩ := h
  obtain ⟨b, off, rfl, hb, hc⟩ := h5 (by omega)
  obtain ⟨c, hcell, a', l, cp, h0, hI⟩ := hc i hi
  refine ⟨b, off, a', l, cp, rfl, hb, ?_, hI, hI.1.symm, hI.2.1, hI.2.2.1⟩
  have := hcell 0 (by omega)
  rw [h0] at this
  simpa using this

theorem View.str {w : World} {a : Option Addr} {len cap : Nat} {ss : List ByteArray} (h : View 1 VS w a len cap ss) {k : Nat} (hk : k < len) : ∃ b off, a = some ⟨b, off, none⟩ ∧ b < w.heap.size ∧ w.cell? ⟨b, off + k, none⟩ = some (.string (ss.getD k default)) := by
  obtain ⟨h1, h2, h3, h4, h5⟩ := h
  obtain ⟨b, off, ha, hb, hc⟩ := h5 (by omega)
  obtain ⟨c, hcell, hv⟩ := hc k hk
  have := hcell 0 (by omega)
  rw [hv] at this
  exact ⟨b, off, ha, hb, by simpa using this⟩

theorem View.u16 {w : World} {a : Option Addr} {len cap : Nat} {ns : List Int} (h : View 1 VU w a len cap ns) {k : Nat} (hk : k < len) : ∃ b off, a = some ⟨b, off, none⟩ ∧ b < w.heap.size ∧ w.cell? ⟨b, off + k, none⟩ = some (.int .u16 (ns.getD k default)) := by
  obtain ⟨h1, h2, h3, h4, h5⟩ := h
  obtain ⟨b, off, ha, hb, hc⟩ := h5 (by omega)
  obtain ⟨c, hcell, hv⟩ := hc k hk
  have := hcell 0 (by omega)
  rw [hv] at this
  exact ⟨b, off, ha, hb, by simpa using this⟩

theorem View.val {w : World} {a : Option Addr} {len cap : Nat} {xs : List (Int × List Int)} (h : View 2 VV w a len cap xs) {i : Nat} (hi : i < len) :
    ∃ b off a' l cp, a = some ⟨b, off, none⟩ ∧ b < w.heap.size ∧ w.cell? ⟨b, off + i * 2, none⟩ = some (.int .i64 (xs.getD i default).1) ∧ w.cell? ⟨b, off + i * 2 + 1, none⟩ = some (.slice a' l cp) ∧ IsB w a' l cp (xs.getD i default).2 ∧ l = (xs.getD i default).2.length ∧ l ≤ cp ∧ cp ≤ maxLen := by
  obtain ⟨h1, h2, h3, h4, h5⟩ := h
  obtain ⟨b, off, rfl, hb, hc⟩ := h5 (by omega)
  obtain ⟨c, hcell, hk, a', l, cp, h0, hI⟩ := hc i hi
  have e0 := hcell 0 (by omega)
  have e1 := hcell 1 (by omega)
  rw [hk] at e0
  rw [h0] at e1
  exact ⟨b, off, a', l, cp, rfl, hb, by simpa using e0, by rw [Nat.add_assoc]; exact e1, hI, hI.1.symm, hI.2.1, hI.2.2.1⟩

theorem Try.info9 : (Try.prog.info? 9).map (fun i => (i.zero, i.size, i.bytes)) = some (some (.string ⟨#[]⟩), 1, 16) := by kernel_rfl
theorem Try.info24 : (Try.prog.info? 24).map (fun i => (i.zero, i.size, i.bytes)) = some (some (.slice none 0 0), 1, 24) := by kernel_rfl
theorem Try.info45 : (Try.prog.info? 45).map (fun i => (i.zero, i.size, i.bytes)) = some (some (.int .u16 0), 1, 2) := by kernel_rfl
theorem Try.info47 : (Try.prog.info? 47).map (fun i => (i.zero, i.size, i.bytes)) = some (some (.agg #[.int .i64 0, .slice none 0 0]), 2, 32) := by kernel_rfl

theorem elem_s : Elem 29 9 1 16 := by
  obtain ⟨i0, hi, hz0, hz1, hz2⟩ := info_parts Try.info9
  exact ⟨by decide, Try.underlying29, i0, _, hi, hz0, hz1, hz2, rfl⟩
theorem elem_b : Elem 22 24 1 24 := by
  obtain ⟨i0, hi, hz0, hz1, hz2⟩ := info_parts Try.info24
  exact ⟨by decide, Try.underlying22, i0, _, hi, hz0, hz1, hz2, rfl⟩
theorem elem_u : Elem 42 45 1 2 := by
  obtain ⟨i0, hi, hz0, hz1, hz2⟩ := info_parts Try.info45
  exact ⟨by decide, Try.underlying42, i0, _, hi, hz0, hz1, hz2, rfl⟩
theorem elem_v : Elem 43 47 2 32 := by
  obtain ⟨i0, hi, hz0, hz1, hz2⟩ := info_parts Try.info47
  exact ⟨by decide, Try.underlying43, i0, _, hi, hz0, hz1, hz2, rfl⟩

set_option maxHeartbeats 400000 in
theorem clone_any {w : World} {x : Option Addr} {len cap : Nat} {zs : List Int} (h : IsB w x len cap zs) (hl : len ≤ 140737488355328) :
    Calls Try.prog 19 #[.slice x len cap] w fun e w' => ∃ v, e = .returned v ∧ OwnB w' w.heap.size v len zs ∧ Below w.heap.size w w' := by
  have q : ∀ (w : World) (a : Option Addr) (n c n' c' : Nat), (binOp .eql 24 (.slice a n c) (.slice none n' c')).run Try.prog w = .ok (.bool a.isNone) w := fun w a n c n' c' => Lib.run_eql_slice_nil w _ _ a n c n' c' Try.underlying24
  cases x with
  | none =>
    obtain ⟨h1, h2, h3, h4, h5⟩ := h
    obtain ⟨rfl, rfl⟩ := h4 rfl
    obtain rfl : zs = [] := List.eq_nil_of_length_eq_zero h1
    clear h1 h2 h3 h4 h5
    go_enter Try.func19, Try.ntmps19
    go_wp2_with fail
    go_ret
    exact ⟨_, rfl, World.ownsRow_nil _ _ _ _, Below.refl _ _⟩
  | some x =>
    have H : Hid (IsB (w.alloc (.cells #[] 5)) (some x) len cap zs) := h.old (below_one _ _)
    have HO : Hid (OwnB (w.alloc (.cells #[] 5)) w.heap.size (.slice (some ⟨w.heap.size, 0, none⟩) 0 0) 0 []) := ⟨rfl, .inr ⟨w.heap.size, 0, #[], rfl, Nat.le_refl _, heap_alloc_new w _, Nat.le_refl _, by unfold maxLen; omega, rfl, rfl⟩⟩
    clear h
    go_enter Try.func19, Try.ntmps19
    go_wp2_with (at_builtin; refine wpList_append_bytes rfl (.tmp 5) (.tmp 6) rfl rfl HO.out rfl H.out (by omega) (by simp) ?_)
    rintro u w1 ho hB
    have HO1 : Hid (OwnB w1 w.heap.size u len zs) := ho
    clear ho
    go_wp2_with fail
    go_ret
    exact ⟨_, rfl, HO1.out, (below_one _ _).trans hB⟩
end Go.Proofs.Ytfkhcgkobffpiaa
