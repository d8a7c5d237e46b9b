/-
  The contract of splitter.takeOff.
-/
import Derived.Test.YtabadlgjocgkjaaHead
import Derived.BigRegion
namespace Go.Proofs.Ytabadlgjocgkjaa
open Go.RowKit
set_option linter.unusedVariables false
set_option linter.unusedSimpArgs false

/-- A box of five and one of six that stay, whatever is made later. -/
theorem box56 {w W : World} {a b c d e : Value} {t : TypeId} {a' b' c' d' e' f' : Value} {t' : TypeId} (hB : Below (w.heap.size + 2) ((w.alloc (.cells #[a, b, c, d, e] t)).alloc (.cells #[a', b', c', d', e', f'] t')) W) :
    (W.cell? ⟨w.heap.size, 0, none⟩ = some a ∧ W.cell? ⟨w.heap.size, 1, none⟩ = some b ∧ W.cell? ⟨w.heap.size, 2, none⟩ = some c ∧ W.cell? ⟨w.heap.size, 3, none⟩ = some d ∧ W.cell? ⟨w.heap.size, 4, none⟩ = some e ∧ w.heap.size < W.heap.size ∧ w.heap.size + 1 < W.heap.size) ∧
    (W.cell? ⟨w.heap.size + 1, 0, none⟩ = some a' ∧ W.cell? ⟨w.heap.size + 1, 1, none⟩ = some b' ∧ W.cell? ⟨w.heap.size + 1, 2, none⟩ = some c' ∧ W.cell? ⟨w.heap.size + 1, 3, none⟩ = some d' ∧ W.cell? ⟨w.heap.size + 1, 4, none⟩ = some e' ∧ W.cell? ⟨w.heap.size + 1, 5, none⟩ = some f') ∧
    (W.frozen? ⟨w.heap.size + 1, 0, none⟩ = false ∧ W.frozen? ⟨w.heap.size + 1, 1, none⟩ = false ∧ W.frozen? ⟨w.heap.size + 1, 2, none⟩ = false ∧ W.frozen? ⟨w.heap.size + 1, 3, none⟩ = false ∧ W.frozen? ⟨w.heap.size + 1, 4, none⟩ = false ∧ W.frozen? ⟨w.heap.size + 1, 5, none⟩ = false) := by
  have hs := hB.size
  simp at hs
  refine ⟨⟨?_, ?_, ?_, ?_, ?_, by omega, by omega⟩, ⟨?_, ?_, ?_, ?_, ?_, ?_⟩, ⟨?_, ?_, ?_, ?_, ?_, ?_⟩⟩
  all_goals first | (rw [hB.cell (by simp)]; simp [go_sem]) | (rw [hB.frozen (by simp)]; simp [go_sem])

/-- The bytes behind the first nine, L of them. -/
theorem BRow.body {w : World} {g off off' n cap : Nat} {K : List Int} (h : BRow w g off n cap K) {L : Nat} (hL : 9 + L ≤ n) (ho : 9 < cap → off' = off + 9) : IsB w (some ⟨g, off', none⟩) L (cap - 9) ((K.drop 9).take L) := by
  have hl := h.len_eq
  have hc := h.le
  have hm := h.cap_le
  refine ⟨by simp; omega, by omega, by omega, (fun e => by cases e), fun hp => ⟨g, off', rfl, by simp; omega, by omega, by omega, fun _ => h.lt (by omega), fun i hi => ?_, range_take (range_drop h.rng 9) L⟩⟩
  rw [ho (by omega), Nat.add_assoc, h.cell (9 + i) (by omega), List.getD_eq_getElem?_getD, List.getD_eq_getElem?_getD, List.getElem?_take_of_lt hi, List.getElem?_drop]

/-- What is left, without room behind it. -/
theorem BRow.tail {w : World} {g off off' n cap : Nat} {K : List Int} (h : BRow w g off n cap K) {L : Nat} (hL : 9 + L ≤ n) (ho : 9 + L < n → off' = off + (9 + L)) : BRow w g off' (n - (9 + L)) (n - (9 + L)) (K.drop (9 + L)) := by
  have hd := h.drop (off' := off') (9 + L) hL ho
  exact ⟨hd.len_eq, Nat.le_refl _, by have := h.cap_le; have := h.le; omega, hd.lt, hd.cell, hd.rng⟩

/-- How things stand behind takeOff. -/
theorem take_end {w w2 : World} {s : Nat} {ver : Int} {g off off' n cap : Nat} {K : List Int} {flt : Int} (h : Spl w s ver (.slice (some ⟨g, off, none⟩) n cap) K flt) (hR : BRow w g off n cap K) {L : Nat} (hL : 9 + L ≤ n) (ho : 9 + L < n → off' = off + (9 + L)) {m : Nat} (hmn : m = n - (9 + L))
    (hB : Below w.heap.size w w2) {x : Option Addr} {cp : Nat} {Y : List Int} (hI : IsB w2 x L cp Y) (hx : ∀ p, x = some p → w.heap.size + 2 ≤ p.block ∧ p.block < w2.heap.size) (a b c d e f : Value) (W : World)
    (hW : W = (((((((w2.setCell ⟨s, 1, none⟩ (.slice (some ⟨g, off', none⟩) m m)).setCell ⟨w.heap.size + 1, 0, none⟩ a).setCell ⟨w.heap.size + 1, 1, none⟩ b).setCell ⟨w.heap.size + 1, 2, none⟩ c).setCell ⟨w.heap.size + 1, 3, none⟩ d).setCell ⟨w.heap.size + 1, 4, none⟩ e).setCell ⟨w.heap.size + 1, 5, none⟩ f).drew) :
    IsB W x L cp Y ∧ (∀ p, x = some p → w.heap.size ≤ p.block ∧ p.block < W.heap.size) ∧ Spl W s ver (.slice (some ⟨g, off', none⟩) m m) (K.drop (9 + L)) flt ∧ BRow W g off' m m (K.drop (9 + L)) ∧ Kept (fun k => k = s) w W := by
  have hlt := h.lt
  have hg : g ≠ s := h.apart g rfl
  have hgs : g < w.heap.size := h.kept.lt g rfl
  have hsz := hB.size
  have hKl := hR.len_eq
  have k1 : Kept (fun k => k = s) w2 (w2.setCell ⟨s, 1, none⟩ (.slice (some ⟨g, off', none⟩) m m)) := ((Kept.refl (fun k => k = s) _).setCell (p := ⟨s, 1, none⟩) (fun _ => rfl) _)
  have k2 : Kept (fun k => k = w.heap.size + 1) (w2.setCell ⟨s, 1, none⟩ (.slice (some ⟨g, off', none⟩) m m)) W := by
    rw [hW]
    exact (((((((Kept.refl (fun k => k = w.heap.size + 1) _).setCell (p := ⟨w.heap.size + 1, 0, none⟩) (fun _ => rfl) _).setCell (p := ⟨w.heap.size + 1, 1, none⟩) (fun _ => rfl) _).setCell (p := ⟨w.heap.size + 1, 2, none⟩) (fun _ => rfl) _).setCell (p := ⟨w.heap.size + 1, 3, none⟩) (fun _ => rfl) _).setCell (p := ⟨w.heap.size + 1, 4, none⟩) (fun _ => rfl) _).setCell (p := ⟨w.heap.size + 1, 5, none⟩) (fun _ => rfl) _).new (Below.refl _ _).drew
  have k3 : Kept (fun k => k = s ∨ k = w.heap.size + 1) w2 W := (k1.wide (fun i _ e => .inl e)).trans k2 (fun i _ e => .inr e)
  have hWs := k3.size
  have hT := (hR.old hB).tail hL ho
  rw [← hmn] at hT
  have hTB : BRow (w2.setCell ⟨s, 1, none⟩ (.slice (some ⟨g, off', none⟩) m m)) g off' m m (K.drop (9 + L)) := hT.set (g := s) (k := 1) (fun e => hg e.symm) _
  have hlen : (K.drop (9 + L)).length = m := by simp [hKl, hmn]
  have S2 : Spl (w2.setCell ⟨s, 1, none⟩ (.slice (some ⟨g, off', none⟩) m m)) s ver (.slice (some ⟨g, off', none⟩) m m) (K.drop (9 + L)) flt := by
    refine ⟨set1_block (h.old hB).box, ⟨hTB.rng, some ⟨g, off', none⟩, m, by rw [hlen], by rw [hlen]; exact hTB.isB, fun p e => ?_, .inl hlen.symm⟩, fun k e => ?_⟩
    · cases e; show g < _; have := k1.size; omega
    · simp only [Value.ownBlock, Option.some.injEq] at e; omega
  refine ⟨hI.kept k3 (fun p e _ => ?_), fun p e => ?_, S2.keep k2 (by omega) (fun k e => ?_), ?_, ?_⟩
  · have := hx p e; omega
  · have := hx p e; omega
  · simp only [Value.ownBlock, Option.some.injEq] at e; omega
  · refine ⟨hTB.len_eq, hTB.le, hTB.cap_le, fun hp => by omega, fun i hi => ?_, hTB.rng⟩
    exact (k2.cell (p := ⟨g, off' + i, none⟩) (by have := k1.size; show g < _; omega) (by show ¬ g = _; omega)).trans (hTB.cell i hi)
  · exact ((kept_of (S := fun k => k = s) hB).trans k3 (fun i hi e => by omega))

set_option maxHeartbeats 1000000 in
theorem takeOff_any {w : World} {s : Nat} {ver : Int} {g off n cap : Nat} {K : List Int} {flt : Int} (h : Spl w s ver (.slice (some ⟨g, off, none⟩) n cap) K flt) (hR : BRow w g off n cap K) {v f st o l : Int} {L : Nat} (hl : l = L) (hL : 9 + L ≤ n) (hm : n ≤ 1000000000) (hl1 : l ≤ 4294967295) :
    Calls Try.prog 23 #[.pointer (some ⟨s, 0, none⟩), hdrV v f st o l] w fun e w' => ∃ x cp off' m, m = n - (9 + L) ∧ e = .returned (.agg #[.int .u8 v, .int .u8 f, .int .i16 st, .int .u8 o, .int .u32 l, .slice x L cp]) ∧ IsB w' x L cp ((K.drop 9).take L) ∧ (∀ p, x = some p → w.heap.size ≤ p.block ∧ p.block < w'.heap.size) ∧
      Spl w' s ver (.slice (some ⟨g, off', none⟩) m m) (K.drop (9 + L)) flt ∧ BRow w' g off' m m (K.drop (9 + L)) ∧ Kept (fun k => k = s) w w' := by
  have H : Hid _ := h
  have HR : Hid _ := hR
  obtain ⟨c0, c1, c2, f1, f2⟩ := h.cells
  have hlt := h.lt
  have hle := hR.le
  have hcm := hR.cap_le
  unfold maxLen at hcm
  have hl0 : 0 ≤ l := by omega
  subst hl
  clear h hR
  rcases (show cap = 9 ∨ (¬ cap = 9 ∧ n = 9 + L) ∨ (¬ cap = 9 ∧ ¬ (9 : Int) + L = n) from by omega) with hc9 | ⟨hc9, hnL⟩ | ⟨hc9, hnL⟩
  · obtain rfl : L = 0 := by omega
    obtain rfl : n = 9 := by omega
    subst hc9
    go_enter Try.func23, Try.ntmps23
    go_wp2_with fail
    refine (sizeOf_any v f st o _ _ hl0 hl1).mono ?_
    rintro e w1 ⟨rfl, hB1⟩
    have hB1' : Below (w.heap.size + 2) ((w.alloc (.cells #[.int .u8 v, .int .u8 f, .int .i16 st, .int .u8 o, .int .u32 0] 42)).alloc (.cells #[.int .u8 0, .int .u8 0, .int .i16 0, .int .u8 0, .int .u32 0, .slice none 0 0] 44)) w1 := hB1.mono (by simp)
    have hB : Below w.heap.size w w1 := (((Below.refl _ _).alloc (Nat.le_refl _) _).alloc (by simp) _).trans (hB1'.mono (by omega))
    obtain ⟨d0, d1, d2, g1, g2⟩ := spl_keepc H.out hB
    go_wp2_with fail
    refine (clone_any ((HR.out.old hB).body (off' := off) (L := 0) (by omega) (by omega)) (by omega)).mono ?_
    rintro e w2 ⟨u, rfl, ho, hB2⟩
    have hB2' := hB1'.trans (hB2.mono (by have := hB1'.size; simp at this; omega))
    have hBB : Below w.heap.size w w2 := hB.trans (hB2.mono hB.size)
    obtain ⟨x, cp, rfl, hI, hx⟩ := ho.isB0 (range_take (range_drop HR.out.rng 9) 0)
    have HI : Hid (IsB w2 x 0 cp ((K.drop 9).take 0)) := hI
    have HX : Hid (∀ p, x = some p → w.heap.size + 2 ≤ p.block ∧ p.block < w2.heap.size) := by
      intro p e; have h1 := hx p e; have h2 := hB1'.size; simp at h2; exact ⟨by omega, h1.2⟩
    obtain ⟨e0, e1, e2, g3, g4⟩ := spl_keepc H.out hBB
    obtain ⟨⟨p0, p1, p2, p3, p4, hz, hz'⟩, ⟨r0, r1, r2, r3, r4, r5⟩, ⟨t0, t1, t2, t3, t4, t5⟩⟩ := box56 hB2'
    have ne0 : ¬ s = w.heap.size := by omega
    have ne1 : ¬ s = w.heap.size + 1 := by omega
    have ne0' : ¬ w.heap.size = s := by omega
    have ne1' : ¬ w.heap.size + 1 = s := by omega
    have hs2 : s < w2.heap.size := by omega
    clear d0 d1 d2 g1 g2 ho hI hx
    go_wp2_with fail
    go_region
    go_wp2_with fail
    refine bodyPost_ret (v := .agg #[.int .u8 v, .int .u8 f, .int .i16 st, .int .u8 o, .int .u32 0, .slice x 0 cp]) (by simp [results, Try.results23, go_sem, p0, p1, p2, p3, p4, r0, r1, r2, r3, r4, r5, hz, hz']) rfl ?_
    exact ⟨x, cp, off, 0, (by omega), rfl, take_end H.out HR.out (off' := off) (L := 0) (by omega) (by omega) (m := 0) (by omega) hBB HI.out HX.out _ _ _ _ _ _ _ rfl⟩
  · subst hnL
    go_enter Try.func23, Try.ntmps23
    go_wp2_with fail
    refine (sizeOf_any v f st o _ _ hl0 hl1).mono ?_
    rintro e w1 ⟨rfl, hB1⟩
    have hB1' : Below (w.heap.size + 2) ((w.alloc (.cells #[.int .u8 v, .int .u8 f, .int .i16 st, .int .u8 o, .int .u32 L] 42)).alloc (.cells #[.int .u8 0, .int .u8 0, .int .i16 0, .int .u8 0, .int .u32 0, .slice none 0 0] 44)) w1 := hB1.mono (by simp)
    have hB : Below w.heap.size w w1 := (((Below.refl _ _).alloc (Nat.le_refl _) _).alloc (by simp) _).trans (hB1'.mono (by omega))
    obtain ⟨d0, d1, d2, g1, g2⟩ := spl_keepc H.out hB
    go_wp2_with fail
    refine (clone_any ((HR.out.old hB).body (off' := off + 9) (L := L) (by omega) (by omega)) (by omega)).mono ?_
    rintro e w2 ⟨u, rfl, ho, hB2⟩
    have hB2' := hB1'.trans (hB2.mono (by have := hB1'.size; simp at this; omega))
    have hBB : Below w.heap.size w w2 := hB.trans (hB2.mono hB.size)
    obtain ⟨x, cp, rfl, hI, hx⟩ := ho.isB0 (range_take (range_drop HR.out.rng 9) L)
    have HI : Hid (IsB w2 x L cp ((K.drop 9).take L)) := hI
    have HX : Hid (∀ p, x = some p → w.heap.size + 2 ≤ p.block ∧ p.block < w2.heap.size) := by
      intro p e; have h1 := hx p e; have h2 := hB1'.size; simp at h2; exact ⟨by omega, h1.2⟩
    obtain ⟨e0, e1, e2, g3, g4⟩ := spl_keepc H.out hBB
    obtain ⟨⟨p0, p1, p2, p3, p4, hz, hz'⟩, ⟨r0, r1, r2, r3, r4, r5⟩, ⟨t0, t1, t2, t3, t4, t5⟩⟩ := box56 hB2'
    have ne0 : ¬ s = w.heap.size := by omega
    have ne1 : ¬ s = w.heap.size + 1 := by omega
    have ne0' : ¬ w.heap.size = s := by omega
    have ne1' : ¬ w.heap.size + 1 = s := by omega
    have hs2 : s < w2.heap.size := by omega
    clear d0 d1 d2 g1 g2 ho hI hx
    go_wp2_with fail
    go_region
    go_wp2_with fail
    refine bodyPost_ret (v := .agg #[.int .u8 v, .int .u8 f, .int .i16 st, .int .u8 o, .int .u32 L, .slice x L cp]) (by simp [results, Try.results23, go_sem, p0, p1, p2, p3, p4, r0, r1, r2, r3, r4, r5, hz, hz']) rfl ?_
    exact ⟨x, cp, off, 0, (by omega), rfl, take_end H.out HR.out (off' := off) (L := L) (by omega) (by omega) (m := 0) (by omega) hBB HI.out HX.out _ _ _ _ _ _ _ rfl⟩
  · go_enter Try.func23, Try.ntmps23
    go_wp2_with fail
    refine (sizeOf_any v f st o _ _ hl0 hl1).mono ?_
    rintro e w1 ⟨rfl, hB1⟩
    have hB1' : Below (w.heap.size + 2) ((w.alloc (.cells #[.int .u8 v, .int .u8 f, .int .i16 st, .int .u8 o, .int .u32 L] 42)).alloc (.cells #[.int .u8 0, .int .u8 0, .int .i16 0, .int .u8 0, .int .u32 0, .slice none 0 0] 44)) w1 := hB1.mono (by simp)
    have hB : Below w.heap.size w w1 := (((Below.refl _ _).alloc (Nat.le_refl _) _).alloc (by simp) _).trans (hB1'.mono (by omega))
    obtain ⟨d0, d1, d2, g1, g2⟩ := spl_keepc H.out hB
    go_wp2_with fail
    refine (clone_any ((HR.out.old hB).body (off' := off + 9) (L := L) (by omega) (by omega)) (by omega)).mono ?_
    rintro e w2 ⟨u, rfl, ho, hB2⟩
    have hB2' := hB1'.trans (hB2.mono (by have := hB1'.size; simp at this; omega))
    have hBB : Below w.heap.size w w2 := hB.trans (hB2.mono hB.size)
    obtain ⟨x, cp, rfl, hI, hx⟩ := ho.isB0 (range_take (range_drop HR.out.rng 9) L)
    have HI : Hid (IsB w2 x L cp ((K.drop 9).take L)) := hI
    have HX : Hid (∀ p, x = some p → w.heap.size + 2 ≤ p.block ∧ p.block < w2.heap.size) := by
      intro p e; have h1 := hx p e; have h2 := hB1'.size; simp at h2; exact ⟨by omega, h1.2⟩
    obtain ⟨e0, e1, e2, g3, g4⟩ := spl_keepc H.out hBB
    obtain ⟨⟨p0, p1, p2, p3, p4, hz, hz'⟩, ⟨r0, r1, r2, r3, r4, r5⟩, ⟨t0, t1, t2, t3, t4, t5⟩⟩ := box56 hB2'
    have ne0 : ¬ s = w.heap.size := by omega
    have ne1 : ¬ s = w.heap.size + 1 := by omega
    have ne0' : ¬ w.heap.size = s := by omega
    have ne1' : ¬ w.heap.size + 1 = s := by omega
    have hs2 : s < w2.heap.size := by omega
    clear d0 d1 d2 g1 g2 ho hI hx
    go_wp2_with fail
    go_region
    go_wp2_with fail
    refine bodyPost_ret (v := .agg #[.int .u8 v, .int .u8 f, .int .i16 st, .int .u8 o, .int .u32 L, .slice x L cp]) (by simp [results, Try.results23, go_sem, p0, p1, p2, p3, p4, r0, r1, r2, r3, r4, r5, hz, hz']) rfl ?_
    exact ⟨x, cp, off + (9 + L), n - (9 + L), rfl, rfl, take_end H.out HR.out (off' := off + (9 + L)) (L := L) (by omega) (by omega) (m := n - (9 + L)) rfl hBB HI.out HX.out _ _ _ _ _ _ _ rfl⟩
end Go.Proofs.Ytabadlgjocgkjaa
