/-
  The contract of prims.GetValue.
-/
import Derived.Test.YtcecdklgiocbaaaTextGet
namespace Go.Proofs.Ytcecdklgiocbaaa
open Go.RowKit
set_option linter.unusedVariables false
set_option linter.unusedSimpArgs false

theorem bcell {W w1 : World} (hb : Below W.heap.size W w1) : (∀ b o, b < W.heap.size → w1.cell? ⟨b, o, none⟩ = W.cell? ⟨b, o, none⟩) ∧ (∀ b o, b < W.heap.size → w1.frozen? ⟨b, o, none⟩ = W.frozen? ⟨b, o, none⟩) :=
  ⟨fun b o h => hb.cell (p := ⟨b, o, none⟩) h, fun b o h => hb.frozen (p := ⟨b, o, none⟩) h⟩

theorem below_one (w : World) (o : Obj) : Below w.heap.size w (w.alloc o) := (Below.refl _ _).alloc (Nat.le_refl _) _

theorem BRow.set {w : World} {b off len cap : Nat} {zs : List Int} (h : BRow w b off len cap zs) {g k : Nat} (hg : g ≠ b) (v : Value) : BRow (w.setCell ⟨g, k, none⟩ v) b off len cap zs :=
  ⟨h.len_eq, h.le, h.cap_le, fun hl => by simpa using h.lt hl, fun i hi => (World.cell?_setCell_other (w := w) (a := ⟨g, k, none⟩) (b := ⟨b, off + i, none⟩) (v := v) (by intro e; cases e; exact hg rfl)).trans (h.cell i hi), h.rng⟩

theorem below_two {w w1 : World} {o : Obj} (hB : Below (w.alloc o).heap.size (w.alloc o) w1) (u v : Value) : Below w.heap.size w ((w1.setCell ⟨w.heap.size, 0, none⟩ u).setCell ⟨w.heap.size, 1, none⟩ v) :=
  (((below_one w o).trans (hB.mono (by simp))).setCell (Nat.le_refl _) _).setCell (Nat.le_refl _) _

theorem below_on (w1 : World) (s : Nat) (u v : Value) : Below s w1 ((w1.setCell ⟨s, 0, none⟩ u).setCell ⟨s, 1, none⟩ v) :=
  ((Below.refl s w1).setCell (p := ⟨s, 0, none⟩) (Nat.le_refl _) u).setCell (p := ⟨s, 1, none⟩) (Nat.le_refl _) v

set_option maxHeartbeats 400000 in
theorem getValue_short0 (a : Option Addr) (len cap : Nat) (w : World) (hl : len < 4) :
    Calls Try.prog 45 #[.slice a len cap] w fun e w' => e = .returned (.tuple #[.agg #[.int .i64 0, .slice none 0 0], .slice none 0 0, .int .i64 10]) ∧ Below w.heap.size w w' := by
  go_enter Try.func45, Try.ntmps45
  go_wp2_with fail
  refine (getInt_short a len cap _ hl).mono ?_
  rintro e w1 ⟨rfl, rfl⟩
  go_wp2_with fail
  exact bodyPost_ret (v := .tuple #[.agg #[.int .i64 0, .slice none 0 0], .slice none 0 0, .int .i64 10]) (by simp [results, Try.results45, go_sem]) rfl ⟨rfl, below_one _ _⟩

set_option maxHeartbeats 400000 in
theorem getValue_form {w : World} {b off len cap : Nat} {zs : List Int} (h : BRow w b off len cap zs) (hl : 4 ≤ len) (hn : int4 zs < -2) :
    Calls Try.prog 45 #[.slice (some ⟨b, off, none⟩) len cap] w fun e w' => e = .returned (.tuple #[.agg #[.int .i64 0, .slice none 0 0], .slice none 0 0, .int .i64 11]) ∧ Below w.heap.size w w' := by
  have H : Hid _ := h
  clear h
  go_enter Try.func45, Try.ntmps45
  go_wp2_with fail
  refine (getInt_yes (H.out.old (below_one _ _)) hl).mono ?_
  rintro e w1 ⟨off', rfl, hR, hB⟩
  obtain ⟨hc, hf⟩ := bcell hB
  have hs : w.heap.size < w1.heap.size := by have := hB.size; simp at this; omega
  go_wp2_with fail
  exact bodyPost_ret (v := .tuple #[.agg #[.int .i64 0, .slice none 0 0], .slice none 0 0, .int .i64 11]) (by simp [results, Try.results45, go_sem, hc, hs]) rfl ⟨rfl, below_two hB _ _⟩

set_option maxHeartbeats 400000 in
theorem getValue_unset {w : World} {b off len cap : Nat} {zs : List Int} (h : BRow w b off len cap zs) (hl : 4 ≤ len) (hn : int4 zs = -2) :
    Calls Try.prog 45 #[.slice (some ⟨b, off, none⟩) len cap] w fun e w' => ∃ off', e = .returned (.tuple #[.agg #[.int .i64 1, .slice none 0 0], .slice (some ⟨b, off', none⟩) (len - 4) (cap - 4), .int .i64 0]) ∧
      BRow w' b off' (len - 4) (cap - 4) (zs.drop 4) ∧ Below w.heap.size w w' := by
  have H : Hid _ := h
  clear h
  go_enter Try.func45, Try.ntmps45
  go_wp2_with fail
  refine (getInt_yes (H.out.old (below_one _ _)) hl).mono ?_
  rintro e w1 ⟨off', rfl, hR, hB⟩
  obtain ⟨hc, hf⟩ := bcell hB
  have hs : w.heap.size < w1.heap.size := by have := hB.size; simp at this; omega
  rw [hn]
  clear hn
  go_wp2_with fail
  exact bodyPost_ret (v := .tuple #[.agg #[.int .i64 1, .slice none 0 0], .slice (some ⟨b, off', none⟩) (len - 4) (cap - 4), .int .i64 0]) (by simp [results, Try.results45, go_sem, hc, hs]) rfl
    ⟨off', rfl, hR.below (below_on _ _ _ _) (fun _ => H.out.lt (by omega)), below_two hB _ _⟩

set_option maxHeartbeats 400000 in
theorem getValue_null {w : World} {b off len cap : Nat} {zs : List Int} (h : BRow w b off len cap zs) (hl : 4 ≤ len) (hn : int4 zs = -1) :
    Calls Try.prog 45 #[.slice (some ⟨b, off, none⟩) len cap] w fun e w' => ∃ off', e = .returned (.tuple #[.agg #[.int .i64 0, .slice none 0 0], .slice (some ⟨b, off', none⟩) (len - 4) (cap - 4), .int .i64 0]) ∧
      BRow w' b off' (len - 4) (cap - 4) (zs.drop 4) ∧ Below w.heap.size w w' := by
  have H : Hid _ := h
  clear h
  go_enter Try.func45, Try.ntmps45
  go_wp2_with fail
  refine (getInt_yes (H.out.old (below_one _ _)) hl).mono ?_
  rintro e w1 ⟨off', rfl, hR, hB⟩
  obtain ⟨hc, hf⟩ := bcell hB
  have hs : w.heap.size < w1.heap.size := by have := hB.size; simp at this; omega
  rw [hn]
  clear hn
  go_wp2_with fail
  exact bodyPost_ret (v := .tuple #[.agg #[.int .i64 0, .slice none 0 0], .slice (some ⟨b, off', none⟩) (len - 4) (cap - 4), .int .i64 0]) (by simp [results, Try.results45, go_sem, hc, hs]) rfl
    ⟨off', rfl, hR.below (below_on _ _ _ _) (fun _ => H.out.lt (by omega)), below_two hB _ _⟩

theorem int4_tests {zs : List Int} (h : 0 ≤ int4 zs) : decide (int4 zs < -2) = false ∧ (int4 zs == -2) = false ∧ (int4 zs == -1) = false := by
  refine ⟨by simp; omega, by simp; omega, by simp; omega⟩

set_option maxHeartbeats 400000 in
theorem getValue_short {w : World} {b off len cap : Nat} {zs : List Int} (h : BRow w b off len cap zs) (hl : 4 ≤ len) (hn : ((len - 4 : Nat) : Int) < int4 zs) :
    Calls Try.prog 45 #[.slice (some ⟨b, off, none⟩) len cap] w fun e w' => e = .returned (.tuple #[.agg #[.int .i64 0, .slice none 0 0], .slice none 0 0, .int .i64 10]) ∧ Below w.heap.size w w' := by
  have H : Hid _ := h
  have hlm : len ≤ maxLen := Nat.le_trans h.le h.cap_le
  have HN : Hid _ := hn
  have HLM : Hid (len - 4 ≤ maxLen) := (by omega : len - 4 ≤ maxLen)
  have h0 : 0 ≤ int4 zs := by omega
  have hbd := (int4_bounds zs).2
  obtain ⟨ht1, ht2, ht3⟩ := int4_tests h0
  clear h hn hlm
  go_enter Try.func45, Try.ntmps45
  go_wp2_with fail
  refine (getInt_yes (H.out.old (below_one _ _)) hl).mono ?_
  rintro e w1 ⟨off', rfl, hR, hB⟩
  obtain ⟨hc, hf⟩ := bcell hB
  have hs : w.heap.size < w1.heap.size := by have := hB.size; simp at this; omega
  have HR : Hid _ := hR
  clear hR
  go_wp2_with fail
  refine (btake_short _ _ _ _ _ HLM.out HN.out).mono ?_
  rintro e w2 ⟨rfl, rfl⟩
  go_wp2_with fail
  exact bodyPost_ret (v := .tuple #[.agg #[.int .i64 0, .slice none 0 0], .slice none 0 0, .int .i64 10]) (by simp [results, Try.results45, go_sem, hc, hs]) rfl ⟨rfl, below_two hB _ _⟩

set_option maxHeartbeats 400000 in
theorem getValue_set {w : World} {b off len cap : Nat} {zs : List Int} (h : BRow w b off len cap zs) (hsm : len ≤ 140737488351232) (n : Nat) (hl : 4 + n ≤ len) (hn : int4 zs = n) :
    Calls Try.prog 45 #[.slice (some ⟨b, off, none⟩) len cap] w fun e w' => ∃ off' g, w.heap.size ≤ g ∧ g < w'.heap.size ∧ e = .returned (.tuple #[.agg #[.int .i64 2, .slice (some ⟨g, 0, none⟩) n n], .slice (some ⟨b, off', none⟩) (len - 4 - n) (cap - 4 - n), .int .i64 0]) ∧
      BRow w' g 0 n n ((zs.drop 4).take n) ∧ BRow w' b off' (len - 4 - n) (cap - 4 - n) (zs.drop (4 + n)) ∧ Below w.heap.size w w' := by
  have H : Hid _ := h
  have HN : Hid _ := hn
  have h0 : 0 ≤ int4 zs := by omega
  have hbd := (int4_bounds zs).2
  obtain ⟨ht1, ht2, ht3⟩ := int4_tests h0
  clear h hn
  go_enter Try.func45, Try.ntmps45
  go_wp2_with fail
  refine (getInt_yes (H.out.old (below_one _ _)) (by omega)).mono ?_
  rintro e w1 ⟨off', rfl, hR, hB⟩
  have hs : w.heap.size < w1.heap.size := by have := hB.size; simp at this; omega
  have HR : Hid _ := hR
  clear hR
  go_wp2_with fail
  refine (btake HR.out n (by omega) (by omega) _ HN.out).mono ?_
  rintro e w2 ⟨off2, rfl, hX, hR2, hB2, hs3⟩
  have hB3 := hB.trans (hB2.mono hB.size)
  obtain ⟨hc, hf⟩ := bcell hB3
  have hs2 : w.heap.size < w2.heap.size := by have := hB3.size; simp at this; omega
  rw [List.drop_drop] at hR2
  have HR2 : Hid _ := hR2
  have HX : Hid _ := hX
  clear hX hR2
  go_wp2_with fail
  exact bodyPost_ret (v := .tuple #[.agg #[.int .i64 2, .slice (some ⟨w1.heap.size, 0, none⟩) n n], .slice (some ⟨b, off2, none⟩) (len - 4 - n) (cap - 4 - n), .int .i64 0]) (by simp [results, Try.results45, go_sem, hc, hs2]) rfl
    ⟨off2, w1.heap.size, by omega, by simpa using hs3, rfl, (HX.out.set (by omega) _).set (by omega) _, HR2.out.below (below_on _ _ _ _) (fun _ => H.out.lt (by omega)), below_two hB3 _ _⟩
end Go.Proofs.Ytcecdklgiocbaaa
