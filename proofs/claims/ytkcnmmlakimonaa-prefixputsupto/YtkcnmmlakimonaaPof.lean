/-
  A prefix as the model has it: the contract; and the comparison of two that are the same.
-/
import Derived.Test.YtkcnmmlakimonaaRefGet7
namespace Go.Proofs.Ytkcnmmlakimonaa
open Go.RowKit
set_option maxRecDepth 100000
set_option linter.unusedVariables false
set_option linter.unusedSimpArgs false

/-- The box of the argument and the result's variable. -/
def B0 (w : World) (t : Option Addr) (lt ct : Nat) (v1 : Option Addr) (l1 c1 : Nat) (v2 : Option Addr) (l2 c2 : Nat) : World :=
  (w.alloc (.cells #[.slice t lt ct, .slice v1 l1 c1, .slice v2 l2 c2] 27)).alloc (.cells #[.string ⟨#[]⟩, .slice none 0 0, .slice none 0 0] 33)

/-- What the walk wants of a later world. -/
def Sv (W : World) (n : Nat) (t : Option Addr) (lt ct : Nat) (v1 : Option Addr) (l1 c1 : Nat) (v2 : Option Addr) (l2 c2 : Nat) (s : ByteArray) : Prop :=
  W.cell? ⟨n, 0, none⟩ = some (.slice t lt ct) ∧ W.cell? ⟨n, 1, none⟩ = some (.slice v1 l1 c1) ∧ W.cell? ⟨n, 2, none⟩ = some (.slice v2 l2 c2) ∧ (convert 22 9 (.slice t lt ct)).run Try.prog W = .ok (.string s) W

theorem sv_of {w W : World} {t : Option Addr} {lt ct : Nat} {v1 : Option Addr} {l1 c1 : Nat} {v2 : Option Addr} {l2 c2 : Nat} {T : List Int} (hI : IsB w t lt ct T) {s : ByteArray} (hs : s = strOfNums T) (hB : Below (B0 w t lt ct v1 l1 c1 v2 l2 c2).heap.size (B0 w t lt ct v1 l1 c1 v2 l2 c2) W) :
    Sv W w.heap.size t lt ct v1 l1 c1 v2 l2 c2 s ∧ W.heap[w.heap.size + 1]? = some (.cells #[.string ⟨#[]⟩, .slice none 0 0, .slice none 0 0] 33 (0, 0)) ∧ Below w.heap.size w W ∧ w.heap.size + 2 ≤ W.heap.size := by
  have hsz : (B0 w t lt ct v1 l1 c1 v2 l2 c2).heap.size = w.heap.size + 2 := by simp [B0]
  have hB0 : Below w.heap.size w W := ((below_one w _).alloc (by simp) _).trans (hB.mono (by omega))
  have h1 : (B0 w t lt ct v1 l1 c1 v2 l2 c2).heap[w.heap.size]? = some (.cells #[.slice t lt ct, .slice v1 l1 c1, .slice v2 l2 c2] 27 (0, 0)) := blk_old (heap_alloc_new w _) (below_one _ _)
  have h2 : (B0 w t lt ct v1 l1 c1 v2 l2 c2).heap[w.heap.size + 1]? = some (.cells #[.string ⟨#[]⟩, .slice none 0 0, .slice none 0 0] 33 (0, 0)) := by
    have := heap_alloc_new (w.alloc (.cells #[.slice t lt ct, .slice v1 l1 c1, .slice v2 l2 c2] 27)) (.cells #[.string ⟨#[]⟩, .slice none 0 0, .slice none 0 0] 33)
    simpa [B0] using this
  obtain ⟨k0, k1, k2, _⟩ := three_cells (blk_old h1 hB)
  have hc := (hI.old hB0).conv
  rw [← hs] at hc
  exact ⟨⟨k0, k1, k2, hc⟩, blk_old h2 hB, hB0, by have := hB.size; omega⟩

/-- The result is written. -/
theorem sv_set {w W : World} {t : Option Addr} {lt ct : Nat} {v1 : Option Addr} {l1 c1 : Nat} {v2 : Option Addr} {l2 c2 : Nat} {T : List Int} (hI : IsB w t lt ct T) {s : ByteArray} (hs : s = strOfNums T) (hS : Sv W w.heap.size t lt ct v1 l1 c1 v2 l2 c2 s) (hB : Below w.heap.size w W) (x0 x1 x2 : Value) :
    Sv (((W.setCell ⟨w.heap.size + 1, 0, none⟩ x0).setCell ⟨w.heap.size + 1, 1, none⟩ x1).setCell ⟨w.heap.size + 1, 2, none⟩ x2) w.heap.size t lt ct v1 l1 c1 v2 l2 c2 s := by
  have hB2 : Below (w.heap.size + 1) W (((W.setCell ⟨w.heap.size + 1, 0, none⟩ x0).setCell ⟨w.heap.size + 1, 1, none⟩ x1).setCell ⟨w.heap.size + 1, 2, none⟩ x2) := below_three _ _ _ _ _
  have hc := (hI.old (hB.trans (hB2.mono (by omega)))).conv
  rw [← hs] at hc
  exact ⟨(hB2.cell (by simp)).trans hS.1, (hB2.cell (by simp)).trans hS.2.1, (hB2.cell (by simp)).trans hS.2.2.1, hc⟩

theorem ct_from {w0 W : World} (hW : Below w0.heap.size w0 W) {a : Option Addr} {len cap : Nat} {xs : List ByteArray} (h : View 1 VS w0 a len cap xs) (hl : len ≤ 100000000) {I : List It} (hI : I = xs.map keyIt) :
    Calls Try.prog 22 #[.slice a len cap] W fun e w' => ∃ a' c', e = .returned (.slice a' I.length c') ∧ Hid (Own 81 5 VI w' w0.heap.size (.slice a' I.length c') I) ∧ Hid (Below w0.heap.size w0 w') ∧ Hid (Below W.heap.size W w') := by
  refine (ctexts_any (h.old stays_s hW) hl).mono ?_
  rintro e w1 ⟨v, rfl, HO, hB⟩
  rw [← hI] at HO
  obtain ⟨a', c', rfl, _, _⟩ := HO.out.view
  exact ⟨a', c', rfl, HO.out.mono hW.size, hW.trans (hB.mono hW.size), hB⟩

theorem ce_from {w0 W : World} (hW : Below w0.heap.size w0 W) {a : Option Addr} {len cap : Nat} {xs : List En} (h : View 3 VE w0 a len cap xs) (hl : len ≤ 100000000) {I : List It} (hI : I = xs.map entryIt) :
    Calls Try.prog 23 #[.slice a len cap] W fun e w' => ∃ a' c', e = .returned (.slice a' I.length c') ∧ Hid (Own 81 5 VI w' w0.heap.size (.slice a' I.length c') I) ∧ Hid (Below w0.heap.size w0 w') ∧ Hid (Below W.heap.size W w') := by
  refine (centries_any (h.old stays_e hW) hl).mono ?_
  rintro e w1 ⟨v, rfl, HO, hB⟩
  rw [← hI] at HO
  obtain ⟨a', c', rfl, _, _⟩ := HO.out.view
  exact ⟨a', c', rfl, HO.out.mono hW.size, hW.trans (hB.mono hW.size), hB⟩

/-- What is owned, seen when the result was written. -/
theorem own_last {w W : World} {a : Option Addr} {c : Nat} {I : List It} (h : Own 81 5 VI W (w.heap.size + 2) (.slice a I.length c) I) (x0 x1 x2 : Value) : View 5 VI (((W.setCell ⟨w.heap.size + 1, 0, none⟩ x0).setCell ⟨w.heap.size + 1, 1, none⟩ x1).setCell ⟨w.heap.size + 1, 2, none⟩ x2) a I.length c I := by
  obtain ⟨a', c', e, hv, _⟩ := (h.kept stays_i (three_far W (w.heap.size + 1) x0 x1 x2) (by simp) (fun k e => by cases e; omega)).view
  cases e
  exact hv

set_option maxHeartbeats 4000000 in
theorem pof {w : World} {t : Option Addr} {lt ct : Nat} {v1 : Option Addr} {l1 c1 : Nat} {v2 : Option Addr} {l2 c2 : Nat} {x : Pre} (hV : PV w t lt ct v1 l1 c1 v2 l2 c2 x) (h1 : l1 ≤ 100000000) (h2 : l2 ≤ 100000000) {s : ByteArray} (hs : s = strOfNums x.1) {I1 I2 : List It} (hI1 : I1 = x.2.1.map keyIt) (hI2 : I2 = x.2.2.map entryIt) :
    Calls Try.prog 12 #[.agg #[.slice t lt ct, .slice v1 l1 c1, .slice v2 l2 c2]] w fun e w' => ∃ a1 k1 a2 k2, e = .returned (.agg #[.string s, .slice a1 I1.length k1, .slice a2 I2.length k2]) ∧ Hid (View 5 VI w' a1 I1.length k1 I1) ∧ Hid (View 5 VI w' a2 I2.length k2 I2) ∧ Hid (Below w.heap.size w w') := by
  obtain ⟨w0, hw0⟩ : ∃ w0, w0 = B0 w t lt ct v1 l1 c1 v2 l2 c2 := ⟨_, rfl⟩
  have HF : Hid (∀ W, Below w0.heap.size w0 W → Sv W w.heap.size t lt ct v1 l1 c1 v2 l2 c2 s ∧ W.heap[w.heap.size + 1]? = some (.cells #[.string ⟨#[]⟩, .slice none 0 0, .slice none 0 0] 33 (0, 0)) ∧ Below w.heap.size w W ∧ w.heap.size + 2 ≤ W.heap.size) := by
    intro W hW
    rw [hw0] at hW
    exact sv_of hV.1 hs hW
  have HZ : Hid (w0.heap.size = w.heap.size + 2) := by rw [hw0]; simp [Hid, B0]
  have HI : Hid (IsB w t lt ct x.1) := hV.1
  have HS : Hid (s = strOfNums x.1) := hs
  have HI1 : Hid (I1 = x.2.1.map keyIt) := hI1
  have HI2 : Hid (I2 = x.2.2.map entryIt) := hI2
  have hW0 : Below w.heap.size w w0 := (HF.out w0 (Below.refl _ _)).2.2.1
  have HV1 : Hid (View 1 VS w0 v1 l1 c1 x.2.1) := hV.2.1.old stays_s hW0
  have HV2 : Hid (View 3 VE w0 v2 l2 c2 x.2.2) := hV.2.2.old stays_e hW0
  have hD : Hid (Below w0.heap.size w0 w0.drew) := (Below.refl w0.heap.size w0).drew
  obtain ⟨s0, s1, s2, s3⟩ := (HF.out w0 (Below.refl _ _)).1
  obtain ⟨d0, d1, d2, d3⟩ := (HF.out _ hD.out).1
  have HL1 : Hid (l1 ≤ 100000000) := h1
  have HL2 : Hid (l2 ≤ 100000000) := h2
  clear hV hs hI1 hI2 hW0 h1 h2
  rw [B0] at hw0
  go_enter Try.func12, Try.ntmps12
  go_upto_region 1 with fail
  rw [← hw0]
  clear hw0
  go_region_held3 (fun W => W.cell? ⟨w.heap.size, 0, none⟩ = some (.slice t lt ct) ∧ W.cell? ⟨w.heap.size, 1, none⟩ = some (.slice v1 l1 c1) ∧ W.cell? ⟨w.heap.size, 2, none⟩ = some (.slice v2 l2 c2) ∧ (convert 22 9 (.slice t lt ct)).run Try.prog W = .ok (.string s) W) (first | (refine ⟨?_, ?_, ?_, ?_⟩ <;> assumption)) (first
    | (go_at_call 22; refine (ct_from hD.out HV1.out HL1.out HI1.out).mono ?_; rintro e w1 ⟨a1, k1, rfl, HO1, HB1, HC1⟩; obtain ⟨e0, e1, e2, e3⟩ := (HF.out _ HB1.out).1)
    | (go_at_call 23; refine (ce_from HB1.out HV2.out HL2.out HI2.out).mono ?_; rintro e w2 ⟨a2, k2, rfl, HO2, HB2, HC2⟩; obtain ⟨⟨f0, f1, f2, f3⟩, hr, hbw, hsz⟩ := HF.out _ HB2.out; obtain ⟨r0, r1, r2, g0, g1, g2⟩ := three_cells hr; obtain ⟨m0, m1, m2, m3⟩ := sv_set HI.out HS.out (HF.out _ HB2.out).1 (HF.out _ HB2.out).2.2.1 (.string s) (.slice a1 I1.length k1) (.slice a2 I2.length k2); have HBW : Hid (Below w.heap.size w w2) := hbw; have hs2 : w.heap.size + 1 < w2.heap.size := by omega))
  all_goals (
    go_wp2_with fail
    have HO1' : Hid (Own 81 5 VI w2 (w.heap.size + 2) (.slice a1 I1.length k1) I1) := by rw [← HZ.out]; exact HO1.out.old stays_i HC2.out
    have HO2' : Hid (Own 81 5 VI w2 (w.heap.size + 2) (.slice a2 I2.length k2) I2) := by rw [← HZ.out]; exact HO2
    exact bodyPost_ret (v := .agg #[.string s, .slice a1 I1.length k1, .slice a2 I2.length k2]) (by simp [results, Try.results12, go_sem, r0, r1, r2, hs2]) rfl
      ⟨a1, k1, a2, k2, rfl, own_last HO1'.out _ _ _, own_last HO2'.out _ _ _, HBW.out.trans ((below_three _ _ _ _ _).mono (by omega))⟩)
end Go.Proofs.Ytkcnmmlakimonaa
