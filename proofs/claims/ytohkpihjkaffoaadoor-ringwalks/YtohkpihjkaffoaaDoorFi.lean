/-
  A ring in memory: the place that a token has (searched in halves, by a closure), its owner, all places, the walk.
-/
import Derived.Test.YtohkpihjkaffoaaDoorGa
import Derived.Test.YtohkpihjkaffoaaDoorCs
import Derived.RegionTactic
import Derived.Deep.RegionHeld3
namespace Go.Proofs.YtohkpihjkaffoaaDoor
open Go.RowKit Go.Lib Go.Shelf Go.Sort
set_option maxRecDepth 100000
set_option linter.unusedVariables false
set_option linter.unusedSimpArgs false

/-- Block N is a ring of the places ps. -/
def RingAt (w : World) (N : Nat) (ps : List Pl) : Prop := N < w.heap.size ∧ ∃ a cap, w.cell? ⟨N, 0, none⟩ = some (.slice a ps.length cap) ∧ View 2 VP w a ps.length cap ps

theorem RingAt.old {w W : World} {N : Nat} {ps : List Pl} (h : RingAt w N ps) (hB : Below w.heap.size w W) : RingAt W N ps := by
  obtain ⟨hN, a, cap, hc, hV⟩ := h
  exact ⟨Nat.lt_of_lt_of_le hN hB.size, a, cap, (hB.cell (p := ⟨N, 0, none⟩) hN).trans hc, hV.old stays_p hB⟩

theorem below_grownW {w : World} (q : Nat) (os : Array Obj) : Below w.heap.size w (grow (w.drewN q) os) := below_grown_sl w.heap.size w q os (Nat.le_refl _)

set_option maxHeartbeats 1000000 in
theorem reach_any {W : World} {br bt N : Nat} {ps : List Pl} {t : Int} (hr : W.cell? ⟨br, 0, none⟩ = some (.pointer (some ⟨N, 0, none⟩))) (ht : W.cell? ⟨bt, 0, none⟩ = some (.int .i64 t)) (h : RingAt W N ps) {i : Nat} (hi : i < ps.length) {y : Int} (hy : y = (ps.getD i default).1) :
    Calls Tryd.prog 36 (#[.int .i64 i] ++ #[.pointer (some ⟨br, 0, none⟩), .pointer (some ⟨bt, 0, none⟩)]) W fun e w' => e = .returned (.bool (decide (t ≤ y))) ∧ ∃ q, w' = W.drewN q := by
  obtain ⟨hN, a, cap, hc, hV⟩ := h
  obtain ⟨b, off, ha, hb, c0, c1⟩ := hV.pl hi
  subst ha
  rw [← hy] at c0
  have h1 := hV.2.1
  have h2 : cap ≤ 9223372036854775807 := hV.2.2.1
  have hiz : (i : Int) < (ps.length : Int) := by omega
  clear hV hy c1
  go_enter Tryd.func36, Tryd.ntmps36
  go_wp2
  go_region
  all_goals go_wp2
  all_goals go_ret
  all_goals exact ⟨by first | rfl | simp, 1, rfl⟩

theorem search_any {w : World} {br bt N : Nat} {ps : List Pl} {t : Int} (hs : Str ps) (hr : w.cell? ⟨br, 0, none⟩ = some (.pointer (some ⟨N, 0, none⟩))) (hbr : br < w.heap.size) (ht : w.cell? ⟨bt, 0, none⟩ = some (.int .i64 t)) (hbt : bt < w.heap.size) (h : RingAt w N ps) (hl : ps.length < 4611686018427387904) :
    Calls Tryd.prog 37 #[.int .i64 ps.length, .func (.func 36) #[] #[.pointer (some ⟨br, 0, none⟩), .pointer (some ⟨bt, 0, none⟩)]] w fun e w' => e = .returned (.int .i64 (atN ps t)) ∧ Below w.heap.size w w' := by
  have eg : ∀ args w, (callFunc 36 args).run Tryd.prog w = .ok (.enter 36 args) w := enters_of Tryd.func36 (by kernel_rfl) rfl
  have hS := Any.sort_Search Tryd.searchL 36 #[.pointer (some ⟨br, 0, none⟩), .pointer (some ⟨bt, 0, none⟩)] ps.length (fun i => decide (t ≤ (ps.getD i default).1)) w eg hl
    (fun m os i hi => by
      have hB : Below w.heap.size w (grow (w.drewN m) os) := below_grownW m os
      exact (reach_any ((hB.cell (p := ⟨br, 0, none⟩) hbr).trans hr) ((hB.cell (p := ⟨bt, 0, none⟩) hbt).trans ht) (h.old hB) hi rfl).mono fun _ _ ⟨he, q, hq⟩ => ⟨he, q, #[], by rw [hq, grow_empty]⟩)
    (fun a b hab hb h1 => by
      have h1' : t ≤ (ps.getD a default).1 := of_decide_eq_true h1
      refine decide_eq_true ?_
      by_cases e : a = b
      · subst e; exact h1'
      · have := str_getD hs (i := a) (j := b) (by omega) hb
        omega)
  have hcnt : (List.range ps.length).countP (fun i => !decide (t ≤ (ps.getD i default).1)) = atN ps t := by
    have e : ps.map (·.1) = (List.range ps.length).map (fun i => (ps.getD i default).1) := by
      apply List.ext_getElem (by simp)
      intro i h1 h2
      simp only [List.length_map] at h1
      simp [h1]
    have e2 : atN ps t = (ps.map (·.1)).countP (fun x => decide (x < t)) := by unfold atN; rw [List.countP_map]; rfl
    rw [e2, e, List.countP_map]
    congr 1
    funext i
    show (!decide (t ≤ (ps.getD i default).1)) = decide ((ps.getD i default).1 < t)
    by_cases h : t ≤ (ps.getD i default).1
    · have : ¬ (ps.getD i default).1 < t := by omega
      simp only [h, this]; rfl
    · have : (ps.getD i default).1 < t := by omega
      simp only [h, this]; rfl
  rw [hcnt] at hS
  exact hS.mono fun e w' ⟨he, q, os, hw⟩ => ⟨he, by rw [hw]; exact below_grownW q os⟩

set_option maxHeartbeats 2000000 in
theorem first_any {w : World} {N : Nat} {ps : List Pl} {t : Int} (hs : Str ps) (h : RingAt w N ps) (hp : 0 < ps.length) (hl : ps.length ≤ 1000000) :
    Calls Tryd.prog 26 #[.pointer (some ⟨N, 0, none⟩), .int .i64 t] w fun e w' => e = .returned (.int .i64 (fstN ps t)) ∧ Below w.heap.size w w' := by
  obtain ⟨W0, hW0⟩ : ∃ W0, W0 = (w.alloc (.cells #[.pointer (some ⟨N, 0, none⟩)] 24)).alloc (.cells #[.int .i64 t] 2) := ⟨_, rfl⟩
  have hB0 : Below w.heap.size w W0 := by rw [hW0]; exact (below_one _ _).alloc (by simp) _
  have hsize : W0.heap.size = w.heap.size + 2 := by rw [hW0]; simp
  have hbr : w.heap.size < W0.heap.size := by omega
  have hbt : w.heap.size + 1 < W0.heap.size := by omega
  have cr : W0.cell? ⟨w.heap.size, 0, none⟩ = some (.pointer (some ⟨N, 0, none⟩)) := by rw [hW0]; exact cell_alloc_sl _ (cell_new_sl w _ _)
  have ct : W0.cell? ⟨w.heap.size + 1, 0, none⟩ = some (.int .i64 t) := by rw [hW0]; have := cell_new_sl (w.alloc (.cells #[.pointer (some ⟨N, 0, none⟩)] 24)) (.int .i64 t) 2; rwa [World.size_alloc] at this
  have hR := h.old hB0
  obtain ⟨hN, a, cap, hc, hV⟩ := hR
  have hv1 := hV.2.1
  have hv2 : cap ≤ 9223372036854775807 := hV.2.2.1
  have HS : Hid (∀ W, Below W0.heap.size W0 W → Calls Tryd.prog 37 #[.int .i64 ps.length, .func (.func 36) #[] #[.pointer (some ⟨w.heap.size, 0, none⟩), .pointer (some ⟨w.heap.size + 1, 0, none⟩)]] W fun e w' => e = .returned (.int .i64 (atN ps t)) ∧ Below W.heap.size W w') := fun W hW => by
    have hb := hW.size
    exact search_any hs ((hW.cell (p := ⟨w.heap.size, 0, none⟩) hbr).trans cr) (by omega) ((hW.cell (p := ⟨w.heap.size + 1, 0, none⟩) hbt).trans ct) (by omega) (RingAt.old ⟨hN, a, cap, hc, hV⟩ hW) (by omega)
  have HC : Hid (∀ W, Below W0.heap.size W0 W → W.cell? ⟨w.heap.size, 0, none⟩ = some (.pointer (some ⟨N, 0, none⟩)) ∧ W.cell? ⟨N, 0, none⟩ = some (.slice a ps.length cap)) := fun W hW =>
    ⟨(hW.cell (p := ⟨w.heap.size, 0, none⟩) hbr).trans cr, (hW.cell (p := ⟨N, 0, none⟩) hN).trans hc⟩
  obtain ⟨n, hn⟩ : ∃ n : Nat, n = ps.length := ⟨_, rfl⟩
  obtain ⟨k, hk⟩ : ∃ k : Nat, k = atN ps t := ⟨_, rfl⟩
  have HK : Hid (fstN ps t = k % n) := by show _ = _; unfold fstN; rw [hk, hn]
  have hkn : k ≤ n := by rw [hk, hn]; exact atN_le ps t
  have hn0 : 0 < n := by omega
  have hn1 : n ≤ 1000000 := by omega
  have hz : ¬ n = 0 := by omega
  have hrem : (k : Int).tmod (n : Int) = ((k % n : Nat) : Int) := by rw [Int.ofNat_tmod]
  rw [← hn] at hc HS HC
  rw [← hk] at HS
  have HB : Hid (Below w.heap.size w W0) := hB0
  obtain ⟨f1, f2⟩ := HC.out W0 (Below.refl _ _)
  obtain ⟨f3, f4⟩ := HC.out W0.drew (Below.refl W0.heap.size W0).drew
  clear hV h hs hp hl hn hk hB0 cr ct hc
  go_enter Tryd.func26, Tryd.ntmps26
  go_wp2_with fail
  rw [← hW0]
  go_region_held3 (fun W => W.cell? ⟨w.heap.size, 0, none⟩ = some (.pointer (some ⟨N, 0, none⟩)) ∧ W.cell? ⟨N, 0, none⟩ = some (.slice a n cap)) (first | assumption | (refine ⟨?_, ?_⟩ <;> assumption)) (first
    | (go_at_call 37; rw [← hW0]; refine (HS.out _ (Below.refl W0.heap.size W0).drew).mono ?_; rintro e w1 ⟨rfl, HB1⟩; obtain ⟨g1, g2⟩ := HC.out w1 ((Below.refl W0.heap.size W0).drew.trans HB1)))
  go_wp2_with fail
  go_ret
  refine ⟨by rw [HK.out]; rfl, HB.out.trans (((Below.refl W0.heap.size W0).drew.trans HB1).mono (by omega))⟩
end Go.Proofs.YtohkpihjkaffoaaDoor
