/-
  Owner, Places and Walk of a ring in memory.
-/
import Derived.Test.YtohkpihjkaffoaaDoorFi
namespace Go.Proofs.YtohkpihjkaffoaaDoor
open Go.RowKit Go.Lib Go.Shelf Go.Sort Go.Maps
set_option maxRecDepth 100000
set_option linter.unusedVariables false
set_option linter.unusedSimpArgs false

def ownV (ps : List Pl) (t : Int) : ByteArray := if ps.length = 0 then ⟨#[]⟩ else ownH ps t
theorem ownV_pos {ps : List Pl} (h : 0 < ps.length) (t : Int) : ownV ps t = ownH ps t := if_neg (by omega)

theorem owner_nil (w : World) (t : Int) : Calls Tryd.prog 13 #[.pointer none, .int .i64 t] w fun e w' => e = .returned (.tuple #[.string ⟨#[]⟩, .bool false]) ∧ w' = w := by
  go_enter Tryd.func13, Tryd.ntmps13
  go_wp2_with fail
  go_ret2
  exact ⟨rfl, rfl⟩

set_option maxHeartbeats 1000000 in
theorem owner_any {w : World} {N : Nat} {ps : List Pl} {t : Int} (hs : Str ps) (h : RingAt w N ps) (hl : ps.length ≤ 1000000) {o : ByteArray} (ho : o = ownV ps t) {r : Bool} (hr : r = decide (0 < ps.length)) :
    Calls Tryd.prog 13 #[.pointer (some ⟨N, 0, none⟩), .int .i64 t] w fun e w' => e = .returned (.tuple #[.string o, .bool r]) ∧ Below w.heap.size w w' := by
  have HF : Hid (∀ W, Below w.heap.size w W → 0 < ps.length → Calls Tryd.prog 26 #[.pointer (some ⟨N, 0, none⟩), .int .i64 t] W fun e w' => e = .returned (.int .i64 (fstN ps t)) ∧ Below W.heap.size W w') := fun W hW hp => first_any hs (h.old hW) hp hl
  obtain ⟨hN, a, cap, hc, hV⟩ := h
  have hv1 := hV.2.1
  have hv2 : cap ≤ 9223372036854775807 := hV.2.2.1
  obtain ⟨n, hn⟩ : ∃ n : Nat, n = ps.length := ⟨_, rfl⟩
  by_cases hp : 0 < ps.length
  · obtain ⟨k, hk⟩ : ∃ k : Nat, k = fstN ps t := ⟨_, rfl⟩
    have hkn : k < n := by rw [hk, hn]; exact fstN_lt t hp
    obtain ⟨b, off, ha, hb, c0, c1⟩ := hV.pl (i := k) (by omega)
    subst ha
    have e : (ps.getD k default).2 = o := by rw [ho, ownV_pos hp, hk]; rfl
    rw [e] at c1
    obtain rfl : r = true := by rw [hr]; exact decide_eq_true hp
    have HF2 : Hid (∀ W, Below w.heap.size w W → Calls Tryd.prog 26 #[.pointer (some ⟨N, 0, none⟩), .int .i64 t] W fun e w' => e = .returned (.int .i64 k) ∧ Below W.heap.size W w') := fun W hW => by rw [hk]; exact HF.out W hW hp
    have HC : Hid (∀ W, Below w.heap.size w W → W.cell? ⟨N, 0, none⟩ = some (.slice (some ⟨b, off, none⟩) n cap) ∧ W.cell? ⟨b, off + k * 2 + 1, none⟩ = some (.string o)) := fun W hW =>
      ⟨(hW.cell (p := ⟨N, 0, none⟩) hN).trans (by rw [hn]; exact hc), (hW.cell (p := ⟨b, off + k * 2 + 1, none⟩) hb).trans c1⟩
    obtain ⟨f1, f2⟩ := HC.out w (Below.refl _ _)
    obtain ⟨f3, f4⟩ := HC.out w.drew (Below.refl w.heap.size w).drew
    have hn0 : ¬ n = 0 := by omega
    have hv3 : n ≤ cap := by omega
    have hk0 : (0 : Int) ≤ (k : Int) := by omega
    have hk1 : (k : Int) < (n : Int) := by omega
    clear hV hs hl ho hr hc c0 c1 e hk hn HF hp hv1
    go_enter Tryd.func13, Tryd.ntmps13
    go_wp2_with fail
    go_region_held3 (fun W => W.cell? ⟨N, 0, none⟩ = some (.slice (some ⟨b, off, none⟩) n cap) ∧ W.cell? ⟨b, off + k * 2 + 1, none⟩ = some (.string o)) (first | assumption | (refine ⟨?_, ?_⟩ <;> assumption)) (first
      | (go_at_call 26; refine (HF2.out _ (Below.refl w.heap.size w).drew).mono ?_; rintro e w1 ⟨rfl, HB1⟩; obtain ⟨g1, g2⟩ := HC.out w1 ((Below.refl w.heap.size w).drew.trans HB1)))
    go_wp2_with fail
    go_ret2
    exact ⟨rfl, (Below.refl w.heap.size w).drew.trans HB1⟩
  · have hn0 : n = 0 := by omega
    rw [← hn, hn0] at hc
    obtain rfl : r = false := by rw [hr]; exact decide_eq_false hp
    obtain rfl : o = ⟨#[]⟩ := by rw [ho]; exact if_pos (by omega)
    clear hV hs hl ho hr hn HF hp hv1
    go_enter Tryd.func13, Tryd.ntmps13
    go_wp2_with fail
    go_ret2
    exact ⟨rfl, Below.refl _ _⟩

theorem places_nil (w : World) : Calls Tryd.prog 12 #[.pointer none] w fun e w' => e = .returned (.slice none 0 0) ∧ w' = w := by
  go_enter Tryd.func12, Tryd.ntmps12
  go_wp2_with fail
  go_ret
  exact ⟨rfl, rfl⟩

theorem places_any {w : World} {N : Nat} {ps : List Pl} (h : RingAt w N ps) (hl : ps.length ≤ 1000000) :
    Calls Tryd.prog 12 #[.pointer (some ⟨N, 0, none⟩)] w fun e w' => ∃ v, e = .returned v ∧ Hid (Own 46 2 VP w' (fun k => w.heap.size ≤ k) v ps) ∧ Below w.heap.size w w' := by
  obtain ⟨hN, a, cap, hc, hV⟩ := h
  have HV : Hid (View 2 VP w a ps.length cap ps) := hV
  clear hV
  go_enter Tryd.func12, Tryd.ntmps12
  go_wp2_with (go_at_call 23; refine (clone_any HV.out hl).mono ?_; rintro e w' ⟨v, rfl, ho, hB⟩; have HO : Hid _ := ho; clear ho)
  go_ret
  exact ⟨_, rfl, HO, hB⟩

theorem view_drop {w : World} {b off n cap : Nat} {ps : List Pl} (h : View 2 VP w (some ⟨b, off, none⟩) n cap ps) {k : Nat} (hk : k ≤ n) : View 2 VP w (some ⟨b, off + k * 2, none⟩) (n - k) (cap - k) (ps.drop k) := by
  obtain ⟨h1, h2, h3, h4, h5⟩ := h
  refine ⟨by rw [List.length_drop]; omega, by omega, by omega, (fun e => by cases e), fun hp => ?_⟩
  obtain ⟨b', off', e, hb, hc⟩ := h5 (by omega)
  cases e
  refine ⟨b, _, rfl, hb, fun i hi => ?_⟩
  obtain ⟨c, hcell, hv⟩ := hc (k + i) (by omega)
  refine ⟨c, fun j hj => ?_, ?_⟩
  · rw [show off + k * 2 + (i * 2 + j) = off + ((k + i) * 2 + j) by omega]; exact hcell j hj
  · rw [List.getD_eq_getElem?_getD, List.getElem?_drop, ← List.getD_eq_getElem?_getD]; exact hv

theorem view_take {w : World} {b off n cap : Nat} {ps : List Pl} (h : View 2 VP w (some ⟨b, off, none⟩) n cap ps) {k : Nat} (hk : k ≤ n) : View 2 VP w (some ⟨b, off, none⟩) k cap (ps.take k) := by
  obtain ⟨h1, h2, h3, h4, h5⟩ := h
  refine ⟨by rw [List.length_take]; omega, by omega, h3, (fun e => by cases e), fun hp => ?_⟩
  obtain ⟨b', off', e, hb, hc⟩ := h5 (by omega)
  cases e
  refine ⟨b, _, rfl, hb, fun i hi => ?_⟩
  obtain ⟨c, hcell, hv⟩ := hc i (by omega)
  refine ⟨c, hcell, ?_⟩
  rw [List.getD_eq_getElem?_getD, List.getElem?_take, if_pos hi, ← List.getD_eq_getElem?_getD]; exact hv

theorem walk_nil (w : World) (t : Int) : Calls Tryd.prog 16 #[.pointer none, .int .i64 t] w fun e w' => e = .returned (.slice none 0 0) ∧ w' = w := by
  go_enter Tryd.func16, Tryd.ntmps16
  go_wp2_with fail
  go_ret
  exact ⟨rfl, rfl⟩

theorem gs_made (w : World) : GS w.heap.size (((w.alloc (.cells #[.slice none 0 0] 39)).alloc (.map #[] 0)).alloc (.cells #[.map (some (w.heap.size + 1))] 63)) (.slice none 0 0) [] := by
  have h1 : (w.alloc (.cells #[.slice none 0 0] 39)).heap.size = w.heap.size + 1 := by simp
  have h2 : ((w.alloc (.cells #[.slice none 0 0] 39)).alloc (.map #[] 0)).heap.size = w.heap.size + 2 := by simp
  refine ⟨?_, ?_, ?_, own_nil _ _ _ _ _⟩
  · rw [(below_one _ _).block _ (by omega), (below_one _ _).block _ (by omega)]
    exact heap_alloc_new w _
  · have := heap_alloc_new ((w.alloc (.cells #[.slice none 0 0] 39)).alloc (.map #[] 0)) (.cells #[.map (some (w.heap.size + 1))] 63)
    rwa [h2] at this
  · have := World.ownsMap_made (H := Unit) (w.alloc (.cells #[.slice none 0 0] 39)) Tryd.prog 9 unitElem
    rw [h1] at this
    exact this.alloc _

set_option maxHeartbeats 1000000 in
theorem walk_any {w : World} {N : Nat} {ps : List Pl} {t : Int} (hs : Str ps) (h : RingAt w N ps) (hl : ps.length ≤ 400000) (hz : ∀ p ∈ ps, p.2.size ≤ maxLen) :
    Calls Tryd.prog 16 #[.pointer (some ⟨N, 0, none⟩), .int .i64 t] w fun e w' => ∃ v, e = .returned v ∧ Hid (Own 9 1 VS w' (fun k => w.heap.size ≤ k) v (walkL ps t)) ∧ Below w.heap.size w w' := by
  have HR : Hid (RingAt w N ps) := h
  have HS : Hid (Str ps) := hs
  have HZ : Hid (∀ p ∈ ps, p.2.size ≤ maxLen) := hz
  obtain ⟨hN, a, cap, hc, hV⟩ := h
  have hv1 := hV.2.1
  have hv2 : cap ≤ 9223372036854775807 := hV.2.2.1
  have HV : Hid (View 2 VP w a ps.length cap ps) := hV
  have hmm := @run_makeMap Tryd.prog
  obtain ⟨n, hn⟩ : ∃ n : Nat, n = ps.length := ⟨_, rfl⟩
  by_cases hp : 0 < ps.length
  · obtain ⟨b, off, ha, hb, _⟩ := hV.2.2.2.2 hp
    subst ha
    obtain ⟨k, hk⟩ : ∃ k : Nat, k = fstN ps t := ⟨_, rfl⟩
    have hkn : k < n := by rw [hk, hn]; exact fstN_lt t hp
    obtain ⟨W, hW⟩ : ∃ W, W = ((w.alloc (.cells #[.slice none 0 0] 39)).alloc (.map #[] 0)).alloc (.cells #[.map (some (w.heap.size + 1))] 63) := ⟨_, rfl⟩
    have hG : GS w.heap.size W (.slice none 0 0) [] := by rw [hW]; exact gs_made w
    have hBW : Below w.heap.size w W := by rw [hW]; exact ((below_one _ _).alloc (by simp) _).alloc (by simp; omega) _
    have HG : Hid _ := hG
    have HBW : Hid _ := hBW
    have HF : Hid (Calls Tryd.prog 26 #[.pointer (some ⟨N, 0, none⟩), .int .i64 t] W fun e w' => e = .returned (.int .i64 k) ∧ Below W.heap.size W w') := by
      rw [hk]; exact first_any hs (HR.out.old hBW) hp (by omega)
    have hv3 : n ≤ cap := by omega
    have hn0 : ¬ n = 0 := by omega
    have hk0 : (0 : Int) ≤ (k : Int) := by omega
    have hk1 : (k : Int) ≤ (n : Int) := by omega
    have hk2 : k ≤ n := by omega
    have HN : Hid (ps.length = n) := hn.symm
    have HK : Hid (fstN ps t = k) := hk.symm
    rw [← hn] at hc
    have hl' : n ≤ 400000 := by omega
    clear hV hs hk hn hp hG hBW hl hz hv1
    go_enter Tryd.func16, Tryd.ntmps16
    go_wp2_with fail
    rw [← hW]
    refine HF.out.mono ?_
    rintro e w1 ⟨rfl, hB1⟩
    have HB1 : Hid (Below w.heap.size w w1) := HBW.out.trans (hB1.mono HBW.out.size)
    have HG1 : Hid (GS w.heap.size w1 (.slice none 0 0) []) := HG.out.later hB1
    have d1 : w1.cell? ⟨N, 0, none⟩ = some (.slice (some ⟨b, off, none⟩) n cap) := (HB1.out.cell (p := ⟨N, 0, none⟩) hN).trans hc
    have HV1 : Hid (View 2 VP w1 (some ⟨b, off, none⟩) n cap ps) := by
      have := HV.out.old stays_p HB1.out
      rw [HN.out] at this; exact this
    clear hB1 hc
    go_wp2_with fail
    refine (gather_any HG1.out (view_drop HV1.out hk2) (fun p e => by cases e; exact hb) (fun p hp => HZ.out p (List.mem_of_mem_drop hp)) (by simp; omega)).mono ?_
    rintro e w2 ⟨rfl, ⟨v2, HG2⟩, hB2⟩
    have d2 : w2.cell? ⟨N, 0, none⟩ = some (.slice (some ⟨b, off, none⟩) n cap) := (hB2.cell (p := ⟨N, 0, none⟩) hN).trans d1
    have HV2 : Hid (View 2 VP w2 (some ⟨b, off, none⟩) n cap ps) := by
      have := HV.out.old stays_p (HB1.out.trans hB2)
      rw [HN.out] at this; exact this
    have HB2 : Hid (Below w.heap.size w w2) := HB1.out.trans hB2
    clear hB2 d1 HG1 HV1
    go_wp2_with fail
    refine (gather_any HG2.out (view_take HV2.out hk2) (fun p e => by cases e; exact hb) (fun p hp => HZ.out p (List.mem_of_mem_take hp)) ?_).mono ?_
    · have := ddG_len (hsts (ps.drop k)) []
      simp only [hsts, List.length_map, List.length_drop, List.length_nil] at this
      have := HN.out
      simp only [hsts]; omega
    rintro e w3 ⟨rfl, ⟨v3, HG3⟩, hB3⟩
    have HB3 : Hid (Below w.heap.size w w3) := HB2.out.trans hB3
    have d3 := (one_cell HG3.out.boxH).1
    have HO : Hid (Own 9 1 VS w3 (fun k => w.heap.size ≤ k) v3 (walkL ps t)) := by
      have e : walkL ps t = ddG (ddG [] (hsts (ps.drop k))) (hsts (ps.take k)) := by
        unfold walkL rot
        rw [HK.out, ← ddG_append]
        simp [hsts]
      show Own _ _ _ _ _ _ _
      rw [e]
      exact HG3.out.own.wide (fun _ _ h => by omega)
    obtain ⟨x3, n3, c3, rfl⟩ := HG3.out.own.shape
    clear hB3 d2 HG2 HG3 HV2
    go_wp2_with fail
    go_ret
    exact ⟨_, rfl, HO, HB3.out⟩
  · have hn0 : n = 0 := by omega
    rw [← hn, hn0] at hc
    obtain rfl : ps = [] := List.eq_nil_of_length_eq_zero (by omega)
    clear hV hs hl hn hp hv1
    go_enter Tryd.func16, Tryd.ntmps16
    go_wp2_with fail
    go_ret
    exact ⟨_, rfl, own_nil _ _ _ _ _, Below.refl _ _⟩
end Go.Proofs.YtohkpihjkaffoaaDoor
