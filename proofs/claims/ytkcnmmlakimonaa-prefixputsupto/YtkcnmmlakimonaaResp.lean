/-
  The contracts of the functions that make the readers, and of the prefixes of responses and requests.
-/
import Derived.Test.YtkcnmmlakimonaaRead
namespace Go.Proofs.Ytkcnmmlakimonaa
open Go.RowKit
set_option maxRecDepth 100000
set_option linter.unusedVariables false
set_option linter.unusedSimpArgs false

set_option maxHeartbeats 400000 in
theorem mkT (p : Nat) (w : World) : Calls Try.prog 16 #[.pointer (some ⟨p, 0, none⟩)] w fun e w' => ∃ bx, e = .returned (.agg #[.int .u8 2, .func (.func 29) #[] #[.pointer (some ⟨bx, 0, none⟩)]]) ∧
    Hid (w'.heap[bx]? = some (.cells #[.pointer (some ⟨p, 0, none⟩)] 54 (0, 0))) ∧ Hid (w.heap.size ≤ bx) ∧ Hid (Below w.heap.size w w') := by
  go_enter Try.func16, Try.ntmps16
  go_wp2_with fail
  exact bodyPost_ret (v := .agg #[.int .u8 2, .func (.func 29) #[] #[.pointer (some ⟨w.heap.size, 0, none⟩)]]) (by simp [results, Try.results16, go_sem]) rfl
    ⟨w.heap.size, rfl, blk_old (heap_alloc_new w _) (below_one _ _), Nat.le_refl _, (below_one w _).alloc (by simp) _⟩
set_option maxHeartbeats 400000 in
theorem mkW (p : Nat) (w : World) : Calls Try.prog 17 #[.pointer (some ⟨p, 0, none⟩)] w fun e w' => ∃ bx, e = .returned (.agg #[.int .u8 8, .func (.func 31) #[] #[.pointer (some ⟨bx, 0, none⟩)]]) ∧
    Hid (w'.heap[bx]? = some (.cells #[.pointer (some ⟨p, 0, none⟩)] 54 (0, 0))) ∧ Hid (w.heap.size ≤ bx) ∧ Hid (Below w.heap.size w w') := by
  go_enter Try.func17, Try.ntmps17
  go_wp2_with fail
  exact bodyPost_ret (v := .agg #[.int .u8 8, .func (.func 31) #[] #[.pointer (some ⟨w.heap.size, 0, none⟩)]]) (by simp [results, Try.results17, go_sem]) rfl
    ⟨w.heap.size, rfl, blk_old (heap_alloc_new w _) (below_one _ _), Nat.le_refl _, (below_one w _).alloc (by simp) _⟩
set_option maxHeartbeats 400000 in
theorem mkP (p : Nat) (w : World) : Calls Try.prog 18 #[.pointer (some ⟨p, 0, none⟩)] w fun e w' => ∃ bx, e = .returned (.agg #[.int .u8 4, .func (.func 33) #[] #[.pointer (some ⟨bx, 0, none⟩)]]) ∧
    Hid (w'.heap[bx]? = some (.cells #[.pointer (some ⟨p, 0, none⟩)] 54 (0, 0))) ∧ Hid (w.heap.size ≤ bx) ∧ Hid (Below w.heap.size w w') := by
  go_enter Try.func18, Try.ntmps18
  go_wp2_with fail
  exact bodyPost_ret (v := .agg #[.int .u8 4, .func (.func 33) #[] #[.pointer (some ⟨w.heap.size, 0, none⟩)]]) (by simp [results, Try.results18, go_sem]) rfl
    ⟨w.heap.size, rfl, blk_old (heap_alloc_new w _) (below_one _ _), Nat.le_refl _, (below_one w _).alloc (by simp) _⟩

/-- The variables of a result and of what is read, both new. -/
def W0 (w : World) : World := (w.alloc (.cells #[.slice none 0 0, .slice none 0 0, .slice none 0 0] 27)).alloc (.cells #[.slice none 0 0, .slice none 0 0, .slice none 0 0] 27)

theorem W0_size (w : World) : (W0 w).heap.size = w.heap.size + 2 := by simp [W0]
theorem W0_res (w : World) : (W0 w).heap[w.heap.size]? = some (.cells #[.slice none 0 0, .slice none 0 0, .slice none 0 0] 27 (0, 0)) := blk_old (heap_alloc_new w _) (below_one _ _)
theorem W0_p (w : World) : (W0 w).heap[w.heap.size + 1]? = some (.cells #[.slice none 0 0, .slice none 0 0, .slice none 0 0] 27 (0, 0)) := by
  have := heap_alloc_new (w.alloc (.cells #[.slice none 0 0, .slice none 0 0, .slice none 0 0] 27)) (.cells #[.slice none 0 0, .slice none 0 0, .slice none 0 0] 27)
  simpa [W0] using this
theorem W0_below (w : World) : Below w.heap.size w (W0 w) := (below_one w _).alloc (by simp) _

/-- What is there when the reading begins. -/
def Start (w W : World) (a : Option Addr) (len cap : Nat) (zs : List Int) : Prop :=
  PIn W (w.heap.size + 2) (w.heap.size + 1) [] [] [] ∧ IsB W a len cap zs ∧ (∀ q, a = some q → 0 < zs.length → q.block < w.heap.size) ∧ W.heap[w.heap.size]? = some (.cells #[.slice none 0 0, .slice none 0 0, .slice none 0 0] 27 (0, 0)) ∧ Below w.heap.size w W

theorem start_of {w W : World} {a : Option Addr} {len cap : Nat} {zs : List Int} (h : IsB w a len cap zs) (hB : Below (W0 w).heap.size (W0 w) W) : Start w W a len cap zs := by
  have hB0 : Below w.heap.size w W := (W0_below w).trans (hB.mono (by rw [W0_size]; omega))
  refine ⟨⟨by omega, by have := hB.size; rw [W0_size] at this; exact this, none, 0, 0, .slice none 0 0, .slice none 0 0, blk_old (W0_p w) hB, isB_nil _, Fresh.none, own_nil _ _ _ _ _, own_nil _ _ _ _ _⟩, h.old hB0, h.lt, blk_old (W0_res w) hB, hB0⟩

/-- What is answered: a prefix, seen. -/
def PV (w : World) (t : Option Addr) (lt ct : Nat) (v1 : Option Addr) (l1 c1 : Nat) (v2 : Option Addr) (l2 c2 : Nat) (x : Pre) : Prop :=
  IsB w t lt ct x.1 ∧ View 1 VS w v1 l1 c1 x.2.1 ∧ View 3 VE w v2 l2 c2 x.2.2

theorem PV.old {w W : World} {t : Option Addr} {lt ct : Nat} {v1 : Option Addr} {l1 c1 : Nat} {v2 : Option Addr} {l2 c2 : Nat} {x : Pre} (h : PV w t lt ct v1 l1 c1 v2 l2 c2 x) (hB : Below w.heap.size w W) : PV W t lt ct v1 l1 c1 v2 l2 c2 x :=
  ⟨h.1.old hB, h.2.1.old stays_s hB, h.2.2.old stays_e hB⟩

theorem pv_nil (w : World) : PV w none 0 0 none 0 0 none 0 0 default := ⟨isB_nil _, view_nil _ _ _, view_nil _ _ _⟩

/-- What is left: the bytes behind, or none. -/
def Lft (w : World) (r : Option Addr) (lr cr : Nat) (zs : List Int) (d : Nat) (er : Int) : Prop := (er = 0 → IsB w r lr cr (zs.drop d) ∧ d ≤ zs.length) ∧ (er ≠ 0 → r = none ∧ lr = 0 ∧ cr = 0)

/-- What was read, when it is laid into the result. -/
theorem at_end {wr : World} {base p n lim : Nat} {zs : List Int} {r : Option Addr} {lr cr : Nat} {W : World} {T : List Int} {ws : List ByteArray} {es : List En} {d : Nat} (h : At W wr base p lim zs r lr cr T ws es d) (hn : n < base) (hw : lim ≤ n) :
    ∃ t lt ct v1 l1 c1 v2 l2 c2, (wr.cell? ⟨p, 0, none⟩ = some (.slice t lt ct) ∧ wr.cell? ⟨p, 1, none⟩ = some (.slice v1 l1 c1) ∧ wr.cell? ⟨p, 2, none⟩ = some (.slice v2 l2 c2)) ∧
      ∀ x0 x1 x2, PV (((wr.setCell ⟨n, 0, none⟩ x0).setCell ⟨n, 1, none⟩ x1).setCell ⟨n, 2, none⟩ x2) t lt ct v1 l1 c1 v2 l2 c2 (T, ws, es) ∧ IsB (((wr.setCell ⟨n, 0, none⟩ x0).setCell ⟨n, 1, none⟩ x1).setCell ⟨n, 2, none⟩ x2) r lr cr (zs.drop d) := by
  obtain ⟨⟨hp, hb, t, lt, ct, vw, ve, hh, h1, h2, h3, h4⟩, h5, h6, h7, h8⟩ := h
  obtain ⟨v1, c1, rfl, _, _⟩ := h3.view
  obtain ⟨v2, c2, rfl, _, _⟩ := h4.view
  obtain ⟨k0, k1, k2, _⟩ := three_cells hh
  refine ⟨t, lt, ct, v1, _, c1, v2, _, c2, ⟨k0, k1, k2⟩, fun x0 x1 x2 => ⟨⟨bytes_stay h1 (three_far _ _ _ _ _) (by simp) (far_of h2 hn), ?_, ?_⟩, ?_⟩⟩
  · obtain ⟨a, c, e, hv, _⟩ := (h3.kept stays_s (three_far wr n x0 x1 x2) (by simp) (fun k e => by cases e; exact hn)).view
    cases e
    exact hv
  · obtain ⟨a, c, e, hv, _⟩ := (h4.kept stays_e (three_far wr n x0 x1 x2) (by simp) (fun k e => by cases e; exact hn)).view
    cases e
    exact hv
  · refine h5.kept (S := fun k => k = n) ((((Kept.refl (fun k => k = n) wr).setCell (p := ⟨n, 0, none⟩) (fun _ => rfl) _).setCell (p := ⟨n, 1, none⟩) (fun _ => rfl) _).setCell (p := ⟨n, 2, none⟩) (fun _ => rfl) _) (fun q e hl hq => by have := h7 q e (by rw [h5.1]; exact hl); omega)

set_option maxHeartbeats 2000000 in
theorem resp_any {w : World} {a : Option Addr} {len cap : Nat} {zs : List Int} (f : Int) (h : IsB w a len cap zs) (hsm : len ≤ 140737488351232) {Y : Res Pre} (hY : Y = rest0 f zs) :
    Calls Try.prog 8 #[.int .u8 f, .slice a len cap] w fun e w' => ∃ t lt ct v1 l1 c1 v2 l2 c2 r lr cr, e = .returned (.tuple #[.agg #[.slice t lt ct, .slice v1 l1 c1, .slice v2 l2 c2], .slice r lr cr, .int .i64 Y.err]) ∧
      Hid (Y.err = 0 → PV w' t lt ct v1 l1 c1 v2 l2 c2 Y.val) ∧ Hid (Y.err ≠ 0 → t = none ∧ lt = 0 ∧ ct = 0 ∧ v1 = none ∧ l1 = 0 ∧ c1 = 0 ∧ v2 = none ∧ l2 = 0 ∧ c2 = 0) ∧ Hid (Lft w' r lr cr zs Y.done Y.err) ∧ Hid (Below w.heap.size w w') := by
  have H : Hid (IsB w a len cap zs) := h
  have HY : Hid (Y = rest0 f zs) := hY
  clear h hY
  go_enter Try.func8, Try.ntmps8
  go_wp2_with fail
  refine (mkT (w.heap.size + 1) _).mono ?_
  rintro e w1 ⟨b1, rfl, HX1, HN1, HB1⟩
  go_wp2_with fail
  refine (mkW (w.heap.size + 1) _).mono ?_
  rintro e w2 ⟨b2, rfl, HX2, HN2, HB2⟩
  go_wp2_with fail
  refine (mkP (w.heap.size + 1) _).mono ?_
  rintro e w3 ⟨b3, rfl, HX3, HN3, HB3⟩
  have HW0 : Hid (Below (W0 w).heap.size (W0 w) w3) := (HB1.out.trans (HB2.out.mono HB1.out.size)).trans (HB3.out.mono (Nat.le_trans HB1.out.size HB2.out.size))
  have HNN : Hid (w.heap.size + 2 ≤ b1 ∧ w.heap.size + 2 ≤ b2 ∧ w.heap.size + 2 ≤ b3 ∧ w.heap.size + 2 ≤ w3.heap.size) := by
    have e0 : (W0 w).heap.size = w.heap.size + 2 := W0_size w
    have e1 : (W0 w).heap.size ≤ b1 := HN1.out
    have e2 := HN2.out
    have e3 := HN3.out
    have s1 : (W0 w).heap.size ≤ w1.heap.size := HB1.out.size
    have s2 := HB2.out.size
    have s3 := HB3.out.size
    refine ⟨?_, ?_, ?_, ?_⟩ <;> omega
  have HST : Hid (Start w (w3.alloc (.cells (parts3 b1 b2 b3) 52)) a len cap zs) := start_of H.out (HW0.out.alloc HW0.out.size _)
  have HLI : Hid (Lies3 (w3.alloc (.cells (parts3 b1 b2 b3) 52)) (w.heap.size + 1) w3.heap.size b1 b2 b3) := by
    obtain ⟨n1, n2, n3, n4⟩ := HNN.out
    exact ⟨heap_alloc_new w3 _, blk_old HX1.out ((HB2.out.trans (HB3.out.mono HB2.out.size)).alloc (Nat.le_trans HB2.out.size HB3.out.size) _), blk_old HX2.out (HB3.out.alloc HB3.out.size _), blk_old HX3.out (below_one _ _), by omega, by omega, by omega, by omega⟩
  clear HX1 HX2 HX3 HN1 HN2 HN3 HB1 HB2 HB3 HW0
  go_wp2_with fail
  refine (read3 (lim := w.heap.size) HLI.out f HST.out.1 HST.out.2.1 hsm (by omega) HST.out.2.2.1 HY.out).mono ?_
  rintro e w4 ⟨r, lr, cr, rfl, HLR, hK, HAT⟩
  have hres : w4.heap[w.heap.size]? = some (.cells #[.slice none 0 0, .slice none 0 0, .slice none 0 0] 27 (0, 0)) := (hK.block _ (block_lt HST.out.2.2.2.1) (by omega)).trans HST.out.2.2.2.1
  have hs4 := block_lt hres
  obtain ⟨k0, k1, k2, f0, f1, f2⟩ := three_cells hres
  have HB4 : Hid (Below w.heap.size w w4) := HST.out.2.2.2.2.trans (hK.below HST.out.2.2.2.2.size (fun k _ e => by omega))
  clear hres hK
  by_cases he : Y.err = 0
  · obtain ⟨t, lt, ct, v1, l1, c1, v2, l2, c2, ⟨q0, q1, q2⟩, HPV⟩ := at_end (n := w.heap.size) (HAT.out he) (by omega) (Nat.le_refl _)
    have HPW : Hid (∀ x0 x1 x2, PV (((w4.setCell ⟨w.heap.size, 0, none⟩ x0).setCell ⟨w.heap.size, 1, none⟩ x1).setCell ⟨w.heap.size, 2, none⟩ x2) t lt ct v1 l1 c1 v2 l2 c2 Y.val ∧ IsB (((w4.setCell ⟨w.heap.size, 0, none⟩ x0).setCell ⟨w.heap.size, 1, none⟩ x1).setCell ⟨w.heap.size, 2, none⟩ x2) r lr cr (zs.drop Y.done)) := HPV
    have HD : Hid (Y.done ≤ zs.length) := (HAT.out he).2.2.1
    have HE : Hid (Y.err = 0) := he
    clear HPV HLR HAT
    rw [he]
    clear he
    go_wp2_with fail
    exact bodyPost_ret (v := .tuple #[.agg #[.slice t lt ct, .slice v1 l1 c1, .slice v2 l2 c2], .slice r lr cr, .int .i64 0]) (by simp [results, Try.results8, go_sem, hs4, k0, k1, k2]) rfl
      ⟨t, lt, ct, v1, l1, c1, v2, l2, c2, r, lr, cr, by rw [HE.out], fun _ => (HPW.out _ _ _).1, fun h0 => absurd HE.out h0, ⟨fun _ => ⟨(HPW.out _ _ _).2, HD.out⟩, fun h0 => absurd HE.out h0⟩, ((HB4.out.setCell (p := ⟨w.heap.size, 0, none⟩) (Nat.le_refl _) _).setCell (p := ⟨w.heap.size, 1, none⟩) (Nat.le_refl _) _).setCell (p := ⟨w.heap.size, 2, none⟩) (Nat.le_refl _) _⟩
  · have t : (Y.err == 0) = false := by simpa using he
    have HE : Hid (Y.err ≠ 0) := he
    clear he HLR HAT
    go_wp2_with fail
    exact bodyPost_ret (v := .tuple #[.agg #[.slice none 0 0, .slice none 0 0, .slice none 0 0], .slice none 0 0, .int .i64 Y.err]) (by simp [results, Try.results8, go_sem, hs4, k0, k1, k2]) rfl
      ⟨none, 0, 0, none, 0, 0, none, 0, 0, none, 0, 0, rfl, fun h0 => absurd h0 HE.out, fun _ => ⟨rfl, rfl, rfl, rfl, rfl, rfl, rfl, rfl, rfl⟩, ⟨fun h0 => absurd h0 HE.out, fun _ => ⟨rfl, rfl, rfl⟩⟩, ((HB4.out.setCell (p := ⟨w.heap.size, 0, none⟩) (Nat.le_refl _) _).setCell (p := ⟨w.heap.size, 1, none⟩) (Nat.le_refl _) _).setCell (p := ⟨w.heap.size, 2, none⟩) (Nat.le_refl _) _⟩
set_option maxHeartbeats 2000000 in
theorem req_any {w : World} {a : Option Addr} {len cap : Nat} {zs : List Int} (f : Int) (h : IsB w a len cap zs) (hsm : len ≤ 140737488351232) {Y : Res Pre} (hY : Y = rest2 f zs [] [] 0) :
    Calls Try.prog 10 #[.int .u8 f, .slice a len cap] w fun e w' => ∃ t lt ct v1 l1 c1 v2 l2 c2 r lr cr, e = .returned (.tuple #[.agg #[.slice t lt ct, .slice v1 l1 c1, .slice v2 l2 c2], .slice r lr cr, .int .i64 Y.err]) ∧
      Hid (Y.err = 0 → PV w' t lt ct v1 l1 c1 v2 l2 c2 Y.val) ∧ Hid (Y.err ≠ 0 → t = none ∧ lt = 0 ∧ ct = 0 ∧ v1 = none ∧ l1 = 0 ∧ c1 = 0 ∧ v2 = none ∧ l2 = 0 ∧ c2 = 0) ∧ Hid (Lft w' r lr cr zs Y.done Y.err) ∧ Hid (Below w.heap.size w w') := by
  have H : Hid (IsB w a len cap zs) := h
  have HY : Hid (Y = rest2 f zs [] [] 0) := hY
  clear h hY
  go_enter Try.func10, Try.ntmps10
  go_wp2_with fail
  refine (mkP (w.heap.size + 1) _).mono ?_
  rintro e w3 ⟨b3, rfl, HX3, HN3, HB3⟩
  have HW0 : Hid (Below (W0 w).heap.size (W0 w) w3) := HB3.out
  have HNN : Hid (w.heap.size + 2 ≤ b3 ∧ w.heap.size + 2 ≤ w3.heap.size) := by
    have e0 : (W0 w).heap.size = w.heap.size + 2 := W0_size w
    have e1 : (W0 w).heap.size ≤ b3 := HN3.out
    have s1 : (W0 w).heap.size ≤ w3.heap.size := HB3.out.size
    refine ⟨?_, ?_⟩ <;> omega
  have HST : Hid (Start w (w3.alloc (.cells #[.int .u8 4, .func (.func 33) #[] #[.pointer (some ⟨b3, 0, none⟩)]] 52)) a len cap zs) := start_of H.out (HW0.out.alloc HW0.out.size _)
  have HLI : Hid (Lies1 (w3.alloc (.cells #[.int .u8 4, .func (.func 33) #[] #[.pointer (some ⟨b3, 0, none⟩)]] 52)) (w.heap.size + 1) w3.heap.size b3) := by
    obtain ⟨n3, n4⟩ := HNN.out
    exact ⟨heap_alloc_new w3 _, blk_old HX3.out (below_one _ _), by omega, by omega⟩
  clear HX3 HN3 HB3 HW0
  go_wp2_with fail
  refine (read1 (lim := w.heap.size) HLI.out f HST.out.1 HST.out.2.1 hsm (by omega) HST.out.2.2.1 HY.out).mono ?_
  rintro e w4 ⟨r, lr, cr, rfl, HLR, hK, HAT⟩
  have hres : w4.heap[w.heap.size]? = some (.cells #[.slice none 0 0, .slice none 0 0, .slice none 0 0] 27 (0, 0)) := (hK.block _ (block_lt HST.out.2.2.2.1) (by omega)).trans HST.out.2.2.2.1
  have hs4 := block_lt hres
  obtain ⟨k0, k1, k2, f0, f1, f2⟩ := three_cells hres
  have HB4 : Hid (Below w.heap.size w w4) := HST.out.2.2.2.2.trans (hK.below HST.out.2.2.2.2.size (fun k _ e => by omega))
  clear hres hK
  by_cases he : Y.err = 0
  · obtain ⟨t, lt, ct, v1, l1, c1, v2, l2, c2, ⟨q0, q1, q2⟩, HPV⟩ := at_end (n := w.heap.size) (HAT.out he) (by omega) (Nat.le_refl _)
    have HPW : Hid (∀ x0 x1 x2, PV (((w4.setCell ⟨w.heap.size, 0, none⟩ x0).setCell ⟨w.heap.size, 1, none⟩ x1).setCell ⟨w.heap.size, 2, none⟩ x2) t lt ct v1 l1 c1 v2 l2 c2 Y.val ∧ IsB (((w4.setCell ⟨w.heap.size, 0, none⟩ x0).setCell ⟨w.heap.size, 1, none⟩ x1).setCell ⟨w.heap.size, 2, none⟩ x2) r lr cr (zs.drop Y.done)) := HPV
    have HD : Hid (Y.done ≤ zs.length) := (HAT.out he).2.2.1
    have HE : Hid (Y.err = 0) := he
    clear HPV HLR HAT
    rw [he]
    clear he
    go_wp2_with fail
    exact bodyPost_ret (v := .tuple #[.agg #[.slice t lt ct, .slice v1 l1 c1, .slice v2 l2 c2], .slice r lr cr, .int .i64 0]) (by simp [results, Try.results10, go_sem, hs4, k0, k1, k2]) rfl
      ⟨t, lt, ct, v1, l1, c1, v2, l2, c2, r, lr, cr, by rw [HE.out], fun _ => (HPW.out _ _ _).1, fun h0 => absurd HE.out h0, ⟨fun _ => ⟨(HPW.out _ _ _).2, HD.out⟩, fun h0 => absurd HE.out h0⟩, ((HB4.out.setCell (p := ⟨w.heap.size, 0, none⟩) (Nat.le_refl _) _).setCell (p := ⟨w.heap.size, 1, none⟩) (Nat.le_refl _) _).setCell (p := ⟨w.heap.size, 2, none⟩) (Nat.le_refl _) _⟩
  · have t : (Y.err == 0) = false := by simpa using he
    have HE : Hid (Y.err ≠ 0) := he
    clear he HLR HAT
    go_wp2_with fail
    exact bodyPost_ret (v := .tuple #[.agg #[.slice none 0 0, .slice none 0 0, .slice none 0 0], .slice none 0 0, .int .i64 Y.err]) (by simp [results, Try.results10, go_sem, hs4, k0, k1, k2]) rfl
      ⟨none, 0, 0, none, 0, 0, none, 0, 0, none, 0, 0, rfl, fun h0 => absurd h0 HE.out, fun _ => ⟨rfl, rfl, rfl, rfl, rfl, rfl, rfl, rfl, rfl⟩, ⟨fun h0 => absurd h0 HE.out, fun _ => ⟨rfl, rfl, rfl⟩⟩, ((HB4.out.setCell (p := ⟨w.heap.size, 0, none⟩) (Nat.le_refl _) _).setCell (p := ⟨w.heap.size, 1, none⟩) (Nat.le_refl _) _).setCell (p := ⟨w.heap.size, 2, none⟩) (Nat.le_refl _) _⟩
end Go.Proofs.Ytkcnmmlakimonaa
