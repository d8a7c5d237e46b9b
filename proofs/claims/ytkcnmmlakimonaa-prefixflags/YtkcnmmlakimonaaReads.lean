/-
  PrefixReads walked: it answers true, and turns nothing that was there.
-/
import Derived.Test.YtkcnmmlakimonaaLawKit
import Derived.BigQuiet
namespace Go.Proofs.Ytkcnmmlakimonaa
open Go.RowKit
set_option maxRecDepth 100000
set_option linter.unusedVariables false
set_option linter.unusedSimpArgs false

/-- What the blocks of the four answers hold. -/
def Four (W : World) (j1 j2 j3 j4 : Nat) (x1 x2 x3 y1 y2 y3 u1 u2 u3 z1 z2 z3 : Value) : Prop :=
  (W.cell? ⟨j1, 0, none⟩ = some x1 ∧ W.cell? ⟨j1, 1, none⟩ = some x2 ∧ W.cell? ⟨j1, 2, none⟩ = some x3) ∧ (W.cell? ⟨j2, 0, none⟩ = some y1 ∧ W.cell? ⟨j2, 1, none⟩ = some y2 ∧ W.cell? ⟨j2, 2, none⟩ = some y3) ∧
  (W.cell? ⟨j3, 0, none⟩ = some u1 ∧ W.cell? ⟨j3, 1, none⟩ = some u2 ∧ W.cell? ⟨j3, 2, none⟩ = some u3) ∧ (W.cell? ⟨j4, 0, none⟩ = some z1 ∧ W.cell? ⟨j4, 1, none⟩ = some z2 ∧ W.cell? ⟨j4, 2, none⟩ = some z3)

theorem cells3_of {w W : World} {j : Nat} {x1 x2 x3 : Value} {t : TypeId} (h : w.heap[j]? = some (.cells #[x1, x2, x3] t (0, 0))) (hB : Below w.heap.size w W) : W.cell? ⟨j, 0, none⟩ = some x1 ∧ W.cell? ⟨j, 1, none⟩ = some x2 ∧ W.cell? ⟨j, 2, none⟩ = some x3 := by
  obtain ⟨k0, k1, k2, _⟩ := three_cells (blk_old h hB)
  exact ⟨k0, k1, k2⟩

theorem below_drewN (w : World) (n : Nat) : Below w.heap.size w (w.drewN n) := ⟨rfl, rfl, rfl, Nat.le_refl _, fun _ _ => rfl⟩

theorem reads_long (f : Int) (a : Option Addr) (len cap : Nat) (w : World) (h : 2000 < len) : Calls Try.prog 3 #[.int .u8 f, .slice a len cap] w fun e w' => e = .returned (.bool true) ∧ Below w.heap.size w w' := by
  have t0 : decide ((2000 : Int) < len) = true := by simp; omega
  clear h
  go_enter Try.func3, Try.ntmps3
  go_wp2_with fail
  refine (awake7 _).mono ?_
  rintro e w1 ⟨rfl, HB1⟩
  go_wp2_with fail
  go_ret
  exact ⟨rfl, HB1.out⟩

set_option maxHeartbeats 40000000 in
theorem reads_walk (f : Int) (h0 : 0 ≤ f) (h1 : f ≤ 255) (a : Option Addr) (len cap : Nat) (zs : List Int) (w : World) (h : IsB w a len cap zs) (hl : len ≤ 2000) :
    Calls Try.prog 3 #[.int .u8 f, .slice a len cap] w fun e w' => e = .returned (.bool true) ∧ Below w.heap.size w w' := by
  have t0 : decide ((2000 : Int) < len) = false := by simp; omega
  have H : Hid (IsB w a len cap zs) := h
  have HL : Hid (len ≤ 140737488351232) := (by omega : len ≤ 140737488351232)
  have H01 : Hid (0 ≤ f ∧ f ≤ 255) := ⟨h0, h1⟩
  have HZL : Hid (zs.length = len) := h.1
  obtain ⟨Y, hY⟩ : ∃ Y, Y = rest0 f zs := ⟨_, rfl⟩
  obtain ⟨Z, hZ⟩ : ∃ Z, Z = rest2 f zs [] [] 0 := ⟨_, rfl⟩
  have HY : Hid (Y = rest0 f zs) := hY
  have HZ : Hid (Z = rest2 f zs [] [] 0) := hZ
  obtain ⟨s, hs⟩ : ∃ s, s = strOfNums Y.val.1 := ⟨_, rfl⟩
  obtain ⟨I1, hI1⟩ : ∃ I, I = Y.val.2.1.map keyIt := ⟨_, rfl⟩
  obtain ⟨I2, hI2⟩ : ∃ I, I = Y.val.2.2.map entryIt := ⟨_, rfl⟩
  obtain ⟨s', hs'⟩ : ∃ s, s = strOfNums Z.val.1 := ⟨_, rfl⟩
  obtain ⟨J1, hJ1⟩ : ∃ I, I = Z.val.2.1.map keyIt := ⟨_, rfl⟩
  obtain ⟨J2, hJ2⟩ : ∃ I, I = Z.val.2.2.map entryIt := ⟨_, rfl⟩
  obtain ⟨P, hP⟩ : ∃ P, P = place 0 Y := ⟨_, rfl⟩
  obtain ⟨Q, hQ⟩ : ∃ P, P = place 0 Z := ⟨_, rfl⟩
  have HS : Hid (s = strOfNums Y.val.1 ∧ I1 = Y.val.2.1.map keyIt ∧ I2 = Y.val.2.2.map entryIt ∧ P = place 0 Y) := ⟨hs, hI1, hI2, hP⟩
  have HT : Hid (s' = strOfNums Z.val.1 ∧ J1 = Z.val.2.1.map keyIt ∧ J2 = Z.val.2.2.map entryIt ∧ Q = place 0 Z) := ⟨hs', hJ1, hJ2, hQ⟩
  clear h hl h0 h1 hY hZ hs hI1 hI2 hs' hJ1 hJ2 hP hQ
  go_enter Try.func3, Try.ntmps3
  go_wp2_with fail
  refine (awake7 _).mono ?_
  rintro e w1 ⟨rfl, HB1⟩
  go_wp2_with fail
  refine (resp_pv f (H.out.old HB1.out) HL.out HY.out).mono ?_
  rintro e w2 ⟨t, lt, ct, v1, l1, c1, v2, l2, c2, r, lr, cr, rfl, HV2, HN2, HL2, HB2⟩
  have HB02 : Hid (Below w.heap.size w w2) := HB1.out.trans (HB2.out.mono HB1.out.size)
  clear HB1 HB2
  go_wp2_with fail
  refine (rget7_resp f H01.out.1 H01.out.2 (H.out.old (HB02.out.alloc HB02.out.size _)) HY.out).mono ?_
  rintro e w3 ⟨a1, k1, a2, k2, rfl, HV3, HW3, HB3⟩
  rw [← HS.out.1, ← HS.out.2.1, ← HS.out.2.2.1, ← HS.out.2.2.2]
  rw [← HS.out.2.1] at HV3
  rw [← HS.out.2.2.1] at HW3
  have HC3 : Hid (Below w2.heap.size w2 w3) := (below_one w2 _).trans (HB3.out.mono (by simp))
  have HQ3 : Hid (w3.heap[w2.heap.size]? = some (.cells #[.slice t lt ct, .slice v1 l1 c1, .slice v2 l2 c2] 27 (0, 0))) := blk_old (heap_alloc_new w2 _) HB3.out
  have HB03 : Hid (Below w.heap.size w w3) := HB02.out.trans (HC3.out.mono HB02.out.size)
  clear HB3
  go_wp2_with fail
  refine (req_pv f (H.out.old (HB03.out.alloc HB03.out.size _)) HL.out HZ.out).mono ?_
  rintro e w4 ⟨t', lt', ct', v1', l1', c1', v2', l2', c2', r', lr', cr', rfl, HV4, HN4, HL4, HB4⟩
  have HC4 : Hid (Below w3.heap.size w3 w4) := (below_one w3 _).trans (HB4.out.mono (by simp))
  have HQ4 : Hid (w4.heap[w3.heap.size]? = some (.cells #[.string s, .slice a1 I1.length k1, .slice a2 I2.length k2] 33 (0, 0))) := blk_old (heap_alloc_new w3 _) HB4.out
  have HB04 : Hid (Below w.heap.size w w4) := HB03.out.trans (HC4.out.mono HB03.out.size)
  clear HB4
  go_wp2_with fail
  refine (rget7_req f H01.out.1 H01.out.2 (H.out.old (HB04.out.alloc HB04.out.size _)) HZ.out).mono ?_
  rintro e w5 ⟨a1', k1', a2', k2', rfl, HV5, HW5, HB5⟩
  rw [← HT.out.1, ← HT.out.2.1, ← HT.out.2.2.1, ← HT.out.2.2.2]
  rw [← HT.out.2.1] at HV5
  rw [← HT.out.2.2.1] at HW5
  have HC5 : Hid (Below w4.heap.size w4 w5) := (below_one w4 _).trans (HB5.out.mono (by simp))
  have HQ5 : Hid (w5.heap[w4.heap.size]? = some (.cells #[.slice t' lt' ct', .slice v1' l1' c1', .slice v2' l2' c2'] 27 (0, 0))) := blk_old (heap_alloc_new w4 _) HB5.out
  have HB05 : Hid (Below w.heap.size w w5) := HB04.out.trans (HC5.out.mono HB04.out.size)
  clear HB5
  -- the world at which all is compared
  obtain ⟨w6, hw6⟩ : ∃ w6, w6 = w5.alloc (.cells #[.string s', .slice a1' J1.length k1', .slice a2' J2.length k2'] 33) := ⟨_, rfl⟩
  have HC6 : Hid (Below w5.heap.size w5 w6) := by rw [hw6]; exact below_one w5 _
  have HD4 : Hid (Below w4.heap.size w4 w6) := HC5.out.trans (HC6.out.mono HC5.out.size)
  have HD3 : Hid (Below w3.heap.size w3 w6) := HC4.out.trans (HD4.out.mono HC4.out.size)
  have HD2 : Hid (Below w2.heap.size w2 w6) := HC3.out.trans (HD3.out.mono HC3.out.size)
  have HB06 : Hid (Below w.heap.size w w6) := HB05.out.trans (HC6.out.mono HB05.out.size)
  have HFOUR : Hid (∀ W, Below w6.heap.size w6 W → Four W w2.heap.size w3.heap.size w4.heap.size w5.heap.size (.slice t lt ct) (.slice v1 l1 c1) (.slice v2 l2 c2) (.string s) (.slice a1 I1.length k1) (.slice a2 I2.length k2) (.slice t' lt' ct') (.slice v1' l1' c1') (.slice v2' l2' c2') (.string s') (.slice a1' J1.length k1') (.slice a2' J2.length k2')) := by
    intro W hW
    exact ⟨cells3_of (blk_old HQ3.out HD3.out) hW, cells3_of (blk_old HQ4.out HD4.out) hW, cells3_of (blk_old HQ5.out HC6.out) hW, cells3_of (by rw [hw6]; exact heap_alloc_new w5 _) hW⟩
  have HPV : Hid (PV w6 t lt ct v1 l1 c1 v2 l2 c2 Y.val) := HV2.out.old HD2.out
  have HPV' : Hid (PV w6 t' lt' ct' v1' l1' c1' v2' l2' c2' Z.val) := HV4.out.old HD4.out
  have HVI : Hid (View 5 VI w6 a1 I1.length k1 I1 ∧ View 5 VI w6 a2 I2.length k2 I2) := ⟨HV3.out.old stays_i HD3.out, HW3.out.old stays_i HD3.out⟩
  have HVJ : Hid (View 5 VI w6 a1' J1.length k1' J1 ∧ View 5 VI w6 a2' J2.length k2' J2) := ⟨HV5.out.old stays_i HC6.out, HW5.out.old stays_i HC6.out⟩
  have hD : Hid (Below w6.heap.size w6 w6.drew) := (Below.refl w6.heap.size w6).drew
  have HLF : Hid (∀ W, Below w6.heap.size w6 W → (Y.err = 0 → IsB W r lr cr (zs.drop Y.done) ∧ Y.done ≤ zs.length) ∧ (Y.err ≠ 0 → r = none ∧ lr = 0 ∧ cr = 0)) := by
    intro W hW
    exact ⟨fun he => ⟨((HL2.out.1 he).1.old HD2.out).old hW, (HL2.out.1 he).2⟩, HL2.out.2⟩
  have HLG : Hid (∀ W, Below w6.heap.size w6 W → (Z.err = 0 → IsB W r' lr' cr' (zs.drop Z.done) ∧ Z.done ≤ zs.length) ∧ (Z.err ≠ 0 → r' = none ∧ lr' = 0 ∧ cr' = 0)) := by
    intro W hW
    exact ⟨fun he => ⟨((HL4.out.1 he).1.old HD4.out).old hW, (HL4.out.1 he).2⟩, HL4.out.2⟩
  have hF6 := HFOUR.out w6 (Below.refl _ _)
  have hFd := HFOUR.out _ hD.out
  unfold Four at hF6 hFd HFOUR
  have tE : (Y.err != Y.err) = false := by simp
  have tG : (Z.err != Z.err) = false := by simp
  clear HQ3 HQ4 HQ5 HC3 HC4 HC5 HC6 HD4 HD3 HD2 HB05 HB04 HB03 HB02 HV2 HV3 HV4 HV5 HW3 HW5 HL2 HL4
  go_upto_region 10 with fail
  rw [← hw6]
  clear hw6
  go_cut [73] (fun b wc => b = .bool false ∧ Hid (Below w6.heap.size w6 wc))
  case first =>
    go_region_held3 (fun W => (W.cell? ⟨w2.heap.size, 0, none⟩ = some (.slice t lt ct) ∧ W.cell? ⟨w2.heap.size, 1, none⟩ = some (.slice v1 l1 c1) ∧ W.cell? ⟨w2.heap.size, 2, none⟩ = some (.slice v2 l2 c2)) ∧ (W.cell? ⟨w3.heap.size, 0, none⟩ = some (.string s) ∧ W.cell? ⟨w3.heap.size, 1, none⟩ = some (.slice a1 I1.length k1) ∧ W.cell? ⟨w3.heap.size, 2, none⟩ = some (.slice a2 I2.length k2)) ∧
        (W.cell? ⟨w4.heap.size, 0, none⟩ = some (.slice t' lt' ct') ∧ W.cell? ⟨w4.heap.size, 1, none⟩ = some (.slice v1' l1' c1') ∧ W.cell? ⟨w4.heap.size, 2, none⟩ = some (.slice v2' l2' c2')) ∧ (W.cell? ⟨w5.heap.size, 0, none⟩ = some (.string s') ∧ W.cell? ⟨w5.heap.size, 1, none⟩ = some (.slice a1' J1.length k1') ∧ W.cell? ⟨w5.heap.size, 2, none⟩ = some (.slice a2' J2.length k2'))) (assumption) (first
      | (go_at_call 11; refine (same_old HBd.out s' HVd.out HVJ.out).mono ?_; rintro e we ⟨rfl, HBe⟩; have he := HFOUR.out _ HBe.out)
      | (go_at_call 12; refine (pof_from HBb.out HPV'.out HN4.out HT.out.1 HT.out.2.1 HT.out.2.2.1).mono ?_; rintro e wd ⟨p3, m3, p4, m4, rfl, HVd, HBd⟩; have hd := HFOUR.out _ HBd.out)
      | (go_at_call 11; refine (same_old HBa.out s HVa.out HVI.out).mono ?_; rintro e wb ⟨rfl, HBb⟩; have hb := HFOUR.out _ HBb.out)
      | (go_at_call 12; refine (pof_from hD.out HPV.out HN2.out HS.out.1 HS.out.2.1 HS.out.2.2.1).mono ?_; rintro e wa ⟨p1, m1, p2, m2, rfl, HVa, HBa⟩; have ha := HFOUR.out _ HBa.out))
    all_goals (go_wp2_with fail; go_meet; exact ⟨by simp, HBe⟩)
  case rest =>
    obtain ⟨rfl, HBC⟩ := hcut
    have HBW : Hid (Below w.heap.size w wc) := HB06.out.trans (HBC.out.mono HB06.out.size)
    clear hF6 hFd tE tG
    go_upto_region 12 with fail
    go_cut [93] (fun b wd => b = .bool false ∧ Hid (Below w6.heap.size w6 wd))
    case first =>
      by_cases he : Y.err = 0
      · obtain ⟨hI, hdl⟩ := (HLF.out wc HBC.out).1 he
        obtain ⟨a9, l9, c9, hsl, hT9⟩ := tail_of (H.out.old HBW.out) Y.done (by rw [← HZL.out]; exact hdl) P (by rw [HS.out.2.2.2, place_ok he]; simp)
        obtain ⟨R, hR⟩ : ∃ R, R = strOfNums (zs.drop Y.done) := ⟨_, rfl⟩
        have hcr : ∀ n, (convert 22 9 (.slice r lr cr)).run Try.prog (wc.drewN n) = .ok (.string R) (wc.drewN n) := fun n => by
          rw [hR]; exact (hI.old (below_drewN wc n)).conv
        have hct : ∀ n, (convert 22 9 (.slice a9 l9 c9)).run Try.prog (wc.drewN n) = .ok (.string R) (wc.drewN n) := fun n => by
          rw [hR]; exact (hT9.old (below_drewN wc n)).conv
        clear hI hdl hT9 hR
        have t1 : (Y.err == 0) = true := by simpa using he
        have t2 : (Y.err != 0) = false := by simpa using he
        clear he
        go_quiet (fail)
        go_wp2_with fail
        go_meet
        exact ⟨by simp, HBC.out.trans ((below_drewN _ _).mono HBC.out.size)⟩
      · obtain ⟨rfl, rfl, rfl⟩ := (HLF.out wc HBC.out).2 he
        have t1 : (Y.err == 0) = false := by simpa using he
        have t2 : (Y.err != 0) = true := by simpa using he
        clear he
        go_quiet (fail)
        go_wp2_with fail
        go_meet
        exact ⟨by simp, HBC.out.trans ((below_drewN _ _).mono HBC.out.size)⟩
    case rest =>
      clear HBC HBW
      obtain ⟨rfl, HBC⟩ := hcut
      have HBW : Hid (Below w.heap.size w wc) := HB06.out.trans (HBC.out.mono HB06.out.size)
      by_cases he : Z.err = 0
      · obtain ⟨hI, hdl⟩ := (HLG.out wc HBC.out).1 he
        obtain ⟨a9, l9, c9, hsl, hT9⟩ := tail_of (H.out.old HBW.out) Z.done (by rw [← HZL.out]; exact hdl) Q (by rw [HT.out.2.2.2, place_ok he]; simp)
        obtain ⟨R, hR⟩ : ∃ R, R = strOfNums (zs.drop Z.done) := ⟨_, rfl⟩
        have hcr : ∀ n, (convert 22 9 (.slice r' lr' cr')).run Try.prog (wc.drewN n) = .ok (.string R) (wc.drewN n) := fun n => by
          rw [hR]; exact (hI.old (below_drewN wc n)).conv
        have hct : ∀ n, (convert 22 9 (.slice a9 l9 c9)).run Try.prog (wc.drewN n) = .ok (.string R) (wc.drewN n) := fun n => by
          rw [hR]; exact (hT9.old (below_drewN wc n)).conv
        clear hI hdl hT9 hR
        have t1 : (Z.err == 0) = true := by simpa using he
        have t2 : (Z.err != 0) = false := by simpa using he
        clear he
        go_upto_region 14 with fail
        go_quiet (fail)
        go_wp2_with fail
        go_ret
        exact ⟨by simp, HBW.out.trans ((below_drewN _ _).mono HBW.out.size)⟩
      · obtain ⟨rfl, rfl, rfl⟩ := (HLG.out wc HBC.out).2 he
        have t1 : (Z.err == 0) = false := by simpa using he
        have t2 : (Z.err != 0) = true := by simpa using he
        clear he
        go_upto_region 14 with fail
        go_quiet (fail)
        go_wp2_with fail
        go_ret
        exact ⟨by simp, HBW.out.trans ((below_drewN _ _).mono HBW.out.size)⟩

theorem reads_any (f : Int) (a : Option Addr) (len cap : Nat) (zs : List Int) (w : World) (hf : (Lit.int .u8 f).wf = true) (h : IsRow .u8 w a len cap zs) :
    Calls Try.prog 3 #[.int .u8 f, .slice a len cap] w fun e w' => e = .returned (.bool true) ∧ Below w.heap.size w w' := by
  by_cases hl : len ≤ 2000
  · have hf' : 0 ≤ f ∧ f ≤ 255 := range_of_wf (zs := [f]) (fun n hn => by simp at hn; subst hn; exact hf) 0
    exact reads_walk f hf'.1 hf'.2 a len cap _ w h.isB hl
  · exact reads_long f a len cap w (by omega)
end Go.Proofs.Ytkcnmmlakimonaa
