/-
  PrefixPuts walked, where no value has more than 1048576 bytes: it answers true, and turns nothing that was there.
-/
import Derived.Test.YtkcnmmlakimonaaCut7
namespace Go.Proofs.Ytkcnmmlakimonaa
open Go.RowKit
set_option maxRecDepth 100000
set_option linter.unusedVariables false
set_option linter.unusedSimpArgs false

set_option maxHeartbeats 2000000 in
theorem puts_big (t : Option Addr) (lt ct : Nat) (v1 : Option Addr) (l1 c1 : Nat) (v2 : Option Addr) (l2 c2 : Nat) (a : Option Addr) (len cap : Nat) (w : World) (h : 50 < l1 ∨ 50 < l2 ∨ 50 < lt ∨ 500 < len) :
    Calls Try.prog 4 #[.agg #[.slice t lt ct, .slice v1 l1 c1, .slice v2 l2 c2], .slice a len cap] w fun e w' => e = .returned (.bool true) ∧ Below w.heap.size w w' := by
  have go : ∀ (b1 b2 b3 b4 : Bool), decide ((50 : Int) < l1) = b1 → decide ((50 : Int) < l2) = b2 → decide ((50 : Int) < lt) = b3 → decide ((500 : Int) < len) = b4 → (b1 = true ∨ (b1 = false ∧ b2 = true) ∨ (b1 = false ∧ b2 = false ∧ b3 = true) ∨ (b1 = false ∧ b2 = false ∧ b3 = false ∧ b4 = true)) →
      Calls Try.prog 4 #[.agg #[.slice t lt ct, .slice v1 l1 c1, .slice v2 l2 c2], .slice a len cap] w fun e w' => e = .returned (.bool true) ∧ Below w.heap.size w w' := by
    intro b1 b2 b3 b4 t1 t2 t3 t4 hb
    rcases hb with rfl | ⟨rfl, rfl⟩ | ⟨rfl, rfl, rfl⟩ | ⟨rfl, rfl, rfl, rfl⟩
    all_goals (
      go_enter Try.func4, Try.ntmps4
      go_wp2_with fail
      refine (awake7 _).mono ?_
      rintro e w1 ⟨rfl, HB1⟩
      obtain ⟨k0, k1, k2⟩ := box3 (HB1.out.mono (by simp))
      go_wp2_with fail
      go_ret
      exact ⟨rfl, (below_one w _).trans (HB1.out.mono (by simp))⟩)
  refine go _ _ _ _ rfl rfl rfl rfl ?_
  simp only [decide_eq_true_eq, decide_eq_false_iff_not]
  omega

/-- An entry's cells. -/
theorem View.ent {w : World} {a : Option Addr} {len cap : Nat} {es : List En} (h : View 3 VE w a len cap es) {k : Nat} (hk : k < len) :
    ∃ b off a1 n1 c1, a = some ⟨b, off, none⟩ ∧ w.cell? ⟨b, off + k * 3 + 1, none⟩ = some (.int .i64 (es.getD k default).2.1) ∧ w.cell? ⟨b, off + k * 3 + 2, none⟩ = some (.slice a1 n1 c1) ∧ n1 = (es.getD k default).2.2.size := by
  obtain ⟨h1, h2, h3, h4, h5⟩ := h
  obtain ⟨b, off, ha, hb, hc⟩ := h5 (by omega)
  obtain ⟨c, hcell, hv0, hv1, a1, n1, c1, hv2, hI⟩ := hc k hk
  have e1 := hcell 1 (by omega)
  have e2 := hcell 2 (by omega)
  rw [hv1] at e1
  rw [hv2] at e2
  exact ⟨b, off, a1, n1, c1, ha, by rw [Nat.add_assoc]; exact e1, by rw [Nat.add_assoc]; exact e2, by rw [← hI.1, sNums_length]⟩

theorem empty_of {s : ByteArray} (h : s.size = 0) : s = ByteArray.empty := by
  obtain ⟨⟨l⟩⟩ := s
  have : l = [] := List.eq_nil_of_length_eq_zero h
  subst this
  rfl

set_option maxHeartbeats 16000000 in
theorem puts_small (t : Option Addr) (lt ct : Nat) (v1 : Option Addr) (l1 c1 : Nat) (v2 : Option Addr) (l2 c2 : Nat) (x : Pre) (a : Option Addr) (len cap : Nat) (zs : List Int) (w : World) (hV : PV w t lt ct v1 l1 c1 v2 l2 c2 x) (hM : IsB w a len cap zs) (s1 : ∀ s ∈ x.2.1, s.size ≤ maxLen) (s2 : ∀ y ∈ x.2.2, y.1.size ≤ maxLen ∧ y.2.2.size ≤ 1048576) (h1 : l1 ≤ 50) (h2 : l2 ≤ 50) (h3 : lt ≤ 50) (h4 : len ≤ 500) :
    Calls Try.prog 4 #[.agg #[.slice t lt ct, .slice v1 l1 c1, .slice v2 l2 c2], .slice a len cap] w fun e w' => e = .returned (.bool true) ∧ Below w.heap.size w w' := by
  have t1 : decide ((50 : Int) < l1) = false := by simp; omega
  have t2 : decide ((50 : Int) < l2) = false := by simp; omega
  have t3 : decide ((50 : Int) < lt) = false := by simp; omega
  have t4 : decide ((500 : Int) < len) = false := by simp; omega
  obtain ⟨T, ws, es⟩ := x
  have HF : Hid (Fit7 (T, ws, es)) := ⟨s1, s2, by have := hV.2.2.1; omega⟩
  obtain ⟨Y, hY⟩ : ∃ Y, Y = wr0 (T, ws, es) := ⟨_, rfl⟩
  have HY : Hid (Y = wr0 (T, ws, es)) := hY
  have HV : Hid (PV w t lt ct v1 l1 c1 v2 l2 c2 (T, ws, es)) := hV
  have HM : Hid (IsB w a len cap zs) := hM
  have hYl : Y.1.length ≤ 5000000000 := by rw [hY]; exact wr0_len HF.out
  have HBACK : Hid ((∀ y ∈ es, Plain y.2) → Y.2.2 = 0 → (⟨(T, ws, es), Y.1.length, 0⟩ : Res Pre) = rest0 Y.2.1 (Y.1 ++ zs)) := by
    rw [hY]; exact fun hp h => (read_back (fun y hy => (s2 y hy).2) hp h zs).symm
  obtain ⟨s, hs⟩ : ∃ s, s = strOfNums T := ⟨_, rfl⟩
  obtain ⟨I1, hI1⟩ : ∃ I, I = ws.map keyIt := ⟨_, rfl⟩
  obtain ⟨I2, hI2⟩ : ∃ I, I = es.map entryIt := ⟨_, rfl⟩
  have HS : Hid (s = strOfNums T ∧ I1 = ws.map keyIt ∧ I2 = es.map entryIt) := ⟨hs, hI1, hI2⟩
  have HST : Hid (sNums s = T ∧ s.size ≤ 100) := by
    refine ⟨?_, ?_⟩
    · rw [hs]; exact sNums_strOfNums hV.1.range
    · rw [hs, strOfNums_size]; have := hV.1.1; simp only at this; omega
  have HLE : Hid (es.length = l2) := hV.2.2.1
  have HL12 : Hid (l1 ≤ 100000000 ∧ l2 ≤ 100000000) := ⟨by omega, by omega⟩
  clear hV hM s1 s2 h1 h3 hY hs hI1 hI2
  go_enter Try.func4, Try.ntmps4
  go_wp2_with fail
  refine (awake7 _).mono ?_
  rintro e w1 ⟨rfl, HB1⟩
  obtain ⟨k0, k1, k2⟩ := box3 (HB1.out.mono (by simp))
  have HBX : Hid (w1.heap[w.heap.size]? = some (.cells #[.slice t lt ct, .slice v1 l1 c1, .slice v2 l2 c2] 27 (0, 0))) := blk_old (heap_alloc_new w _) HB1.out
  have HW1 : Hid (Below w.heap.size w w1) := (below_one w _).trans (HB1.out.mono (by simp))
  clear HB1
  go_wp2_with fail
  go_loopw [6] (fun i wr => ∃ (k : Nat), k ≤ l2 ∧ i = .int .i64 (k : Nat) ∧ Hid (Below w1.heap.size w1 wr) ∧ Hid (∀ j, j < k → Plain (es.getD j default).2)) (fun i _ => l2 - (intOf i).toNat)
  case atStart => exact ⟨0, by omega, rfl, Below.refl _ _, fun j hj => by omega⟩
  case round =>
    obtain ⟨k, hk, rfl, HBR, HPL⟩ := hrel
    have HWR : Hid (Below w.heap.size w wr) := HW1.out.trans (HBR.out.mono HW1.out.size)
    clear k0 k1 k2
    obtain ⟨k0, k1, k2⟩ := cells3_of0 HBX.out HBR.out
    by_cases hlt : k < l2
    · obtain ⟨b, off, a1, n1, c1', hv, e1, e2, hn1⟩ := (HV.out.2.2.old stays_e HWR.out).ent hlt
      subst hv
      obtain ⟨kd, hkd⟩ : ∃ d, d = (es.getD k default).2.1 := ⟨_, rfl⟩
      rw [← hkd] at e1
      have hcap : n1 ≤ 1048576 := by
        rw [hn1]
        have hm : es.getD k default ∈ es := by
          rw [List.getD_eq_getElem?_getD, List.getElem?_eq_getElem (by rw [HLE.out]; exact hlt)]
          exact List.getElem_mem _
        exact (HF.out.2.1 _ hm).2
      by_cases hbad : kd ≠ 2 ∧ 0 < n1
      · have u1 : (kd == 2) = false := by rw [beq_eq_false_iff_ne]; exact hbad.1
        have u2 : (kd != 2) = true := by rw [bne_iff_ne]; exact hbad.1
        have u3 : decide ((0 : Int) < (n1 : Int)) = true := decide_eq_true (by omega)
        have u4 : decide (0 < n1) = true := decide_eq_true hbad.2
        clear hbad hkd hn1
        go_wp2_with fail
        go_ret
        exact ⟨by simp, HWR.out⟩
      · have HPL2 : Hid (∀ j, j < k + 1 → Plain (es.getD j default).2) := by
          intro j hj
          by_cases hjk : j < k
          · exact HPL.out j hjk
          · obtain rfl : j = k := by omega
            intro hne
            rw [← hkd] at hne
            exact empty_of (by rw [← hn1]; omega)
        by_cases hk2 : kd = 2
        · have u1 : (kd == 2) = true := by rw [beq_iff_eq]; exact hk2
          have u2 : (kd != 2) = false := by rw [bne_eq_false_iff_eq]; exact hk2
          clear hbad hkd hn1 hk2
          go_wp2_with fail
          go_roundw
          case rel => exact ⟨k + 1, by omega, by go_num, HBR, HPL2⟩
          case measure => simp [intOf]; omega
        · have hn0 : n1 = 0 := by omega
          subst hn0
          have u1 : (kd == 2) = false := by rw [beq_eq_false_iff_ne]; exact hk2
          have u2 : (kd != 2) = true := by rw [bne_iff_ne]; exact hk2
          clear hbad hkd hn1 hk2
          go_wp2_with fail
          go_roundw
          case rel => exact ⟨k + 1, by omega, by go_num, HBR, HPL2⟩
          case measure => simp [intOf]; omega
    · have HALL : Hid (∀ y ∈ es, Plain y.2) := by
        intro y hy
        obtain ⟨j, hj, rfl⟩ := List.mem_iff_getElem.1 hy
        have := HPL.out j (by have := HLE.out; omega)
        rw [List.getD_eq_getElem?_getD, List.getElem?_eq_getElem hj, Option.getD_some] at this
        exact this
      clear HPL
      go_wp2_with fail
      refine (put_any (HV.out.old HWR.out) HF.out HY.out).mono ?_
      rintro e w2 ⟨ab, cb, rfl, HP, HB2⟩
      have HW2 : Hid (Below w.heap.size w w2) := HWR.out.trans (HB2.out.mono HWR.out.size)
      have HBX2 : Hid (w2.heap[w.heap.size]? = some (.cells #[.slice t lt ct, .slice v1 l1 c1, .slice v2 l2 c2] 27 (0, 0))) := blk_old (blk_old HBX.out HBR.out) HB2.out
      clear k0 k1 k2
      obtain ⟨k0, k1, k2⟩ := cells3_of0 HBX2.out (Below.refl _ _)
      go_wp2_with fail
      refine (pof (HV.out.old HW2.out) HL12.out.1 HL12.out.2 HS.out.1 HS.out.2.1 HS.out.2.2).mono ?_
      rintro e w3 ⟨b1, d1, b2, d2, rfl, HQ1, HQ2, HB3⟩
      have HW3 : Hid (Below w.heap.size w w3) := HW2.out.trans (HB3.out.mono HW2.out.size)
      go_wp2_with fail
      refine (rput7 HST.out.1 HS.out.2.1 HS.out.2.2 HST.out.2 HQ1.out HQ2.out HF.out HY.out).mono ?_
      rintro e w4 ⟨ac, cc, rfl, HIC, HB4⟩
      have HB24 : Hid (Below w2.heap.size w2 w4) := HB3.out.trans (HB4.out.mono HB3.out.size)
      have HW4 : Hid (Below w.heap.size w w4) := HW2.out.trans (HB24.out.mono HW2.out.size)
      have HBX4 : Hid (w4.heap[w.heap.size]? = some (.cells #[.slice t lt ct, .slice v1 l1 c1, .slice v2 l2 c2] 27 (0, 0))) := blk_old HBX2.out HB24.out
      obtain ⟨R, hR⟩ : ∃ R, R = strOfNums Y.1 := ⟨_, rfl⟩
      have hc1 : (convert 22 9 (.slice ab Y.1.length cb)).run Try.prog w4 = .ok (.string R) w4 := conv_old HP.out.2 hR HB24.out
      have hc2 : (convert 22 9 (.slice ac Y.1.length cc)).run Try.prog w4 = .ok (.string R) w4 := conv_old HIC.out hR (Below.refl _ _)
      have HPO : Hid (OwnB w4 wr.heap.size (.slice ab Y.1.length cb) Y.1.length Y.1) := HP.out.1.old HB24.out
      have HRG : Hid (∀ j : Nat, 0 ≤ Y.1[j]?.getD 0 ∧ Y.1[j]?.getD 0 ≤ 255) := HP.out.2.range
      have HWS : Hid (wr.heap.size ≤ w4.heap.size) := Nat.le_trans HB2.out.size HB24.out.size
      have tE : (Y.2.2 != Y.2.2) = false := by simp
      have tF : (Y.2.1 != Y.2.1) = false := by simp
      have HBR4 : Hid (Below wr.heap.size wr w4) := HB2.out.trans (HB24.out.mono HB2.out.size)
      clear k0 k1 k2 hR HP HQ1 HQ2 HB2 HB3 HB4 HIC HB24 HBX2 HW2 HW3
      by_cases he : Y.2.2 = 0
      · have hback := HBACK.out HALL.out he
        obtain ⟨G, hG⟩ : ∃ G, G = (⟨(T, ws, es), Y.1.length, 0⟩ : Res Pre) := ⟨_, rfl⟩
        rw [← hG] at hback
        have HGB : Hid (G = rest0 Y.2.1 (Y.1 ++ zs)) := hback
        have HGE : Hid (G.err = 0 ∧ G.val = (T, ws, es) ∧ G.done = Y.1.length) := by rw [hG]; exact ⟨rfl, rfl, rfl⟩
        have hM4 := HM.out.old HW4.out
        have HM4 : Hid (IsB w4 a len cap zs) := hM4
        have hbd : Y.1.length + len ≤ 140737488355328 := by omega
        have hws4 : wr.heap.size ≤ w4.heap.size := HWS.out
        have tE2 : (Y.2.2 == 0) = true := by rw [beq_iff_eq]; exact he
        have tE3 : (Y.2.2 != 0) = false := by rw [bne_eq_false_iff_eq]; exact he
        clear he hback hG hM4
        go_wp2_with (at_builtin; refine wpList_append_bytes rfl (.tmp 98) (.tmp 99) rfl rfl HPO.out rfl HM4.out hbd hws4 ?_)
        intro v5 w5 ho5 hB5
        obtain ⟨Zs, hZs⟩ : ∃ Z, Z = Y.1 ++ zs := ⟨_, rfl⟩
        have HR5 : Hid (∀ j : Nat, 0 ≤ Zs[j]?.getD 0 ∧ Zs[j]?.getD 0 ≤ 255) := by rw [hZs]; exact range_append HRG.out HM4.out.range
        have HZD : Hid (Zs.length ≤ 140737488351232 ∧ Zs.drop Y.1.length = zs) := by
          rw [hZs]
          refine ⟨?_, List.drop_left⟩
          rw [List.length_append, HM4.out.1]; omega
        rw [← hZs] at ho5 HGB
        clear hZs
        obtain ⟨a5, cp5, hv5, hp5⟩ := OwnB.put ho5 HR5.out
        subst hv5
        have HI5 : Hid (IsB w5 a5 Zs.length cp5 Zs) := hp5.2
        have HB5 : Hid (Below wr.heap.size w4 w5) := hB5
        have HW5 : Hid (Below w.heap.size w w5) := HW4.out.trans (HB5.out.mono HWR.out.size)
        have HBR5 : Hid (Below wr.heap.size wr w5) := HBR4.out.trans HB5.out
        have HBX5 : Hid (w5.heap[w.heap.size]? = some (.cells #[.slice t lt ct, .slice v1 l1 c1, .slice v2 l2 c2] 27 (0, 0))) := blk_old (blk_old HBX.out HBR.out) HBR5.out
        clear ho5 hB5 hp5
        go_wp2_with fail
        refine (resp_pv _ HI5.out HZD.out.1 HGB.out).mono ?_
        rintro e w6 ⟨t', lt', ct', v1', l1', c1', v2', l2', c2', r, lr, cr, rfl, HPV, HN, HLF, HB6⟩
        obtain ⟨g1, g2, g3⟩ := HGE.out
        have HPV' : Hid (PV w6 t' lt' ct' v1' l1' c1' v2' l2' c2' (T, ws, es)) := by rw [← g2]; exact HPV
        have hlf := HLF.out.1 g1
        rw [g3, HZD.out.2] at hlf
        have HRS : Hid (IsB w6 r lr cr zs) := hlf.1
        rw [g1]
        obtain ⟨w7, hw7⟩ : ∃ w7, w7 = w6.alloc (.cells #[.slice t' lt' ct', .slice v1' l1' c1', .slice v2' l2' c2'] 27) := ⟨_, rfl⟩
        have HB67 : Hid (Below w6.heap.size w6 w7) := by rw [hw7]; exact below_one w6 _
        have HB57 : Hid (Below w5.heap.size w5 w7) := HB6.out.trans (HB67.out.mono HB6.out.size)
        have HW7 : Hid (Below w.heap.size w w7) := HW5.out.trans (HB57.out.mono HW5.out.size)
        have HQ7 : Hid (w7.heap[w6.heap.size]? = some (.cells #[.slice t' lt' ct', .slice v1' l1' c1', .slice v2' l2' c2'] 27 (0, 0))) := by rw [hw7]; exact heap_alloc_new w6 _
        have HX7 : Hid (w7.heap[w.heap.size]? = some (.cells #[.slice t lt ct, .slice v1 l1 c1, .slice v2 l2 c2] 27 (0, 0))) := blk_old HBX5.out HB57.out
        obtain ⟨R0, hR0⟩ : ∃ R, R = strOfNums zs := ⟨_, rfl⟩
        have HF7 : Hid (∀ W, Below w7.heap.size w7 W → (W.cell? ⟨w6.heap.size, 0, none⟩ = some (.slice t' lt' ct') ∧ W.cell? ⟨w6.heap.size, 1, none⟩ = some (.slice v1' l1' c1') ∧ W.cell? ⟨w6.heap.size, 2, none⟩ = some (.slice v2' l2' c2')) ∧ (W.cell? ⟨w.heap.size, 0, none⟩ = some (.slice t lt ct) ∧ W.cell? ⟨w.heap.size, 1, none⟩ = some (.slice v1 l1 c1) ∧ W.cell? ⟨w.heap.size, 2, none⟩ = some (.slice v2 l2 c2)) ∧ (convert 22 9 (.slice r lr cr)).run Try.prog W = .ok (.string R0) W ∧ (convert 22 9 (.slice a len cap)).run Try.prog W = .ok (.string R0) W) := by
          intro W hW
          exact ⟨cells3_of0 HQ7.out hW, cells3_of0 HX7.out hW, conv_old (HRS.out.old HB67.out) hR0 hW, conv_old (HM.out.old HW7.out) hR0 hW⟩
        have HP7 : Hid (PV w7 t lt ct v1 l1 c1 v2 l2 c2 (T, ws, es)) := HV.out.old HW7.out
        have HP7' : Hid (PV w7 t' lt' ct' v1' l1' c1' v2' l2' c2' (T, ws, es)) := HPV'.out.old HB67.out
        have hD : Hid (Below w7.heap.size w7 w7.drew) := (Below.refl w7.heap.size w7).drew
        have hF7 := HF7.out w7 (Below.refl _ _)
        have hFd := HF7.out _ hD.out
        clear g1 g2 g3 hlf hR0 HRS HQ7 HX7 HB67 HB57 HB6 HI5 HB5 HBR5 HBX5 HW5 HPV HPV' HLF HGB HGE hc1 hc2 HPO HRG HR5 HZD
        go_upto_region 18 with fail
        rw [← hw7]
        clear hw7
        go_region_held3 (fun W => (W.cell? ⟨w6.heap.size, 0, none⟩ = some (.slice t' lt' ct') ∧ W.cell? ⟨w6.heap.size, 1, none⟩ = some (.slice v1' l1' c1') ∧ W.cell? ⟨w6.heap.size, 2, none⟩ = some (.slice v2' l2' c2')) ∧ (W.cell? ⟨w.heap.size, 0, none⟩ = some (.slice t lt ct) ∧ W.cell? ⟨w.heap.size, 1, none⟩ = some (.slice v1 l1 c1) ∧ W.cell? ⟨w.heap.size, 2, none⟩ = some (.slice v2 l2 c2)) ∧ (convert 22 9 (.slice r lr cr)).run Try.prog W = .ok (.string R0) W ∧ (convert 22 9 (.slice a len cap)).run Try.prog W = .ok (.string R0) W) (assumption) (first
          | (go_at_call 11; refine (same_here HBb.out s HVa'.out HVb.out).mono ?_; rintro e wc ⟨rfl, HBc⟩; have hc := HF7.out _ HBc.out)
          | (go_at_call 12; refine (pof_from2 HBa.out HP7.out HL12.out HS.out.1 HS.out.2.1 HS.out.2.2 HVa.out).mono ?_; rintro e wb ⟨p3, m3, p4, m4, rfl, HVb, HVa', HBb⟩; have hb := HF7.out _ HBb.out)
          | (go_at_call 12; refine (pof_from hD.out HP7'.out HN.out HS.out.1 HS.out.2.1 HS.out.2.2).mono ?_; rintro e wa ⟨p1, m1, p2, m2, rfl, HVa, HBa⟩; have ha := HF7.out _ HBa.out))
        all_goals (go_wp2_with fail; go_ret; exact ⟨by simp, HW7.out.trans (HBc.out.mono HW7.out.size)⟩)
      · have tE2 : (Y.2.2 == 0) = false := by rw [beq_eq_false_iff_ne]; exact he
        have tE3 : (Y.2.2 != 0) = true := by rw [bne_iff_ne]; exact he
        clear he
        go_wp2_with fail
        go_ret
        exact ⟨by simp, HW4.out⟩

theorem puts_any7 (t : Option Addr) (lt ct : Nat) (v1 : Option Addr) (l1 c1 : Nat) (v2 : Option Addr) (l2 c2 : Nat) (x : Pre) (a : Option Addr) (len cap : Nat) (zs : List Int) (w : World) (hV : PV w t lt ct v1 l1 c1 v2 l2 c2 x) (hM : IsB w a len cap zs) (s1 : ∀ s ∈ x.2.1, s.size ≤ maxLen) (s2 : ∀ y ∈ x.2.2, y.1.size ≤ maxLen ∧ y.2.2.size ≤ 1048576) :
    Calls Try.prog 4 #[.agg #[.slice t lt ct, .slice v1 l1 c1, .slice v2 l2 c2], .slice a len cap] w fun e w' => e = .returned (.bool true) ∧ Below w.heap.size w w' := by
  by_cases h : 50 < l1 ∨ 50 < l2 ∨ 50 < lt ∨ 500 < len
  · exact puts_big t lt ct v1 l1 c1 v2 l2 c2 a len cap w h
  · exact puts_small t lt ct v1 l1 c1 v2 l2 c2 x a len cap zs w hV hM s1 s2 (by omega) (by omega) (by omega) (by omega)
end Go.Proofs.Ytkcnmmlakimonaa
