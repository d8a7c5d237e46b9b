/-
  MapsRows walked: it answers true, and turns nothing that was there.
-/
import Derived.Test.YtohgaeamfobcaaaFits
import Derived.BigQuiet
namespace Go.Proofs.Ytohgaeamfobcaaa
open Go.RowKit
set_option linter.unusedVariables false
set_option linter.unusedSimpArgs false

/-- A list of lists of texts. -/
def VL (w : World) (ss : List ByteArray) (c : Nat → Value) : Prop := ∃ a l cp, c 0 = .slice a l cp ∧ View 1 VS w a l cp ss

theorem stays_l : Stays 1 VL := by
  intro w w' row x c c' h hc hb hs hne
  obtain ⟨a, l, cp, h1, hv⟩ := h
  exact ⟨a, l, cp, (hc 0 (by omega)).trans h1, strs_stay hv hb hs (fun k hk => hne 0 k (by omega) (by rw [h1]; exact hk))⟩

theorem View.list {w : World} {a : Option Addr} {len cap : Nat} {ls : List (List ByteArray)} (h : View 1 VL w a len cap ls) {k : Nat} (hk : k < len) :
    ∃ b off a1 l1 c1, a = some ⟨b, off, none⟩ ∧ b < w.heap.size ∧ w.cell? ⟨b, off + k, none⟩ = some (.slice a1 l1 c1) ∧ View 1 VS w a1 l1 c1 (ls.getD k default) := by
  obtain ⟨h1, h2, h3, h4, h5⟩ := h
  obtain ⟨b, off, ha, hb, hc⟩ := h5 (by omega)
  obtain ⟨c, hcell, a1, l1, c1, hv1, hv⟩ := hc k hk
  have h0 := hcell 0 (by omega)
  rw [hv1] at h0
  exact ⟨b, off, a1, l1, c1, ha, hb, by simpa using h0, hv⟩

set_option maxHeartbeats 1000000 in
theorem rows_long (a : Option Addr) (len cap : Nat) (w : World) (h : 20 < len) (hm : len ≤ maxLen) :
    Calls Try.prog 9 #[.slice a len cap] w fun e w' => e = .returned (.bool true) ∧ Below w.heap.size w w' := by
  unfold maxLen at hm
  go_enter Try.func9, Try.ntmps9
  go_wp2_with fail
  refine (awake_any _).mono ?_
  rintro e w1 ⟨rfl, hB1⟩
  go_wp2
  go_ret
  exact ⟨rfl, hB1⟩

theorem two_bytes (n : Nat) (h : n ≤ 20) (Z : List Int) : (putL n 2 ++ Z)[0]?.getD 0 = 0 ∧ (putL n 2 ++ Z)[1]?.getD 0 = (n : Int) := by
  have e : putL (n : Int) 2 = [(n : Int) / 256 % 256, (n : Int) % 256] := by simp [putL, byteAt, List.range_succ]
  rw [e]
  constructor
  · simp; omega
  · simp; omega

set_option maxRecDepth 100000 in
set_option maxHeartbeats 4000000 in
theorem rows_walk0 (a : Option Addr) (len cap : Nat) (ls : List (List ByteArray)) (w : World) (h : View 1 VL w a len cap ls) (hx : ∀ ss ∈ ls, ∀ s ∈ ss, s.size ≤ maxLen) (hN : len ≤ 20) :
    Calls Try.prog 9 #[.slice a len cap] w fun e w' => e = .returned (.bool true) ∧ Below w.heap.size w w' := by
  have HLX : Hid (ls.length = len) := h.1
  have H : Hid (View 1 VL w a len cap ls) := h
  have HX : Hid _ := hx
  have hNd : decide ((20 : Int) < len) = false := by simp; omega
  clear h hx
  go_enter Try.func9, Try.ntmps9
  go_wp2_with fail
  refine (awake_any _).mono ?_
  rintro e w1 ⟨rfl, hB1⟩
  go_wp2_with fail
  go_loopw [4, 5] (fun v i wr => ∃ (k : Nat) (acc : List Int), k ≤ len ∧ i = .int .i64 k ∧ Hid (OwnB wr w.heap.size v acc.length acc) ∧ Hid (acc = bodyB (listB textB) (ls.take k)) ∧ Hid (∀ j, j < k → (listB textB (ls.getD j default)).2 = 0) ∧ acc.length ≤ k * 2000000 ∧
      Hid (∀ j : Nat, 0 ≤ acc[j]?.getD 0 ∧ acc[j]?.getD 0 ≤ 255) ∧ Below w.heap.size w wr) (fun _ i _ => len - (intOf i).toNat)
  case atStart => exact ⟨0, [], by omega, rfl, World.ownsRow_nil _ _ _ _, by simp [bodyB, Hid], fun j hj => by omega, by simp, fun j => by simp, hB1⟩
  case round =>
    obtain ⟨k, acc, hk, rfl, HO, HA, HE, hacc, HR, hB⟩ := hrel
    by_cases hlt : k < len
    · obtain ⟨b, off, a1, l1, c1, rfl, hb, hc, hv⟩ := (H.out.old stays_l hB).list hlt
      obtain ⟨ss, hss⟩ : ∃ ss, ss = ls.getD k default := ⟨_, rfl⟩
      rw [← hss] at hv
      have hl1 : ss.length = l1 := hv.1
      have hl1m : l1 ≤ 9223372036854775807 := by have := Nat.le_trans hv.2.1 hv.2.2.1; unfold maxLen at this; exact this
      have HS : Hid _ := hss
      have HV : Hid (View _ _ _ _ _ _ _) := hv
      have HSM : Hid (∀ s ∈ ss, s.size ≤ maxLen) := by
        rw [hss, List.getD_eq_getElem?_getD, List.getElem?_eq_getElem (by rw [HLX.out]; exact hlt)]
        exact HX.out _ (List.getElem_mem _)
      obtain ⟨Y, hY⟩ : ∃ Y, Y = listB textB ss := ⟨_, rfl⟩
      have HY : Hid _ := hY
      have HL1 : Hid _ := hl1
      clear hss hv hY hl1
      by_cases hl20 : 20 < l1
      · go_wp2_with fail
        go_ret
        exact ⟨rfl, hB⟩
      · have ht : decide ((20 : Int) < l1) = false := by simp; omega
        go_wp2_with fail
        refine (texts_any HV.out HSM.out HY.out).mono ?_
        rintro e w2 ⟨a2, cp2, rfl, HP, hB2⟩
        by_cases he : Y.2 = 0
        · have hok := listB_ok (f := textB) (xs := ss) (by rw [← HY.out]; exact he)
          rw [← HY.out, HL1.out] at hok
          obtain ⟨_, hY1, _⟩ := hok
          have hYlen : 2 ≤ Y.1.length := by rw [hY1, List.length_append, putL_length]; omega
          have hYmax : Y.1.length ≤ 1310742 := by
            have h1 := listB_len textB 65537 ss (fun x _ => textB_len x)
            rw [← HY.out, HL1.out] at h1
            exact Nat.le_trans h1 (by omega)
          obtain ⟨g, o, rfl, hRow⟩ := HP.out.2.2.2.2.2 (by omega)
          obtain ⟨hy0, hy1⟩ := two_bytes l1 (by omega) (bodyB textB ss)
          rw [← hY1] at hy0 hy1
          have hx0 : w2.cell? ⟨g, o, none⟩ = some (.int .u8 0) := by
            have := hRow.cell 0 (by omega)
            rw [List.getD_eq_getElem?_getD, hy0] at this
            exact this
          have hx1 : w2.cell? ⟨g, o + 1, none⟩ = some (.int .u8 l1) := by
            have := hRow.cell 1 (by omega)
            rw [List.getD_eq_getElem?_getD, hy1] at this
            exact this
          have hc2 : w2.cell? ⟨b, off + k, none⟩ = some (.slice a1 l1 c1) := (hB2.cell hb).trans hc
          have hbs := hB.size
          have hbs2 := hB2.size
          have hB02 : Below w.heap.size w w2 := hB.trans (hB2.mono hbs)
          have HO2 : Hid (∀ q, OwnB (w2.drewN q) w.heap.size u4 acc.length acc) := fun q => (HO.out.old hB2).old (below_drewN (Below.refl _ _) q)
          have HI2 : Hid (∀ q, IsB (w2.drewN q) (some ⟨g, o, none⟩) Y.1.length cp2 Y.1) := fun q => HP.out.2.old (below_drewN (Below.refl _ _) q)
          have HSZ : Hid (∀ q, w.heap.size ≤ (w2.drewN q).heap.size) := fun q => by simp; omega
          have HBD : Hid (acc.length + Y.1.length ≤ 140737488355328) := by
            show _ ≤ _
            have : k * 2000000 ≤ 20 * 2000000 := Nat.mul_le_mul_right _ (by omega)
            omega
          have HR2 : Hid (∀ j : Nat, 0 ≤ (acc ++ Y.1)[j]?.getD 0 ∧ (acc ++ Y.1)[j]?.getD 0 ≤ 255) := range_append HR.out HP.out.2.range
          have HA2 : Hid (acc ++ Y.1 = bodyB (listB textB) (ls.take (k + 1))) := by
            show _ = _
            rw [HA.out, HY.out, HS.out, List.getD_eq_getElem?_getD, List.getElem?_eq_getElem (by rw [HLX.out]; exact hlt), bodyB, bodyB, List.take_add_one, List.flatMap_append, List.getElem?_eq_getElem (by rw [HLX.out]; exact hlt)]
            simp
          have HE2 : Hid (∀ j, j < k + 1 → (listB textB (ls.getD j default)).2 = 0) := by
            intro j hj
            by_cases hjk : j < k
            · exact HE.out j hjk
            · obtain rfl : j = k := by omega
              rw [← HS.out, ← HY.out]; exact he
          have hcp := hRow.le
          have hcpm := hRow.cap_le
          unfold maxLen at hcpm
          rw [he]
          by_cases hz : l1 = 0
          · have hYz : Y.1 = [0, 0] := by
              obtain rfl : ss = [] := List.eq_nil_of_length_eq_zero (by rw [HL1.out]; exact hz)
              rw [hY1, hz]; kernel_rfl
            have hcv : ∀ q, (convert 23 9 (.slice (some ⟨g, o, none⟩) Y.1.length cp2)).run Try.prog (w2.drewN q) = .ok (.string ⟨#[0, 0]⟩) (w2.drewN q) := fun q => by
              have := (HI2.out q).conv
              rw [hYz] at this ⊢
              exact this
            have HYZ : Hid _ := hYz
            clear hy0 hy1 hY1 hRow hYz
            subst hz
            go_wp2_with fail
            go_quiet (fail)
            go_wp2_with (at_builtin; refine wpList_append_bytes rfl (.tmp 70) (.tmp 71) rfl rfl (HO2.out _) rfl (HI2.out _) HBD.out (HSZ.out _) ?_)
            intro v3 w3 ho3 hB3
            have HO3 : Hid (OwnB w3 w.heap.size v3 (acc ++ Y.1).length (acc ++ Y.1)) := by
              show OwnB _ _ _ _ _
              rw [List.length_append]; exact ho3
            have hB03 : Below w.heap.size w w3 := (below_drewN hB02 _).trans hB3
            clear ho3
            go_wp2_with fail
            go_roundw
            case rel => exact ⟨k + 1, acc ++ Y.1, by omega, by go_num, HO3, HA2, HE2, by rw [List.length_append, Nat.succ_mul]; omega, HR2, hB03⟩
            case measure => simp [intOf]; omega
          · have hzt : ((l1 : Int) == 0) = false := by simp; omega
            clear hy0 hy1 hY1 hRow
            go_wp2_with fail
            go_quiet (fail)
            go_wp2_with (at_builtin; refine wpList_append_bytes rfl (.tmp 70) (.tmp 71) rfl rfl (HO2.out _) rfl (HI2.out _) HBD.out (HSZ.out _) ?_)
            intro v3 w3 ho3 hB3
            have HO3 : Hid (OwnB w3 w.heap.size v3 (acc ++ Y.1).length (acc ++ Y.1)) := by
              show OwnB _ _ _ _ _
              rw [List.length_append]; exact ho3
            have hB03 : Below w.heap.size w w3 := (below_drewN hB02 _).trans hB3
            clear ho3
            go_wp2_with fail
            go_roundw
            case rel => exact ⟨k + 1, acc ++ Y.1, by omega, by go_num, HO3, HA2, HE2, by rw [List.length_append, Nat.succ_mul]; omega, HR2, hB03⟩
            case measure => simp [intOf]; omega
        · have t : (Y.2 == 0) = false := by simpa using he
          clear he
          go_wp2_with fail
          go_ret
          exact ⟨rfl, hB.trans (hB2.mono hB.size)⟩
    · obtain rfl : k = len := by omega
      obtain ⟨a0, cp0, rfl, hP0⟩ := OwnB.put HO.out HR.out
      have hA := HA.out
      rw [List.take_of_length_le (by rw [HLX.out]; omega)] at hA
      have hk2 : k * 2000000 ≤ 40000000 := by omega
      have HI0 : Hid (IsB wr a0 acc.length cp0 (bodyB (listB textB) (ls.drop 0))) := by
        show IsB _ _ _ _ _
        rw [List.drop_zero, ← hA]; exact hP0.2
      clear hlt hA hP0 HA HO HR hk
      go_wp2_with fail
      go_loopw [4, 8] (fun v i wz => ∃ (j : Nat) (a : Option Addr) (lr cr : Nat), j ≤ k ∧ i = .int .i64 j ∧ v = .slice a lr cr ∧ Hid (IsB wz a lr cr (bodyB (listB textB) (ls.drop j))) ∧ lr ≤ 40000000 ∧ Below w.heap.size w wz) (fun _ i _ => k - (intOf i).toNat)
      case atStart => exact ⟨0, a0, acc.length, cp0, by omega, rfl, rfl, HI0, by omega, hB⟩
      case round =>
        obtain ⟨j, ar, lr, cr, hj, rfl, rfl, HI, hlr, hBz⟩ := hrel
        by_cases hlt : j < k
        · obtain ⟨b, off, a1, l1, c1, rfl, hb, hc, hv⟩ := (H.out.old stays_l hBz).list hlt
          obtain ⟨ss, hss⟩ : ∃ ss, ss = ls.getD j default := ⟨_, rfl⟩
          rw [← hss] at hv
          have hl1 : ss.length = l1 := hv.1
          have hl1m : l1 ≤ 9223372036854775807 := by have := Nat.le_trans hv.2.1 hv.2.2.1; unfold maxLen at this; exact this
          have he : (listB textB ss).2 = 0 := by rw [hss]; exact HE.out j hlt
          have hbody : bodyB (listB textB) (ls.drop j) = (listB textB ss).1 ++ bodyB (listB textB) (ls.drop (j + 1)) := by
            rw [hss, List.getD_eq_getElem?_getD, List.getElem?_eq_getElem (by rw [HLX.out]; exact hlt), List.drop_eq_getElem_cons (by rw [HLX.out]; exact hlt), bodyB, bodyB, List.flatMap_cons]
            rfl
          have HYR : Hid ((⟨ss, (listB textB ss).1.length, 0⟩ : Res (List ByteArray)) = listR textR (bodyB (listB textB) (ls.drop j))) := by
            show _ = _
            rw [hbody]; exact (fits_list fits_text ss he _).symm
          have HBO : Hid _ := hbody
          have HV : Hid (View _ _ _ _ _ _ _) := hv
          clear hbody he hss
          go_wp2_with fail
          refine (getTexts_any HI.out (by omega) HYR.out).mono ?_
          rintro e w2 ⟨v2, r2, lr2, cr2, rfl, HO2, HB2, hB2⟩
          obtain ⟨a2, cp2, rfl, hv2, hf2⟩ := HO2.out.view
          simp only at hv2
          rw [hl1] at hv2 ⊢
          have hp := HB2.out.part rfl
          rw [HBO.out, List.drop_left] at hp
          have HI2 : Hid (IsB w2 r2 lr2 cr2 (bodyB (listB textB) (ls.drop (j + 1)))) := hp.2.1
          have hlr2 : lr2 ≤ 40000000 := by
            have h1 := hp.2.2
            have h2 := HI.out.1
            rw [HBO.out] at h2
            omega
          have hbs := hBz.size
          have hB02 : Below w.heap.size w w2 := hBz.trans (hB2.mono hbs)
          have hc2 : w2.cell? ⟨b, off + j, none⟩ = some (.slice a1 l1 c1) := (hB2.cell hb).trans hc
          have HV1 : Hid (View 1 VS w2 a1 l1 c1 ss) := HV.out.old stays_s hB2
          have HV2 : Hid (View 1 VS w2 a2 l1 cp2 ss) := hv2
          have hc1m : c1 ≤ 9223372036854775807 := HV.out.2.2.1
          have hl1c : l1 ≤ c1 := HV.out.2.1
          have hcp2 : l1 ≤ cp2 := hv2.2.1
          have hcp2m : cp2 ≤ 9223372036854775807 := hv2.2.2.1
          clear hp hv2 hf2 HO2 HB2 hv hl1 hB2
          go_wp2_with fail
          go_loopw [12] (fun i wy => ∃ (m q : Nat), m ≤ l1 ∧ i = .int .i64 m ∧ wy = w2.drewN q) (fun i _ => l1 - (intOf i).toNat)
          case atStart => exact ⟨0, 0, by omega, rfl, rfl⟩
          case round =>
            obtain ⟨m, q, hm, rfl, rfl⟩ := hrel
            by_cases hml : m < l1
            · obtain ⟨b3, o3, rfl, hs3⟩ := HV1.out.str hml
              obtain ⟨b4, o4, rfl, hs4⟩ := HV2.out.str hml
              generalize ss.getD m default = s at *
              go_wp2_with fail
              go_quiet (fail)
              go_wp2
              go_roundw
              case rel => exact ⟨m + 1, _, by omega, by go_num, rfl⟩
              case measure => simp [intOf]; omega
            · go_wp2_with fail
              go_roundw
              case rel => exact ⟨j + 1, r2, lr2, cr2, by omega, by go_num, rfl, HI2.out.old (below_drewN (Below.refl _ _) q), hlr2, below_drewN hB02 q⟩
              case measure => simp [intOf]; omega
        · have hl0 : lr = 0 := by
            have h2 := HI.out.1
            rw [List.drop_eq_nil_of_le (by rw [HLX.out]; omega)] at h2
            simpa [bodyB] using h2.symm
          subst hl0
          go_wp2_with fail
          go_ret
          exact ⟨rfl, hBz⟩

theorem rows_walk (a : Option Addr) (len cap : Nat) (ls : List (List ByteArray)) (w : World) (h : View 1 VL w a len cap ls) (hx : ∀ ss ∈ ls, ∀ s ∈ ss, s.size ≤ maxLen) :
    Calls Try.prog 9 #[.slice a len cap] w fun e w' => e = .returned (.bool true) ∧ Below w.heap.size w w' := by
  by_cases hN : 20 < len
  · exact rows_long a len cap w hN (Nat.le_trans h.2.1 h.2.2.1)
  · exact rows_walk0 a len cap ls w h hx (by omega)
end Go.Proofs.Ytohgaeamfobcaaa
