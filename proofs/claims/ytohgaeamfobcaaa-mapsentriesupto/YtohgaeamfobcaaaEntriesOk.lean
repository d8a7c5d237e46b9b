/-
  MapsEntries, where no value has more than 1048576 bytes, walked where the bytes are got: it answers true, and turns nothing that was there.
-/
import Derived.Test.YtohgaeamfobcaaaCmp
import Derived.Deep.DeepCutAuto
namespace Go.Proofs.Ytohgaeamfobcaaa
open Go.RowKit
set_option linter.unusedVariables false
set_option linter.unusedSimpArgs false

set_option maxRecDepth 100000 in
set_option maxHeartbeats 40000000 in
theorem entries_ok (a0 : Option Addr) (len0 cap0 : Nat) (ss : List (ByteArray × Int × ByteArray)) (a1 : Option Addr) (len1 cap1 : Nat) (zs : List Int) (w : World)
    (h0 : View 3 VE w a0 len0 cap0 ss) (s0 : ∀ p ∈ ss, p.1.size ≤ maxLen ∧ p.2.2.size ≤ 1048576) (h1 : IsB w a1 len1 cap1 zs) (l0 : len0 ≤ 100) (l1 : len1 ≤ 3000) (he0 : (listR (keyR valueR) zs).err = 0) :
    Calls Try.prog 6 #[.slice a0 len0 cap0, .slice a1 len1 cap1] w fun e w' => e = .returned (.bool true) ∧ Below w.heap.size w w' := by
  have t0 : decide ((100 : Int) < len0) = false := by simp; omega
  have t1 : decide ((3000 : Int) < len1) = false := by simp; omega
  have H0 : Hid (View 3 VE w a0 len0 cap0 ss) := h0
  have H1 : Hid (IsB w a1 len1 cap1 zs) := h1
  have S0 : Hid (∀ p ∈ ss, p.1.size ≤ maxLen ∧ p.2.2.size ≤ 140737488289787) := fun p hp => ⟨(s0 p hp).1, Nat.le_trans (s0 p hp).2 (by omega)⟩
  have HM : Hid (∀ x ∈ ss, (keyB valueB x).1.length ≤ 1114117) := by
    intro x hx
    have g1 := keyB_len valueB x
    have g2 := valueB_len x.2
    have g3 := (s0 x hx).2
    omega
  have HL1 : Hid (zs.length = len1) := h1.1
  obtain ⟨X, hX⟩ : ∃ X, X = listB (keyB valueB) ss := ⟨_, rfl⟩
  obtain ⟨I0, hI0⟩ : ∃ I, I = ss.map entryIt := ⟨_, rfl⟩
  obtain ⟨G, hG⟩ : ∃ G, G = listR (keyR valueR) zs := ⟨_, rfl⟩
  obtain ⟨Z, hZ⟩ : ∃ Z, Z = listR item3 (zs.drop 0) := ⟨_, rfl⟩
  have hZG : Z = G.map (List.map entryIt) := by rw [hZ, hG, List.drop_zero]; exact listR_map entryIt (keyR valueR) zs
  have HX : Hid _ := hX
  have HX2 : Hid (X = listB itemB3 I0) := by
    show _ = _
    rw [hX, hI0]; exact (put_entries ss).symm
  have HS0 : Hid (∀ x ∈ I0, x.key.size ≤ maxLen ∧ x.bytes.size ≤ 140737488351232) := by
    intro x hx
    rw [hI0] at hx
    obtain ⟨s, hs, rfl⟩ := List.mem_map.1 hx
    exact ⟨(s0 s hs).1, Nat.le_trans (s0 s hs).2 (by omega)⟩
  have HI0 : Hid _ := hI0
  have HM1 : Hid (∀ x ∈ I0, (itemB3 x).1.length ≤ 1114117) := by
    intro x hx
    rw [hI0] at hx
    obtain ⟨p, hp, rfl⟩ := List.mem_map.1 hx
    exact HM.out p hp
  have HBB : Hid (65539 + I0.length * 1114117 ≤ 140737488355328) := by
    show _ ≤ _
    have : I0.length = len0 := by rw [hI0, List.length_map, h0.1]
    rw [this]; omega
  have HG : Hid _ := hG
  have HZ : Hid _ := hZ
  have HGL : Hid (G.val.length ≤ 65536) := by
    show _ ≤ _
    rw [hG]; exact listR_len' zs h1.range
  have HZE : Hid (Z.err = G.err ∧ Z.done = G.done ∧ Z.val = G.val.map entryIt) := by rw [hZG]; exact ⟨rfl, rfl, rfl⟩
  have HE0 : Hid (G.err = 0) := by rw [hG]; exact he0
  clear he0 h0 h1 s0 hX hI0 hG hZ hZG
  go_enter Try.func6, Try.ntmps6
  go_wp2_with fail
  refine (awake_any _).mono ?_
  rintro e w1 ⟨rfl, hB1⟩
  go_wp2_with fail
  refine (entries_any (H0.out.old stays_e hB1) S0.out 1114117 HM.out (by omega) HX.out).mono ?_
  rintro e w2 ⟨ax, cx, rfl, HPX, hB2⟩
  have hB02 : Below w.heap.size w w2 := hB1.trans (hB2.mono hB1.size)
  go_wp2_with fail
  refine (centries_any (H0.out.old stays_e hB02) (by omega)).mono ?_
  rintro e w3 ⟨v3, rfl, HO3, hB3⟩
  have hB03 : Below w.heap.size w w3 := hB02.trans (hB3.mono hB02.size)
  rw [← HI0.out] at HO3
  obtain ⟨a3, c3, rfl, hv3, _⟩ := HO3.out.view
  have HV3 : Hid (View 5 VI w3 a3 I0.length c3 I0) := hv3
  clear hv3 HO3
  go_wp2_with fail
  refine (rput3_any HV3.out HS0.out 1114117 HM1.out HBB.out HX2.out).mono ?_
  rintro e w4 ⟨ay, cy, rfl, HPY, hB4⟩
  have hB04 : Below w.heap.size w w4 := hB03.trans (hB4.mono hB03.size)
  go_wp2_with fail
  refine (getEntries_any (H1.out.old hB04) (by omega) HG.out).mono ?_
  rintro e w5 ⟨v5, r5, lr5, cr5, rfl, HO5, HB5, hB5⟩
  have hB05 : Below w.heap.size w w5 := hB04.trans (hB5.mono hB04.size)
  obtain ⟨a5, c5, rfl, hv5, _⟩ := HO5.out.view
  have HV5 : Hid (View 3 VE w5 a5 G.val.length c5 G.val) := hv5
  clear hv5 HO5
  go_wp2_with fail
  refine (rget3_any (H1.out.old hB05) 0 (by omega) _ rfl HZ.out).mono ?_
  rintro e w6 ⟨v6, rfl, HO6, hB6⟩
  have hB06 : Below w.heap.size w w6 := hB05.trans (hB6.mono hB05.size)
  obtain ⟨I, hI⟩ : ∃ I, I = G.val.map entryIt := ⟨_, rfl⟩
  rw [HZE.out.2.2, ← hI] at HO6
  rw [HZE.out.1]
  obtain ⟨a6, c6, rfl, hv6, _⟩ := HO6.out.view
  have HV6 : Hid (View 5 VI w6 a6 I.length c6 I) := hv6
  have HV5' : Hid (View 3 VE w6 a5 G.val.length c5 G.val) := HV5.out.old stays_e hB6
  have HII : Hid _ := hI
  obtain ⟨T, hT⟩ : ∃ T, T = strOfNums X.1 := ⟨_, rfl⟩
  have HCV : Hid (∀ W, Below w6.heap.size w6 W → (convert 23 9 (.slice ax X.1.length cx)).run Try.prog W = .ok (.string T) W ∧ (convert 23 9 (.slice ay X.1.length cy)).run Try.prog W = .ok (.string T) W) := by
    intro W hW
    have hx2 : Below w2.heap.size w2 w6 := hB3.trans ((hB4.trans ((hB5.trans (hB6.mono hB5.size)).mono hB4.size)).mono hB3.size)
    have hy2 : Below w4.heap.size w4 w6 := hB5.trans (hB6.mono hB5.size)
    rw [hT]
    exact ⟨((HPX.out.2.old hx2).old hW).conv, ((HPY.out.2.old hy2).old hW).conv⟩
  obtain ⟨hc1, hc2⟩ := HCV.out w6.drew (Below.refl w6.heap.size w6).drew
  have HGL' : Hid (G.val.length ≤ 100000000) := Nat.le_trans HGL.out (by omega)
  have HBE : Hid (Behind w6 a1 r5 lr5 cr5 zs G.done G.err) := HB5.out.old hB6
  clear hv6 HO6 HV5 HV3 HPX HPY hB1 hB2 hB3 hB4 hB5 hB02 hB03 hB04 hB05 HB5 hT hI HS0 HX HX2 S0 HI0
  by_cases he : G.err = 0
  · have hpl : place 0 Z = (G.done : Int) := by
      rw [place, HZE.out.1, if_pos he, HZE.out.2.1]; simp
    obtain ⟨R, hR⟩ : ∃ R, R = strOfNums (zs.drop G.done) := ⟨_, rfl⟩
    rcases HBE.out with ⟨h, _⟩ | ⟨_, hd, hp, b, o, off, rfl, rfl, hbl, hRow⟩
    · exact absurd he h
    have hI6 := H1.out.old hB06
    obtain ⟨b', o', hbb, hRow1⟩ := hI6.2.2.2.2 (by rw [← HL1.out]; exact hp)
    cases hbb
    have hdl : G.done ≤ len1 := by rw [← HL1.out]; exact hd
    have hcm : cap1 ≤ 9223372036854775807 := hRow1.cap_le
    have hlc := hRow1.le
    rw [he, hpl]
    by_cases hck : cap1 = G.done
    · have HCR : Hid (∀ W, Below w6.heap.size w6 W → (convert 23 9 (.slice (some ⟨b, off, none⟩) lr5 cr5)).run Try.prog W = .ok (.string R) W ∧ (convert 23 9 (.slice (some ⟨b, o, none⟩) 0 0)).run Try.prog W = .ok (.string R) W) := by
        intro W hW
        have h2 := IsB.tail (hRow1.old hW) G.done hdl o (by omega)
        rw [show len1 - G.done = 0 by omega, show cap1 - G.done = 0 by omega] at h2
        rw [hR]
        exact ⟨(hRow.old hW).conv, h2⟩
      obtain ⟨hr1, hr2⟩ := HCR.out w6.drew (Below.refl w6.heap.size w6).drew
      have hl2 : len1 = G.done := by omega
      clear hRow hRow1 hR hpl hI6 HBE hdl hlc hd
      rw [hl2, hck]
      rw [hck] at hcm
      go_upto_region 10 with fail
      first
        | (go_region_held (fun w' => (convert 23 9 (.slice ax X.1.length cx)).run Try.prog w' = .ok (.string T) w' ∧ (convert 23 9 (.slice ay X.1.length cy)).run Try.prog w' = .ok (.string T) w' ∧ (convert 23 9 (.slice (some ⟨b, off, none⟩) lr5 cr5)).run Try.prog w' = .ok (.string R) w' ∧ (convert 23 9 (.slice (some ⟨b, o, none⟩) 0 0)).run Try.prog w' = .ok (.string R) w')
            (exact ⟨by assumption, by assumption, by assumption, by assumption⟩) (first
            | (go_at_call 24; refine (centries_in (w := w6) ?_ HV5'.out HGL'.out HII.out).mono ?_; (exact (Below.refl _ _).drew); rintro e w7 ⟨a7, c7, rfl, HV7, hB7⟩; obtain ⟨hc3, hc4⟩ := HCV.out w7 hB7; obtain ⟨hr3, hr4⟩ := HCR.out w7 hB7)
            | (go_at_call 16; refine (same_in hB7 HV7.out HV6.out).mono ?_; rintro e w8 ⟨rfl, hB8⟩; obtain ⟨hc5, hc6⟩ := HCV.out w8 hB8; obtain ⟨hr5, hr6⟩ := HCR.out w8 hB8)))
        | fail
      all_goals (go_wp2_with fail; go_ret; exact ⟨by simp, hB06.trans (hB8.mono hB06.size)⟩)
    · have HCR : Hid (∀ W, Below w6.heap.size w6 W → (convert 23 9 (.slice (some ⟨b, off, none⟩) lr5 cr5)).run Try.prog W = .ok (.string R) W ∧ (convert 23 9 (.slice (some ⟨b, o + G.done, none⟩) (len1 - G.done) (cap1 - G.done))).run Try.prog W = .ok (.string R) W) := by
        intro W hW
        have h2 := IsB.tail (hRow1.old hW) G.done hdl (o + G.done) (fun _ => rfl)
        rw [hR]
        exact ⟨(hRow.old hW).conv, h2⟩
      obtain ⟨hr1, hr2⟩ := HCR.out w6.drew (Below.refl w6.heap.size w6).drew
      clear hRow hRow1 hR hpl hI6 HBE hd
      go_upto_region 10 with fail
      first
        | (go_region_held (fun w' => (convert 23 9 (.slice ax X.1.length cx)).run Try.prog w' = .ok (.string T) w' ∧ (convert 23 9 (.slice ay X.1.length cy)).run Try.prog w' = .ok (.string T) w' ∧ (convert 23 9 (.slice (some ⟨b, off, none⟩) lr5 cr5)).run Try.prog w' = .ok (.string R) w' ∧ (convert 23 9 (.slice (some ⟨b, o + G.done, none⟩) (len1 - G.done) (cap1 - G.done))).run Try.prog w' = .ok (.string R) w')
            (exact ⟨by assumption, by assumption, by assumption, by assumption⟩) (first
            | (go_at_call 24; refine (centries_in (w := w6) ?_ HV5'.out HGL'.out HII.out).mono ?_; (exact (Below.refl _ _).drew); rintro e w7 ⟨a7, c7, rfl, HV7, hB7⟩; obtain ⟨hc3, hc4⟩ := HCV.out w7 hB7; obtain ⟨hr3, hr4⟩ := HCR.out w7 hB7)
            | (go_at_call 16; refine (same_in hB7 HV7.out HV6.out).mono ?_; rintro e w8 ⟨rfl, hB8⟩; obtain ⟨hc5, hc6⟩ := HCV.out w8 hB8; obtain ⟨hr5, hr6⟩ := HCR.out w8 hB8)))
        | fail
      all_goals (go_wp2_with fail; go_ret; exact ⟨by simp, hB06.trans (hB8.mono hB06.size)⟩)
  · exact absurd HE0.out he
end Go.Proofs.Ytohgaeamfobcaaa
