/-
  MapsMultis walked where the bytes are refused: it answers true, and turns nothing that was there.
-/
import Derived.Test.YtohgaeamfobcaaaCmp
import Derived.Deep.DeepCutAuto
namespace Go.Proofs.Ytohgaeamfobcaaa
open Go.RowKit
set_option linter.unusedVariables false
set_option linter.unusedSimpArgs false

set_option maxRecDepth 100000 in
set_option maxHeartbeats 40000000 in
theorem multis_err (a0 : Option Addr) (len0 cap0 : Nat) (ss : List (ByteArray × List ByteArray)) (a1 : Option Addr) (len1 cap1 : Nat) (zs : List Int) (w : World)
    (h0 : View 2 VM w a0 len0 cap0 ss) (s0 : ∀ p ∈ ss, p.1.size ≤ maxLen ∧ ∀ s ∈ p.2, s.size ≤ maxLen) (h1 : IsB w a1 len1 cap1 zs) (l0 : len0 ≤ 50) (l1 : len1 ≤ 3000) (he0 : (listR (keyR (listR textR)) zs).err ≠ 0) :
    Calls Try.prog 5 #[.slice a0 len0 cap0, .slice a1 len1 cap1] w fun e w' => e = .returned (.bool true) ∧ Below w.heap.size w w' := by
  have t0 : decide ((50 : Int) < len0) = false := by simp; omega
  have t1 : decide ((3000 : Int) < len1) = false := by simp; omega
  have H0 : Hid (View 2 VM w a0 len0 cap0 ss) := h0
  have H1 : Hid (IsB w a1 len1 cap1 zs) := h1
  have S0 : Hid _ := s0
  have HL1 : Hid (zs.length = len1) := h1.1
  obtain ⟨X, hX⟩ : ∃ X, X = listB (keyB (listB textB)) ss := ⟨_, rfl⟩
  obtain ⟨I0, hI0⟩ : ∃ I, I = ss.map multiIt := ⟨_, rfl⟩
  obtain ⟨G, hG⟩ : ∃ G, G = listR (keyR (listR textR)) zs := ⟨_, rfl⟩
  obtain ⟨Z, hZ⟩ : ∃ Z, Z = listR item2 (zs.drop 0) := ⟨_, rfl⟩
  have hZG : Z = G.map (List.map multiIt) := by rw [hZ, hG, List.drop_zero]; exact listR_map multiIt (keyR (listR textR)) zs
  have HX : Hid _ := hX
  have HX2 : Hid (X = listB itemB2 I0) := by
    show _ = _
    rw [hX, hI0]; exact (put_multis ss).symm
  have HI0 : Hid _ := hI0
  have HG : Hid _ := hG
  have HZ : Hid _ := hZ
  have HGA : Hid (∀ x ∈ G.val, x.2.length ≤ 65536) := by
    rw [hG]; exact listR_all (R := fun x : ByteArray × List ByteArray => x.2.length ≤ 65536) multi_len zs h1.range
  have HL0 : Hid (ss.length = len0) := h0.1
  have HGL : Hid (G.val.length ≤ 65536) := by
    show _ ≤ _
    rw [hG]; exact listR_len' zs h1.range
  have HZE : Hid (Z.err = G.err ∧ Z.done = G.done ∧ Z.val = G.val.map multiIt) := by rw [hZG]; exact ⟨rfl, rfl, rfl⟩
  have HE0 : Hid (G.err ≠ 0) := by rw [hG]; exact he0
  clear he0 h0 h1 s0 hX hI0 hG hZ hZG
  go_enter Try.func5, Try.ntmps5
  go_wp2_with fail
  refine (awake_any _).mono ?_
  rintro e w1 ⟨rfl, hB1⟩
  go_wp2_with fail
  go_loopw [6] (fun i wr => ∃ (k : Nat), k ≤ len0 ∧ i = .int .i64 k ∧ wr = w1 ∧ Hid (∀ j, j < k → (ss.getD j default).2.length ≤ 50)) (fun i _ => len0 - (intOf i).toNat)
  case atStart => exact ⟨0, by omega, rfl, rfl, fun j hj => by omega⟩
  case round =>
    obtain ⟨k, hk, rfl, rfl, HK⟩ := hrel
    by_cases hlt : k < len0
    · obtain ⟨b, off, a9, l9, c9, rfl, hc0, hc1, hv⟩ := (H0.out.old stays_m hB1).multi hlt
      have hl9m : l9 ≤ 9223372036854775807 := by have := Nat.le_trans hv.2.1 hv.2.2.1; unfold maxLen at this; exact this
      have HV9 : Hid ((ss.getD k default).2.length = l9) := hv.1
      clear hv hc0
      by_cases hl9 : 50 < l9
      · go_wp2_with fail
        go_ret
        exact ⟨rfl, hB1⟩
      · have t9 : decide ((50 : Int) < l9) = false := by simp; omega
        have HK2 : Hid (∀ j, j < k + 1 → (ss.getD j default).2.length ≤ 50) := by
          intro j hj
          by_cases hjk : j < k
          · exact HK.out j hjk
          · obtain rfl : j = k := by omega
            rw [HV9.out]; omega
        go_wp2_with fail
        go_roundw
        case rel => exact ⟨k + 1, by omega, by go_num, by first | rfl | trivial, HK2⟩
        case measure => simp [intOf]; omega
    · obtain rfl : k = len0 := by omega
      have HK3 : Hid (∀ x ∈ ss, x.2.length ≤ 50) := by
        intro x hx
        obtain ⟨i, hi, rfl⟩ := List.mem_iff_getElem.1 hx
        have := HK.out i (by rw [← HL0.out]; exact hi)
        rwa [List.getD_eq_getElem?_getD, List.getElem?_eq_getElem hi] at this
      have HM : Hid (∀ x ∈ ss, (keyB (listB textB) x).1.length ≤ 3400000) := by
        intro x hx
        have g1 := keyB_len (listB textB) x
        have g2 := listB_len textB 65537 x.2 (fun y _ => textB_len y)
        have g3 := HK3.out x hx
        omega
      have HS0 : Hid (∀ x ∈ I0, x.key.size ≤ maxLen ∧ (∀ s ∈ x.texts, s.size ≤ maxLen) ∧ x.texts.length ≤ 1000000000000) := by
        intro x hx
        rw [HI0.out] at hx
        obtain ⟨p, hp, rfl⟩ := List.mem_map.1 hx
        exact ⟨(S0.out p hp).1, (S0.out p hp).2, Nat.le_trans (HK3.out p hp) (by omega)⟩
      have HM2 : Hid (∀ x ∈ I0, (itemB2 x).1.length ≤ 3400000) := by
        intro x hx
        rw [HI0.out] at hx
        obtain ⟨p, hp, rfl⟩ := List.mem_map.1 hx
        exact HM.out p hp
      have HBB : Hid (65539 + I0.length * 3400000 ≤ 140737488355328) := by
        show _ ≤ _
        have : I0.length = k := by rw [HI0.out, List.length_map, HL0.out]
        rw [this]; omega
      clear hlt hk HK
      go_wp2_with fail
      refine (multis_any (H0.out.old stays_m hB1) S0.out 3400000 HM.out (by omega) HX.out).mono ?_
      rintro e w2 ⟨ax, cx, rfl, HPX, hB2⟩
      have hB02 : Below w.heap.size w w2 := hB1.trans (hB2.mono hB1.size)
      go_wp2_with fail
      refine (cmultis_any (H0.out.old stays_m hB02) (by omega) (fun x hx => Nat.le_trans (HK3.out x hx) (by omega))).mono ?_
      rintro e w3 ⟨v3, rfl, HO3, hB3⟩
      have hB03 : Below w.heap.size w w3 := hB02.trans (hB3.mono hB02.size)
      rw [← HI0.out] at HO3
      obtain ⟨a3, c3, rfl, hv3, _⟩ := HO3.out.view
      have HV3 : Hid (View 5 VI w3 a3 I0.length c3 I0) := hv3
      clear hv3 HO3
      go_wp2_with fail
      refine (rput2_any HV3.out HS0.out 3400000 HM2.out HBB.out HX2.out).mono ?_
      rintro e w4 ⟨ay, cy, rfl, HPY, hB4⟩
      have hB04 : Below w.heap.size w w4 := hB03.trans (hB4.mono hB03.size)
      go_wp2_with fail
      refine (getMultis_any (H1.out.old hB04) (by omega) HG.out).mono ?_
      rintro e w5 ⟨v5, r5, lr5, cr5, rfl, HO5, HB5, hB5⟩
      have hB05 : Below w.heap.size w w5 := hB04.trans (hB5.mono hB04.size)
      obtain ⟨a5, c5, rfl, hv5, _⟩ := HO5.out.view
      have HV5 : Hid (View 2 VM w5 a5 G.val.length c5 G.val) := hv5
      clear hv5 HO5
      go_wp2_with fail
      refine (rget2_any (H1.out.old hB05) 0 (by omega) _ rfl HZ.out).mono ?_
      rintro e w6 ⟨v6, rfl, HO6, hB6⟩
      have hB06 : Below w.heap.size w w6 := hB05.trans (hB6.mono hB05.size)
      obtain ⟨I, hI⟩ : ∃ I, I = G.val.map multiIt := ⟨_, rfl⟩
      rw [HZE.out.2.2, ← hI] at HO6
      rw [HZE.out.1]
      obtain ⟨a6, c6, rfl, hv6, _⟩ := HO6.out.view
      have HV6 : Hid (View 5 VI w6 a6 I.length c6 I) := hv6
      have HV5' : Hid (View 2 VM w6 a5 G.val.length c5 G.val) := HV5.out.old stays_m hB6
      have HII : Hid _ := hI
      obtain ⟨T, hT⟩ : ∃ T, T = strOfNums X.1 := ⟨_, rfl⟩
      have HCV : Hid (∀ W, Below w6.heap.size w6 W → (convert 23 9 (.slice ax X.1.length cx)).run Try.prog W = .ok (.string T) W ∧ (convert 23 9 (.slice ay X.1.length cy)).run Try.prog W = .ok (.string T) W) := by
        intro W hW
        have hx2 : Below w2.heap.size w2 w6 := hB3.trans ((hB4.trans ((hB5.trans (hB6.mono hB5.size)).mono hB4.size)).mono hB3.size)
        have hy2 : Below w4.heap.size w4 w6 := hB5.trans (hB6.mono hB5.size)
        rw [hT]
        exact ⟨((HPX.out.2.old hx2).old hW).conv, ((HPY.out.2.old hy2).old hW).conv⟩
      obtain ⟨hc1, hc2⟩ := HCV.out w6.drew (Below.refl w6.heap.size w6).drew
      have HGL' : Hid (G.val.length ≤ 100000000 ∧ ∀ x ∈ G.val, x.2.length ≤ 8000000000000) := ⟨Nat.le_trans HGL.out (by omega), fun x hx => Nat.le_trans (HGA.out x hx) (by omega)⟩
      have HBE : Hid (Behind w6 a1 r5 lr5 cr5 zs G.done G.err) := HB5.out.old hB6
      clear hv6 HO6 HV5 HV3 HPX HPY hB1 hB2 hB3 hB4 hB5 hB02 hB03 hB04 hB05 HB5 hT hI HS0 HX HX2 S0 HI0
      by_cases he : G.err = 0
      · exact absurd he HE0.out
      · have t : (G.err == 0) = false := by simpa using he
        have t2 : (G.err != 0) = true := by simpa using he
        have hlr : lr5 = 0 := by
          rcases HBE.out with ⟨_, h⟩ | ⟨h, _⟩
          · exact h
          · exact absurd h he
        subst hlr
        clear he
        go_upto_region 15 with fail
        have hu : undef = Value.tuple #[] := rfl
        first
          | (go_region_held (fun w' => (convert 23 9 (.slice ax X.1.length cx)).run Try.prog w' = .ok (.string T) w' ∧ (convert 23 9 (.slice ay X.1.length cy)).run Try.prog w' = .ok (.string T) w')
              (exact ⟨by assumption, by assumption⟩) (first
              | (go_at_call 21; refine (cmultis_in (w := w6) ?_ HV5'.out HGL'.out HII.out).mono ?_; (exact (Below.refl _ _).drew); rintro e w7 ⟨a7, c7, rfl, HV7, hB7⟩; obtain ⟨hc3, hc4⟩ := HCV.out w7 hB7)
              | (go_at_call 16; refine (same_in hB7 HV7.out HV6.out).mono ?_; rintro e w8 ⟨rfl, hB8⟩; obtain ⟨hc5, hc6⟩ := HCV.out w8 hB8)))
          | fail
        all_goals (go_wp2_with fail; go_ret; exact ⟨by simp, hB06.trans (hB8.mono hB06.size)⟩)
end Go.Proofs.Ytohgaeamfobcaaa
