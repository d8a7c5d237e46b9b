/-
  MapsCut walked, where no value has more than 1048576 bytes: it answers true, and turns nothing that was there.
-/
import Derived.Test.YtohgaeamfobcaaaCutMath
namespace Go.Proofs.Ytohgaeamfobcaaa
open Go.RowKit
set_option linter.unusedVariables false
set_option linter.unusedSimpArgs false

theorem i64_and16 (n : Int) : bits .and .i64 n 65535 = n % 65536 := by
  have h7 : (BitVec.ofInt 64 65535).toNat = 2 ^ 16 - 1 := by decide
  have key : (BitVec.ofInt 64 n &&& BitVec.ofInt 64 65535).toNat = (n % ((2 ^ 64 : Nat) : Int)).toNat % 2 ^ 16 := by
    rw [BitVec.toNat_and, BitVec.toNat_ofInt, h7, Nat.and_two_pow_sub_one_eq_mod]
  show IntKind.i64.wrap ((BitVec.ofInt 64 n &&& BitVec.ofInt 64 65535).toNat : Nat) = n % 65536
  rw [key, IntKind.wrap_i64]
  omega

theorem IsB.cut {w : World} {a : Option Addr} {len cap : Nat} {zs : List Int} (h : IsB w a len cap zs) (r : Nat) (hr : r ≤ len) : IsB w a r cap (zs.take r) := by
  obtain ⟨h1, h2, h3, h4, h5⟩ := h
  refine ⟨by rw [List.length_take]; omega, by omega, h3, fun e => ⟨by have := (h4 e).1; omega, (h4 e).2⟩, fun hp => ?_⟩
  obtain ⟨b, off, ha, hR⟩ := h5 (by omega)
  refine ⟨b, off, ha, by rw [List.length_take]; omega, by omega, h3, fun _ => hR.lt (by omega), fun i hi => ?_, range_take hR.rng r⟩
  rw [hR.cell i (by omega), List.getD_eq_getElem?_getD, List.getD_eq_getElem?_getD, List.getElem?_take_of_lt hi]

set_option maxRecDepth 100000 in
set_option maxHeartbeats 1000000 in
theorem cut_big (a0 : Option Addr) (len0 cap0 : Nat) (a1 : Option Addr) (len1 cap1 : Nat) (a2 : Option Addr) (len2 cap2 : Nat) (n : Int) (w : World) (h0 : len0 ≤ maxLen) (h1 : len1 ≤ maxLen) (h2 : len2 ≤ maxLen) (h : 50 < len0 ∨ 50 < len1 ∨ 50 < len2) :
    Calls Try.prog 8 #[.slice a0 len0 cap0, .slice a1 len1 cap1, .slice a2 len2 cap2, .int .i64 n] w fun e w' => e = .returned (.bool true) ∧ Below w.heap.size w w' := by
  unfold maxLen at h0 h1 h2
  by_cases hl0 : 50 < len0
  · go_enter Try.func8, Try.ntmps8
    go_wp2_with fail
    refine (awake_any _).mono ?_
    rintro e w1 ⟨rfl, hB1⟩
    go_wp2
    go_ret
    exact ⟨rfl, hB1⟩
  · have t0 : decide ((50 : Int) < len0) = false := by simp; omega
    by_cases hl1 : 50 < len1
    · go_enter Try.func8, Try.ntmps8
      go_wp2_with fail
      refine (awake_any _).mono ?_
      rintro e w1 ⟨rfl, hB1⟩
      go_wp2
      go_ret
      exact ⟨rfl, hB1⟩
    · have t1 : decide ((50 : Int) < len1) = false := by simp; omega
      have hl2 : 50 < len2 := by omega
      clear h
      go_enter Try.func8, Try.ntmps8
      go_wp2_with fail
      refine (awake_any _).mono ?_
      rintro e w1 ⟨rfl, hB1⟩
      go_wp2
      go_ret
      exact ⟨rfl, hB1⟩

set_option maxRecDepth 100000 in
set_option maxHeartbeats 8000000 in
theorem cut_small (a0 : Option Addr) (len0 cap0 : Nat) (ss : List ByteArray) (a1 : Option Addr) (len1 cap1 : Nat) (ps : List (ByteArray × ByteArray)) (a2 : Option Addr) (len2 cap2 : Nat) (es : List (ByteArray × Int × ByteArray)) (n : Int) (w : World)
    (h0 : View 1 VS w a0 len0 cap0 ss) (s0 : ∀ s ∈ ss, s.size ≤ maxLen) (h1 : View 2 VP w a1 len1 cap1 ps) (s1 : ∀ p ∈ ps, p.1.size ≤ maxLen ∧ p.2.size ≤ maxLen) (h2 : View 3 VE w a2 len2 cap2 es) (s2 : ∀ p ∈ es, p.1.size ≤ maxLen ∧ p.2.2.size ≤ 1048576)
    (l0 : len0 ≤ 50) (l1 : len1 ≤ 50) (l2 : len2 ≤ 50) :
    Calls Try.prog 8 #[.slice a0 len0 cap0, .slice a1 len1 cap1, .slice a2 len2 cap2, .int .i64 n] w fun e w' => e = .returned (.bool true) ∧ Below w.heap.size w w' := by
  have t0 : decide ((50 : Int) < len0) = false := by simp; omega
  have t1 : decide ((50 : Int) < len1) = false := by simp; omega
  have t2 : decide ((50 : Int) < len2) = false := by simp; omega
  obtain ⟨κ, hκ, hκ7⟩ : ∃ j : Nat, n % 65536 = j ∧ j ≤ 65535 := ⟨(n % 65536).toNat, by omega, by omega⟩
  have hand := i64_and16 n
  rw [hκ] at hand
  have H0 : Hid (View 1 VS w a0 len0 cap0 ss) := h0
  have H1 : Hid (View 2 VP w a1 len1 cap1 ps) := h1
  have H2 : Hid (View 3 VE w a2 len2 cap2 es) := h2
  obtain ⟨X, hX⟩ : ∃ X, X = listB textB ss := ⟨_, rfl⟩
  obtain ⟨Y, hY⟩ : ∃ Y, Y = listB (keyB textB) ps := ⟨_, rfl⟩
  obtain ⟨Z, hZ⟩ : ∃ Z, Z = listB (keyB valueB) es := ⟨_, rfl⟩
  have S0 : Hid _ := s0
  have S1 : Hid _ := s1
  have S2 : Hid (∀ p ∈ es, p.1.size ≤ maxLen ∧ p.2.2.size ≤ 140737488289787) := fun p hp => ⟨(s2 p hp).1, Nat.le_trans (s2 p hp).2 (by omega)⟩
  have HM : Hid (∀ x ∈ es, (keyB valueB x).1.length ≤ 1114117) := by
    intro x hx
    have g1 := keyB_len valueB x
    have g2 := valueB_len x.2
    have g3 := (s2 x hx).2
    omega
  have HX : Hid _ := hX
  have HY : Hid _ := hY
  have HZ : Hid _ := hZ
  have hlen : ∀ {α : Type} (f : α → List Int × Int) (M : Nat) (xs : List α) (len : Nat), xs.length = len → len ≤ 50 → M ≤ 2000000 → (∀ x ∈ xs, (f x).1.length ≤ M) → (listB f xs).1.length ≤ 200000000 := by
    intro α f M xs len hl hl2 hM2 hM
    have g1 := listB_len f M xs hM
    have g2 : xs.length * M ≤ 50 * 2000000 := Nat.mul_le_mul (by omega) hM2
    omega
  have hXl : X.1.length ≤ 200000000 := by rw [hX]; exact hlen textB 65537 ss len0 h0.1 l0 (by omega) (fun x _ => textB_len x)
  have hYl : Y.1.length ≤ 200000000 := by rw [hY]; exact hlen (keyB textB) 131074 ps len1 h1.1 l1 (by omega) (fun x _ => keyB_textB_len x)
  have hZl : Z.1.length ≤ 200000000 := by rw [hZ]; exact hlen (keyB valueB) 1114117 es len2 h2.1 l2 (by omega) HM.out
  have HCX : Hid (X.2 = 0 → 2 ≤ X.1.length ∧ ∀ r, r < X.1.length → (listR textR (X.1.take r)).err = 10) := by
    intro hx
    rw [hX] at hx ⊢
    exact ⟨by rw [(listB_ok hx).2.1, List.length_append, putL_length]; omega, fun r hr => cuts_list ss (fun x _ => reads_text x) (fun x _ => cuts_text x) hx r hr⟩
  have HCY : Hid (Y.2 = 0 → 2 ≤ Y.1.length ∧ ∀ r, r < Y.1.length → (listR (keyR textR) (Y.1.take r)).err = 10) := by
    intro hx
    rw [hY] at hx ⊢
    exact ⟨by rw [(listB_ok hx).2.1, List.length_append, putL_length]; omega, fun r hr => cuts_list ps (fun x _ => reads_key x (reads_text _)) (fun x _ => cuts_key x (cuts_text _)) hx r hr⟩
  have HCZ : Hid (Z.2 = 0 → 2 ≤ Z.1.length ∧ ∀ r, r < Z.1.length → (listR (keyR valueR) (Z.1.take r)).err = 10) := by
    intro hx
    rw [hZ] at hx ⊢
    exact ⟨by rw [(listB_ok hx).2.1, List.length_append, putL_length]; omega, fun r hr => cuts_list es (fun x hm => reads_key x (reads_value _ (by have := (s2 x hm).2; omega))) (fun x hm => cuts_key x (cuts_value _ (by have := (s2 x hm).2; omega))) hx r hr⟩
  clear h0 h1 h2 s0 s1 s2 hX hY hZ hlen hκ
  go_enter Try.func8, Try.ntmps8
  go_wp2_with fail
  refine (awake_any _).mono ?_
  rintro e w1 ⟨rfl, hB1⟩
  go_wp2_with fail
  refine (texts_any (H0.out.old stays_s hB1) S0.out HX.out).mono ?_
  rintro e w2 ⟨ax, cx, rfl, HPX, hB2⟩
  have hB02 : Below w.heap.size w w2 := hB1.trans (hB2.mono hB1.size)
  go_wp2_with fail
  refine (pairs_any (H1.out.old stays_p hB02) S1.out HY.out).mono ?_
  rintro e w3 ⟨ay, cy, rfl, HPY, hB3⟩
  have hB03 : Below w.heap.size w w3 := hB02.trans (hB3.mono hB02.size)
  go_wp2_with fail
  refine (entries_any (H2.out.old stays_e hB03) S2.out 1114117 HM.out (by omega) HZ.out).mono ?_
  rintro e w4 ⟨az, cz, rfl, HPZ, hB4⟩
  have hB04 : Below w.heap.size w w4 := hB03.trans (hB4.mono hB03.size)
  by_cases hx : X.2 = 0
  · by_cases hy : Y.2 = 0
    · by_cases hz : Z.2 = 0
      · obtain ⟨hx2, hxc⟩ := HCX.out hx
        obtain ⟨hy2, hyc⟩ := HCY.out hy
        obtain ⟨hz2, hzc⟩ := HCZ.out hz
        have HXC : Hid _ := hxc
        have HYC : Hid _ := hyc
        have HZC : Hid _ := hzc
        have HPX4 : Hid (IsB w4 ax X.1.length cx X.1) := (HPX.out.2.old hB3).old hB4
        have HPY4 : Hid (IsB w4 ay Y.1.length cy Y.1) := HPY.out.2.old hB4
        have HPZ4 : Hid (IsB w4 az Z.1.length cz Z.1) := HPZ.out.2
        have hxp : 0 < X.1.length := by omega
        have hyp : 0 < Y.1.length := by omega
        have hzp : 0 < Z.1.length := by omega
        have rx := Nat.mod_lt κ hxp
        have ry := Nat.mod_lt κ hyp
        have rz := Nat.mod_lt κ hzp
        have mx : (κ : Int).tmod X.1.length = ((κ % X.1.length : Nat) : Int) := by rw [Int.natCast_emod]; exact Int.tmod_eq_emod_of_nonneg (by omega)
        have my : (κ : Int).tmod Y.1.length = ((κ % Y.1.length : Nat) : Int) := by rw [Int.natCast_emod]; exact Int.tmod_eq_emod_of_nonneg (by omega)
        have mz : (κ : Int).tmod Z.1.length = ((κ % Z.1.length : Nat) : Int) := by rw [Int.natCast_emod]; exact Int.tmod_eq_emod_of_nonneg (by omega)
        have hcx := HPX4.out.2.1
        have hcxm : cx ≤ 9223372036854775807 := HPX4.out.2.2.1
        have hcy := HPY4.out.2.1
        have hcym : cy ≤ 9223372036854775807 := HPY4.out.2.2.1
        have hcz := HPZ4.out.2.1
        have hczm : cz ≤ 9223372036854775807 := HPZ4.out.2.2.1
        obtain ⟨G1, hG1⟩ : ∃ G, G = listR textR (X.1.take (κ % X.1.length)) := ⟨_, rfl⟩
        obtain ⟨G2, hG2⟩ : ∃ G, G = listR (keyR textR) (Y.1.take (κ % Y.1.length)) := ⟨_, rfl⟩
        obtain ⟨G3, hG3⟩ : ∃ G, G = listR (keyR valueR) (Z.1.take (κ % Z.1.length)) := ⟨_, rfl⟩
        have e1 : G1.err = 10 := by rw [hG1]; exact hxc _ rx
        have e2 : G2.err = 10 := by rw [hG2]; exact hyc _ ry
        have e3 : G3.err = 10 := by rw [hG3]; exact hzc _ rz
        have HG1 : Hid _ := hG1
        have HG2 : Hid _ := hG2
        have HG3 : Hid _ := hG3
        have E1 : Hid _ := e1
        have E2 : Hid _ := e2
        have E3 : Hid _ := e3
        have HI1 : Hid (IsB w4 ax (κ % X.1.length) cx (X.1.take (κ % X.1.length))) := HPX4.out.cut _ (Nat.le_of_lt rx)
        have HI2 : Hid (IsB w4 ay (κ % Y.1.length) cy (Y.1.take (κ % Y.1.length))) := HPY4.out.cut _ (Nat.le_of_lt ry)
        have HI3 : Hid (IsB w4 az (κ % Z.1.length) cz (Z.1.take (κ % Z.1.length))) := HPZ4.out.cut _ (Nat.le_of_lt rz)
        obtain ⟨r1, hr1⟩ : ∃ r, r = κ % X.1.length := ⟨_, rfl⟩
        obtain ⟨r2, hr2⟩ : ∃ r, r = κ % Y.1.length := ⟨_, rfl⟩
        obtain ⟨r3, hr3⟩ : ∃ r, r = κ % Z.1.length := ⟨_, rfl⟩
        rw [← hr1] at rx mx HI1 HG1
        rw [← hr2] at ry my HI2 HG2
        rw [← hr3] at rz mz HI3 HG3
        clear hxc hyc hzc hG1 hG2 hG3 e1 e2 e3 hr1 hr2 hr3 HXC HYC HZC HCX HCY HCZ HM S0 S1 S2 HX HY HZ H0 H1 H2 hB1 hB2 hB3 hB4 hB02 hB03
        rw [hx, hy, hz]
        go_wp2_with fail
        refine (getTexts_any HI1.out (by omega) HG1.out).mono ?_
        rintro e w5 ⟨v5, r5, lr5, cr5, rfl, HO5, HB5, hB5⟩
        rw [E1.out]
        have hB05 : Below w.heap.size w w5 := hB04.trans (hB5.mono hB04.size)
        go_wp2_with fail
        refine (getPairs_any (HI2.out.old hB5) (by omega) HG2.out).mono ?_
        rintro e w6 ⟨v6, r6, lr6, cr6, rfl, HO6, HB6, hB6⟩
        rw [E2.out]
        have hB06 : Below w.heap.size w w6 := hB05.trans (hB6.mono hB05.size)
        go_wp2_with fail
        refine (getEntries_any ((HI3.out.old hB5).old hB6) (by omega) HG3.out).mono ?_
        rintro e w7 ⟨v7, r7, lr7, cr7, rfl, HO7, HB7, hB7⟩
        rw [E3.out]
        have hB07 : Below w.heap.size w w7 := hB06.trans (hB7.mono hB06.size)
        go_wp2_with fail
        go_ret
        exact ⟨by simp, hB07⟩
      · have tz : (Z.2 == 0) = false := by simpa using hz
        rw [hx, hy]
        go_wp2_with fail
        go_ret
        exact ⟨rfl, hB04⟩
    · have ty : (Y.2 == 0) = false := by simpa using hy
      rw [hx]
      go_wp2_with fail
      go_ret
      exact ⟨rfl, hB04⟩
  · have tx : (X.2 == 0) = false := by simpa using hx
    go_wp2_with fail
    go_ret
    exact ⟨rfl, hB04⟩

theorem cut_walk (a0 : Option Addr) (len0 cap0 : Nat) (ss : List ByteArray) (a1 : Option Addr) (len1 cap1 : Nat) (ps : List (ByteArray × ByteArray)) (a2 : Option Addr) (len2 cap2 : Nat) (es : List (ByteArray × Int × ByteArray)) (n : Int) (w : World)
    (h0 : View 1 VS w a0 len0 cap0 ss) (s0 : ∀ s ∈ ss, s.size ≤ maxLen) (h1 : View 2 VP w a1 len1 cap1 ps) (s1 : ∀ p ∈ ps, p.1.size ≤ maxLen ∧ p.2.size ≤ maxLen) (h2 : View 3 VE w a2 len2 cap2 es) (s2 : ∀ p ∈ es, p.1.size ≤ maxLen ∧ p.2.2.size ≤ 1048576) :
    Calls Try.prog 8 #[.slice a0 len0 cap0, .slice a1 len1 cap1, .slice a2 len2 cap2, .int .i64 n] w fun e w' => e = .returned (.bool true) ∧ Below w.heap.size w w' := by
  by_cases hbig : 50 < len0 ∨ 50 < len1 ∨ 50 < len2
  · exact cut_big a0 len0 cap0 a1 len1 cap1 a2 len2 cap2 n w (Nat.le_trans h0.2.1 h0.2.2.1) (Nat.le_trans h1.2.1 h1.2.2.1) (Nat.le_trans h2.2.1 h2.2.2.1) hbig
  · exact cut_small a0 len0 cap0 ss a1 len1 cap1 ps a2 len2 cap2 es n w h0 s0 h1 s1 h2 s2 (by omega) (by omega) (by omega)
end Go.Proofs.Ytohgaeamfobcaaa
