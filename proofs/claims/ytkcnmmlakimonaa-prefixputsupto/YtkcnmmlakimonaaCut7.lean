/-
  PrefixCut walked, where no value has more than 1048576 bytes: it answers true, and turns nothing that was there.
-/
import Derived.Test.YtkcnmmlakimonaaBack7
import Derived.Test.YtkcnmmlakimonaaLawKit
namespace Go.Proofs.Ytkcnmmlakimonaa
open Go.RowKit
set_option maxRecDepth 100000
set_option linter.unusedVariables false
set_option linter.unusedSimpArgs false

theorem i64_and16 (n : Int) : bits .and .i64 n 65535 = n % 65536 := by
  have h7 : (BitVec.ofInt 64 65535).toNat = 2 ^ 16 - 1 := by decide
  have key : (BitVec.ofInt 64 n &&& BitVec.ofInt 64 65535).toNat = (n % ((2 ^ 64 : Nat) : Int)).toNat % 2 ^ 16 := by
    rw [BitVec.toNat_and, BitVec.toNat_ofInt, h7, Nat.and_two_pow_sub_one_eq_mod]
  show IntKind.i64.wrap ((BitVec.ofInt 64 n &&& BitVec.ofInt 64 65535).toNat : Nat) = n % 65536
  rw [key, IntKind.wrap_i64]
  omega

theorem IsB.cut {w : World} {a : Option Addr} {len cap : Nat} {zs : List Int} (h : IsB w a len cap zs) (r : Nat) (hr : r ≤ len) : IsB w a r cap (zs.take r) := by
  obtain ⟨h1, h2, h3, h4, h5⟩ := h
  refine ⟨by rw [List.length_take]; omega, by omega, h3, fun e => ⟨by have := (h4 e).1; omega, (h4 e).2⟩, fun hp => ?_⟩
  obtain ⟨b, off, ha, hR⟩ := h5 (by omega)
  refine ⟨b, off, ha, by rw [List.length_take]; omega, by omega, h3, fun _ => hR.lt (by omega), fun i hi => ?_, range_take hR.rng r⟩
  rw [hR.cell i (by omega), List.getD_eq_getElem?_getD, List.getD_eq_getElem?_getD, List.getElem?_take_of_lt hi]

theorem wr0_bad {T : List Int} {ws : List ByteArray} {es : List En} (h : (wr0 (T, ws, es)).2.2 ≠ 0) : (wr0 (T, ws, es)).1 = [] ∧ (wr0 (T, ws, es)).2.1 = 0 := by
  by_cases hT : T.length = 0 ∨ T.length = 16
  · by_cases h0 : (listB textB ws).2 = 0
    · by_cases h3 : (listB (keyB valueB) es).2 = 0
      · rw [wr0_then hT, wr1_ok h0, wr2_ok h3] at h
        exact absurd rfl h
      · rw [wr0_then hT, wr1_ok h0, wr2_err h3]
        exact ⟨rfl, rfl⟩
    · rw [wr0_then hT, wr1_err h0]
      exact ⟨rfl, rfl⟩
  · rw [wr0_arg (by omega) (by omega)]
    exact ⟨rfl, rfl⟩

theorem wr0_void {T : List Int} {ws : List ByteArray} {es : List En} (h : (wr0 (T, ws, es)).2.2 = 0) (hl : (wr0 (T, ws, es)).1.length = 0) : (wr0 (T, ws, es)).2.1 = 0 := by
  obtain ⟨hT, hW, hE, e⟩ := wr0_form h
  rw [e] at hl ⊢
  simp only [List.length_append] at hl ⊢
  have h2 : ws.length = 0 := by
    by_cases h0 : ws.length = 0
    · exact h0
    · have := listB_two hW
      rw [wB, if_neg h0] at hl
      omega
  have h3 : es.length = 0 := by
    by_cases h0 : es.length = 0
    · exact h0
    · have := listB_two hE
      rw [eB, if_neg h0] at hl
      omega
  unfold flB
  rw [if_pos h2, if_pos h3, if_pos (by omega)]
  rfl

theorem wr0_len {x : Pre} (hF : Fit7 x) : (wr0 x).1.length ≤ 5000000000 := by
  obtain ⟨T, ws, es⟩ := x
  by_cases h : (wr0 (T, ws, es)).2.2 = 0
  · obtain ⟨hT, hW, hE, e⟩ := wr0_form h
    rw [e]
    simp only [List.length_append]
    have h1 : (wB ws).length ≤ 4294967297 := by
      unfold wB
      split
      · simp
      · exact listB_textB_len ws
    have h2 : (eB es).length ≤ 55705852 := by
      unfold eB
      split
      · simp
      · exact entries_len es hF.2.1 hF.2.2
    omega
  · rw [(wr0_bad h).1]
    simp

theorem box3 {w W : World} {x0 x1 x2 : Value} {t : TypeId} (hB : Below (w.heap.size + 1) (w.alloc (.cells #[x0, x1, x2] t)) W) : W.cell? ⟨w.heap.size, 0, none⟩ = some x0 ∧ W.cell? ⟨w.heap.size, 1, none⟩ = some x1 ∧ W.cell? ⟨w.heap.size, 2, none⟩ = some x2 := by
  refine ⟨?_, ?_, ?_⟩ <;> (rw [hB.cell (by simp)]; simp [go_sem])

set_option maxHeartbeats 1000000 in
theorem cut_big (t : Option Addr) (lt ct : Nat) (v1 : Option Addr) (l1 c1 : Nat) (v2 : Option Addr) (l2 c2 : Nat) (n : Int) (w : World) (h : 50 < l1 ∨ 50 < l2 ∨ 50 < lt) :
    Calls Try.prog 6 #[.agg #[.slice t lt ct, .slice v1 l1 c1, .slice v2 l2 c2], .int .i64 n] w fun e w' => e = .returned (.bool true) ∧ Below w.heap.size w w' := by
  have go : ∀ (b1 b2 b3 : Bool), decide ((50 : Int) < l1) = b1 → decide ((50 : Int) < l2) = b2 → decide ((50 : Int) < lt) = b3 → (b1 = true ∨ (b1 = false ∧ b2 = true) ∨ (b1 = false ∧ b2 = false ∧ b3 = true)) →
      Calls Try.prog 6 #[.agg #[.slice t lt ct, .slice v1 l1 c1, .slice v2 l2 c2], .int .i64 n] w fun e w' => e = .returned (.bool true) ∧ Below w.heap.size w w' := by
    intro b1 b2 b3 t1 t2 t3 hb
    rcases hb with rfl | ⟨rfl, rfl⟩ | ⟨rfl, rfl, rfl⟩
    all_goals (
      go_enter Try.func6, Try.ntmps6
      go_wp2_with fail
      refine (awake7 _).mono ?_
      rintro e w1 ⟨rfl, HB1⟩
      obtain ⟨k0, k1, k2⟩ := box3 (HB1.out.mono (by simp))
      go_wp2_with fail
      go_ret
      exact ⟨rfl, (below_one w _).trans (HB1.out.mono (by simp))⟩)
  refine go _ _ _ rfl rfl rfl ?_
  simp only [decide_eq_true_eq, decide_eq_false_iff_not]
  omega

set_option maxHeartbeats 8000000 in
theorem cut_small (t : Option Addr) (lt ct : Nat) (v1 : Option Addr) (l1 c1 : Nat) (v2 : Option Addr) (l2 c2 : Nat) (x : Pre) (n : Int) (w : World) (hV : PV w t lt ct v1 l1 c1 v2 l2 c2 x) (s1 : ∀ s ∈ x.2.1, s.size ≤ maxLen) (s2 : ∀ y ∈ x.2.2, y.1.size ≤ maxLen ∧ y.2.2.size ≤ 1048576) (h1 : l1 ≤ 50) (h2 : l2 ≤ 50) (h3 : lt ≤ 50) :
    Calls Try.prog 6 #[.agg #[.slice t lt ct, .slice v1 l1 c1, .slice v2 l2 c2], .int .i64 n] w fun e w' => e = .returned (.bool true) ∧ Below w.heap.size w w' := by
  have t1 : decide ((50 : Int) < l1) = false := by simp; omega
  have t2 : decide ((50 : Int) < l2) = false := by simp; omega
  have t3 : decide ((50 : Int) < lt) = false := by simp; omega
  obtain ⟨κ, hκ, hκ7⟩ : ∃ j : Nat, n % 65536 = j ∧ j ≤ 65535 := ⟨(n % 65536).toNat, by omega, by omega⟩
  have hand := i64_and16 n
  rw [hκ] at hand
  have HF : Hid (Fit7 x) := ⟨s1, s2, by have := hV.2.2.1; omega⟩
  obtain ⟨Y, hY⟩ : ∃ Y, Y = wr0 x := ⟨_, rfl⟩
  have HY : Hid (Y = wr0 x) := hY
  have HV : Hid (PV w t lt ct v1 l1 c1 v2 l2 c2 x) := hV
  have hYl : Y.1.length ≤ 5000000000 := by rw [hY]; exact wr0_len HF.out
  have HBAD : Hid (Y.2.2 ≠ 0 → Y.1 = [] ∧ Y.2.1 = 0) := by rw [hY]; exact fun h => wr0_bad h
  have HVOID : Hid (Y.2.2 = 0 → Y.1.length = 0 → Y.2.1 = 0) := by rw [hY]; exact fun h hl => wr0_void h hl
  have HCUT : Hid (Y.2.2 = 0 → ∀ k, k < Y.1.length → (rest0 Y.2.1 (Y.1.take k)).err = 10) := by rw [hY]; exact fun h k hk => read_cut (fun y hy => (s2 y hy).2) h hk
  clear hV s1 s2 h1 h2 h3 hY hκ
  go_enter Try.func6, Try.ntmps6
  go_wp2_with fail
  refine (awake7 _).mono ?_
  rintro e w1 ⟨rfl, HB1⟩
  obtain ⟨k0, k1, k2⟩ := box3 (HB1.out.mono (by simp))
  have HW1 : Hid (Below w.heap.size w w1) := (below_one w _).trans (HB1.out.mono (by simp))
  clear HB1
  go_wp2_with fail
  refine (put_any (HV.out.old HW1.out) HF.out HY.out).mono ?_
  rintro e w2 ⟨ab, cb, rfl, HP, HB2⟩
  have HW2 : Hid (Below w.heap.size w w2) := HW1.out.trans (HB2.out.mono HW1.out.size)
  have HIB : Hid (IsB w2 ab Y.1.length cb Y.1) := HP.out.2
  by_cases he : Y.2.2 = 0
  · by_cases hz : Y.1.length = 0
    · have t4 : ((Y.1.length : Int) == 0) = true := by rw [beq_iff_eq]; omega
      have hfl := HVOID.out he hz
      have t5 : (Y.2.1 == 0) = true := by rw [beq_iff_eq]; exact hfl
      rw [he]
      clear he
      rw [hz] at *
      rw [hfl]
      go_wp2_with fail
      go_ret
      exact ⟨by simp, HW2.out⟩
    · have hp : 0 < Y.1.length := by omega
      have rx := Nat.mod_lt κ hp
      have mx : (κ : Int).tmod Y.1.length = ((κ % Y.1.length : Nat) : Int) := by rw [Int.natCast_emod]; exact Int.tmod_eq_emod_of_nonneg (by omega)
      have t4 : ((Y.1.length : Int) == 0) = false := by rw [beq_eq_false_iff_ne]; omega
      have hcx := HIB.out.2.1
      have hcxm : cb ≤ 9223372036854775807 := HIB.out.2.2.1
      obtain ⟨G, hG⟩ : ∃ G, G = rest0 Y.2.1 (Y.1.take (κ % Y.1.length)) := ⟨_, rfl⟩
      have e1 : G.err = 10 := by rw [hG]; exact HCUT.out he _ rx
      have HI1 : Hid (IsB w2 ab (κ % Y.1.length) cb (Y.1.take (κ % Y.1.length))) := HIB.out.cut _ (Nat.le_of_lt rx)
      obtain ⟨r1, hr1⟩ : ∃ r, r = κ % Y.1.length := ⟨_, rfl⟩
      rw [← hr1] at rx mx HI1 hG
      have HG : Hid (G = rest0 Y.2.1 (Y.1.take r1)) := hG
      have E1 : Hid (G.err = 10) := e1
      rw [he]
      clear he hG e1 hr1 hz HBAD HVOID HCUT
      go_wp2_with fail
      refine (resp_pv _ HI1.out (by omega) HG.out).mono ?_
      rintro e w3 ⟨t', lt', ct', v1', l1', c1', v2', l2', c2', r, lr, cr, rfl, HPV, HN, HL, HB3⟩
      obtain ⟨rfl, rfl, rfl⟩ := HL.out.2 (by rw [E1.out]; decide)
      rw [E1.out]
      go_wp2_with fail
      go_ret
      exact ⟨by simp, (HW2.out.trans (HB3.out.mono HW2.out.size)).alloc (Nat.le_trans HW2.out.size HB3.out.size) _⟩
  · obtain ⟨hb1, hb2⟩ := HBAD.out he
    have t4 : (Y.2.2 == 0) = false := by rw [beq_eq_false_iff_ne]; exact he
    have hz : Y.1.length = 0 := by rw [hb1]; rfl
    clear HBAD HVOID HCUT he hb1
    rw [hz, hb2]
    go_wp2_with fail
    go_ret
    exact ⟨by simp, HW2.out⟩

theorem cut_any (t : Option Addr) (lt ct : Nat) (v1 : Option Addr) (l1 c1 : Nat) (v2 : Option Addr) (l2 c2 : Nat) (x : Pre) (n : Int) (w : World) (hV : PV w t lt ct v1 l1 c1 v2 l2 c2 x) (s1 : ∀ s ∈ x.2.1, s.size ≤ maxLen) (s2 : ∀ y ∈ x.2.2, y.1.size ≤ maxLen ∧ y.2.2.size ≤ 1048576) :
    Calls Try.prog 6 #[.agg #[.slice t lt ct, .slice v1 l1 c1, .slice v2 l2 c2], .int .i64 n] w fun e w' => e = .returned (.bool true) ∧ Below w.heap.size w w' := by
  by_cases h : 50 < l1 ∨ 50 < l2 ∨ 50 < lt
  · exact cut_big t lt ct v1 l1 c1 v2 l2 c2 n w h
  · exact cut_small t lt ct v1 l1 c1 v2 l2 c2 x n w hV s1 s2 (by omega) (by omega) (by omega)
end Go.Proofs.Ytkcnmmlakimonaa
