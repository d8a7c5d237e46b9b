/-
  The law's own functions: a number as digits; two rows of texts held against each other.
-/
import Derived.Test.YtohkpihjkaffoaaDoorRm
import Derived.Test.YtohkpihjkaffoaaDoorMath
namespace Go.Proofs.YtohkpihjkaffoaaDoor
open Go.RowKit Go.Lib
set_option maxRecDepth 100000
set_option linter.unusedVariables false
set_option linter.unusedSimpArgs false

set_option maxHeartbeats 1000000 in
theorem same_any {w : World} {a a' : Option Addr} {len cap len' cap' : Nat} {A B : List ByteArray} (h : View 1 VS w a len cap A) (h' : View 1 VS w a' len' cap' B) {r : Bool} (hr : r = decide (A = B)) :
    Calls Tryd.prog 15 #[.slice a len cap, .slice a' len' cap'] w fun e w' => e = .returned (.bool r) ∧ ∃ q, w' = w.drewN q := by
  have H : Hid (View 1 VS w a len cap A) := h
  have H' : Hid (View 1 VS w a' len' cap' B) := h'
  have HA : Hid (A.length = len) := h.1
  have HBB : Hid (B.length = len') := h'.1
  have hc1 := h.2.1
  have hc2 : cap ≤ 9223372036854775807 := h.2.2.1
  have hc3 := h'.2.1
  have hc4 : cap' ≤ 9223372036854775807 := h'.2.2.1
  clear h h'
  by_cases hll : len = len'
  · subst hll
    have HR : Hid (r = decide (A = B)) := hr
    clear hr
    go_enter Tryd.func15, Tryd.ntmps15
    go_wp2_with fail
    go_loopw [5] (fun i wr => ∃ (k q : Nat), k ≤ len ∧ i = .int .i64 k ∧ wr = w.drewN q ∧ Hid (∀ j, j < k → A.getD j default = B.getD j default)) (fun i _ => len - (intOf i).toNat)
    case atStart => exact ⟨0, 0, by omega, rfl, rfl, fun j hj => by omega⟩
    case round =>
      obtain ⟨k, q, hk, rfl, rfl, HJ⟩ := hrel
      by_cases hlt : k < len
      · obtain ⟨b, off, ha, hb, hc⟩ := H.out.str hlt
        obtain ⟨b', off', ha', hb', hc'⟩ := H'.out.str hlt
        subst ha ha'
        obtain ⟨x, hx⟩ : ∃ x, x = A.getD k default := ⟨_, rfl⟩
        obtain ⟨y, hy⟩ : ∃ y, y = B.getD k default := ⟨_, rfl⟩
        rw [← hx] at hc
        rw [← hy] at hc'
        by_cases hxy : x = y
        · subst hxy
          have HJ2 : Hid (∀ j, j < k + 1 → A.getD j default = B.getD j default) := fun j hj => by
            by_cases e : j = k
            · subst e; rw [← hx, ← hy]
            · exact HJ.out j (by omega)
          clear hx hy HJ
          go_wp2_with fail
          go_quiet (fail)
          go_wp2_with fail
          go_roundw
          case rel => exact ⟨k + 1, q + nq, by omega, by go_num, by simp, HJ2⟩
          case measure => simp [intOf]; omega
        · have HF : Hid (r = false) := by
            show _ = _
            rw [HR.out]
            simp only [decide_eq_false_iff_not]
            intro e
            exact hxy (by rw [hx, hy, e])
          have hne : (x.toList != y.toList) = true := by
            rw [bne_iff_ne]
            exact fun e => hxy (str_of_list e)
          have hne2 : (x.toList == y.toList) = false := by
            rw [beq_eq_false_iff_ne]
            exact fun e => hxy (str_of_list e)
          clear hx hy HJ
          go_wp2_with fail
          go_quiet (fail)
          go_wp2_with fail
          go_ret
          exact ⟨by rw [HF.out]; rfl, q + nq, by simp⟩
      · have HT : Hid (r = true) := by
          show _ = _
          rw [HR.out]
          simp only [decide_eq_true_eq]
          exact list_getD_ext (by rw [HA.out, HBB.out]) (fun j hj => HJ.out j (by have := HA.out; omega))
        go_wp2_with fail
        go_ret
        exact ⟨by rw [HT.out]; rfl, q, rfl⟩
  · have hne : ((len : Int) != (len' : Int)) = true := by simp; omega
    have HF : Hid (r = false) := by
      show _ = _
      rw [hr]
      simp only [decide_eq_false_iff_not]
      intro e
      exact hll (by rw [← HA.out, ← HBB.out, e])
    clear hr hll
    go_enter Tryd.func15, Tryd.ntmps15
    go_wp2_with fail
    go_ret
    exact ⟨by rw [HF.out]; rfl, 0, rfl⟩

/-- The digit at its place. -/
theorem ten_digits {d : Nat} (h : d < 10) : ((⟨#[48, 49, 50, 51, 52, 53, 54, 55, 56, 57]⟩ : ByteArray).extract d (d + 1)).data.toList = [UInt8.ofNat (48 + d)] := by
  have h : ∀ d : Fin 10, ((⟨#[48, 49, 50, 51, 52, 53, 54, 55, 56, 57]⟩ : ByteArray).extract d.val (d.val + 1)).data.toList = [UInt8.ofNat (48 + d.val)] := by decide
  exact h ⟨d, by assumption⟩

theorem ten_step {d : Nat} (h : d < 10) (bs : ByteArray) : ((⟨#[48, 49, 50, 51, 52, 53, 54, 55, 56, 57]⟩ : ByteArray).extract d (d + 1) ++ bs).data.toList = UInt8.ofNat (48 + d) :: bs.data.toList := by
  rw [ByteArray.data_append, Array.toList_append, ten_digits h]
  rfl

theorem neg_wrap {n : Int} (h0 : -9223372036854775808 ≤ n) (hn : n < 0) : IntKind.u64.wrap (-IntKind.u64.wrap n) = (n.natAbs : Int) := by
  simp only [IntKind.wrap, IntKind.signed, IntKind.bits]
  simp
  omega

/-- How far the digits have come. -/
def DgAt (n : Int) (mm k : Nat) (bs : ByteArray) : Prop := n.natAbs = mm * 10 ^ k + valL 0 bs.data.toList ∧ allD bs.data.toList ∧ bs.data.toList.length = k

theorem dgAt_step {n : Int} {mm k : Nat} {bs : ByteArray} (h : DgAt n mm k bs) : DgAt n (mm / 10) (k + 1) ((⟨#[48, 49, 50, 51, 52, 53, 54, 55, 56, 57]⟩ : ByteArray).extract (mm % 10) (mm % 10 + 1) ++ bs) := by
  have hd : mm % 10 < 10 := Nat.mod_lt _ (by omega)
  have := dig_step h.1 h.2.1 h.2.2 (c := UInt8.ofNat (48 + mm % 10)) (by simp; omega)
  unfold DgAt
  rw [ten_step hd]
  exact this

theorem dgAt_end {n : Int} {k : Nat} {bs : ByteArray} (h : DgAt n 0 k bs) (hk : 0 < k) (hk2 : k ≤ 20) : allD bs.data.toList ∧ bs.data.toList ≠ [] ∧ valL 0 bs.data.toList = n.natAbs ∧ bs.data.toList.length ≤ 20 :=
  ⟨h.2.1, fun e => by have := h.2.2; rw [e] at this; simp at this; omega, by have := h.1; omega, by have := h.2.2; omega⟩

theorem dgAt_far {n : Int} {mm : Nat} {bs : ByteArray} (h : DgAt n mm 20 bs) (hn : n.natAbs ≤ 9223372036854775808) : mm = 0 := by
  have h1 := h.1
  rcases Nat.eq_zero_or_pos mm with h0 | h0
  · exact h0
  · have : 1 * 10 ^ 20 ≤ mm * 10 ^ 20 := Nat.mul_le_mul_right _ h0
    omega

set_option maxHeartbeats 400000 in
theorem digits_neg {w : World} {n : Int} (h0 : -9223372036854775808 ≤ n) (h1 : n ≤ 9223372036854775807) (hn : n < 0) :
    Calls Tryd.prog 20 #[.int .i64 n] w fun e w' => ∃ s : ByteArray, e = .returned (.string s) ∧ Hid (DigL n s.data.toList) ∧ w' = w := by
  go_enter Tryd.func20, Tryd.ntmps20
  go_wp2_with fail
  go_loopw [3, 4, 5] (fun s m i wr => ∃ (k mm : Nat) (bs : ByteArray), k ≤ 20 ∧ (k = 0 ∨ mm ≠ 0) ∧ i = .int .i64 k ∧ m = .int .u64 mm ∧ s = .string bs ∧ wr = w ∧ mm ≤ 9223372036854775808 ∧ Hid (DgAt n mm k bs)) (fun _ _ i _ => 20 - (intOf i).toNat)
  case atStart => exact ⟨0, n.natAbs, ⟨#[]⟩, by omega, .inl rfl, rfl, by rw [neg_wrap h0 hn], rfl, rfl, by omega, ⟨by simp [valL_nil], allD_nil, rfl⟩⟩
  case round =>
    obtain ⟨k, mm, bs, hk, hz, rfl, rfl, rfl, rfl, hmm, HD⟩ := hrel
    by_cases hlt : k < 20
    · have HD2 : Hid (DgAt n (mm / 10) (k + 1) ((⟨#[48, 49, 50, 51, 52, 53, 54, 55, 56, 57]⟩ : ByteArray).extract (mm % 10) (mm % 10 + 1) ++ bs)) := dgAt_step HD.out
      obtain ⟨d, hd⟩ : ∃ d, d = mm % 10 := ⟨_, rfl⟩
      obtain ⟨m2, hm2⟩ : ∃ m2, m2 = mm / 10 := ⟨_, rfl⟩
      have hd10 : d < 10 := by omega
      have em : (mm : Int).tmod 10 = (d : Int) := by rw [hd]; show (mm : Int).tmod ((10 : Nat) : Int) = _; rw [← Int.ofNat_tmod]
      have ed : (mm : Int).tdiv 10 = (m2 : Int) := by rw [hm2]; show (mm : Int).tdiv ((10 : Nat) : Int) = _; rw [← Int.ofNat_tdiv]
      have hm2' : m2 ≤ 9223372036854775808 := by omega
      rw [← hd, ← hm2] at HD2
      have hbs : bs.size = k := HD.out.2.2
      have hl1 : ¬ 9223372036854775807 < min (d + 1) 10 - d + bs.size := by omega
      have hl2 : ¬ 9223372036854775807 < 1 + (min (d + 1) 10 - d + bs.size) := by omega
      clear hd hm2
      by_cases h2 : m2 = 0
      · subst h2
        go_wp2_with fail
        go_ret
        exact ⟨_, rfl, ⟨_, (dgAt_end HD2.out (by omega) (by omega)).1, (dgAt_end HD2.out (by omega) (by omega)).2.1, (dgAt_end HD2.out (by omega) (by omega)).2.2.1, (dgAt_end HD2.out (by omega) (by omega)).2.2.2, by rw [if_pos hn]; rw [ByteArray.data_append, Array.toList_append]; rfl⟩, rfl⟩
      · go_wp2_with fail
        go_roundw
        case rel => exact ⟨k + 1, m2, _, by omega, .inr h2, by go_num, rfl, rfl, trivial, hm2', HD2⟩
        case measure => simp [intOf]; omega
    · obtain rfl : k = 20 := by omega
      have := dgAt_far HD.out (by omega)
      omega

set_option maxHeartbeats 400000 in
theorem digits_pos {w : World} {n : Int} (h0 : -9223372036854775808 ≤ n) (h1 : n ≤ 9223372036854775807) (hn : ¬ n < 0) :
    Calls Tryd.prog 20 #[.int .i64 n] w fun e w' => ∃ s : ByteArray, e = .returned (.string s) ∧ Hid (DigL n s.data.toList) ∧ w' = w := by
  go_enter Tryd.func20, Tryd.ntmps20
  go_wp2_with fail
  go_loopw [3, 4, 5] (fun s m i wr => ∃ (k mm : Nat) (bs : ByteArray), k ≤ 20 ∧ (k = 0 ∨ mm ≠ 0) ∧ i = .int .i64 k ∧ m = .int .u64 mm ∧ s = .string bs ∧ wr = w ∧ mm ≤ 9223372036854775808 ∧ Hid (DgAt n mm k bs)) (fun _ _ i _ => 20 - (intOf i).toNat)
  case atStart => exact ⟨0, n.natAbs, ⟨#[]⟩, by omega, .inl rfl, rfl, by go_num, rfl, rfl, by omega, ⟨by simp [valL_nil], allD_nil, rfl⟩⟩
  case round =>
    obtain ⟨k, mm, bs, hk, hz, rfl, rfl, rfl, rfl, hmm, HD⟩ := hrel
    by_cases hlt : k < 20
    · have HD2 : Hid (DgAt n (mm / 10) (k + 1) ((⟨#[48, 49, 50, 51, 52, 53, 54, 55, 56, 57]⟩ : ByteArray).extract (mm % 10) (mm % 10 + 1) ++ bs)) := dgAt_step HD.out
      obtain ⟨d, hd⟩ : ∃ d, d = mm % 10 := ⟨_, rfl⟩
      obtain ⟨m2, hm2⟩ : ∃ m2, m2 = mm / 10 := ⟨_, rfl⟩
      have hd10 : d < 10 := by omega
      have em : (mm : Int).tmod 10 = (d : Int) := by rw [hd]; show (mm : Int).tmod ((10 : Nat) : Int) = _; rw [← Int.ofNat_tmod]
      have ed : (mm : Int).tdiv 10 = (m2 : Int) := by rw [hm2]; show (mm : Int).tdiv ((10 : Nat) : Int) = _; rw [← Int.ofNat_tdiv]
      have hm2' : m2 ≤ 9223372036854775808 := by omega
      rw [← hd, ← hm2] at HD2
      have hbs : bs.size = k := HD.out.2.2
      have hl1 : ¬ 9223372036854775807 < min (d + 1) 10 - d + bs.size := by omega
      have hl2 : ¬ 9223372036854775807 < 1 + (min (d + 1) 10 - d + bs.size) := by omega
      clear hd hm2
      by_cases h2 : m2 = 0
      · subst h2
        go_wp2_with fail
        go_ret
        exact ⟨_, rfl, ⟨_, (dgAt_end HD2.out (by omega) (by omega)).1, (dgAt_end HD2.out (by omega) (by omega)).2.1, (dgAt_end HD2.out (by omega) (by omega)).2.2.1, (dgAt_end HD2.out (by omega) (by omega)).2.2.2, by rw [if_neg (by omega)]⟩, rfl⟩
      · go_wp2_with fail
        go_roundw
        case rel => exact ⟨k + 1, m2, _, by omega, .inr h2, by go_num, rfl, rfl, trivial, hm2', HD2⟩
        case measure => simp [intOf]; omega
    · obtain rfl : k = 20 := by omega
      have := dgAt_far HD.out (by omega)
      omega

theorem digits_any {w : World} {n : Int} (h0 : -9223372036854775808 ≤ n) (h1 : n ≤ 9223372036854775807) :
    Calls Tryd.prog 20 #[.int .i64 n] w fun e w' => ∃ s : ByteArray, e = .returned (.string s) ∧ Hid (DigL n s.data.toList) ∧ w' = w := by
  by_cases hn : n < 0
  · exact digits_neg h0 h1 hn
  · exact digits_pos h0 h1 hn
end Go.Proofs.YtohkpihjkaffoaaDoor
