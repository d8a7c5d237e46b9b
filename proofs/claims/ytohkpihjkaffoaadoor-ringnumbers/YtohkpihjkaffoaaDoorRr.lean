/-
  The document's Read: by digits, below nought all the way.
-/
import Derived.Test.YtohkpihjkaffoaaDoorRm
namespace Go.Proofs.YtohkpihjkaffoaaDoor
open Go.RowKit Go.Lib
set_option maxRecDepth 100000
set_option linter.unusedVariables false
set_option linter.unusedSimpArgs false

/-- A token and an error. -/
def rdV : Option Int → Int × Int
  | some v => (v, 0)
  | none => (0, 11)

/-- How far the digits from f on have been read. -/
def RdAt (B : List UInt8) (f p m : Nat) : Prop := allD ((B.drop f).take (p - f)) ∧ valL 0 ((B.drop f).take (p - f)) = m

/-- Where reading began. -/
def FromP (f p : Nat) : Prop := f ≤ p

theorem rdAt_start (B : List UInt8) (f : Nat) : RdAt B f f 0 := by
  unfold RdAt
  rw [Nat.sub_self, List.take_zero]
  exact ⟨allD_nil, rfl⟩

theorem rdAt_snoc {B : List UInt8} {f p : Nat} (hf : f ≤ p) (hp : p < B.length) : (B.drop f).take (p + 1 - f) = (B.drop f).take (p - f) ++ [B[p]] := by
  rw [Nat.succ_sub hf, List.take_add_one, List.getElem?_drop, Nat.add_sub_cancel' hf, List.getElem?_eq_getElem hp]
  rfl

theorem rdAt_step {B : List UInt8} {f p m : Nat} (h : RdAt B f p m) (hf : f ≤ p) (hp : p < B.length) (hc : isD B[p]) : RdAt B f (p + 1) (m * 10 + (B[p].toNat - 48)) := by
  unfold RdAt
  rw [rdAt_snoc hf hp, allD_append, valL_append, h.2]
  exact ⟨⟨h.1, allD_cons.2 ⟨hc, allD_nil⟩⟩, rfl⟩

theorem mem_drop {B : List UInt8} {f p : Nat} (hf : f ≤ p) (hp : p < B.length) : B[p] ∈ B.drop f := by
  rw [List.mem_iff_getElem]
  exact ⟨p - f, by rw [List.length_drop]; omega, by rw [List.getElem_drop]; congr 1; omega⟩

theorem rdAt_bad {B : List UInt8} {f p : Nat} (hf : f ≤ p) (hp : p < B.length) (hc : ¬ isD B[p]) : ¬ allD (B.drop f) := not_allD hc (mem_drop hf hp)

theorem rdAt_big {B : List UInt8} {f p m : Nat} (h : RdAt B f p m) : m ≤ valL 0 (B.drop f) := by
  have e : valL 0 (B.drop f) = valL (valL 0 ((B.drop f).take (p - f))) ((B.drop f).drop (p - f)) := by
    rw [← valL_append, List.take_append_drop]
  rw [e, h.2]
  exact valL_ge _ _

theorem rdAt_end {B : List UInt8} {f p m : Nat} (h : RdAt B f p m) (hp : p = B.length) : allD (B.drop f) ∧ valL 0 (B.drop f) = m := by
  have := h
  unfold RdAt at this
  rw [List.take_of_length_le (by rw [List.length_drop]; omega)] at this
  exact this

theorem rdN_big {r : List UInt8} (h : 9223372036854775808 < valL 0 r) : rdN r = none := by unfold rdN; rw [if_neg (fun hh => by have := hh.2.2; omega)]
theorem rdP_big {r : List UInt8} (h : 9223372036854775808 ≤ valL 0 r) : rdP r = none := by unfold rdP; rw [if_neg (fun hh => by have := hh.2.2; omega)]
theorem rdN_ok {r : List UInt8} {m : Nat} (hne : r ≠ []) (h : allD r ∧ valL 0 r = m) (hm : m ≤ 9223372036854775808) : rdN r = some (-(m : Int)) := by
  unfold rdN
  rw [if_pos ⟨hne, h.1, by rw [h.2]; exact hm⟩, h.2]
theorem rdP_ok {r : List UInt8} {m : Nat} (hne : r ≠ []) (h : allD r ∧ valL 0 r = m) (hm : m < 9223372036854775808) : rdP r = some (m : Int) := by
  unfold rdP
  rw [if_pos ⟨hne, h.1, by rw [h.2]; exact hm⟩, h.2]

theorem rd_is_neg {B : List UInt8} (h : 0 < B.length) (hc : B[0].toNat = 45) : rd B = rdN (B.drop 1) := by
  cases B with
  | nil => simp at h
  | cons c r =>
    show (if c.toNat = 45 then rdN r else rdP (c :: r)) = _
    have hc : c.toNat = 45 := hc
    rw [if_pos hc]; rfl

theorem rd_is_pos {B : List UInt8} (h : 0 < B.length) (hc : ¬ B[0].toNat = 45) : rd B = rdP (B.drop 0) := by
  cases B with
  | nil => simp at h
  | cons c r =>
    show (if c.toNat = 45 then rdN r else rdP (c :: r)) = _
    have hc : ¬ c.toNat = 45 := hc
    rw [if_neg hc]; rfl

theorem refRead_none {w : World} {s : ByteArray} (hs : s.size = 0) {x er : Int} (hx : rdV (rd s.data.toList) = (x, er)) :
    Calls Tryd.prog 19 #[.string s] w fun e w' => e = .returned (.tuple #[.int .i64 x, .int .i64 er]) ∧ w' = w := by
  have e : rd s.data.toList = none := by
    have : s.data.toList = [] := List.eq_nil_of_length_eq_zero hs
    rw [this]; rfl
  rw [e] at hx
  cases hx
  clear e
  go_enter Tryd.func19, Tryd.ntmps19
  go_wp2_with fail
  go_ret2
  exact ⟨rfl, rfl⟩

set_option maxHeartbeats 1000000 in
theorem refRead_neg {w : World} {s : ByteArray} (hs : 0 < s.size) (hm : s.size ≤ 1000000) (h45 : (s[0]'hs).toNat = 45) {x er : Int} (hx : rdV (rd s.data.toList) = (x, er)) :
    Calls Tryd.prog 19 #[.string s] w fun e w' => e = .returned (.tuple #[.int .i64 x, .int .i64 er]) ∧ w' = w := by
  have HX : Hid (rdV (rdN (s.data.toList.drop 1)) = (x, er)) := by
    show _ = _
    rw [← hx, rd_is_neg (B := s.data.toList) hs h45]
  have hlen : s.data.toList.length = s.size := rfl
  clear hx
  have hc0 : (s[0]'hs).toNat = 45 := h45
  by_cases h1 : s.size = 1
  · have HN : Hid (x = 0 ∧ er = 11) := by
      have := HX.out
      rw [List.drop_of_length_le (by omega)] at this
      cases this; exact ⟨rfl, rfl⟩
    clear HX
    go_enter Tryd.func19, Tryd.ntmps19
    go_wp2_with fail
    go_ret2
    exact ⟨by rw [HN.out.1, HN.out.2]; rfl, rfl⟩
  have hne1 : ((1 : Int) == (s.size : Int)) = false := by simp; omega
  go_enter Tryd.func19, Tryd.ntmps19
  go_wp2_with fail
  go_loopw [5, 6] (fun n i wr => ∃ (p m : Nat), Hid (FromP 1 p) ∧ p ≤ s.size ∧ i = .int .i64 p ∧ n = .int .i64 (-(m : Int)) ∧ m ≤ 9223372036854775808 ∧ wr = w ∧ Hid (RdAt s.data.toList 1 p m)) (fun _ i _ => s.size - (intOf i).toNat)
  case atStart => exact ⟨1, 0, Nat.le_refl _, by omega, rfl, rfl, by omega, rfl, rdAt_start _ _⟩
  case round =>
    obtain ⟨p, m, hfp, hps, rfl, rfl, hmm, rfl, HA⟩ := hrel
    by_cases hlt : p < s.size
    · obtain ⟨c, hc⟩ : ∃ c, c = (s[p]'hlt).toNat := ⟨_, rfl⟩
      have hcs : (s[p]'hlt).toNat = c := hc.symm
      have hc256 : c < 256 := by rw [hc]; exact UInt8.toNat_lt _
      have HB : Hid ((s.data.toList[p]'hlt).toNat = c) := hcs
      clear hc
      by_cases h48 : c < 48
      · have HN : Hid (x = 0 ∧ er = 11) := by
          have := HX.out
          rw [rdN_bad (rdAt_bad hfp.out hlt (fun h => by have := HB.out; have := h.1; omega))] at this
          cases this; exact ⟨rfl, rfl⟩
        clear HX HA
        go_wp2_with fail
        go_ret2
        exact ⟨by rw [HN.out.1, HN.out.2]; rfl, rfl⟩
      · by_cases h57 : 57 < c
        · have HN : Hid (x = 0 ∧ er = 11) := by
            have := HX.out
            rw [rdN_bad (rdAt_bad hfp.out hlt (fun h => by have := HB.out; have := h.2; omega))] at this
            cases this; exact ⟨rfl, rfl⟩
          clear HX HA
          go_wp2_with fail
          go_ret2
          exact ⟨by rw [HN.out.1, HN.out.2]; rfl, rfl⟩
        · have HA2 : Hid (RdAt s.data.toList 1 (p + 1) (m * 10 + (c - 48))) := by
            have := rdAt_step HA.out hfp.out hlt ⟨by have := HB.out; omega, by have := HB.out; omega⟩
            rw [HB.out] at this
            exact this
          clear HA
          by_cases hbig : 9223372036854775808 < m * 10 + (c - 48)
          · have HN : Hid (x = 0 ∧ er = 11) := by
              have := HX.out
              rw [rdN_big (by have h := rdAt_big HA2.out; omega)] at this
              cases this; exact ⟨rfl, rfl⟩
            clear HX HA2
            by_cases hq : 922337203685477580 < m
            · have q1 : decide (-(m : Int) < -922337203685477580) = true := by simp; omega
              clear hbig
              go_wp2_with fail
              go_ret2
              exact ⟨by rw [HN.out.1, HN.out.2]; rfl, rfl⟩
            · obtain rfl : m = 922337203685477580 := by omega
              have hd8 : 8 < (c : Int) - 48 := by omega
              clear hbig
              go_wp2_with fail
              go_ret2
              exact ⟨by rw [HN.out.1, HN.out.2]; rfl, rfl⟩
          · have hm2 : m ≤ 922337203685477580 := by omega
            have q1 : decide (-(m : Int) < -922337203685477580) = false := by simp; omega
            have q3 : -9223372036854775808 ≤ -(m : Int) * 10 - ((c : Int) - 48) := by omega
            have q4 : ((m * 10 + (c - 48) : Nat) : Int) = (m : Int) * 10 + ((c : Int) - 48) := by omega
            by_cases hq : m = 922337203685477580
            · subst hq
              have hd8 : ¬ 8 < (c : Int) - 48 := by omega
              go_wp2_with fail
              go_roundw
              case rel => exact ⟨p + 1, _, Nat.le_succ_of_le hfp.out, by omega, by go_num, by rw [q4]; go_num, by omega, trivial, HA2⟩
              case measure => simp [intOf]; omega
            · have hq' : (-(m : Int) == -922337203685477580) = false := by simp; omega
              go_wp2_with fail
              go_roundw
              case rel => exact ⟨p + 1, _, Nat.le_succ_of_le hfp.out, by omega, by go_num, by rw [q4]; go_num, by omega, trivial, HA2⟩
              case measure => simp [intOf]; omega
    · have HE := rdAt_end HA.out (by omega)
      have hfp' : 1 ≤ p := hfp.out
      have hne : s.data.toList.drop 1 ≠ [] := by
        intro e
        have := congrArg List.length e
        rw [List.length_drop, List.length_nil] at this
        omega
      have HN : Hid (x = -(m : Int) ∧ er = 0) := by
        have := HX.out
        rw [rdN_ok hne HE (by omega)] at this
        cases this; exact ⟨rfl, rfl⟩
      clear HX HE hne HA
      go_wp2_with fail
      go_ret2
      exact ⟨by rw [HN.out.1, HN.out.2]; rfl, rfl⟩

set_option maxHeartbeats 1000000 in
theorem refRead_pos {w : World} {s : ByteArray} (hs : 0 < s.size) (hm : s.size ≤ 1000000) (h45 : ¬ (s[0]'hs).toNat = 45) {x er : Int} (hx : rdV (rd s.data.toList) = (x, er)) :
    Calls Tryd.prog 19 #[.string s] w fun e w' => e = .returned (.tuple #[.int .i64 x, .int .i64 er]) ∧ w' = w := by
  have HX : Hid (rdV (rdP (s.data.toList.drop 0)) = (x, er)) := by
    show _ = _
    rw [← hx, rd_is_pos (B := s.data.toList) hs h45]
  have hlen : s.data.toList.length = s.size := rfl
  clear hx
  obtain ⟨c0, hc0⟩ : ∃ c0, (s[0]'hs).toNat = c0 := ⟨_, rfl⟩
  rw [hc0] at h45
  have hne45 : ((c0 : Int) == 45) = false := by simp; omega
  clear h45
  have hne0 : ((0 : Int) == (s.size : Int)) = false := by simp; omega
  go_enter Tryd.func19, Tryd.ntmps19
  go_wp2_with fail
  go_loopw [5, 6] (fun n i wr => ∃ (p m : Nat), Hid (FromP 0 p) ∧ p ≤ s.size ∧ i = .int .i64 p ∧ n = .int .i64 (-(m : Int)) ∧ m ≤ 9223372036854775808 ∧ wr = w ∧ Hid (RdAt s.data.toList 0 p m)) (fun _ i _ => s.size - (intOf i).toNat)
  case atStart => exact ⟨0, 0, Nat.le_refl _, by omega, rfl, rfl, by omega, rfl, rdAt_start _ _⟩
  case round =>
    obtain ⟨p, m, hfp, hps, rfl, rfl, hmm, rfl, HA⟩ := hrel
    by_cases hlt : p < s.size
    · obtain ⟨c, hc⟩ : ∃ c, c = (s[p]'hlt).toNat := ⟨_, rfl⟩
      have hcs : (s[p]'hlt).toNat = c := hc.symm
      have hc256 : c < 256 := by rw [hc]; exact UInt8.toNat_lt _
      have HB : Hid ((s.data.toList[p]'hlt).toNat = c) := hcs
      clear hc
      by_cases h48 : c < 48
      · have HN : Hid (x = 0 ∧ er = 11) := by
          have := HX.out
          rw [rdP_bad (rdAt_bad hfp.out hlt (fun h => by have := HB.out; have := h.1; omega))] at this
          cases this; exact ⟨rfl, rfl⟩
        clear HX HA
        go_wp2_with fail
        go_ret2
        exact ⟨by rw [HN.out.1, HN.out.2]; rfl, rfl⟩
      · by_cases h57 : 57 < c
        · have HN : Hid (x = 0 ∧ er = 11) := by
            have := HX.out
            rw [rdP_bad (rdAt_bad hfp.out hlt (fun h => by have := HB.out; have := h.2; omega))] at this
            cases this; exact ⟨rfl, rfl⟩
          clear HX HA
          go_wp2_with fail
          go_ret2
          exact ⟨by rw [HN.out.1, HN.out.2]; rfl, rfl⟩
        · have HA2 : Hid (RdAt s.data.toList 0 (p + 1) (m * 10 + (c - 48))) := by
            have := rdAt_step HA.out hfp.out hlt ⟨by have := HB.out; omega, by have := HB.out; omega⟩
            rw [HB.out] at this
            exact this
          clear HA
          by_cases hbig : 9223372036854775808 < m * 10 + (c - 48)
          · have HN : Hid (x = 0 ∧ er = 11) := by
              have := HX.out
              rw [rdP_big (by have h := rdAt_big HA2.out; omega)] at this
              cases this; exact ⟨rfl, rfl⟩
            clear HX HA2
            by_cases hq : 922337203685477580 < m
            · have q1 : decide (-(m : Int) < -922337203685477580) = true := by simp; omega
              clear hbig
              go_wp2_with fail
              go_ret2
              exact ⟨by rw [HN.out.1, HN.out.2]; rfl, rfl⟩
            · obtain rfl : m = 922337203685477580 := by omega
              have hd8 : 8 < (c : Int) - 48 := by omega
              clear hbig
              go_wp2_with fail
              go_ret2
              exact ⟨by rw [HN.out.1, HN.out.2]; rfl, rfl⟩
          · have hm2 : m ≤ 922337203685477580 := by omega
            have q1 : decide (-(m : Int) < -922337203685477580) = false := by simp; omega
            have q3 : -9223372036854775808 ≤ -(m : Int) * 10 - ((c : Int) - 48) := by omega
            have q4 : ((m * 10 + (c - 48) : Nat) : Int) = (m : Int) * 10 + ((c : Int) - 48) := by omega
            by_cases hq : m = 922337203685477580
            · subst hq
              have hd8 : ¬ 8 < (c : Int) - 48 := by omega
              go_wp2_with fail
              go_roundw
              case rel => exact ⟨p + 1, _, Nat.le_succ_of_le hfp.out, by omega, by go_num, by rw [q4]; go_num, by omega, trivial, HA2⟩
              case measure => simp [intOf]; omega
            · have hq' : (-(m : Int) == -922337203685477580) = false := by simp; omega
              go_wp2_with fail
              go_roundw
              case rel => exact ⟨p + 1, _, Nat.le_succ_of_le hfp.out, by omega, by go_num, by rw [q4]; go_num, by omega, trivial, HA2⟩
              case measure => simp [intOf]; omega
    · have HE := rdAt_end HA.out (by omega)
      have hfp' : 0 ≤ p := hfp.out
      have hne : s.data.toList.drop 0 ≠ [] := by
        intro e
        have := congrArg List.length e
        rw [List.length_drop, List.length_nil] at this
        omega
      by_cases hq : m = 9223372036854775808
      · have hge : 9223372036854775808 ≤ valL 0 (s.data.toList.drop 0) := by rw [HE.2, hq]; exact Nat.le_refl _
        have HN : Hid (x = 0 ∧ er = 11) := by
          have := HX.out
          rw [rdP_big hge] at this
          cases this; exact ⟨rfl, rfl⟩
        subst hq
        clear HX HE hne HA hge
        go_wp2_with fail
        go_ret2
        exact ⟨by rw [HN.out.1, HN.out.2]; rfl, rfl⟩
      · have HN : Hid (x = (m : Int) ∧ er = 0) := by
          have := HX.out
          rw [rdP_ok hne HE (by omega)] at this
          cases this; exact ⟨rfl, rfl⟩
        have hq' : (-(m : Int) == -9223372036854775808) = false := by simp; omega
        clear HX HE hne HA
        go_wp2_with fail
        go_ret2
        exact ⟨by rw [HN.out.1, HN.out.2]; go_num, rfl⟩

theorem refRead_any {w : World} {s : ByteArray} (hm : s.size ≤ 1000000) {x er : Int} (hx : rdV (rd s.data.toList) = (x, er)) :
    Calls Tryd.prog 19 #[.string s] w fun e w' => e = .returned (.tuple #[.int .i64 x, .int .i64 er]) ∧ w' = w := by
  by_cases hs : 0 < s.size
  · by_cases h45 : (s[0]'hs).toNat = 45
    · exact refRead_neg hs hm h45 hx
    · exact refRead_pos hs hm h45 hx
  · exact refRead_none (by omega) hx
end Go.Proofs.YtohkpihjkaffoaaDoor
