/-
  RingNumbers: the walk.
-/
import Derived.Test.YtohkpihjkaffoaaDoorDg
import Derived.Test.YtohkpihjkaffoaaDoorLReads
import Derived.Laws.IdiomStrings
import Derived.RegionTactic
import Derived.Deep.RegionHeld3
import Derived.Deep.RegionWith
namespace Go.Proofs.YtohkpihjkaffoaaDoor
open Go.RowKit
set_option maxRecDepth 100000
set_option linter.unusedVariables false
set_option linter.unusedSimpArgs false

theorem conv_one (w : World) (c : UInt8) : (convert 52 9 (.slice (some ⟨w.heap.size, 0, none⟩) 1 1)).run Tryd.prog (w.alloc (.cells #[.int .u8 (c.toNat : Int)] 5)) = .ok (.string ⟨#[c]⟩) (w.alloc (.cells #[.int .u8 (c.toNat : Int)] 5)) :=
  run_convert_bytes_back (P := Tryd.prog) (w.alloc (.cells #[.int .u8 (c.toNat : Int)] 5)) 52 9 5 ⟨w.heap.size, 0, none⟩ 1 [c] Tryd.underlying52 Tryd.underlying5 Tryd.underlying9 (fun j hj => by
    obtain rfl : j = 0 := by simp at hj; exact hj
    exact World.cell?_alloc_mark w _ _ _ 0)

/-- A text with a byte put into it. -/
def putC (s : ByteArray) (k : Nat) (c : UInt8) : ByteArray := s.extract 0 k ++ ⟨#[c]⟩ ++ s.extract k s.size

theorem extract_list (s : ByteArray) (i j : Nat) : (s.extract i j).data.toList = (s.data.toList.drop i).take (j - i) := by
  rw [ByteArray.data_extract, Array.toList_extract]

theorem putC_list {s : ByteArray} {k : Nat} (hk : k ≤ s.size) (c : UInt8) : (putC s k c).data.toList = s.data.toList.take k ++ c :: s.data.toList.drop k := by
  unfold putC
  rw [ByteArray.data_append, Array.toList_append, ByteArray.data_append, Array.toList_append, extract_list, extract_list]
  have e : (s.data.toList.drop k).take (s.size - k) = s.data.toList.drop k := List.take_of_length_le (by rw [List.length_drop]; exact Nat.le_refl _)
  rw [e]
  simp

theorem dash_list {t : ByteArray} : ((⟨#[45, 48]⟩ : ByteArray) ++ t.extract 1 t.size).data.toList = 45 :: 48 :: t.data.toList.drop 1 := by
  rw [ByteArray.data_append, Array.toList_append, extract_list]
  have e : (t.data.toList.drop 1).take (t.size - 1) = t.data.toList.drop 1 := List.take_of_length_le (by rw [List.length_drop]; exact Nat.le_refl _)
  rw [e]
  rfl

theorem nought_list {t : ByteArray} : ((⟨#[48]⟩ : ByteArray) ++ t).data.toList = 48 :: t.data.toList := by
  rw [ByteArray.data_append, Array.toList_append]
  rfl

set_option maxHeartbeats 1000000 in
theorem nums_walk (hA : Awake) {w : World} (hS : Sents w) {n : Int} (h0 : -9223372036854775808 ≤ n) (h1 : n ≤ 9223372036854775807) {z a : Nat} (hz : z < 256) (ha : a < 256) (c : UInt8) :
    Calls Tryd.prog 7 #[.int .i64 n, .int .u8 (z : Int), .int .u8 (a : Int), .int .u8 (c.toNat : Int)] w fun e w' => e = .returned (.bool true) ∧ Below w.heap.size w w' := by
  have HA : Hid (Calls Tryd.prog 8 #[] w fun e w' => e = .returned (.bool true) ∧ Below w.heap.size w w') := hA w
  have HS : Hid (Sents w) := hS
  obtain ⟨cc, hcc⟩ : ∃ cc : Nat, cc = c.toNat := ⟨_, rfl⟩
  have hc256 : cc < 256 := by rw [hcc]; exact UInt8.toNat_lt _
  have HC : Hid (cc = c.toNat) := hcc
  rw [← hcc]
  clear hA hS hcc
  go_enter Tryd.func7, Tryd.ntmps7
  go_wp2_with (go_at_call 8; refine Calls.mono HA.out ?_; rintro e w1 ⟨rfl, hB⟩; have HB1 : Hid (Below w.heap.size w w1) := hB; clear hB)
  refine Calls.mono (digits_any h0 h1) ?_
  rintro e w1' ⟨s, rfl, HD, rfl⟩
  obtain ⟨L, hd, hne, hv, hlen, he⟩ := dig_pad HD.out
  have HL : Hid (allD L ∧ L ≠ [] ∧ valL 0 L = n.natAbs ∧ L.length ≤ 20 ∧ s.data.toList = padL n 0 L) := ⟨hd, hne, hv, hlen, he⟩
  have hsz : s.size ≤ 21 := by
    have e : s.size = s.data.toList.length := rfl
    rw [e, he, padL_len]
    split <;> omega
  have hpr : ∀ k, rd (padL n k L) = some n := fun k => pad_rd h0 h1 k hd hne hv
  have HP : Hid (∀ k, rd (padL n k L) = some n) := hpr
  have HR1 : Hid (rd s.data.toList = some n) := by show _ = _; rw [he]; exact hpr 0
  clear hd hne hv hlen he hpr HA
  go_wp2_with fail
  refine Calls.mono (read_ok (by omega) HR1.out) ?_
  rintro e w2 ⟨rfl, hB2⟩
  have HB2 : Hid (Below w.heap.size w w2) := HB1.out.trans (hB2.mono HB1.out.size)
  clear hB2 HB1 HR1
  obtain ⟨zz, hzz⟩ : ∃ zz, zz = z % 20 := ⟨_, rfl⟩
  have hz20 : zz < 20 := by omega
  have ez : (z : Int).tmod 20 = (zz : Int) := by rw [hzz]; show (z : Int).tmod ((20 : Nat) : Int) = _; rw [← Int.ofNat_tmod]
  clear hzz
  go_wp2_with fail
  go_loopw [13, 14] (fun tv i wr => ∃ (k : Nat) (t : ByteArray), k ≤ zz ∧ i = .int .i64 k ∧ tv = .string t ∧ wr = w2 ∧ Hid (t.data.toList = padL n k L)) (fun _ i _ => zz - (intOf i).toNat)
  case atStart => exact ⟨0, s, by omega, rfl, rfl, rfl, HL.out.2.2.2.2⟩
  case round =>
    obtain ⟨k, t, hk, rfl, rfl, rfl, HT⟩ := hrel
    have htl : t.data.toList.length = t.size := rfl
    have ht1 : t.size ≤ 45 ∧ 1 ≤ t.size := by
      rw [← htl, HT.out, padL_len]
      have := HL.out.2.2.2.1
      have : 0 < L.length := List.length_pos_iff.2 HL.out.2.1
      split <;> omega
    obtain ⟨ht1, ht2⟩ := ht1
    clear htl
    by_cases hlt : k < zz
    · by_cases hn : n < 0
      · have HT2 : Hid (((⟨#[45, 48]⟩ : ByteArray) ++ t.extract 1 t.size).data.toList = padL n (k + 1) L) := by
          show _ = _
          rw [dash_list, padL_succ_neg hn, HT.out]
        have hq1 : ¬ 9223372036854775807 < 2 + (t.size - 1) := by omega
        go_wp2_with fail
        go_roundw
        case rel => exact ⟨k + 1, _, by omega, by go_num, rfl, trivial, HT2⟩
        case measure => simp [intOf]; omega
      · have HT2 : Hid (((⟨#[48]⟩ : ByteArray) ++ t).data.toList = padL n (k + 1) L) := by
          show _ = _
          rw [nought_list, padL_succ_pos hn, HT.out]
        have hq1 : ¬ 9223372036854775807 < 1 + t.size := by omega
        go_wp2_with fail
        go_roundw
        case rel => exact ⟨k + 1, _, by omega, by go_num, rfl, trivial, HT2⟩
        case measure => simp [intOf]; omega
    · have HRT : Hid (rd t.data.toList = some n) := by show _ = _; rw [HT.out]; exact HP.out k
      obtain ⟨m, hm⟩ : ∃ m, m = a % (s.size + 1) := ⟨_, rfl⟩
      have hms : m ≤ s.size := by
        have := Nat.mod_lt a (show s.size + 1 > 0 by omega)
        omega
      have em : (a : Int).tmod ((s.size : Int) + 1) = (m : Int) := by rw [hm]; show (a : Int).tmod ((s.size + 1 : Nat) : Int) = _; rw [← Int.ofNat_tmod]
      have hs0 : ¬ ((s.size : Int) + 1) = 0 := by omega
      clear hm
      go_wp2_with fail
      refine Calls.mono (read_ok (by omega) HRT.out) ?_
      rintro e w3 ⟨rfl, hB3⟩
      have HB3 : Hid (Below w.heap.size w w3) := HB2.out.trans (hB3.mono HB2.out.size)
      clear hB3
      obtain ⟨⟨y, g⟩, hy⟩ : ∃ p, p = rdV (rd (putC s m c).data.toList) := ⟨_, rfl⟩
      have HX : Hid (g = 11 ∨ isD c ∨ (c.toNat = 45 ∧ m = 0 ∧ 0 ≤ n)) := by
        by_cases hD : isD c
        · exact .inr (.inl hD)
        · by_cases hM : c.toNat = 45 ∧ m = 0 ∧ 0 ≤ n
          · exact .inr (.inr hM)
          · refine .inl ?_
            rw [putC_list hms, bad_rd HD.out hms hD hM] at hy
            cases hy; rfl
      have HRX : Hid (∀ W, Below w.heap.size w W → Calls Tryd.prog 18 #[.string (putC s m c)] W fun e w' => e = .returned (.tuple #[.int .i64 y, .int .i64 g]) ∧ Below W.heap.size W w') := fun W hW => read_any (HS.out.old hW) (by
        have : (putC s m c).size = (putC s m c).data.toList.length := rfl
        rw [this, putC_list hms]
        simp only [List.length_append, List.length_cons, List.length_take, List.length_drop]
        have : s.data.toList.length = s.size := rfl
        omega) hy.symm
      have HCV : (convert 52 9 (.slice (some ⟨w3.heap.size, 0, none⟩) 1 1)).run Tryd.prog (w3.alloc (.cells #[.int .u8 (cc : Int)] 5)).drew = .ok (.string ⟨#[c]⟩) (w3.alloc (.cells #[.int .u8 (cc : Int)] 5)).drew := by
        rw [HC.out]; exact conv_one w3.drew c
      have hm0 : (0 : Int) ≤ (m : Int) := by omega
      have hm1 : (m : Int) ≤ (s.size : Int) := by omega
      have hq1 : ¬ 9223372036854775807 < m + 1 := by omega
      have hq2 : ¬ 9223372036854775807 < m + 1 + (s.size - m) := by omega
      have HB4 : Hid (Below w.heap.size w (w3.alloc (.cells #[.int .u8 (cc : Int)] 5)).drew) := HB3.out.drew.alloc (by have := HB3.out.size; exact this) _
      have HRY : Hid (Calls Tryd.prog 18 #[.string (s.extract 0 m ++ ⟨#[c]⟩ ++ s.extract m s.size)] (w3.alloc (.cells #[.int .u8 (cc : Int)] 5)).drew fun e w' => e = .returned (.tuple #[.int .i64 y, .int .i64 g]) ∧ Below w.heap.size w w') := by
        refine Calls.mono (HRX.out _ HB4.out) ?_
        rintro e w' ⟨rfl, hB⟩
        exact ⟨rfl, HB4.out.trans (hB.mono HB4.out.size)⟩
      clear hy HT HRT HRX HB3
      go_wp2_with fail
      go_region_with (go_at_call 18; refine Calls.mono HRY.out ?_; rintro e w5 ⟨rfl, hB5⟩; have HB5 : Hid (Below w.heap.size w w5) := hB5; clear hB5)
      clear HRY HCV HB4
      rcases HX.out with rfl | hD | ⟨h45, rfl, hn⟩
      · go_wp2_with fail
        go_ret
        exact ⟨rfl, HB5.out⟩
      · have q1 : 48 ≤ cc := by rw [HC.out]; exact hD.1
        have q2 : cc ≤ 57 := by rw [HC.out]; exact hD.2
        by_cases hg : g = 11
        · subst hg
          go_wp2_with fail
          go_ret
          exact ⟨rfl, HB5.out⟩
        · have hg' : (g == 11) = false := by simpa using hg
          go_wp2_with fail
          go_ret
          exact ⟨rfl, HB5.out⟩
      · obtain rfl : cc = 45 := by rw [HC.out]; exact h45
        by_cases hg : g = 11
        · subst hg
          go_wp2_with fail
          go_ret
          exact ⟨rfl, HB5.out⟩
        · have hg' : (g == 11) = false := by simpa using hg
          go_wp2_with fail
          go_ret
          exact ⟨rfl, HB5.out⟩

/-- The same, of numbers as they come in. -/
theorem nums_from (hA : Awake) {w : World} (hS : Sents w) {n z a c : Int} (hn : -9223372036854775808 ≤ n ∧ n ≤ 9223372036854775807) (hz : 0 ≤ z ∧ z ≤ 255) (ha : 0 ≤ a ∧ a ≤ 255) (hc : 0 ≤ c ∧ c ≤ 255) :
    Calls Tryd.prog 7 #[.int .i64 n, .int .u8 z, .int .u8 a, .int .u8 c] w fun e w' => e = .returned (.bool true) ∧ Below w.heap.size w w' := by
  obtain ⟨z, rfl⟩ := Int.eq_ofNat_of_zero_le hz.1
  obtain ⟨a, rfl⟩ := Int.eq_ofNat_of_zero_le ha.1
  obtain ⟨c, rfl⟩ := Int.eq_ofNat_of_zero_le hc.1
  have e : (UInt8.ofNat c).toNat = c := by
    rw [UInt8.toNat_ofNat']
    exact Nat.mod_eq_of_lt (by omega)
  have := nums_walk hA hS hn.1 hn.2 (z := z) (a := a) (by omega) (by omega) (UInt8.ofNat c)
  rw [e] at this
  exact this
end Go.Proofs.YtohkpihjkaffoaaDoor
