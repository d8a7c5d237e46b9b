/-
  The contract of routing.Key.
-/
import Derived.Test.YtfkhcgkobffpiaaBx
namespace Go.Proofs.Ytfkhcgkobffpiaa
open Go.RowKit
set_option linter.unusedVariables false
set_option linter.unusedSimpArgs false

/-- One byte that was laid anew. -/
theorem isB_one (w : World) (y : Int) (h0 : 0 ≤ y) (h1 : y ≤ 255) : IsB (w.alloc (.cells #[.int .u8 y] 5)) (some ⟨w.heap.size, 0, none⟩) 1 1 [y] := by
  refine ⟨rfl, Nat.le_refl _, by unfold maxLen; omega, fun h => by (cases h), fun _ => ⟨_, _, rfl, rfl, Nat.le_refl _, by unfold maxLen; omega, fun _ => by simp, fun i hi => ?_, fun j => ?_⟩⟩
  · obtain rfl : i = 0 := by omega
    simp [go_sem]
  · match j with
    | 0 => exact ⟨h0, h1⟩
    | j + 1 => simp

theorem View.lens {w : World} {a : Option Addr} {len cap : Nat} {xs : List (List Int)} (h : View 1 VB w a len cap xs) {m : Nat} (hx : ∀ p ∈ xs, p.length ≤ m) {k : Nat} (hk : k < len) : (xs.getD k default).length ≤ m := by
  rw [List.getD_eq_getElem?_getD, List.getElem?_eq_getElem (by rw [h.1]; exact hk)]
  exact hx _ (List.getElem_mem _)

set_option maxHeartbeats 400000 in
theorem key_none (a : Option Addr) (cap : Nat) (w : World) : Calls Try.prog 10 #[.slice a 0 cap] w fun e w' => e = .returned (.tuple #[.slice none 0 0, .int .i64 1]) ∧ w' = w := by
  go_enter Try.func10, Try.ntmps10
  go_wp2_with fail
  go_ret2
  exact ⟨rfl, rfl⟩

set_option maxHeartbeats 400000 in
theorem key_one {w : World} {a : Option Addr} {cap : Nat} {xs : List (List Int)} (h : View 1 VB w a 1 cap xs) (hx : ∀ p ∈ xs, p.length ≤ 140737488355328) {K : List Int} (hK : K = keyB xs) :
    Calls Try.prog 10 #[.slice a 1 cap] w fun e w' => ∃ v, e = .returned (.tuple #[v, .int .i64 0]) ∧ Hid (OwnB w' w.heap.size v K.length K) ∧ Below w.heap.size w w' := by
  obtain ⟨b, off, a', l, cp, rfl, hb, hc, hI, hl, hlc, hcm⟩ := h.at (show 0 < 1 by omega)
  have hk : K = xs.getD 0 default := by rw [hK, keyB, if_pos h.1]
  rw [← hk] at hI hl
  have HL : Hid (l ≤ 140737488355328) := by
    show _ ≤ _
    rw [hl, hk]; exact h.lens hx (by omega)
  have HI : Hid (IsB w a' l cp K) := hI
  have HKL : Hid (K.length = l) := hl.symm
  have hc0 : w.cell? ⟨b, off, none⟩ = some (.slice a' l cp) := hc
  clear h hx hK hI hl hk hc
  go_enter Try.func10, Try.ntmps10
  go_wp2_with fail
  refine (clone_any HI.out HL.out).mono ?_
  rintro e w1 ⟨v, rfl, ho, hB⟩
  have HO : Hid (OwnB w1 w.heap.size v K.length K) := by rw [HKL.out]; exact ho
  clear ho
  go_wp2_with fail
  go_ret2
  exact ⟨v, rfl, HO, hB⟩

set_option maxHeartbeats 1000000 in
theorem key_many {w : World} {a : Option Addr} {len cap : Nat} {xs : List (List Int)} (h : View 1 VB w a len cap xs) (h2 : 2 ≤ len) (hl : len ≤ 100000) (hx : ∀ p ∈ xs, p.length ≤ 65535) {K : List Int} (hK : K = keyB xs) :
    Calls Try.prog 10 #[.slice a len cap] w fun e w' => ∃ v, e = .returned (.tuple #[v, .int .i64 0]) ∧ Hid (OwnB w' w.heap.size v K.length K) ∧ Below w.heap.size w w' := by
  have HX : Hid (∀ k, k < len → (xs.getD k default).length ≤ 65535) := fun k hk => h.lens hx hk
  have HLX : Hid (xs.length = len) := h.1
  have HK : Hid (K = keyL xs) := by show _ = _; rw [hK, keyB, if_neg (by rw [h.1]; omega)]
  have H : Hid (View 1 VB w a len cap xs) := h
  have t0 : ((len : Int) == 0) = false := by simp; omega
  have t1 : ((len : Int) == 1) = false := by simp; omega
  have hcp : len ≤ cap := h.2.1
  have hcm : cap ≤ 9223372036854775807 := h.2.2.1
  clear h hx hK
  go_enter Try.func10, Try.ntmps10
  go_wp2_with fail
  go_loopw [4, 19] (fun v i wr => ∃ k n : Nat, k ≤ len ∧ i = .int .i64 k ∧ n ≤ k * 65538 ∧ Hid (OwnB wr w.heap.size v n (keyL (xs.take k))) ∧ Below w.heap.size w wr) (fun _ i _ => len - (intOf i).toNat)
  case atStart => exact ⟨0, 0, by omega, rfl, by omega, World.ownsRow_nil _ _ _ _, Below.refl _ _⟩
  case round =>
    obtain ⟨k, n, hk, rfl, hn, HO, hB⟩ := hrel
    by_cases hlt : k < len
    · obtain ⟨b, off, a', l, cp, ha, hb, hc0, hI, hl', hlc, hcm'⟩ := H.out.at hlt
      subst ha
      have hc : wr.cell? ⟨b, off + k, none⟩ = some (.slice a' l cp) := (hB.cell (p := ⟨b, off + k, none⟩) hb).trans hc0
      obtain ⟨X, hX⟩ : ∃ X, X = xs.getD k default := ⟨_, rfl⟩
      rw [← hX] at hI hl'
      have hl5 : l ≤ 65535 := by rw [hl', hX]; exact HX.out k hlt
      have HN : Hid (keyL (xs.take (k + 1)) = keyL (xs.take k) ++ (putL l 2 ++ (X ++ [0]))) := by
        show _ = _
        rw [keyL_take xs k (by rw [HLX.out]; exact hlt), ← hX, hl']
        rfl
      have HI : Hid (IsB w a' l cp X) := hI
      have hd : decide ((65535 : Int) < l) = false := by simp; omega
      have hbs := hB.size
      obtain ⟨Q, hQ⟩ : ∃ Q, Q = keyL (xs.take k) := ⟨_, rfl⟩
      rw [← hQ] at HO HN
      clear hI hl' hX hQ hc0
      unfold maxLen at hcm'
      go_wp2_with fail
      refine (put_own l 2 _ (by omega) (by omega) (by omega) _ rfl).mono ?_
      rintro e w1 ⟨v1, rfl, ho1, hB1⟩
      obtain ⟨x1, c1, rfl, hI1, _⟩ := ho1.isB0 (putL_range _ _)
      have HO1 : Hid (OwnB w1 w.heap.size u4 n Q) := HO.out.old hB1
      have HI1 : Hid (IsB w1 x1 2 c1 (putL l 2)) := hI1
      have hbs1 := hB1.size
      have hB01 : Below w.heap.size w w1 := hB.trans (hB1.mono hbs)
      clear ho1 hI1 HO
      go_wp2_with (at_builtin; refine wpList_append_bytes rfl (.tmp 26) (.tmp 30) rfl rfl HO1.out rfl HI1.out (by omega) (by omega) ?_)
      intro v2 w2 ho2 hB2
      have HO2 : Hid (OwnB w2 w.heap.size v2 (n + 2) (Q ++ putL l 2)) := ho2
      have HIX2 : Hid (IsB w2 a' l cp X) := HI.out.old (hB01.trans hB2)
      have hB02 : Below w.heap.size w w2 := hB01.trans hB2
      have hbs2 := hB02.size
      clear ho2 HO1
      go_wp2_with (at_builtin; refine wpList_append_bytes rfl (.tmp 32) (.tmp 33) rfl rfl HO2.out rfl HIX2.out (by omega) (by omega) ?_)
      intro v3 w3 ho3 hB3
      have HO3 : Hid (OwnB (w3.alloc (.cells #[.int .u8 0] 5)) w.heap.size v3 (n + 2 + l) (Q ++ (putL l 2 ++ X))) := OwnB.old ho3 (below_one _ _)
      have HZ : Hid _ := isB_one w3 0 (by omega) (by omega)
      have hB03 : Below w.heap.size w w3 := hB02.trans hB3
      have hbs3 := hB03.size
      clear ho3 HO2
      go_wp2_with (at_builtin; refine wpList_append_bytes rfl (.tmp 35) (.tmp 36) rfl rfl HO3.out rfl HZ.out (by omega) ?c3 ?_)
      case c3 => simp; omega
      intro v4 w4 ho4 hB4
      have HO4 : Hid (OwnB w4 w.heap.size v4 (n + 2 + l + 1) (keyL (xs.take (k + 1)))) := by
        show OwnB _ _ _ _ _
        rw [HN.out]
        exact ho4
      have hB04 : Below w.heap.size w w4 := (hB03.alloc hbs3 _).trans hB4
      clear ho4 HO3
      go_wp2_with fail
      go_roundw
      case rel => exact ⟨k + 1, n + 2 + l + 1, by omega, by go_num, by omega, HO4, hB04⟩
      case measure => simp [intOf]; omega
    · have hki : ¬ (k : Int) < len := by omega
      obtain rfl : k = len := by omega
      have HE : Hid (OwnB wr w.heap.size u4 K.length K) := by
        have := HO.out
        rw [List.take_of_length_le (by rw [HLX.out]; exact Nat.le_refl _), ← HK.out] at this
        have hl := this.len
        rw [← hl] at this
        exact this
      clear HO
      go_wp2_with fail
      go_ret2
      exact ⟨_, rfl, HE, hB⟩
end Go.Proofs.Ytfkhcgkobffpiaa
