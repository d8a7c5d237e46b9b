/-
  The contracts of the document's own Put and Signed, over the translation.
-/
import Derived.Test.YtnapeecmlkkolaaDoorArg
namespace Go.Proofs.YtnapeecmlkkolaaDoor
open Go.RowKit
set_option linter.unusedVariables false

theorem putL_succ (x : Int) (n j : Nat) (h : j < n) : (putL x n).take (j + 1) = (putL x n).take j ++ [byteAt x n j] := by
  rw [List.take_succ_eq_append_getElem (by rw [putL_length]; exact h)]
  simp [putL]

theorem div_more (x : Int) (k : Nat) : x / 2 ^ (8 * k) / 256 = x / 2 ^ (8 * (k + 1)) := by
  have hp : (0 : Int) < 2 ^ (8 * k) := Int.pow_pos (by omega)
  rw [Int.ediv_ediv, if_neg (by omega), Int.sub_zero, Nat.mul_succ, Int.pow_add]
  rfl

theorem div_bound (x : Int) (k : Nat) (h0 : 0 ≤ x) (h1 : x < 18446744073709551616) : 0 ≤ x / 2 ^ (8 * k) ∧ x / 2 ^ (8 * k) < 18446744073709551616 := by
  have hp : (0 : Int) < 2 ^ (8 * k) := Int.pow_pos (by omega)
  refine ⟨Int.ediv_nonneg h0 (by omega), ?_⟩
  have := Int.ediv_le_self (2 ^ (8 * k)) h0
  omega

set_option maxHeartbeats 400000 in
theorem rput_no (x n : Int) (w : World) (h : n < 1 ∨ 8 < n) :
    Calls Tryd.prog 36 #[.int .u64 x, .int .i64 n] w fun e w' => e = .returned (.slice none 0 0) ∧ w' = w := by
  rcases h with h | h
  · go_enter Tryd.func36, Tryd.ntmps36
    go_wp2
    go_ret
    exact ⟨rfl, rfl⟩
  · have h' : decide (n < 1) = false := by simp; omega
    go_enter Tryd.func36, Tryd.ntmps36
    go_wp2
    go_ret
    exact ⟨rfl, rfl⟩

set_option maxHeartbeats 1000000 in
theorem rput_yes (x : Int) (n : Nat) (w : World) (h1 : 1 ≤ n) (h2 : n ≤ 8) (hx : 0 ≤ x) (hx2 : x < 18446744073709551616) :
    Calls Tryd.prog 36 #[.int .u64 x, .int .i64 n] w fun e w' => ∃ v, e = .returned v ∧ w'.ownsRow w.heap.size 5 1 v n ((putL x n).map (Value.int .u8)) ∧ Below w.heap.size w w' := by
  have h' : decide ((n : Int) < 1) = false := by simp; omega
  have h8 : decide ((8 : Int) < n) = false := by simp; omega
  obtain ⟨i0, hi, hz0, hz1, hz2⟩ := info_parts Tryd.info5
  have HI : Hid (Tryd.prog.info? 5 = some i0 ∧ i0.zero = some (.int .u8 0) ∧ i0.size = 1 ∧ i0.bytes = 1) := ⟨hi, hz0, hz1, hz2⟩
  clear hi hz0 hz1 hz2
  go_enter Tryd.func36, Tryd.ntmps36
  go_wp2
  go_loopw [5, 6] (fun v i wr => ∃ j : Nat, j ≤ n ∧ i = .int .i64 ((n : Int) - 1 - j) ∧ Hid (wr.ownsRow w.heap.size 5 1 v j (((putL x n).take j).map (Value.int .u8))) ∧ Below w.heap.size w wr) (fun _ i _ => (intOf i + 1).toNat)
  case atStart => exact ⟨0, by omega, by simp, World.ownsRow_nil _ _ _ _, Below.refl _ _⟩
  case round =>
    obtain ⟨j, hj, rfl, hown, hBr⟩ := hrel
    by_cases hlt : j < n
    · go_wp2
      go_loopw [7, 8] (fun y k wz => ∃ t : Nat, t ≤ n - 1 - j ∧ k = .int .i64 t ∧ y = .int .u64 (x / 2 ^ (8 * t)) ∧ wz = wr) (fun _ k _ => n - 1 - j - (intOf k).toNat)
      case atStart => exact ⟨0, by omega, rfl, by simp, rfl⟩
      case round =>
        obtain ⟨t, ht, rfl, rfl, rfl⟩ := hrel
        have hdb := div_bound x t hx hx2
        by_cases htl : t < n - 1 - j
        · have HD : Hid _ := div_more x t
          go_wp2
          go_roundw
          case rel => exact ⟨t + 1, by omega, by go_num, by rw [← HD.out], trivial⟩
          case measure => simp [intOf]; omega
        · obtain rfl : t = n - 1 - j := by omega
          have HB : Hid (x / 2 ^ (8 * (n - 1 - j)) % 256 = byteAt x n j) := rfl
          have hbs := hBr.size
          generalize x / 2 ^ (8 * (n - 1 - j)) = y at *
          have HOW : Hid _ := hown.out.alloc (.cells #[.int .u8 (y % 256)] 5)
          have HC : Hid _ := cell_one_new wr (.int .u8 (y % 256)) 5
          go_wp2_with (at_builtin; refine wpList_append_own _ rfl (.tmp 30) (.tmp 34) 22 rfl w.heap.size 5 i0 (.int .u8 0) 1 1 Tryd.underlying22 HI.out.1 HI.out.2.1 HI.out.2.2.1 HI.out.2.2.2 rfl (by decide) _ _ _ rfl HOW.out ⟨wr.heap.size, 0, none⟩ 1 1 [.int .u8 (y % 256)] rfl rfl HC.out ?c0 ?c1 ?c2 ?c3 ?_)
          case c0 => intro u hu; simp at hu; subst hu; rfl
          case c1 => unfold maxLen; omega
          case c2 => omega
          case c3 => simp; omega
          intro v' w3 hown' hgr _
          have R1 : Hid (w3.ownsRow w.heap.size 5 1 v' (j + 1) (((putL x n).take (j + 1)).map (Value.int .u8))) := by
            rw [putL_succ x n j hlt, ← HB.out, List.map_append, List.map_take]; exact hown'
          have R2 : Below w.heap.size w w3 := (hBr.alloc hbs _).grown hgr (by simp; omega) (fun k hk => (hown.out.lt k hk).1)
          clear hown' hgr HOW HC hown
          go_wp2
          go_roundw
          case rel => exact ⟨j + 1, by omega, by go_num, R1, R2⟩
          case measure => simp [intOf]; omega
    · obtain rfl : j = n := by omega
      have hT : (putL x j).take j = putL x j := List.take_of_length_le (by rw [putL_length]; omega)
      rw [hT] at hown
      clear hT
      go_wp2
      go_ret
      exact ⟨_, rfl, hown.out, hBr⟩

/-- The number of the first k of the bytes zs with a sign, the highest first. -/
def sTo (zs : List Int) (k : Nat) : Int := if k = 0 then 0 else if (128 : Int) ≤ zs[0]?.getD 0 then numTo zs k - 256 ^ k else numTo zs k

theorem sTo_one_big (zs : List Int) (h : 0 < zs.length) (hb : (128 : Int) ≤ zs[0]?.getD 0) : sTo zs 1 = zs[0]?.getD 0 - 256 := by
  simp only [sTo]
  rw [if_neg (by omega), if_pos hb, numTo_succ zs 0 h]
  simp [numTo]

theorem sTo_one_small (zs : List Int) (h : 0 < zs.length) (hb : ¬ (128 : Int) ≤ zs[0]?.getD 0) : sTo zs 1 = zs[0]?.getD 0 := by
  simp only [sTo]
  rw [if_neg (by omega), if_neg hb, numTo_succ zs 0 h]
  simp [numTo]

theorem sTo_succ (zs : List Int) (k : Nat) (h : k < zs.length) (hk : 0 < k) : sTo zs (k + 1) = sTo zs k * 256 + zs[k]?.getD 0 := by
  have e1 : ∀ a b : Int, (if k + 1 = 0 then a else b) = b := fun a b => if_neg (by omega)
  have e2 : ∀ a b : Int, (if k = 0 then a else b) = b := fun a b => if_neg (by omega)
  simp only [sTo, e1, e2, numTo_succ zs k h]
  by_cases hb : (128 : Int) ≤ zs[0]?.getD 0
  · rw [if_pos hb, if_pos hb, Int.pow_succ]; omega
  · rw [if_neg hb, if_neg hb]

theorem numTo_top (zs : List Int) (hr : ∀ j : Nat, 0 ≤ zs[j]?.getD 0 ∧ zs[j]?.getD 0 ≤ 255) (k : Nat) (h : k + 1 ≤ zs.length) :
    zs[0]?.getD 0 * 256 ^ k ≤ numTo zs (k + 1) ∧ numTo zs (k + 1) < (zs[0]?.getD 0 + 1) * 256 ^ k := by
  induction k with
  | zero => rw [numTo_succ zs 0 (by omega)]; simp [numTo]; omega
  | succ k ih =>
    have := ih (by omega)
    have hk := hr (k + 1)
    rw [numTo_succ zs (k + 1) (by omega), Int.pow_succ, ← Int.mul_assoc, ← Int.mul_assoc]
    omega

theorem sTo_bound (zs : List Int) (hr : ∀ j : Nat, 0 ≤ zs[j]?.getD 0 ∧ zs[j]?.getD 0 ≤ 255) (k : Nat) (h : k ≤ zs.length) (h7 : k ≤ 7) : -36028797018963968 ≤ sTo zs k ∧ sTo zs k ≤ 36028797018963967 := by
  rcases Nat.eq_zero_or_pos k with rfl | hp
  · simp [sTo]
  · have h0 := hr 0
    obtain ⟨j, rfl⟩ : ∃ j, k = j + 1 := ⟨k - 1, by omega⟩
    have ht := numTo_top zs hr j h
    simp only [sTo]
    rw [if_neg (by omega)]
    rcases (show j = 0 ∨ j = 1 ∨ j = 2 ∨ j = 3 ∨ j = 4 ∨ j = 5 ∨ j = 6 from by omega) with rfl | rfl | rfl | rfl | rfl | rfl | rfl <;>
    (split <;> (simp at ht ⊢; omega))

theorem sTo_putL (x : Int) (n : Nat) (h1 : 1 ≤ n) (h2 : n ≤ 8) : sTo (putL x n) n = sgn x n := by
  have hn := numTo_putL x n [] h1 h2
  rw [List.append_nil] at hn
  have h0 : (putL x n)[0]?.getD 0 = byteAt x n 0 := by rw [← List.getD_eq_getElem?_getD]; simp [putL, List.getD_eq_getElem?_getD, List.getElem?_range h1]
  unfold sTo
  rw [if_neg (by omega), hn, h0]
  unfold sgn byteAt
  rcases one_to_eight h1 h2 with rfl | rfl | rfl | rfl | rfl | rfl | rfl | rfl <;> (simp <;> split <;> split <;> omega)

/-- What a slice that owns its row, and is not empty, is. -/
theorem own_full {w : World} {base : Nat} {v : Value} {n : Nat} {X : List Int} (h : w.ownsRow base 5 1 v n (X.map (Value.int .u8))) (hp : 0 < n) :
    ∃ g cap, v = .slice (some ⟨g, 0, none⟩) n cap ∧ n ≤ cap ∧ cap ≤ maxLen ∧ base ≤ g ∧ g < w.heap.size ∧ ∀ t, t < n → w.cell? ⟨g, t, none⟩ = some (.int .u8 (X.getD t 0)) := by
  obtain ⟨hlen, h2⟩ := id h
  rcases h2 with ⟨rfl, rfl⟩ | ⟨g, cap, cur, rfl, hg, hh, hc, hm, hs, hx⟩
  · omega
  · refine ⟨g, cap, rfl, hc, hm, hg, (h.lt g rfl).2, fun t ht => ?_⟩
    rw [h.cellAt t (by omega)]
    simp only [List.length_map, Nat.mul_one] at hlen
    simp [show t < X.length by omega]
end Go.Proofs.YtnapeecmlkkolaaDoor
