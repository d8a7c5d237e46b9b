/-
  The contracts of the document's own Get, Run, GetText, Number and GetValue, at any place.
-/
import Derived.Test.YtnapeecmlkkolaaDoorAc
namespace Go.Proofs.YtnapeecmlkkolaaDoor
open Go.RowKit
set_option linter.unusedVariables false
set_option linter.unusedSimpArgs false

set_option maxHeartbeats 400000 in
theorem rget_at_short (b : Option Addr) (len cap d n : Nat) (w : World) (h1 : 1 ≤ n) (h2 : n ≤ 8) (hd : d ≤ len) (hm : len ≤ maxLen) (hl : len < d + n) (p q : Int) (hp : p = d) (hq : q = n) :
    Calls Tryd.prog 51 #[.slice b len cap, .int .i64 p, .int .i64 q] w fun e w' => e = .returned (.tuple #[.int .u64 0, .int .i64 0, .int .i64 10]) ∧ w' = w := by
  subst hp hq
  unfold maxLen at hm
  have h' : decide ((n : Int) < 1) = false := by simp; omega
  have h8 : decide ((8 : Int) < n) = false := by simp; omega
  have h9 : (len : Int) - d < n := by omega
  go_enter Tryd.func51, Tryd.ntmps51
  go_wp2
  go_ret3
  exact ⟨rfl, rfl⟩

set_option maxHeartbeats 400000 in
theorem rget_at_yes {w : World} {b off len cap : Nat} {zs : List Int} (h : BRow w b off len cap zs) (d n : Nat) (h1 : 1 ≤ n) (h2 : n ≤ 8) (hl : d + n ≤ len) (p q : Int) (hp : p = d) (hq : q = n) :
    Calls Tryd.prog 51 #[.slice (some ⟨b, off, none⟩) len cap, .int .i64 p, .int .i64 q] w fun e w' => e = .returned (.tuple #[.int .u64 (numTo (zs.drop d) n), .int .i64 ((d + n : Nat) : Int), .int .i64 0]) ∧ w' = w := by
  subst hp hq
  have hz := h.len_eq
  have hc := h.le
  have hm := h.cap_le
  unfold maxLen at hm
  have hcell := h.cell
  have hr : ∀ j : Nat, 0 ≤ (zs.drop d)[j]?.getD 0 ∧ (zs.drop d)[j]?.getD 0 ≤ 255 := range_drop h.rng d
  have hzl : (zs.drop d).length = len - d := by rw [List.length_drop, hz]
  have HC : Hid (∀ k, k < n → w.cell? ⟨b, off + (d + k), none⟩ = some (.int .u8 ((zs.drop d)[k]?.getD 0))) := by
    intro k hk
    rw [hcell (d + k) (by omega), List.getD_eq_getElem?_getD, List.getElem?_drop]
  have h' : decide ((n : Int) < 1) = false := by simp; omega
  have h8 : decide ((8 : Int) < n) = false := by simp; omega
  have h9 : decide ((len : Int) - d < n) = false := by simp; omega
  generalize zs.drop d = ys at *
  clear h hcell hz
  go_enter Tryd.func51, Tryd.ntmps51
  go_wp2
  go_loop [9, 10] (fun x i => ∃ k : Nat, k ≤ n ∧ i = .int .i64 k ∧ x = .int .u64 (numTo ys k)) (fun _ i => n - (intOf i).toNat)
  case atStart => exact ⟨0, by omega, rfl, rfl⟩
  case round =>
    obtain ⟨k, hk, rfl, rfl⟩ := hrel
    by_cases hlt : k < n
    · have hck := HC.out k hlt
      have hrk := hr k
      have hb1 := numTo_lt ys hr (k + 1) (by omega) (by omega)
      have hb0 := numTo_lt ys hr k (by omega) (by omega)
      have hs := numTo_succ ys k (by omega)
      rw [hs] at hb1
      have HE : Hid (numTo ys (k + 1) = numTo ys k * 256 + ys[k]?.getD 0) := hs
      clear hr hs
      go_wp2
      go_round
      case rel => exact ⟨k + 1, by omega, by go_num, by rw [HE.out]⟩
      case measure => simp [intOf]; omega
    · have e : k = n := by omega
      subst e
      clear hr
      go_wp2
      go_ret3
      exact ⟨by simp, rfl⟩

set_option maxRecDepth 100000 in
set_option maxHeartbeats 400000 in
theorem run_short (a : Option Addr) (len cap at_ : Nat) (n : Int) (w : World) (hm : len ≤ maxLen) (ha : at_ ≤ len) (h0 : ((len - at_ : Nat) : Int) < n) (p : Int) (hp : p = at_) :
    Calls Tryd.prog 55 #[.slice a len cap, .int .i64 p, .int .u64 n] w fun e w' => e = .returned (.tuple #[.string ByteArray.empty, .int .i64 0, .int .i64 10]) ∧ w' = w := by
  subst hp
  unfold maxLen at hm
  have h1 : (len : Int) - at_ < n := by omega
  have h2 : (0 : Int) ≤ (len : Int) - at_ := by omega
  go_enter Tryd.func55, Tryd.ntmps55
  go_wp2_with fail
  go_ret3
  exact ⟨rfl, rfl⟩

/-- The text of a piece of a row. -/
theorem BRow.piece {w : World} {b off len cap : Nat} {zs : List Int} (h : BRow w b off len cap zs) (at_ n off' c : Nat) (hn : at_ + n ≤ len) (ho : 0 < n → off' = off + at_) :
    (convert 22 9 (.slice (some ⟨b, off', none⟩) n c)).run Tryd.prog w = .ok (.string (strOfNums ((zs.drop at_).take n))) w := by
  have hl := h.len_eq
  refine run_convert_bytes_arg (P := Tryd.prog) w 22 5 Tryd.underlying22 Tryd.underlying5 b off' n c _ (by simp; omega) (fun i hi => ?_) 9 Tryd.underlying9
  rw [ho (by omega), Nat.add_assoc, h.cell (at_ + i) (by omega), List.getD_eq_getElem?_getD, List.getD_eq_getElem?_getD, List.getElem?_take_of_lt hi, List.getElem?_drop]

set_option maxRecDepth 100000 in
set_option maxHeartbeats 400000 in
theorem run_yes {w : World} {b off len cap : Nat} {zs : List Int} (h : BRow w b off len cap zs) (at_ n : Nat) (hn : at_ + n ≤ len) (p m : Int) (hp : p = at_) (hmn : m = n) :
    Calls Tryd.prog 55 #[.slice (some ⟨b, off, none⟩) len cap, .int .i64 p, .int .u64 m] w fun e w' => e = .returned (.tuple #[.string (strOfNums ((zs.drop at_).take n)), .int .i64 ((at_ + n : Nat) : Int), .int .i64 0]) ∧ w' = w := by
  subst hp hmn
  have hm := h.cap_le
  have hc := h.le
  unfold maxLen at hm
  have h1 : (n : Int) ≤ (len : Int) - at_ := by omega
  have h2 : (0 : Int) ≤ (len : Int) - at_ := by omega
  have hcv := fun off' c ho => h.piece at_ n off' c hn ho
  have HCV : Hid _ := hcv
  clear hcv h
  by_cases hca : cap = at_
  · obtain rfl : n = 0 := by omega
    subst hca
    have hcv := HCV.out off 0 (by omega)
    obtain ⟨T, hT⟩ : ∃ T, T = strOfNums ((zs.drop cap).take 0) := ⟨_, rfl⟩
    rw [← hT] at hcv
    have HT : Hid _ := hT
    clear hT HCV
    go_enter Tryd.func55, Tryd.ntmps55
    go_wp2_with fail
    go_ret3
    exact ⟨by rw [← HT.out]; rfl, rfl⟩
  · have hcv := HCV.out (off + at_) (cap - at_) (fun _ => rfl)
    obtain ⟨T, hT⟩ : ∃ T, T = strOfNums ((zs.drop at_).take n) := ⟨_, rfl⟩
    rw [← hT] at hcv
    have HT : Hid _ := hT
    clear hT HCV
    go_enter Tryd.func55, Tryd.ntmps55
    go_wp2_with fail
    go_ret3
    exact ⟨by rw [← HT.out]; simp, rfl⟩

/-- The place behind. -/
def place {α : Type} (d : Nat) (X : Res α) : Int := if X.err = 0 then ((d + X.done : Nat) : Int) else 0

set_option maxHeartbeats 1000000 in
theorem rgetText_at {w : World} {a : Option Addr} {len cap : Nat} {zs : List Int} (h : IsB w a len cap zs) (d : Nat) (hd : d ≤ len) (p : Int) (hp : p = d) {X : Res ByteArray} (hX : X = textR (zs.drop d)) :
    Calls Tryd.prog 53 #[.slice a len cap, .int .i64 p] w fun e w' => e = .returned (.tuple #[.string X.val, .int .i64 (place d X), .int .i64 X.err]) ∧ w' = w := by
  subst hp
  have hm : len ≤ maxLen := Nat.le_trans h.2.1 h.2.2.1
  have HM : Hid (len ≤ maxLen) := hm
  by_cases hl : len < d + 2
  · have hX2 : X = ⟨ByteArray.empty, 0, 10⟩ := by
      rw [hX, textR, textA, if_pos (by rw [List.length_drop, h.1]; omega)]; rfl
    clear hX h hm
    subst hX2
    go_enter Tryd.func53, Tryd.ntmps53
    go_wp2_with fail
    refine (rget_at_short a len cap d 2 _ (by omega) (by omega) hd HM.out hl _ _ rfl rfl).mono ?_
    rintro e w1 ⟨rfl, rfl⟩
    go_wp2_with fail
    go_ret3
    exact ⟨rfl, rfl⟩
  · obtain ⟨b, off, rfl, hR⟩ := h.2.2.2.2 (by omega)
    have H : Hid (BRow w b off len cap zs) := hR
    have hzl : (zs.drop d).length = len - d := by rw [List.length_drop, h.1]
    obtain ⟨n, hn2⟩ := Int.eq_ofNat_of_zero_le (numTo_bound (zs.drop d) (range_drop hR.rng d) 2 (by omega)).1
    have HN : Hid (numTo (zs.drop d) 2 = n) := hn2
    by_cases hn : len - d - 2 < n
    · have hX2 : X = ⟨ByteArray.empty, 0, 10⟩ := by
        rw [hX, textR, textA, if_neg (by omega), if_pos (by rw [hn2, hzl]; omega)]; rfl
      clear hX h hm hR hzl hn2
      subst hX2
      go_enter Tryd.func53, Tryd.ntmps53
      go_wp2_with fail
      refine (rget_at_yes H.out d 2 (by omega) (by omega) (by omega) _ _ rfl rfl).mono ?_
      rintro e w1 ⟨rfl, rfl⟩
      rw [HN.out]
      go_wp2_with fail
      refine (run_short _ _ _ (d + 2) _ _ HM.out (by omega) (by omega) _ (by simp)).mono ?_
      rintro e w2 ⟨rfl, rfl⟩
      go_wp2_with fail
      go_ret3
      exact ⟨rfl, rfl⟩
    · have hX2 : X = ⟨strOfNums ((zs.drop (d + 2)).take n), 2 + n, 0⟩ := by
        rw [hX, textR, textA, if_neg (by omega), if_neg (by rw [hn2, hzl]; omega), hn2, List.drop_drop]
        simp
      clear hX h hm hR hzl hn2
      subst hX2
      go_enter Tryd.func53, Tryd.ntmps53
      go_wp2_with fail
      refine (rget_at_yes H.out d 2 (by omega) (by omega) (by omega) _ _ rfl rfl).mono ?_
      rintro e w1 ⟨rfl, rfl⟩
      rw [HN.out]
      go_wp2_with fail
      refine (run_yes H.out (d + 2) n (by omega) _ _ (by simp) rfl).mono ?_
      rintro e w2 ⟨rfl, rfl⟩
      go_wp2_with fail
      go_ret3
      exact ⟨by simp [place]; omega, rfl⟩

/-- The names, as the document's own Names lays them. -/
theorem names_any (w : World) : Calls Tryd.prog 87 #[] w fun e w' => e = .returned (.slice (some ⟨w.heap.size, 0, none⟩) 21 21) ∧ (∀ i, i < 21 → w'.cell? ⟨w.heap.size, i, none⟩ = some (.string (plainAt i))) ∧ w'.heap.size = w.heap.size + 1 ∧ Below w.heap.size w w' := by
  go_enter Tryd.func87, Tryd.ntmps87
  go_wp2_with fail
  go_ret
  refine ⟨rfl, fun i hi => ?_, by simp, below_one _ _⟩
  rw [Lib.cell_of_heap (heap_alloc_new w _)]
  rcases (show i = 0 ∨ i = 1 ∨ i = 2 ∨ i = 3 ∨ i = 4 ∨ i = 5 ∨ i = 6 ∨ i = 7 ∨ i = 8 ∨ i = 9 ∨ i = 10 ∨ i = 11 ∨ i = 12 ∨ i = 13 ∨ i = 14 ∨ i = 15 ∨ i = 16 ∨ i = 17 ∨ i = 18 ∨ i = 19 ∨ i = 20 by omega) with rfl | rfl | rfl | rfl | rfl | rfl | rfl | rfl | rfl | rfl | rfl | rfl | rfl | rfl | rfl | rfl | rfl | rfl | rfl | rfl | rfl <;> rfl

def manyI (id : Int) : Int := if id = 0 then 0 else if plainB id = true then 0 else if id = 32 then 1 else if id = 34 then 1 else if id = 33 then 2 else if id = 48 then -1 else if id = 49 then -1 else -2

theorem plain_no {id : Int} (h : 21 ≤ id) : plainB id = false := by simp [plainB]; omega

set_option maxRecDepth 100000 in
theorem many_any (w : World) (id : Int) (h0 : 0 ≤ id) (h2 : id < 65536) {m : Int} (hm : m = manyI id) : Calls Tryd.prog 77 #[.int .u16 id] w fun e w' => e = .returned (.int .i64 m) ∧ Below w.heap.size w w' := by
  by_cases hz : id = 0
  · subst hz
    obtain rfl : m = 0 := hm
    go_enter Tryd.func77, Tryd.ntmps77
    go_wp2_with fail
    refine (names_any w).mono ?_
    rintro e w1 ⟨rfl, HC, hs, hB⟩
    clear HC hs
    go_wp2_with fail
    go_ret
    exact ⟨rfl, hB⟩
  · by_cases h21 : 21 ≤ id
    · have HM : Hid _ := hm
      have hp := plain_no h21
      go_enter Tryd.func77, Tryd.ntmps77
      go_wp2_with fail
      refine (names_any w).mono ?_
      rintro e w1 ⟨rfl, HC, hs, hB⟩
      clear HC hs
      rw [manyI, if_neg hz, if_neg (by rw [hp]; decide)] at hm
      by_cases e1 : id = 32
      · subst e1; obtain rfl : m = 1 := hm
        clear HM
        go_wp2_with fail
        go_ret
        exact ⟨rfl, hB⟩
      · rw [if_neg e1] at hm
        by_cases e2 : id = 34
        · subst e2; obtain rfl : m = 1 := hm
          clear HM
          go_wp2_with fail
          go_ret
          exact ⟨rfl, hB⟩
        · rw [if_neg e2] at hm
          by_cases e3 : id = 33
          · subst e3; obtain rfl : m = 2 := hm
            clear HM
            go_wp2_with fail
            go_ret
            exact ⟨rfl, hB⟩
          · rw [if_neg e3] at hm
            by_cases e4 : id = 48
            · subst e4; obtain rfl : m = -1 := hm
              clear HM
              go_wp2_with fail
              go_ret
              exact ⟨rfl, hB⟩
            · rw [if_neg e4] at hm
              by_cases e5 : id = 49
              · subst e5; obtain rfl : m = -1 := hm
                clear HM
                go_wp2_with fail
                go_ret
                exact ⟨rfl, hB⟩
              · rw [if_neg e5] at hm
                subst hm
                clear HM
                go_wp2_with fail
                go_ret
                exact ⟨rfl, hB⟩
    · obtain ⟨i, rfl⟩ := Int.eq_ofNat_of_zero_le h0
      have hi : i < 21 := by omega
      have HP := plain_tab ⟨i, hi⟩
      simp only at HP
      have HM : Hid _ := hm
      clear hm
      go_enter Tryd.func77, Tryd.ntmps77
      go_wp2_with fail
      refine (names_any w).mono ?_
      rintro e w1 ⟨rfl, HC, hs, hB⟩
      have hc := HC i hi
      have hlt : w.heap.size < w1.heap.size := by omega
      clear HC hs
      generalize plainAt i = s at *
      cases hpb : plainB i with
      | false =>
        rw [hpb] at HP
        have hse : s.toList.isEmpty = true := by simpa using HP
        obtain rfl : m = -2 := by
          rw [HM.out, manyI, if_neg hz, if_neg (by rw [hpb]; decide), if_neg (by omega), if_neg (by omega), if_neg (by omega), if_neg (by omega), if_neg (by omega)]
        clear HP HM h0 h2 h21 hpb
        have hz2 : ((i : Int) == 0) = false := by simpa using hz
        have hp : 0 < i := by omega
        clear hz
        go_wp2_with fail
        go_ret
        exact ⟨rfl, hB⟩
      | true =>
        rw [hpb] at HP
        have hse : s.toList.isEmpty = false := by simpa using HP
        obtain rfl : m = 0 := by
          rw [HM.out, manyI, if_neg hz, if_pos hpb]
        clear HP HM h0 h2 h21 hpb
        have hz2 : ((i : Int) == 0) = false := by simpa using hz
        have hp : 0 < i := by omega
        clear hz
        go_wp2_with fail
        go_ret
        exact ⟨rfl, hB⟩
end Go.Proofs.YtnapeecmlkkolaaDoor
