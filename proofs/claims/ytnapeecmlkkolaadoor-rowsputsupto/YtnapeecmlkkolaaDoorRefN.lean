/-
  The contracts of the document's own numbers and values, from a place on.
-/
import Derived.Test.YtnapeecmlkkolaaDoorRefAt
import Derived.Test.YtnapeecmlkkolaaDoorAd
namespace Go.Proofs.YtnapeecmlkkolaaDoor
open Go.RowKit
set_option linter.unusedVariables false
set_option linter.unusedSimpArgs false

theorem below_twoN {w w1 : World} {o : Obj} (hB : Below (w.alloc o).heap.size (w.alloc o) w1) (u v : Value) : Below w.heap.size w ((w1.setCell ⟨w.heap.size, 0, none⟩ u).setCell ⟨w.heap.size, 1, none⟩ v) :=
  (((below_one w o).trans (hB.mono (by simp))).setCell (Nat.le_refl _) _).setCell (Nat.le_refl _) _


set_option maxHeartbeats 1000000 in
theorem rsigned_yes (x : Int) (n : Nat) (w : World) (h1 : 1 ≤ n) (h2 : n ≤ 8) (hx : 0 ≤ x) (hx2 : x < 18446744073709551616) :
    Calls Tryd.prog 76 #[.int .u64 x, .int .i64 n] w fun e w' => e = .returned (.int .i64 (sgn x n)) ∧ Below w.heap.size w w' := by
  have h' : decide ((n : Int) < 1) = false := by simp; omega
  have h8 : decide ((8 : Int) < n) = false := by simp; omega
  go_enter Tryd.func76, Tryd.ntmps76
  go_wp2_with fail
  refine (rput_yes x n _ h1 h2 hx hx2).mono ?_
  rintro e w1 ⟨v, rfl, hown, hB1⟩
  obtain ⟨g, cap, rfl, hnc, hcm, _, _, hcell⟩ := own_full hown (by omega)
  have HC : Hid (∀ t, t < n → w1.cell? ⟨g, t, none⟩ = some (.int .u8 ((putL x n).getD t 0))) := hcell
  have HS : Hid _ := sTo_putL x n h1 h2
  have hr := putL_range x n
  have HL : Hid _ := putL_length x n
  unfold maxLen at hcm
  generalize putL x n = zs at *
  have HR : Hid (∀ j : Nat, 0 ≤ zs[j]?.getD 0 ∧ zs[j]?.getD 0 ≤ 255) := hr
  clear hcell hown hr
  go_wp2_with fail
  go_loop [6, 7] (fun s i => ∃ k : Nat, k ≤ n ∧ i = .int .i64 k ∧ s = .int .i64 (sTo zs k)) (fun _ i => n - (intOf i).toNat)
  case atStart => exact ⟨0, by omega, rfl, rfl⟩
  case round =>
    obtain ⟨k, hk, rfl, rfl⟩ := hrel
    by_cases hlt : k < n
    · have hck := HC.out k hlt
      obtain ⟨hrk1, hrk2⟩ := HR.out k
      obtain ⟨hb1, hb2⟩ := sTo_bound zs HR.out k (by rw [HL.out]; omega) (by omega)
      rw [List.getD_eq_getElem?_getD] at hck
      by_cases h0 : k = 0
      · subst h0
        by_cases hbig : (128 : Int) ≤ zs[0]?.getD 0
        · have HE : Hid _ := sTo_one_big zs (by rw [HL.out]; omega) hbig
          have hz0 : sTo zs 0 = 0 := rfl
          go_wp2
          go_round
          case rel => exact ⟨1, by omega, by go_num, by rw [HE.out]⟩
          case measure => simp [intOf]; omega
        · have HE : Hid _ := sTo_one_small zs (by rw [HL.out]; omega) hbig
          have hz0 : sTo zs 0 = 0 := rfl
          have hbd : decide ((128 : Int) ≤ zs[0]?.getD 0) = false := by simpa using hbig
          go_wp2
          go_round
          case rel => exact ⟨1, by omega, by go_num, by rw [HE.out]⟩
          case measure => simp [intOf]; omega
      · have HE : Hid _ := sTo_succ zs k (by rw [HL.out]; omega) (by omega)
        have hk0 : ((k : Int) == 0) = false := by simp; omega
        go_wp2
        go_round
        case rel => exact ⟨k + 1, by omega, by go_num, by rw [HE.out]⟩
        case measure => simp [intOf]; omega
    · obtain rfl : k = n := by omega
      go_wp2
      go_ret
      rw [← HS.out]
      exact ⟨rfl, hB1⟩

set_option maxHeartbeats 400000 in
theorem number_short (a : Option Addr) (len cap d : Nat) (w : World) (hd : d ≤ len) (hm : len ≤ maxLen) (hl : len < d + 4) :
    Calls Tryd.prog 50 #[.slice a len cap, .int .i64 d] w fun e w' => e = .returned (.tuple #[.int .i64 0, .int .i64 0, .int .i64 10]) ∧ w' = w := by
  have HM : Hid _ := hm
  clear hm
  go_enter Tryd.func50, Tryd.ntmps50
  go_wp2_with fail
  refine (rget_at_short a len cap d 4 _ (by omega) (by omega) hd HM.out hl _ _ rfl rfl).mono ?_
  rintro e w1 ⟨rfl, rfl⟩
  go_wp2_with fail
  go_ret3
  exact ⟨rfl, rfl⟩

set_option maxHeartbeats 400000 in
theorem number_yes {w : World} {b off len cap : Nat} {zs : List Int} (h : BRow w b off len cap zs) (d : Nat) (hl : d + 4 ≤ len) :
    Calls Tryd.prog 50 #[.slice (some ⟨b, off, none⟩) len cap, .int .i64 d] w fun e w' => e = .returned (.tuple #[.int .i64 (int4 (zs.drop d)), .int .i64 ((d + 4 : Nat) : Int), .int .i64 0]) ∧ BRow w' b off len cap zs ∧ Below w.heap.size w w' := by
  have H : Hid (BRow _ _ _ _ _ _) := h
  have hb := numTo_lt (zs.drop d) (range_drop h.rng d) 4 (by have := h.len_eq; rw [List.length_drop]; omega) (by omega)
  have hcm := Nat.le_trans h.le h.cap_le
  unfold maxLen at hcm
  clear h
  go_enter Tryd.func50, Tryd.ntmps50
  go_wp2_with fail
  refine (rget_at_yes H.out d 4 (by omega) (by omega) (by omega) _ _ rfl rfl).mono ?_
  rintro e w1 ⟨rfl, rfl⟩
  go_wp2_with fail
  refine (rsigned_yes _ 4 _ (by omega) (by omega) hb.1 hb.2).mono ?_
  rintro e w2 ⟨rfl, hB⟩
  have HE : Hid (sgn (numTo (zs.drop d) 4) 4 = int4 (zs.drop d)) := rfl
  generalize sgn (numTo (zs.drop d) 4) 4 = z at *
  go_wp2_with fail
  go_ret3
  rw [← HE.out]
  exact ⟨by simp, H.out.old hB, hB⟩

set_option maxRecDepth 100000 in
set_option maxHeartbeats 2000000 in
theorem rgetValue_at {w : World} {a : Option Addr} {len cap : Nat} {zs : List Int} (h : IsB w a len cap zs) (d : Nat) (hd : d ≤ len) (p : Int) (hp : p = d) {X : Res (Int × ByteArray)} (hX : X = valueR (zs.drop d)) :
    Calls Tryd.prog 27 #[.slice a len cap, .int .i64 p] w fun e w' => e = .returned (.tuple #[.agg #[.int .i64 X.val.1, .string X.val.2], .int .i64 (place d X), .int .i64 X.err]) ∧ Below w.heap.size w w' := by
  subst hp
  have hm : len ≤ maxLen := Nat.le_trans h.2.1 h.2.2.1
  have HM : Hid (len ≤ maxLen) := hm
  by_cases hl : len < d + 4
  · have hX2 : X = ⟨(0, ByteArray.empty), 0, 10⟩ := by
      rw [hX, valueR, valueA, if_pos (by rw [List.length_drop, h.1]; omega)]; rfl
    clear hX h hm
    subst hX2
    go_enter Tryd.func27, Tryd.ntmps27
    go_wp2_with fail
    refine (number_short a len cap d _ hd HM.out hl).mono ?_
    rintro e w1 ⟨rfl, rfl⟩
    go_wp2_with fail
    exact bodyPost_ret (v := .tuple #[.agg #[.int .i64 0, .string ⟨#[]⟩], .int .i64 0, .int .i64 10]) (by simp [results, Tryd.results27, go_sem]) rfl ⟨rfl, below_one _ _⟩
  obtain ⟨b, off, rfl, hR⟩ := h.2.2.2.2 (by omega)
  have H : Hid (BRow w b off len cap zs) := hR
  have hzl : (zs.drop d).length = len - d := by rw [List.length_drop, h.1]
  unfold maxLen at hm
  clear h hR
  have hv : X = (if int4 (zs.drop d) < -2 then (⟨(0, ByteArray.empty), 0, 11⟩ : Res (Int × ByteArray)) else if int4 (zs.drop d) = -2 then ⟨(1, ByteArray.empty), 4, 0⟩ else if int4 (zs.drop d) = -1 then ⟨(0, ByteArray.empty), 4, 0⟩ else
      if ((len - d - 4 : Nat) : Int) < int4 (zs.drop d) then ⟨(0, ByteArray.empty), 0, 10⟩ else ⟨(2, strOfNums ((zs.drop (d + 4)).take (int4 (zs.drop d)).toNat)), 4 + (int4 (zs.drop d)).toNat, 0⟩) := by
    rw [hX, valueR, valueA, if_neg (by omega), hzl, List.drop_drop]
    split
    · rfl
    · split
      · rfl
      · split
        · rfl
        · split
          · rfl
          · rfl
  clear hX
  have hbd := (int4_bounds (zs.drop d)).2
  by_cases hg : int4 (zs.drop d) < -2
  · rw [if_pos hg] at hv
    subst hv
    have t1 : (int4 (zs.drop d) == -1) = false := by simp; omega
    have t2 : (int4 (zs.drop d) == -2) = false := by simp; omega
    have t3 : int4 (zs.drop d) < 0 := by omega
    clear hg
    go_enter Tryd.func27, Tryd.ntmps27
    go_wp2_with fail
    refine (number_yes (H.out.old (below_one _ _)) d (by omega)).mono ?_
    rintro e w1 ⟨rfl, hR, hB⟩
    obtain ⟨hc, hf⟩ := bcell hB
    have hs : w.heap.size < w1.heap.size := by have := hB.size; simp at this; omega
    go_wp2_with fail
    exact bodyPost_ret (v := .tuple #[.agg #[.int .i64 0, .string ⟨#[]⟩], .int .i64 0, .int .i64 11]) (by simp [results, Tryd.results27, go_sem, hc, hs]) rfl ⟨rfl, below_twoN hB _ _⟩
  rw [if_neg hg] at hv
  by_cases hu : int4 (zs.drop d) = -2
  · rw [if_pos hu] at hv
    subst hv
    go_enter Tryd.func27, Tryd.ntmps27
    go_wp2_with fail
    refine (number_yes (H.out.old (below_one _ _)) d (by omega)).mono ?_
    rintro e w1 ⟨rfl, hR, hB⟩
    obtain ⟨hc, hf⟩ := bcell hB
    have hs : w.heap.size < w1.heap.size := by have := hB.size; simp at this; omega
    rw [hu]
    clear hu hg
    go_wp2_with fail
    exact bodyPost_ret (v := .tuple #[.agg #[.int .i64 1, .string ⟨#[]⟩], .int .i64 ((d + 4 : Nat) : Int), .int .i64 0]) (by simp [results, Tryd.results27, go_sem, hc, hs]) rfl ⟨rfl, below_twoN hB _ _⟩
  rw [if_neg hu] at hv
  by_cases hn : int4 (zs.drop d) = -1
  · rw [if_pos hn] at hv
    subst hv
    go_enter Tryd.func27, Tryd.ntmps27
    go_wp2_with fail
    refine (number_yes (H.out.old (below_one _ _)) d (by omega)).mono ?_
    rintro e w1 ⟨rfl, hR, hB⟩
    obtain ⟨hc, hf⟩ := bcell hB
    have hs : w.heap.size < w1.heap.size := by have := hB.size; simp at this; omega
    rw [hn]
    clear hn hu hg
    go_wp2_with fail
    exact bodyPost_ret (v := .tuple #[.agg #[.int .i64 0, .string ⟨#[]⟩], .int .i64 ((d + 4 : Nat) : Int), .int .i64 0]) (by simp [results, Tryd.results27, go_sem, hc, hs]) rfl ⟨rfl, below_twoN hB _ _⟩
  rw [if_neg hn] at hv
  have h0 : 0 ≤ int4 (zs.drop d) := by omega
  obtain ⟨ht1, ht2, ht3⟩ := int4_tests h0
  by_cases hsh : ((len - d - 4 : Nat) : Int) < int4 (zs.drop d)
  · rw [if_pos hsh] at hv
    subst hv
    have HN : Hid (((len - (d + 4) : Nat) : Int) < int4 (zs.drop d)) := by
      show _ < _
      omega
    clear hg hu hn hsh
    go_enter Tryd.func27, Tryd.ntmps27
    go_wp2_with fail
    refine (number_yes (H.out.old (below_one _ _)) d (by omega)).mono ?_
    rintro e w1 ⟨rfl, hR, hB⟩
    obtain ⟨hc, hf⟩ := bcell hB
    have hs : w.heap.size < w1.heap.size := by have := hB.size; simp at this; omega
    go_wp2_with fail
    refine (run_short _ _ _ (d + 4) _ _ HM.out (by omega) HN.out _ (by simp)).mono ?_
    rintro e w2 ⟨rfl, rfl⟩
    go_wp2_with fail
    exact bodyPost_ret (v := .tuple #[.agg #[.int .i64 0, .string ⟨#[]⟩], .int .i64 0, .int .i64 10]) (by simp [results, Tryd.results27, go_sem, hc, hs]) rfl ⟨rfl, below_twoN hB _ _⟩
  · rw [if_neg hsh] at hv
    obtain ⟨n, hn2⟩ := Int.eq_ofNat_of_zero_le h0
    rw [hn2] at hv
    simp only [Int.toNat_natCast] at hv
    have HN : Hid (int4 (zs.drop d) = n) := hn2
    have hnl : d + 4 + n ≤ len := by omega
    obtain ⟨T, hT⟩ : ∃ T, T = strOfNums ((zs.drop (d + 4)).take n) := ⟨_, rfl⟩
    rw [← hT] at hv
    have HT : Hid _ := hT
    subst hv
    clear hg hu hn hsh hn2 hT
    go_enter Tryd.func27, Tryd.ntmps27
    go_wp2_with fail
    refine (number_yes (H.out.old (below_one _ _)) d (by omega)).mono ?_
    rintro e w1 ⟨rfl, hR, hB⟩
    obtain ⟨hc, hf⟩ := bcell hB
    have hs : w.heap.size < w1.heap.size := by have := hB.size; simp at this; omega
    have HR : Hid (BRow _ _ _ _ _ _) := hR
    clear hR
    go_wp2_with fail
    refine (run_yes HR.out (d + 4) n hnl _ _ (by simp) HN.out).mono ?_
    rintro e w2 ⟨rfl, rfl⟩
    rw [← HT.out]
    go_wp2_with fail
    exact bodyPost_ret (v := .tuple #[.agg #[.int .i64 2, .string T], .int .i64 ((d + 4 + n : Nat) : Int), .int .i64 0]) (by simp [results, Tryd.results27, go_sem, hc, hs]) rfl ⟨by simp [place]; omega, below_twoN hB _ _⟩
theorem int4R_eq (zs : List Int) : int4R zs = if zs.length < 4 then ⟨0, 0, 10⟩ else ⟨int4 zs, 4, 0⟩ := by
  unfold int4R bindR numR pureR
  by_cases h : zs.length < 4
  · simp [h]; exact sgn0
  · simp [h]; rfl

/-- A number, from a place on, as a parser has it. -/
theorem rnum_at {w : World} {a : Option Addr} {len cap : Nat} {zs : List Int} (h : IsB w a len cap zs) (d : Nat) (hd : d ≤ len) (p : Int) (hp : p = d) {X : Res Int} (hX : X = int4R (zs.drop d)) :
    Calls Tryd.prog 50 #[.slice a len cap, .int .i64 p] w fun e w' => e = .returned (.tuple #[.int .i64 X.val, .int .i64 (place d X), .int .i64 X.err]) ∧ Below w.heap.size w w' := by
  subst hp
  have hm : len ≤ maxLen := Nat.le_trans h.2.1 h.2.2.1
  have hzl : (zs.drop d).length = len - d := by rw [List.length_drop, h.1]
  by_cases hl : len < d + 4
  · have hX2 : X = ⟨0, 0, 10⟩ := by
      rw [hX, int4R_eq, if_pos (by omega)]
    subst hX2
    refine (number_short a len cap d w hd hm hl).mono ?_
    rintro e w1 ⟨rfl, rfl⟩
    exact ⟨rfl, Below.refl _ _⟩
  · obtain ⟨b, off, rfl, hR⟩ := h.2.2.2.2 (by omega)
    have hX2 : X = ⟨int4 (zs.drop d), 4, 0⟩ := by
      rw [hX, int4R_eq, if_neg (by omega)]
    subst hX2
    refine (number_yes hR d (by omega)).mono ?_
    rintro e w1 ⟨rfl, _, hB⟩
    exact ⟨rfl, hB⟩

set_option maxRecDepth 20000 in
set_option maxHeartbeats 1000000 in
/-- How many, from a place on. -/
theorem count_at {w : World} {a : Option Addr} {len cap : Nat} {zs : List Int} (h : IsB w a len cap zs) (d : Nat) (hd : d ≤ len) (p : Int) (hp : p = d) {X : Res Int} (hX : X = manyR (zs.drop d)) :
    Calls Tryd.prog 26 #[.slice a len cap, .int .i64 p] w fun e w' => e = .returned (.tuple #[.int .i64 X.val, .int .i64 (place d X), .int .i64 X.err]) ∧ Below w.heap.size w w' := by
  subst hp
  obtain ⟨Y, hY⟩ : ∃ Y, Y = int4R (zs.drop d) := ⟨_, rfl⟩
  have hC := rnum_at h d hd (d : Int) rfl hY
  have hYr : Y.err = 0 → (Y.done = 4 ∧ -2147483648 ≤ Y.val ∧ Y.val ≤ 2147483647) := by
    rw [hY, int4R_eq]
    by_cases hl : (zs.drop d).length < 4
    · rw [if_pos hl]; intro h; exact absurd h (by decide)
    · rw [if_neg hl]
      intro _
      have := int4_bounds (zs.drop d)
      exact ⟨rfl, this⟩
  have hXv : X = if Y.err = 0 then (if Y.val < 0 then ⟨0, 0, 11⟩ else if 4096 < Y.val then ⟨0, 0, 12⟩ else ⟨Y.val, Y.done, 0⟩) else ⟨0, 0, Y.err⟩ := by
    rw [hX, hY]
    unfold manyR
    by_cases he : (int4R (zs.drop d)).err = 0
    · rw [if_pos he]
      unfold bindR
      rw [if_pos he]
      by_cases h0 : (int4R (zs.drop d)).val < 0
      · simp only [if_pos h0, failR]; rfl
      · by_cases h1 : 4096 < (int4R (zs.drop d)).val
        · simp only [if_neg h0, if_pos h1, failR]; rfl
        · simp only [if_neg h0, if_neg h1, pureR]; rfl
    · rw [if_neg he]
      unfold bindR
      rw [if_neg he]
      have e0 : (int4R (zs.drop d)).val = 0 := by
        rw [int4R_eq] at he ⊢
        by_cases hl : (zs.drop d).length < 4
        · rw [if_pos hl]
        · rw [if_neg hl] at he; exact absurd rfl he
      rw [e0]
      rfl
  clear hX hY
  obtain ⟨yv, yd, ye⟩ := Y
  simp only at hYr hXv
  obtain ⟨pl, hpp⟩ : ∃ pl : Int, pl = place d (⟨yv, yd, ye⟩ : Res Int) := ⟨_, rfl⟩
  have HC : Hid (Calls Tryd.prog 50 #[.slice a len cap, .int .i64 d] w fun e w' => e = .returned (.tuple #[.int .i64 yv, .int .i64 pl, .int .i64 ye]) ∧ Below w.heap.size w w') := by rw [hpp]; exact hC
  clear hC h
  by_cases he : ye = 0
  · subst he
    obtain ⟨rfl, hv1, hv2⟩ := hYr rfl
    rw [if_pos rfl] at hXv
    obtain rfl : pl = ((d + 4 : Nat) : Int) := hpp
    by_cases h0 : yv < 0
    · rw [if_pos h0] at hXv
      subst hXv
      go_enter Tryd.func26, Tryd.ntmps26
      go_wp2_with fail
      refine Calls.mono HC.out ?_
      rintro e w1 ⟨rfl, hB⟩
      go_wp2_with fail
      go_ret3
      exact ⟨rfl, hB⟩
    · have h0' : decide (yv < 0) = false := by simpa using h0
      rw [if_neg h0] at hXv
      by_cases h1 : 4096 < yv
      · rw [if_pos h1] at hXv
        subst hXv
        go_enter Tryd.func26, Tryd.ntmps26
        go_wp2_with fail
        refine Calls.mono HC.out ?_
        rintro e w1 ⟨rfl, hB⟩
        go_wp2_with fail
        go_ret3
        exact ⟨rfl, hB⟩
      · have h1' : decide (4096 < yv) = false := by simpa using h1
        rw [if_neg h1] at hXv
        subst hXv
        go_enter Tryd.func26, Tryd.ntmps26
        go_wp2_with fail
        refine Calls.mono HC.out ?_
        rintro e w1 ⟨rfl, hB⟩
        go_wp2_with fail
        go_ret3
        exact ⟨rfl, hB⟩
  · rw [if_neg he] at hXv
    subst hXv
    have he' : (ye != 0) = true := by simpa using he
    obtain rfl : pl = 0 := hpp.trans (if_neg he)
    have hpl2 : place d (⟨0, 0, ye⟩ : Res Int) = 0 := if_neg he
    rw [hpl2]
    go_enter Tryd.func26, Tryd.ntmps26
    go_wp2_with fail
    refine Calls.mono HC.out ?_
    rintro e w1 ⟨rfl, hB⟩
    go_wp2_with fail
    go_ret3
    exact ⟨rfl, hB⟩

end Go.Proofs.YtnapeecmlkkolaaDoor
