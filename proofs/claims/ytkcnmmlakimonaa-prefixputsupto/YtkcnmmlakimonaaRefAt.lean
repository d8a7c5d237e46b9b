/-
  The contracts of the document's own Get, Run, GetText, Number and GetValue, at any place.
-/
import Derived.Test.YtkcnmmlakimonaaAwake
namespace Go.Proofs.Ytkcnmmlakimonaa
open Go.RowKit
set_option linter.unusedVariables false
set_option linter.unusedSimpArgs false

set_option maxHeartbeats 400000 in
theorem rget_at_short (b : Option Addr) (len cap d n : Nat) (w : World) (h1 : 1 ≤ n) (h2 : n ≤ 8) (hd : d ≤ len) (hm : len ≤ maxLen) (hl : len < d + n) (p q : Int) (hp : p = d) (hq : q = n) :
    Calls Try.prog 35 #[.slice b len cap, .int .i64 p, .int .i64 q] w fun e w' => e = .returned (.tuple #[.int .u64 0, .int .i64 0, .int .i64 10]) ∧ w' = w := by
  subst hp hq
  unfold maxLen at hm
  have h' : decide ((n : Int) < 1) = false := by simp; omega
  have h8 : decide ((8 : Int) < n) = false := by simp; omega
  have h9 : (len : Int) - d < n := by omega
  go_enter Try.func35, Try.ntmps35
  go_wp2
  go_ret3
  exact ⟨rfl, rfl⟩

set_option maxHeartbeats 400000 in
theorem rget_at_yes {w : World} {b off len cap : Nat} {zs : List Int} (h : BRow w b off len cap zs) (d n : Nat) (h1 : 1 ≤ n) (h2 : n ≤ 8) (hl : d + n ≤ len) (p q : Int) (hp : p = d) (hq : q = n) :
    Calls Try.prog 35 #[.slice (some ⟨b, off, none⟩) len cap, .int .i64 p, .int .i64 q] w fun e w' => e = .returned (.tuple #[.int .u64 (numTo (zs.drop d) n), .int .i64 ((d + n : Nat) : Int), .int .i64 0]) ∧ w' = w := by
  subst hp hq
  have hz := h.len_eq
  have hc := h.le
  have hm := h.cap_le
  unfold maxLen at hm
  have hcell := h.cell
  have hr : ∀ j : Nat, 0 ≤ (zs.drop d)[j]?.getD 0 ∧ (zs.drop d)[j]?.getD 0 ≤ 255 := range_drop h.rng d
  have hzl : (zs.drop d).length = len - d := by rw [List.length_drop, hz]
  have HC : Hid (∀ k, k < n → w.cell? ⟨b, off + (d + k), none⟩ = some (.int .u8 ((zs.drop d)[k]?.getD 0))) := by
    intro k hk
    rw [hcell (d + k) (by omega), List.getD_eq_getElem?_getD, List.getElem?_drop]
  have h' : decide ((n : Int) < 1) = false := by simp; omega
  have h8 : decide ((8 : Int) < n) = false := by simp; omega
  have h9 : decide ((len : Int) - d < n) = false := by simp; omega
  generalize zs.drop d = ys at *
  clear h hcell hz
  go_enter Try.func35, Try.ntmps35
  go_wp2
  go_loop [9, 10] (fun x i => ∃ k : Nat, k ≤ n ∧ i = .int .i64 k ∧ x = .int .u64 (numTo ys k)) (fun _ i => n - (intOf i).toNat)
  case atStart => exact ⟨0, by omega, rfl, rfl⟩
  case round =>
    obtain ⟨k, hk, rfl, rfl⟩ := hrel
    by_cases hlt : k < n
    · have hck := HC.out k hlt
      have hrk := hr k
      have hb1 := numTo_lt ys hr (k + 1) (by omega) (by omega)
      have hb0 := numTo_lt ys hr k (by omega) (by omega)
      have hs := numTo_succ ys k (by omega)
      rw [hs] at hb1
      have HE : Hid (numTo ys (k + 1) = numTo ys k * 256 + ys[k]?.getD 0) := hs
      clear hr hs
      go_wp2
      go_round
      case rel => exact ⟨k + 1, by omega, by go_num, by rw [HE.out]⟩
      case measure => simp [intOf]; omega
    · have e : k = n := by omega
      subst e
      clear hr
      go_wp2
      go_ret3
      exact ⟨by simp, rfl⟩

set_option maxRecDepth 100000 in
set_option maxHeartbeats 400000 in
theorem run_short (a : Option Addr) (len cap at_ : Nat) (n : Int) (w : World) (hm : len ≤ maxLen) (ha : at_ ≤ len) (h0 : ((len - at_ : Nat) : Int) < n) (p : Int) (hp : p = at_) :
    Calls Try.prog 19 #[.slice a len cap, .int .i64 p, .int .u64 n] w fun e w' => e = .returned (.tuple #[.string ByteArray.empty, .int .i64 0, .int .i64 10]) ∧ w' = w := by
  subst hp
  unfold maxLen at hm
  have h1 : (len : Int) - at_ < n := by omega
  have h2 : (0 : Int) ≤ (len : Int) - at_ := by omega
  go_enter Try.func19, Try.ntmps19
  go_wp2_with fail
  go_ret3
  exact ⟨rfl, rfl⟩

/-- The text of a piece of a row. -/
theorem BRow.piece {w : World} {b off len cap : Nat} {zs : List Int} (h : BRow w b off len cap zs) (at_ n off' c : Nat) (hn : at_ + n ≤ len) (ho : 0 < n → off' = off + at_) :
    (convert 22 9 (.slice (some ⟨b, off', none⟩) n c)).run Try.prog w = .ok (.string (strOfNums ((zs.drop at_).take n))) w := by
  have hl := h.len_eq
  refine run_convert_bytes_arg (P := Try.prog) w 22 5 Try.underlying22 Try.underlying5 b off' n c _ (by simp; omega) (fun i hi => ?_) 9 Try.underlying9
  rw [ho (by omega), Nat.add_assoc, h.cell (at_ + i) (by omega), List.getD_eq_getElem?_getD, List.getD_eq_getElem?_getD, List.getElem?_take_of_lt hi, List.getElem?_drop]

set_option maxRecDepth 100000 in
set_option maxHeartbeats 400000 in
theorem run_yes {w : World} {b off len cap : Nat} {zs : List Int} (h : BRow w b off len cap zs) (at_ n : Nat) (hn : at_ + n ≤ len) (p m : Int) (hp : p = at_) (hmn : m = n) :
    Calls Try.prog 19 #[.slice (some ⟨b, off, none⟩) len cap, .int .i64 p, .int .u64 m] w fun e w' => e = .returned (.tuple #[.string (strOfNums ((zs.drop at_).take n)), .int .i64 ((at_ + n : Nat) : Int), .int .i64 0]) ∧ w' = w := by
  subst hp hmn
  have hm := h.cap_le
  have hc := h.le
  unfold maxLen at hm
  have h1 : (n : Int) ≤ (len : Int) - at_ := by omega
  have h2 : (0 : Int) ≤ (len : Int) - at_ := by omega
  have hcv := fun off' c ho => h.piece at_ n off' c hn ho
  have HCV : Hid _ := hcv
  clear hcv h
  by_cases hca : cap = at_
  · obtain rfl : n = 0 := by omega
    subst hca
    have hcv := HCV.out off 0 (by omega)
    obtain ⟨T, hT⟩ : ∃ T, T = strOfNums ((zs.drop cap).take 0) := ⟨_, rfl⟩
    rw [← hT] at hcv
    have HT : Hid _ := hT
    clear hT HCV
    go_enter Try.func19, Try.ntmps19
    go_wp2_with fail
    go_ret3
    exact ⟨by rw [← HT.out]; rfl, rfl⟩
  · have hcv := HCV.out (off + at_) (cap - at_) (fun _ => rfl)
    obtain ⟨T, hT⟩ : ∃ T, T = strOfNums ((zs.drop at_).take n) := ⟨_, rfl⟩
    rw [← hT] at hcv
    have HT : Hid _ := hT
    clear hT HCV
    go_enter Try.func19, Try.ntmps19
    go_wp2_with fail
    go_ret3
    exact ⟨by rw [← HT.out]; simp, rfl⟩

/-- The place behind. -/
def place {α : Type} (d : Nat) (X : Res α) : Int := if X.err = 0 then ((d + X.done : Nat) : Int) else 0

set_option maxHeartbeats 1000000 in
theorem rgetText_at {w : World} {a : Option Addr} {len cap : Nat} {zs : List Int} (h : IsB w a len cap zs) (d : Nat) (hd : d ≤ len) (p : Int) (hp : p = d) {X : Res ByteArray} (hX : X = textR (zs.drop d)) :
    Calls Try.prog 36 #[.slice a len cap, .int .i64 p] w fun e w' => e = .returned (.tuple #[.string X.val, .int .i64 (place d X), .int .i64 X.err]) ∧ w' = w := by
  subst hp
  have hm : len ≤ maxLen := Nat.le_trans h.2.1 h.2.2.1
  have HM : Hid (len ≤ maxLen) := hm
  by_cases hl : len < d + 2
  · have hX2 : X = ⟨ByteArray.empty, 0, 10⟩ := by
      rw [hX, textR, textA, if_pos (by rw [List.length_drop, h.1]; omega)]; rfl
    clear hX h hm
    subst hX2
    go_enter Try.func36, Try.ntmps36
    go_wp2_with fail
    refine (rget_at_short a len cap d 2 _ (by omega) (by omega) hd HM.out hl _ _ rfl rfl).mono ?_
    rintro e w1 ⟨rfl, rfl⟩
    go_wp2_with fail
    go_ret3
    exact ⟨rfl, rfl⟩
  · obtain ⟨b, off, rfl, hR⟩ := h.2.2.2.2 (by omega)
    have H : Hid (BRow w b off len cap zs) := hR
    have hzl : (zs.drop d).length = len - d := by rw [List.length_drop, h.1]
    obtain ⟨n, hn2⟩ := Int.eq_ofNat_of_zero_le (numTo_bound (zs.drop d) (range_drop hR.rng d) 2 (by omega)).1
    have HN : Hid (numTo (zs.drop d) 2 = n) := hn2
    by_cases hn : len - d - 2 < n
    · have hX2 : X = ⟨ByteArray.empty, 0, 10⟩ := by
        rw [hX, textR, textA, if_neg (by omega), if_pos (by rw [hn2, hzl]; omega)]; rfl
      clear hX h hm hR hzl hn2
      subst hX2
      go_enter Try.func36, Try.ntmps36
      go_wp2_with fail
      refine (rget_at_yes H.out d 2 (by omega) (by omega) (by omega) _ _ rfl rfl).mono ?_
      rintro e w1 ⟨rfl, rfl⟩
      rw [HN.out]
      go_wp2_with fail
      refine (run_short _ _ _ (d + 2) _ _ HM.out (by omega) (by omega) _ (by simp)).mono ?_
      rintro e w2 ⟨rfl, rfl⟩
      go_wp2_with fail
      go_ret3
      exact ⟨rfl, rfl⟩
    · have hX2 : X = ⟨strOfNums ((zs.drop (d + 2)).take n), 2 + n, 0⟩ := by
        rw [hX, textR, textA, if_neg (by omega), if_neg (by rw [hn2, hzl]; omega), hn2, List.drop_drop]
        simp
      clear hX h hm hR hzl hn2
      subst hX2
      go_enter Try.func36, Try.ntmps36
      go_wp2_with fail
      refine (rget_at_yes H.out d 2 (by omega) (by omega) (by omega) _ _ rfl rfl).mono ?_
      rintro e w1 ⟨rfl, rfl⟩
      rw [HN.out]
      go_wp2_with fail
      refine (run_yes H.out (d + 2) n (by omega) _ _ (by simp) rfl).mono ?_
      rintro e w2 ⟨rfl, rfl⟩
      go_wp2_with fail
      go_ret3
      exact ⟨by simp [place]; omega, rfl⟩

set_option maxHeartbeats 400000 in
theorem number_short (a : Option Addr) (len cap d : Nat) (w : World) (hd : d ≤ len) (hm : len ≤ maxLen) (hl : len < d + 4) :
    Calls Try.prog 53 #[.slice a len cap, .int .i64 d] w fun e w' => e = .returned (.tuple #[.int .i64 0, .int .i64 0, .int .i64 10]) ∧ w' = w := by
  have HM : Hid _ := hm
  clear hm
  go_enter Try.func53, Try.ntmps53
  go_wp2_with fail
  refine (rget_at_short a len cap d 4 _ (by omega) (by omega) hd HM.out hl _ _ rfl rfl).mono ?_
  rintro e w1 ⟨rfl, rfl⟩
  go_wp2_with fail
  go_ret3
  exact ⟨rfl, rfl⟩

set_option maxHeartbeats 400000 in
theorem number_yes {w : World} {b off len cap : Nat} {zs : List Int} (h : BRow w b off len cap zs) (d : Nat) (hl : d + 4 ≤ len) :
    Calls Try.prog 53 #[.slice (some ⟨b, off, none⟩) len cap, .int .i64 d] w fun e w' => e = .returned (.tuple #[.int .i64 (int4 (zs.drop d)), .int .i64 ((d + 4 : Nat) : Int), .int .i64 0]) ∧ BRow w' b off len cap zs ∧ Below w.heap.size w w' := by
  have H : Hid (BRow _ _ _ _ _ _) := h
  have hb := numTo_lt (zs.drop d) (range_drop h.rng d) 4 (by have := h.len_eq; rw [List.length_drop]; omega) (by omega)
  have hcm := Nat.le_trans h.le h.cap_le
  unfold maxLen at hcm
  clear h
  go_enter Try.func53, Try.ntmps53
  go_wp2_with fail
  refine (rget_at_yes H.out d 4 (by omega) (by omega) (by omega) _ _ rfl rfl).mono ?_
  rintro e w1 ⟨rfl, rfl⟩
  go_wp2_with fail
  refine (rsigned_yes _ 4 _ (by omega) (by omega) hb.1 hb.2).mono ?_
  rintro e w2 ⟨rfl, hB⟩
  have HE : Hid (sgn (numTo (zs.drop d) 4) 4 = int4 (zs.drop d)) := rfl
  generalize sgn (numTo (zs.drop d) 4) 4 = z at *
  go_wp2_with fail
  go_ret3
  rw [← HE.out]
  exact ⟨by simp, H.out.old hB, hB⟩

set_option maxRecDepth 100000 in
set_option maxHeartbeats 2000000 in
theorem rgetValue_at {w : World} {a : Option Addr} {len cap : Nat} {zs : List Int} (h : IsB w a len cap zs) (d : Nat) (hd : d ≤ len) (p : Int) (hp : p = d) {X : Res (Int × ByteArray)} (hX : X = valueR (zs.drop d)) :
    Calls Try.prog 37 #[.slice a len cap, .int .i64 p] w fun e w' => e = .returned (.tuple #[.agg #[.int .i64 X.val.1, .string X.val.2], .int .i64 (place d X), .int .i64 X.err]) ∧ Below w.heap.size w w' := by
  subst hp
  have hm : len ≤ maxLen := Nat.le_trans h.2.1 h.2.2.1
  have HM : Hid (len ≤ maxLen) := hm
  by_cases hl : len < d + 4
  · have hX2 : X = ⟨(0, ByteArray.empty), 0, 10⟩ := by
      rw [hX, valueR, valueA, if_pos (by rw [List.length_drop, h.1]; omega)]; rfl
    clear hX h hm
    subst hX2
    go_enter Try.func37, Try.ntmps37
    go_wp2_with fail
    refine (number_short a len cap d _ hd HM.out hl).mono ?_
    rintro e w1 ⟨rfl, rfl⟩
    go_wp2_with fail
    exact bodyPost_ret (v := .tuple #[.agg #[.int .i64 0, .string ⟨#[]⟩], .int .i64 0, .int .i64 10]) (by simp [results, Try.results37, go_sem]) rfl ⟨rfl, below_one _ _⟩
  obtain ⟨b, off, rfl, hR⟩ := h.2.2.2.2 (by omega)
  have H : Hid (BRow w b off len cap zs) := hR
  have hzl : (zs.drop d).length = len - d := by rw [List.length_drop, h.1]
  unfold maxLen at hm
  clear h hR
  have hv : X = (if int4 (zs.drop d) < -2 then (⟨(0, ByteArray.empty), 0, 11⟩ : Res (Int × ByteArray)) else if int4 (zs.drop d) = -2 then ⟨(1, ByteArray.empty), 4, 0⟩ else if int4 (zs.drop d) = -1 then ⟨(0, ByteArray.empty), 4, 0⟩ else
      if ((len - d - 4 : Nat) : Int) < int4 (zs.drop d) then ⟨(0, ByteArray.empty), 0, 10⟩ else ⟨(2, strOfNums ((zs.drop (d + 4)).take (int4 (zs.drop d)).toNat)), 4 + (int4 (zs.drop d)).toNat, 0⟩) := by
    rw [hX, valueR, valueA, if_neg (by omega), hzl, List.drop_drop]
    split
    · rfl
    · split
      · rfl
      · split
        · rfl
        · split
          · rfl
          · rfl
  clear hX
  have hbd := (int4_bounds (zs.drop d)).2
  by_cases hg : int4 (zs.drop d) < -2
  · rw [if_pos hg] at hv
    subst hv
    have t1 : (int4 (zs.drop d) == -1) = false := by simp; omega
    have t2 : (int4 (zs.drop d) == -2) = false := by simp; omega
    have t3 : int4 (zs.drop d) < 0 := by omega
    clear hg
    go_enter Try.func37, Try.ntmps37
    go_wp2_with fail
    refine (number_yes (H.out.old (below_one _ _)) d (by omega)).mono ?_
    rintro e w1 ⟨rfl, hR, hB⟩
    obtain ⟨hc, hf⟩ := bcell hB
    have hs : w.heap.size < w1.heap.size := by have := hB.size; simp at this; omega
    go_wp2_with fail
    exact bodyPost_ret (v := .tuple #[.agg #[.int .i64 0, .string ⟨#[]⟩], .int .i64 0, .int .i64 11]) (by simp [results, Try.results37, go_sem, hc, hs]) rfl ⟨rfl, below_two hB _ _⟩
  rw [if_neg hg] at hv
  by_cases hu : int4 (zs.drop d) = -2
  · rw [if_pos hu] at hv
    subst hv
    go_enter Try.func37, Try.ntmps37
    go_wp2_with fail
    refine (number_yes (H.out.old (below_one _ _)) d (by omega)).mono ?_
    rintro e w1 ⟨rfl, hR, hB⟩
    obtain ⟨hc, hf⟩ := bcell hB
    have hs : w.heap.size < w1.heap.size := by have := hB.size; simp at this; omega
    rw [hu]
    clear hu hg
    go_wp2_with fail
    exact bodyPost_ret (v := .tuple #[.agg #[.int .i64 1, .string ⟨#[]⟩], .int .i64 ((d + 4 : Nat) : Int), .int .i64 0]) (by simp [results, Try.results37, go_sem, hc, hs]) rfl ⟨rfl, below_two hB _ _⟩
  rw [if_neg hu] at hv
  by_cases hn : int4 (zs.drop d) = -1
  · rw [if_pos hn] at hv
    subst hv
    go_enter Try.func37, Try.ntmps37
    go_wp2_with fail
    refine (number_yes (H.out.old (below_one _ _)) d (by omega)).mono ?_
    rintro e w1 ⟨rfl, hR, hB⟩
    obtain ⟨hc, hf⟩ := bcell hB
    have hs : w.heap.size < w1.heap.size := by have := hB.size; simp at this; omega
    rw [hn]
    clear hn hu hg
    go_wp2_with fail
    exact bodyPost_ret (v := .tuple #[.agg #[.int .i64 0, .string ⟨#[]⟩], .int .i64 ((d + 4 : Nat) : Int), .int .i64 0]) (by simp [results, Try.results37, go_sem, hc, hs]) rfl ⟨rfl, below_two hB _ _⟩
  rw [if_neg hn] at hv
  have h0 : 0 ≤ int4 (zs.drop d) := by omega
  obtain ⟨ht1, ht2, ht3⟩ := int4_tests h0
  by_cases hsh : ((len - d - 4 : Nat) : Int) < int4 (zs.drop d)
  · rw [if_pos hsh] at hv
    subst hv
    have HN : Hid (((len - (d + 4) : Nat) : Int) < int4 (zs.drop d)) := by
      show _ < _
      omega
    clear hg hu hn hsh
    go_enter Try.func37, Try.ntmps37
    go_wp2_with fail
    refine (number_yes (H.out.old (below_one _ _)) d (by omega)).mono ?_
    rintro e w1 ⟨rfl, hR, hB⟩
    obtain ⟨hc, hf⟩ := bcell hB
    have hs : w.heap.size < w1.heap.size := by have := hB.size; simp at this; omega
    go_wp2_with fail
    refine (run_short _ _ _ (d + 4) _ _ HM.out (by omega) HN.out _ (by simp)).mono ?_
    rintro e w2 ⟨rfl, rfl⟩
    go_wp2_with fail
    exact bodyPost_ret (v := .tuple #[.agg #[.int .i64 0, .string ⟨#[]⟩], .int .i64 0, .int .i64 10]) (by simp [results, Try.results37, go_sem, hc, hs]) rfl ⟨rfl, below_two hB _ _⟩
  · rw [if_neg hsh] at hv
    obtain ⟨n, hn2⟩ := Int.eq_ofNat_of_zero_le h0
    rw [hn2] at hv
    simp only [Int.toNat_natCast] at hv
    have HN : Hid (int4 (zs.drop d) = n) := hn2
    have hnl : d + 4 + n ≤ len := by omega
    obtain ⟨T, hT⟩ : ∃ T, T = strOfNums ((zs.drop (d + 4)).take n) := ⟨_, rfl⟩
    rw [← hT] at hv
    have HT : Hid _ := hT
    subst hv
    clear hg hu hn hsh hn2 hT
    go_enter Try.func37, Try.ntmps37
    go_wp2_with fail
    refine (number_yes (H.out.old (below_one _ _)) d (by omega)).mono ?_
    rintro e w1 ⟨rfl, hR, hB⟩
    obtain ⟨hc, hf⟩ := bcell hB
    have hs : w.heap.size < w1.heap.size := by have := hB.size; simp at this; omega
    have HR : Hid (BRow _ _ _ _ _ _) := hR
    clear hR
    go_wp2_with fail
    refine (run_yes HR.out (d + 4) n hnl _ _ (by simp) HN.out).mono ?_
    rintro e w2 ⟨rfl, rfl⟩
    rw [← HT.out]
    go_wp2_with fail
    exact bodyPost_ret (v := .tuple #[.agg #[.int .i64 2, .string T], .int .i64 ((d + 4 + n : Nat) : Int), .int .i64 0]) (by simp [results, Try.results37, go_sem, hc, hs]) rfl ⟨by simp [place]; omega, below_two hB _ _⟩
end Go.Proofs.Ytkcnmmlakimonaa
