/-
  The contracts of the document's own GetText, GetLong and GetValue, and of the statements' own 'behind'.
-/
import Derived.Test.YtcceindlcheipaaValuePut
namespace Go.Proofs.Ytcceindlcheipaa
open Go.RowKit
set_option linter.unusedVariables false
set_option linter.unusedSimpArgs false

theorem brget {w : World} {b off len cap : Nat} {zs : List Int} (h : BRow w b off len cap zs) (n : Nat) (h1 : 1 ≤ n) (h2 : n ≤ 8) (hl : n ≤ len) (m : Int) (hm : m = n) :
    Calls Try.prog 26 #[.slice (some ⟨b, off, none⟩) len cap, .int .i64 0, .int .i64 m] w fun e w' => e = .returned (.tuple #[.int .u64 (numTo zs n), .int .i64 m, .int .i64 0]) ∧ w' = w := by
  subst hm
  exact rget_yes b off len cap n zs w h1 h2 hl h.le h.cap_le h.cell (by have := h.len_eq; omega) h.rng

theorem brget_short (a : Option Addr) (len cap n : Nat) (w : World) (h1 : 1 ≤ n) (h2 : n ≤ 8) (hl : len < n) (m : Int) (hm : m = n) :
    Calls Try.prog 26 #[.slice a len cap, .int .i64 0, .int .i64 m] w fun e w' => e = .returned (.tuple #[.int .u64 0, .int .i64 0, .int .i64 10]) ∧ w' = w := by
  subst hm; exact rget_short a len cap n w h1 h2 hl

set_option maxHeartbeats 400000 in
theorem run_short (a : Option Addr) (len cap at_ : Nat) (n : Int) (w : World) (hm : len ≤ maxLen) (ha : at_ ≤ len) (h0 : ((len - at_ : Nat) : Int) < n) (p : Int) (hp : p = at_) :
    Calls Try.prog 27 #[.slice a len cap, .int .i64 p, .int .u64 n] w fun e w' => e = .returned (.tuple #[.string ByteArray.empty, .int .i64 0, .int .i64 10]) ∧ w' = w := by
  subst hp
  unfold maxLen at hm
  have h1 : (len : Int) - at_ < n := by omega
  have h2 : (0 : Int) ≤ (len : Int) - at_ := by omega
  go_enter Try.func27, Try.ntmps27
  go_wp2_with fail
  go_ret3
  exact ⟨rfl, rfl⟩

/-- The text of a piece of a row. -/
theorem BRow.piece {w : World} {b off len cap : Nat} {zs : List Int} (h : BRow w b off len cap zs) (at_ n off' c : Nat) (hn : at_ + n ≤ len) (ho : 0 < n → off' = off + at_) :
    (convert 22 9 (.slice (some ⟨b, off', none⟩) n c)).run Try.prog w = .ok (.string (strOfNums ((zs.drop at_).take n))) w := by
  have hl := h.len_eq
  refine run_convert_bytes_arg (P := Try.prog) w 22 5 Try.underlying22 Try.underlying5 b off' n c _ (by simp; omega) (fun i hi => ?_) 9 Try.underlying9
  rw [ho (by omega), Nat.add_assoc, h.cell (at_ + i) (by omega), List.getD_eq_getElem?_getD, List.getD_eq_getElem?_getD, List.getElem?_take_of_lt hi, List.getElem?_drop]

set_option maxHeartbeats 400000 in
theorem run_yes {w : World} {b off len cap : Nat} {zs : List Int} (h : BRow w b off len cap zs) (at_ n : Nat) (hn : at_ + n ≤ len) (p m : Int) (hp : p = at_) (hmn : m = n) :
    Calls Try.prog 27 #[.slice (some ⟨b, off, none⟩) len cap, .int .i64 p, .int .u64 m] w fun e w' => e = .returned (.tuple #[.string (strOfNums ((zs.drop at_).take n)), .int .i64 (p + m), .int .i64 0]) ∧ w' = w := by
  subst hp hmn
  have hm := h.cap_le
  have hc := h.le
  unfold maxLen at hm
  have h1 : (n : Int) ≤ (len : Int) - at_ := by omega
  have h2 : (0 : Int) ≤ (len : Int) - at_ := by omega
  have hcv := fun off' c ho => h.piece at_ n off' c hn ho
  have HCV : Hid _ := hcv
  clear hcv h
  by_cases hca : cap = at_
  · obtain rfl : n = 0 := by omega
    subst hca
    have hcv := HCV.out off 0 (by omega)
    obtain ⟨T, hT⟩ : ∃ T, T = strOfNums ((zs.drop cap).take 0) := ⟨_, rfl⟩
    rw [← hT] at hcv
    have HT : Hid _ := hT
    clear hT HCV
    go_enter Try.func27, Try.ntmps27
    go_wp2_with fail
    go_ret3
    exact ⟨by rw [← HT.out]; rfl, rfl⟩
  · have hcv := HCV.out (off + at_) (cap - at_) (fun _ => rfl)
    obtain ⟨T, hT⟩ : ∃ T, T = strOfNums ((zs.drop at_).take n) := ⟨_, rfl⟩
    rw [← hT] at hcv
    have HT : Hid _ := hT
    clear hT HCV
    go_enter Try.func27, Try.ntmps27
    go_wp2_with fail
    go_ret3
    exact ⟨by rw [← HT.out]; rfl, rfl⟩

set_option maxHeartbeats 400000 in
theorem rgetText_short0 (a : Option Addr) (len cap : Nat) (w : World) (hl : len < 2) :
    Calls Try.prog 12 #[.slice a len cap, .int .i64 0] w fun e w' => e = .returned (.tuple #[.string ByteArray.empty, .int .i64 0, .int .i64 10]) ∧ Below w.heap.size w w' := by
  go_enter Try.func12, Try.ntmps12
  go_wp2_with fail
  refine (brget_short a len cap 2 _ (by omega) (by omega) hl _ rfl).mono ?_
  rintro e w1 ⟨rfl, rfl⟩
  go_wp2_with fail
  go_ret3
  exact ⟨rfl, Below.refl _ _⟩

set_option maxHeartbeats 400000 in
theorem rgetText_short {w : World} {b off len cap : Nat} {zs : List Int} (h : BRow w b off len cap zs) (hl : 2 ≤ len) (hn : ((len - 2 : Nat) : Int) < numTo zs 2) :
    Calls Try.prog 12 #[.slice (some ⟨b, off, none⟩) len cap, .int .i64 0] w fun e w' => e = .returned (.tuple #[.string ByteArray.empty, .int .i64 0, .int .i64 10]) ∧ Below w.heap.size w w' := by
  have H : Hid (BRow _ _ _ _ _ _) := h
  have HLM : Hid (len ≤ maxLen) := Nat.le_trans h.le h.cap_le
  have HN : Hid _ := hn
  clear h hn
  go_enter Try.func12, Try.ntmps12
  go_wp2_with fail
  refine (brget H.out 2 (by omega) (by omega) hl _ rfl).mono ?_
  rintro e w1 ⟨rfl, rfl⟩
  go_wp2_with fail
  refine (run_short _ _ _ 2 _ _ HLM.out hl HN.out _ rfl).mono ?_
  rintro e w2 ⟨rfl, rfl⟩
  go_wp2_with fail
  go_ret3
  exact ⟨rfl, Below.refl _ _⟩

set_option maxHeartbeats 400000 in
theorem rgetText_yes {w : World} {b off len cap : Nat} {zs : List Int} (h : BRow w b off len cap zs) (n : Nat) (hl : 2 + n ≤ len) (hn : numTo zs 2 = n) :
    Calls Try.prog 12 #[.slice (some ⟨b, off, none⟩) len cap, .int .i64 0] w fun e w' => e = .returned (.tuple #[.string (strOfNums ((zs.drop 2).take n)), .int .i64 (2 + n), .int .i64 0]) ∧ Below w.heap.size w w' := by
  have H : Hid (BRow _ _ _ _ _ _) := h
  have HN : Hid _ := hn
  clear h hn
  go_enter Try.func12, Try.ntmps12
  go_wp2_with fail
  refine (brget H.out 2 (by omega) (by omega) (by omega) _ rfl).mono ?_
  rintro e w1 ⟨rfl, rfl⟩
  go_wp2_with fail
  refine (run_yes H.out 2 n hl _ _ rfl HN.out).mono ?_
  rintro e w2 ⟨rfl, rfl⟩
  rw [HN.out]
  go_wp2_with fail
  go_ret3
  exact ⟨rfl, Below.refl _ _⟩

set_option maxHeartbeats 400000 in
theorem number_short (a : Option Addr) (len cap : Nat) (w : World) (hl : len < 4) :
    Calls Try.prog 29 #[.slice a len cap, .int .i64 0] w fun e w' => e = .returned (.tuple #[.int .i64 0, .int .i64 0, .int .i64 10]) ∧ w' = w := by
  go_enter Try.func29, Try.ntmps29
  go_wp2_with fail
  refine (brget_short a len cap 4 _ (by omega) (by omega) hl _ rfl).mono ?_
  rintro e w1 ⟨rfl, rfl⟩
  go_wp2_with fail
  go_ret3
  exact ⟨rfl, rfl⟩

set_option maxHeartbeats 400000 in
theorem number_yes {w : World} {b off len cap : Nat} {zs : List Int} (h : BRow w b off len cap zs) (hl : 4 ≤ len) :
    Calls Try.prog 29 #[.slice (some ⟨b, off, none⟩) len cap, .int .i64 0] w fun e w' => e = .returned (.tuple #[.int .i64 (int4 zs), .int .i64 4, .int .i64 0]) ∧ BRow w' b off len cap zs ∧ Below w.heap.size w w' := by
  have H : Hid (BRow _ _ _ _ _ _) := h
  have hb := numTo_lt zs h.rng 4 (by have := h.len_eq; omega) (by omega)
  clear h
  go_enter Try.func29, Try.ntmps29
  go_wp2_with fail
  refine (brget H.out 4 (by omega) (by omega) (by omega) _ rfl).mono ?_
  rintro e w1 ⟨rfl, rfl⟩
  go_wp2_with fail
  refine (rsigned_yes _ 4 _ (by omega) (by omega) hb.1 hb.2).mono ?_
  rintro e w2 ⟨rfl, hB⟩
  have HE : Hid (sgn (numTo zs 4) 4 = int4 zs) := rfl
  generalize sgn (numTo zs 4) 4 = z at *
  go_wp2_with fail
  go_ret3
  rw [← HE.out]
  exact ⟨rfl, H.out.old hB, hB⟩

set_option maxHeartbeats 400000 in
theorem rgetLong_short0 (a : Option Addr) (len cap : Nat) (w : World) (hl : len < 4) :
    Calls Try.prog 15 #[.slice a len cap, .int .i64 0] w fun e w' => e = .returned (.tuple #[.string ByteArray.empty, .int .i64 0, .int .i64 10]) ∧ Below w.heap.size w w' := by
  go_enter Try.func15, Try.ntmps15
  go_wp2_with fail
  refine (number_short a len cap _ hl).mono ?_
  rintro e w1 ⟨rfl, rfl⟩
  go_wp2_with fail
  go_ret3
  exact ⟨rfl, Below.refl _ _⟩

set_option maxHeartbeats 400000 in
theorem rgetLong_neg {w : World} {b off len cap : Nat} {zs : List Int} (h : BRow w b off len cap zs) (hl : 4 ≤ len) (hn : int4 zs < 0) :
    Calls Try.prog 15 #[.slice (some ⟨b, off, none⟩) len cap, .int .i64 0] w fun e w' => e = .returned (.tuple #[.string ByteArray.empty, .int .i64 0, .int .i64 11]) ∧ Below w.heap.size w w' := by
  have H : Hid (BRow _ _ _ _ _ _) := h
  clear h
  go_enter Try.func15, Try.ntmps15
  go_wp2_with fail
  refine (number_yes H.out hl).mono ?_
  rintro e w1 ⟨rfl, hR, hB⟩
  go_wp2_with fail
  go_ret3
  exact ⟨rfl, hB⟩

set_option maxHeartbeats 400000 in
theorem rgetLong_short {w : World} {b off len cap : Nat} {zs : List Int} (h : BRow w b off len cap zs) (hl : 4 ≤ len) (hn : ((len - 4 : Nat) : Int) < int4 zs) :
    Calls Try.prog 15 #[.slice (some ⟨b, off, none⟩) len cap, .int .i64 0] w fun e w' => e = .returned (.tuple #[.string ByteArray.empty, .int .i64 0, .int .i64 10]) ∧ Below w.heap.size w w' := by
  have H : Hid (BRow _ _ _ _ _ _) := h
  have HLM : Hid (len ≤ maxLen) := Nat.le_trans h.le h.cap_le
  have HN : Hid _ := hn
  have h0 : 0 ≤ int4 zs := by omega
  have hbd := (int4_bounds zs).2
  clear h hn
  go_enter Try.func15, Try.ntmps15
  go_wp2_with fail
  refine (number_yes H.out hl).mono ?_
  rintro e w1 ⟨rfl, hR, hB⟩
  go_wp2_with fail
  refine (run_short _ _ _ 4 _ _ HLM.out hl HN.out _ rfl).mono ?_
  rintro e w2 ⟨rfl, rfl⟩
  go_wp2_with fail
  go_ret3
  exact ⟨rfl, hB⟩

set_option maxHeartbeats 400000 in
theorem rgetLong_yes {w : World} {b off len cap : Nat} {zs : List Int} (h : BRow w b off len cap zs) (n : Nat) (hl : 4 + n ≤ len) (hn : int4 zs = n) :
    Calls Try.prog 15 #[.slice (some ⟨b, off, none⟩) len cap, .int .i64 0] w fun e w' => e = .returned (.tuple #[.string (strOfNums ((zs.drop 4).take n)), .int .i64 (4 + n), .int .i64 0]) ∧ Below w.heap.size w w' := by
  have H : Hid (BRow _ _ _ _ _ _) := h
  have HN : Hid _ := hn
  have h0 : 0 ≤ int4 zs := by omega
  have hbd := (int4_bounds zs).2
  clear h hn
  go_enter Try.func15, Try.ntmps15
  go_wp2_with fail
  refine (number_yes H.out (by omega)).mono ?_
  rintro e w1 ⟨rfl, hR, hB⟩
  have HR : Hid (BRow _ _ _ _ _ _) := hR
  clear hR
  go_wp2_with fail
  refine (run_yes HR.out 4 n hl _ _ rfl HN.out).mono ?_
  rintro e w2 ⟨rfl, rfl⟩
  rw [HN.out]
  go_wp2_with fail
  go_ret3
  exact ⟨rfl, hB⟩

set_option maxHeartbeats 400000 in
theorem rgetValue_short0 (a : Option Addr) (len cap : Nat) (w : World) (hl : len < 4) :
    Calls Try.prog 19 #[.slice a len cap, .int .i64 0] w fun e w' => e = .returned (.tuple #[.agg #[.int .i64 0, .string ByteArray.empty], .int .i64 0, .int .i64 10]) ∧ Below w.heap.size w w' := by
  go_enter Try.func19, Try.ntmps19
  go_wp2_with fail
  refine (number_short a len cap _ hl).mono ?_
  rintro e w1 ⟨rfl, rfl⟩
  go_wp2_with fail
  exact bodyPost_ret (v := .tuple #[.agg #[.int .i64 0, .string ⟨#[]⟩], .int .i64 0, .int .i64 10]) (by simp [results, Try.results19, go_sem]) rfl ⟨rfl, below_one _ _⟩

set_option maxHeartbeats 400000 in
theorem rgetValue_form {w : World} {b off len cap : Nat} {zs : List Int} (h : BRow w b off len cap zs) (hl : 4 ≤ len) (hn : int4 zs < -2) :
    Calls Try.prog 19 #[.slice (some ⟨b, off, none⟩) len cap, .int .i64 0] w fun e w' => e = .returned (.tuple #[.agg #[.int .i64 0, .string ByteArray.empty], .int .i64 0, .int .i64 11]) ∧ Below w.heap.size w w' := by
  have H : Hid (BRow _ _ _ _ _ _) := h
  have t1 : (int4 zs == -1) = false := by simp; omega
  have t2 : (int4 zs == -2) = false := by simp; omega
  have t3 : int4 zs < 0 := by omega
  clear h hn
  go_enter Try.func19, Try.ntmps19
  go_wp2_with fail
  refine (number_yes (H.out.old (below_one _ _)) hl).mono ?_
  rintro e w1 ⟨rfl, hR, hB⟩
  obtain ⟨hc, hf⟩ := bcell hB
  have hs : w.heap.size < w1.heap.size := by have := hB.size; simp at this; omega
  go_wp2_with fail
  exact bodyPost_ret (v := .tuple #[.agg #[.int .i64 0, .string ⟨#[]⟩], .int .i64 0, .int .i64 11]) (by simp [results, Try.results19, go_sem, hc, hs]) rfl ⟨rfl, below_two hB _ _⟩

set_option maxHeartbeats 400000 in
theorem rgetValue_unset {w : World} {b off len cap : Nat} {zs : List Int} (h : BRow w b off len cap zs) (hl : 4 ≤ len) (hn : int4 zs = -2) :
    Calls Try.prog 19 #[.slice (some ⟨b, off, none⟩) len cap, .int .i64 0] w fun e w' => e = .returned (.tuple #[.agg #[.int .i64 1, .string ByteArray.empty], .int .i64 4, .int .i64 0]) ∧ Below w.heap.size w w' := by
  have H : Hid (BRow _ _ _ _ _ _) := h
  clear h
  go_enter Try.func19, Try.ntmps19
  go_wp2_with fail
  refine (number_yes (H.out.old (below_one _ _)) hl).mono ?_
  rintro e w1 ⟨rfl, hR, hB⟩
  obtain ⟨hc, hf⟩ := bcell hB
  have hs : w.heap.size < w1.heap.size := by have := hB.size; simp at this; omega
  rw [hn]
  clear hn
  go_wp2_with fail
  exact bodyPost_ret (v := .tuple #[.agg #[.int .i64 1, .string ⟨#[]⟩], .int .i64 4, .int .i64 0]) (by simp [results, Try.results19, go_sem, hc, hs]) rfl ⟨rfl, below_two hB _ _⟩

set_option maxHeartbeats 400000 in
theorem rgetValue_null {w : World} {b off len cap : Nat} {zs : List Int} (h : BRow w b off len cap zs) (hl : 4 ≤ len) (hn : int4 zs = -1) :
    Calls Try.prog 19 #[.slice (some ⟨b, off, none⟩) len cap, .int .i64 0] w fun e w' => e = .returned (.tuple #[.agg #[.int .i64 0, .string ByteArray.empty], .int .i64 4, .int .i64 0]) ∧ Below w.heap.size w w' := by
  have H : Hid (BRow _ _ _ _ _ _) := h
  clear h
  go_enter Try.func19, Try.ntmps19
  go_wp2_with fail
  refine (number_yes (H.out.old (below_one _ _)) hl).mono ?_
  rintro e w1 ⟨rfl, hR, hB⟩
  obtain ⟨hc, hf⟩ := bcell hB
  have hs : w.heap.size < w1.heap.size := by have := hB.size; simp at this; omega
  rw [hn]
  clear hn
  go_wp2_with fail
  exact bodyPost_ret (v := .tuple #[.agg #[.int .i64 0, .string ⟨#[]⟩], .int .i64 4, .int .i64 0]) (by simp [results, Try.results19, go_sem, hc, hs]) rfl ⟨rfl, below_two hB _ _⟩

set_option maxHeartbeats 400000 in
theorem rgetValue_short {w : World} {b off len cap : Nat} {zs : List Int} (h : BRow w b off len cap zs) (hl : 4 ≤ len) (hn : ((len - 4 : Nat) : Int) < int4 zs) :
    Calls Try.prog 19 #[.slice (some ⟨b, off, none⟩) len cap, .int .i64 0] w fun e w' => e = .returned (.tuple #[.agg #[.int .i64 0, .string ByteArray.empty], .int .i64 0, .int .i64 10]) ∧ Below w.heap.size w w' := by
  have H : Hid (BRow _ _ _ _ _ _) := h
  have HLM : Hid (len ≤ maxLen) := Nat.le_trans h.le h.cap_le
  have HN : Hid _ := hn
  have h0 : 0 ≤ int4 zs := by omega
  have hbd := (int4_bounds zs).2
  obtain ⟨ht1, ht2, ht3⟩ := int4_tests h0
  clear h hn
  go_enter Try.func19, Try.ntmps19
  go_wp2_with fail
  refine (number_yes (H.out.old (below_one _ _)) hl).mono ?_
  rintro e w1 ⟨rfl, hR, hB⟩
  obtain ⟨hc, hf⟩ := bcell hB
  have hs : w.heap.size < w1.heap.size := by have := hB.size; simp at this; omega
  have HR : Hid (BRow _ _ _ _ _ _) := hR
  clear hR
  go_wp2_with fail
  refine (run_short _ _ _ 4 _ _ HLM.out hl HN.out _ rfl).mono ?_
  rintro e w2 ⟨rfl, rfl⟩
  go_wp2_with fail
  exact bodyPost_ret (v := .tuple #[.agg #[.int .i64 0, .string ⟨#[]⟩], .int .i64 0, .int .i64 10]) (by simp [results, Try.results19, go_sem, hc, hs]) rfl ⟨rfl, below_two hB _ _⟩

set_option maxHeartbeats 400000 in
theorem rgetValue_set {w : World} {b off len cap : Nat} {zs : List Int} (h : BRow w b off len cap zs) (n : Nat) (hl : 4 + n ≤ len) (hn : int4 zs = n) :
    Calls Try.prog 19 #[.slice (some ⟨b, off, none⟩) len cap, .int .i64 0] w fun e w' => e = .returned (.tuple #[.agg #[.int .i64 2, .string (strOfNums ((zs.drop 4).take n))], .int .i64 (4 + n), .int .i64 0]) ∧ Below w.heap.size w w' := by
  have H : Hid (BRow _ _ _ _ _ _) := h
  have HN : Hid _ := hn
  have h0 : 0 ≤ int4 zs := by omega
  have hbd := (int4_bounds zs).2
  obtain ⟨ht1, ht2, ht3⟩ := int4_tests h0
  clear h hn
  go_enter Try.func19, Try.ntmps19
  go_wp2_with fail
  refine (number_yes (H.out.old (below_one _ _)) (by omega)).mono ?_
  rintro e w1 ⟨rfl, hR, hB⟩
  obtain ⟨hc, hf⟩ := bcell hB
  have hs : w.heap.size < w1.heap.size := by have := hB.size; simp at this; omega
  have HR : Hid (BRow _ _ _ _ _ _) := hR
  clear hR
  go_wp2_with fail
  refine (run_yes HR.out 4 n hl _ _ rfl HN.out).mono ?_
  rintro e w2 ⟨rfl, rfl⟩
  rw [HN.out]
  obtain ⟨T, hT⟩ : ∃ T, T = strOfNums ((zs.drop 4).take n) := ⟨_, rfl⟩
  rw [← hT]
  have HT : Hid _ := hT
  clear hT
  go_wp2_with fail
  exact bodyPost_ret (v := .tuple #[.agg #[.int .i64 2, .string T], .int .i64 (4 + n), .int .i64 0]) (by simp [results, Try.results19, go_sem, hc, hs]) rfl ⟨by rw [← HT.out], below_two hB _ _⟩

set_option maxHeartbeats 400000 in
/-- 'behind' at an error: nothing is behind. -/
theorem behind_err (r a : Option Addr) (cr len cap : Nat) (at_ e : Int) (w : World) (he : e ≠ 0) :
    Calls Try.prog 13 #[.slice r 0 cr, .slice a len cap, .int .i64 at_, .int .i64 e] w fun x w' => x = .returned (.bool true) ∧ Below w.heap.size w w' := by
  have t : (e == 0) = false := by simpa using he
  clear he
  go_enter Try.func13, Try.ntmps13
  go_wp2_with fail
  go_ret
  exact ⟨rfl, Below.refl _ _⟩

set_option maxHeartbeats 400000 in
/-- 'behind': the bytes from a place on. -/
theorem behind_yes {w : World} {b off len cap : Nat} {zs : List Int} (h : BRow w b off len cap zs) (k : Nat) (hk : k ≤ len) {b' off' l' cap' : Nat} (hr : BRow w b' off' l' cap' (zs.drop k)) (p : Int) (hp : p = k) :
    Calls Try.prog 13 #[.slice (some ⟨b', off', none⟩) l' cap', .slice (some ⟨b, off, none⟩) len cap, .int .i64 p, .int .i64 0] w fun x w' => x = .returned (.bool true) ∧ Below w.heap.size w w' := by
  subst hp
  have hcm := h.cap_le
  have hlc := h.le
  unfold maxLen at hcm
  have hc1 := fun q => (hr.old (below_drewN (Below.refl w.heap.size w) q)).conv
  have HC2 : Hid (∀ o, (k < len → o = off + k) → ∀ q, (convert 22 9 (.slice (some ⟨b, o, none⟩) (len - k) (cap - k))).run Try.prog (w.drewN q) = .ok (.string (strOfNums (zs.drop k))) (w.drewN q)) :=
    fun o ho q => ((h.old (below_drewN (Below.refl w.heap.size w) q)).drop k hk ho).conv
  clear h hr
  generalize strOfNums (zs.drop k) = T at *
  by_cases hck : cap = k
  · obtain rfl : len = k := by omega
    subst hck
    have hc2 := HC2.out off (by omega)
    rw [Nat.sub_self] at hc2
    clear HC2
    go_enter Try.func13, Try.ntmps13
    go_wp2_with fail
    go_quiet (fail)
    go_wp2
    go_ret
    exact ⟨by simp, below_drewN (Below.refl _ _) _⟩
  · have hc2 := HC2.out (off + k) (fun _ => rfl)
    clear HC2
    go_enter Try.func13, Try.ntmps13
    go_wp2_with fail
    go_quiet (fail)
    go_wp2
    go_ret
    exact ⟨by simp, below_drewN (Below.refl _ _) _⟩
end Go.Proofs.Ytcceindlcheipaa
