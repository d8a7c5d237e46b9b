/-
  The reader's ints: number, many.
-/
import Derived.Test.YtnapeecmlkkolaaDoorRd10
namespace Go.Proofs.YtnapeecmlkkolaaDoor
open Go.RowKit
set_option maxRecDepth 100000
set_option linter.unusedVariables false
set_option linter.unusedSimpArgs false

set_option maxHeartbeats 400000 in
theorem int_clo {w : World} {a : Option Addr} {len cap : Nat} {zs : List Int} (h : IsB w a len cap zs) :
    Calls Tryd.prog 75 #[.slice a len cap] w fun e w' => ∃ r lr cr, e = .returned (.tuple #[.int .u64 (numR 4 zs).val, .slice r lr cr, .int .i64 (numR 4 zs).err]) ∧ Hid ((numR 4 zs).err = 0 → ∃ b o off, a = some ⟨b, o, none⟩ ∧ 0 < len ∧ r = some ⟨b, off, none⟩ ∧ BRow w' b off lr cr (zs.drop (numR 4 zs).done)) ∧ Below w.heap.size w w' := by
  have hle := h.1
  by_cases hl : len < 4
  · have HE : Hid (numR 4 zs = ⟨0, 0, 10⟩) := by show _ = _; unfold numR; rw [if_pos (by omega)]
    go_enter Tryd.func75, Tryd.ntmps75
    go_wp2_with fail
    refine (bget_short a len cap 4 _ (by omega) (by omega) hl _ rfl).mono ?_
    rintro e w1 ⟨rfl, rfl⟩
    go_wp2_with fail
    go_ret3
    exact ⟨none, 0, 0, by rw [HE.out]; rfl, by rw [HE.out]; exact fun h => absurd h (by decide : ¬ (10 : Int) = 0), Below.refl _ _⟩
  · obtain ⟨b, off, rfl, hR⟩ := h.2.2.2.2 (by omega)
    have H : Hid (BRow w b off len cap zs) := hR
    have HE : Hid (numR 4 zs = ⟨numTo zs 4, 4, 0⟩) := by show _ = _; unfold numR; rw [if_neg (by omega)]
    have hnl : 4 ≤ len := by omega
    clear hR
    go_enter Tryd.func75, Tryd.ntmps75
    go_wp2_with fail
    refine (bget H.out 4 (by omega) (by omega) hnl _ rfl).mono ?_
    rintro e w1 ⟨off', rfl, hR1, hB1⟩
    have HR1 : Hid (BRow w1 b off' (len - 4) (cap - 4) (zs.drop 4)) := hR1
    have HB1 : Hid (Below w.heap.size w w1) := hB1
    obtain ⟨x, hx⟩ : ∃ x, x = numTo zs 4 := ⟨_, rfl⟩
    rw [← hx] at HE ⊢
    clear hR1 hB1 hx
    go_wp2_with fail
    go_ret3
    exact ⟨_, _, _, by rw [HE.out]; rfl, by rw [HE.out]; exact fun _ => ⟨b, off, off', rfl, by omega, rfl, HR1.out⟩, HB1.out⟩

set_option maxHeartbeats 400000 in
theorem short_clo {w : World} {a : Option Addr} {len cap : Nat} {zs : List Int} (h : IsB w a len cap zs) :
    Calls Tryd.prog 57 #[.slice a len cap] w fun e w' => ∃ r lr cr, e = .returned (.tuple #[.int .u64 (numR 2 zs).val, .slice r lr cr, .int .i64 (numR 2 zs).err]) ∧ Hid ((numR 2 zs).err = 0 → ∃ b o off, a = some ⟨b, o, none⟩ ∧ 0 < len ∧ r = some ⟨b, off, none⟩ ∧ BRow w' b off lr cr (zs.drop (numR 2 zs).done)) ∧ Below w.heap.size w w' := by
  have hle := h.1
  by_cases hl : len < 2
  · have HE : Hid (numR 2 zs = ⟨0, 0, 10⟩) := by show _ = _; unfold numR; rw [if_pos (by omega)]
    go_enter Tryd.func57, Tryd.ntmps57
    go_wp2_with fail
    refine (bget_short a len cap 2 _ (by omega) (by omega) hl _ rfl).mono ?_
    rintro e w1 ⟨rfl, rfl⟩
    go_wp2_with fail
    go_ret3
    exact ⟨none, 0, 0, by rw [HE.out]; rfl, by rw [HE.out]; exact fun h => absurd h (by decide : ¬ (10 : Int) = 0), Below.refl _ _⟩
  · obtain ⟨b, off, rfl, hR⟩ := h.2.2.2.2 (by omega)
    have H : Hid (BRow w b off len cap zs) := hR
    have HE : Hid (numR 2 zs = ⟨numTo zs 2, 2, 0⟩) := by show _ = _; unfold numR; rw [if_neg (by omega)]
    have hnl : 2 ≤ len := by omega
    clear hR
    go_enter Tryd.func57, Tryd.ntmps57
    go_wp2_with fail
    refine (bget H.out 2 (by omega) (by omega) hnl _ rfl).mono ?_
    rintro e w1 ⟨off', rfl, hR1, hB1⟩
    have HR1 : Hid (BRow w1 b off' (len - 2) (cap - 2) (zs.drop 2)) := hR1
    have HB1 : Hid (Below w.heap.size w w1) := hB1
    obtain ⟨x, hx⟩ : ∃ x, x = numTo zs 2 := ⟨_, rfl⟩
    rw [← hx] at HE ⊢
    clear hR1 hB1 hx
    go_wp2_with fail
    go_ret3
    exact ⟨_, _, _, by rw [HE.out]; rfl, by rw [HE.out]; exact fun _ => ⟨b, off, off', rfl, by omega, rfl, HR1.out⟩, HB1.out⟩

set_option maxHeartbeats 1000000 in
theorem read_int {w : World} {p : Nat} {S : BE} (h : Rd w p S) :
    Calls Tryd.prog 56 #[.pointer (some ⟨p, 0, none⟩), .func (.func 75) #[] #[]] w fun e w' => ∃ t, e = .returned (.int .u64 t) ∧ Hid (Rd w' p (stepR (numR 4) S)) ∧ Hid (Pl w' p (stepR (numR 4) S)) ∧ Hid (t = numX 4 S) ∧ Hid (Kept (fun k => k = p) w w') := by
  obtain ⟨⟨r, lr, cr, hb, hok⟩, hn, hl, hr⟩ := h
  obtain ⟨c0, c1, f0, f1⟩ := two_cells hb
  have hlt := block_lt hb
  have HB : Hid (w.heap[p]? = some (.cells #[.slice r lr cr, .int .i64 S.2] 71 (0, 0))) := hb
  have HN : Hid (Nrm S) := hn
  have HL : Hid (S.1.length ≤ 140737488351232) := hl
  have HR : Hid (Rng S.1) := hr
  have HOK : Hid (S.2 = 0 → IsB w r lr cr S.1 ∧ ∀ q, r = some q → 0 < lr → q.block < p) := hok
  clear hb hok hn hl hr
  by_cases hS : S.2 = 0
  · have HI : Hid (IsB w r lr cr S.1) := (HOK.out hS).1
    have HLOW : Hid (∀ q, r = some q → 0 < lr → q.block < p) := (HOK.out hS).2
    have HS : Hid (S.2 = 0) := hS
    have HSM : Hid (lr ≤ 140737488351232) := by show _ ≤ _; rw [← HI.out.1]; exact HL.out
    rw [hS] at c1
    clear hS HOK
    go_enter Tryd.func56, Tryd.ntmps56
    go_wp2_with fail
    refine (int_clo HI.out).mono ?_
    rintro e w1 ⟨r2, lr2, cr2, rfl, HBH, hB⟩
    obtain ⟨X, hX⟩ : ∃ X, X = numR 4 S.1 := ⟨_, rfl⟩
    rw [← hX]
    have HX : Hid (X = numR 4 S.1) := hX
    clear hX
    have HB1 : Hid (Below w.heap.size w w1) := hB
    have hb1 : w1.heap[p]? = some (.cells #[.slice r lr cr, .int .i64 S.2] 71 (0, 0)) := (hB.block p hlt).trans HB.out
    obtain ⟨d0, d1, g0, g1⟩ := two_cells hb1
    have HBK : Hid (w1.heap[p]? = some (.cells #[.slice r lr cr, .int .i64 S.2] 71 (0, 0))) := hb1
    have hlt1 := block_lt hb1
    clear hB hb1
    go_wp2_with fail
    go_ret
    have hrow := rd_row (numR 4) HL.out HR.out HS.out HBK.out (r2 := r2) (lr2 := lr2) (cr2 := cr2) (fun e => by
      obtain ⟨b, o, off, hr, hpos, hr2, hRow⟩ := HBH.out e
      exact ⟨b, off, hr2, HLOW.out _ hr hpos, hRow⟩)
    rw [← HX.out] at hrow
    refine ⟨_, rfl, hrow.1, hrow.2, ?_, rd_kept HB1.out _ _⟩
    show X.val = _
    rw [HX.out]
    unfold numX stepR
    rw [if_pos HS.out]
    unfold numR
    by_cases hl : S.1.length < 4
    · rw [if_pos hl, if_neg (by decide : ¬ (10 : Int) = 0), if_neg (by decide : ¬ (10 : Int) = 0)]
    · rw [if_neg hl, if_pos rfl, if_pos rfl]
  · have t : (S.2 == 0) = false := by simpa using hS
    have HE : Hid (stepR (numR 4) S = S) := step_err _ hS HN.out
    have HNE : Hid (S.2 ≠ 0) := hS
    clear hS
    go_enter Tryd.func56, Tryd.ntmps56
    go_wp2_with fail
    go_ret
    exact ⟨_, rfl, by rw [HE.out]; exact ⟨⟨r, lr, cr, HB.out, HOK.out⟩, HN.out, HL.out, HR.out⟩, by rw [HE.out]; exact fun h => absurd h HNE.out, by show _ = _; unfold numX; rw [HE.out]; exact (if_neg HNE.out).symm, Kept.refl _ _⟩

set_option maxHeartbeats 1000000 in
theorem read_short {w : World} {p : Nat} {S : BE} (h : Rd w p S) :
    Calls Tryd.prog 56 #[.pointer (some ⟨p, 0, none⟩), .func (.func 57) #[] #[]] w fun e w' => ∃ t, e = .returned (.int .u64 t) ∧ Hid (Rd w' p (stepR (numR 2) S)) ∧ Hid (Pl w' p (stepR (numR 2) S)) ∧ Hid (t = numX 2 S) ∧ Hid (Kept (fun k => k = p) w w') := by
  obtain ⟨⟨r, lr, cr, hb, hok⟩, hn, hl, hr⟩ := h
  obtain ⟨c0, c1, f0, f1⟩ := two_cells hb
  have hlt := block_lt hb
  have HB : Hid (w.heap[p]? = some (.cells #[.slice r lr cr, .int .i64 S.2] 71 (0, 0))) := hb
  have HN : Hid (Nrm S) := hn
  have HL : Hid (S.1.length ≤ 140737488351232) := hl
  have HR : Hid (Rng S.1) := hr
  have HOK : Hid (S.2 = 0 → IsB w r lr cr S.1 ∧ ∀ q, r = some q → 0 < lr → q.block < p) := hok
  clear hb hok hn hl hr
  by_cases hS : S.2 = 0
  · have HI : Hid (IsB w r lr cr S.1) := (HOK.out hS).1
    have HLOW : Hid (∀ q, r = some q → 0 < lr → q.block < p) := (HOK.out hS).2
    have HS : Hid (S.2 = 0) := hS
    have HSM : Hid (lr ≤ 140737488351232) := by show _ ≤ _; rw [← HI.out.1]; exact HL.out
    rw [hS] at c1
    clear hS HOK
    go_enter Tryd.func56, Tryd.ntmps56
    go_wp2_with fail
    refine (short_clo HI.out).mono ?_
    rintro e w1 ⟨r2, lr2, cr2, rfl, HBH, hB⟩
    obtain ⟨X, hX⟩ : ∃ X, X = numR 2 S.1 := ⟨_, rfl⟩
    rw [← hX]
    have HX : Hid (X = numR 2 S.1) := hX
    clear hX
    have HB1 : Hid (Below w.heap.size w w1) := hB
    have hb1 : w1.heap[p]? = some (.cells #[.slice r lr cr, .int .i64 S.2] 71 (0, 0)) := (hB.block p hlt).trans HB.out
    obtain ⟨d0, d1, g0, g1⟩ := two_cells hb1
    have HBK : Hid (w1.heap[p]? = some (.cells #[.slice r lr cr, .int .i64 S.2] 71 (0, 0))) := hb1
    have hlt1 := block_lt hb1
    clear hB hb1
    go_wp2_with fail
    go_ret
    have hrow := rd_row (numR 2) HL.out HR.out HS.out HBK.out (r2 := r2) (lr2 := lr2) (cr2 := cr2) (fun e => by
      obtain ⟨b, o, off, hr, hpos, hr2, hRow⟩ := HBH.out e
      exact ⟨b, off, hr2, HLOW.out _ hr hpos, hRow⟩)
    rw [← HX.out] at hrow
    refine ⟨_, rfl, hrow.1, hrow.2, ?_, rd_kept HB1.out _ _⟩
    show X.val = _
    rw [HX.out]
    unfold numX stepR
    rw [if_pos HS.out]
    unfold numR
    by_cases hl : S.1.length < 2
    · rw [if_pos hl, if_neg (by decide : ¬ (10 : Int) = 0), if_neg (by decide : ¬ (10 : Int) = 0)]
    · rw [if_neg hl, if_pos rfl, if_pos rfl]
  · have t : (S.2 == 0) = false := by simpa using hS
    have HE : Hid (stepR (numR 2) S = S) := step_err _ hS HN.out
    have HNE : Hid (S.2 ≠ 0) := hS
    clear hS
    go_enter Tryd.func56, Tryd.ntmps56
    go_wp2_with fail
    go_ret
    exact ⟨_, rfl, by rw [HE.out]; exact ⟨⟨r, lr, cr, HB.out, HOK.out⟩, HN.out, HL.out, HR.out⟩, by rw [HE.out]; exact fun h => absurd h HNE.out, by show _ = _; unfold numX; rw [HE.out]; exact (if_neg HNE.out).symm, Kept.refl _ _⟩

/-- The int that is read, or nought. -/
def int4X (S : BE) : Int := sgn (numX 4 S) 4

theorem step_int4 {S : BE} : stepR int4R S = stepR (numR 4) S := by
  rw [int4R, step_bind, step_pure _ (step_nrm _ _)]

theorem int4_val {S : BE} (h : (stepR int4R S).2 = 0) : int4X S = (int4R S.1).val := by
  rw [int4R, bind_val _ _ _ h]
  rw [step_int4] at h
  have h2 := (step_ok h).2.1
  unfold int4X numX pureR
  rw [if_pos h]
  simp only
  unfold numR at h2 ⊢
  split
  · rename_i hl; rw [if_pos hl] at h2; exact absurd h2 (by decide)
  · rfl

theorem int4X_bounds (S : BE) : -2147483648 ≤ int4X S ∧ int4X S ≤ 2147483647 := by
  unfold int4X sgn
  generalize numX 4 S = x
  simp only [show 8 * 4 - 1 = 31 from rfl, show 8 * 4 = 32 from rfl]
  split <;> omega

theorem int4X_err {S : BE} (h : (stepR int4R S).2 ≠ 0) : int4X S = 0 := by
  rw [step_int4] at h
  unfold int4X numX
  rw [if_neg h]
  decide

set_option maxHeartbeats 400000 in
theorem rnumber {w : World} {p : Nat} {S : BE} (h : Rd w p S) {t : Int} (ht : t = int4X S) :
    Calls Tryd.prog 46 #[.pointer (some ⟨p, 0, none⟩)] w fun e w' => e = .returned (.int .i64 t) ∧ Hid (Rd w' p (stepR int4R S)) ∧ Hid (Kept (fun k => k = p) w w') := by
  have H : Hid (Rd w p S) := h
  have HT : Hid (t = int4X S) := ht
  clear h ht
  go_enter Tryd.func46, Tryd.ntmps46
  go_wp2_with fail
  refine (read_int H.out).mono ?_
  rintro e w1 ⟨x, rfl, HR, HP, HX, HK⟩
  go_wp2_with fail
  refine (signed_yes x 4 _ (by omega) (by omega)).mono ?_
  rintro e w2 ⟨rfl, rfl⟩
  have HE : Hid (sgn x 4 = t) := by show _ = _; rw [HT.out, int4X, HX.out]
  rw [HE.out]
  go_wp2_with fail
  go_ret
  exact ⟨rfl, by rw [step_int4]; exact HR, HK⟩

theorem step_pure2 {α β : Type} (a : α) (p : Ps β) (S : BE) : stepR (pureR a) (stepR p S) = stepR p S := step_pure a (step_nrm _ _)
theorem step_fail {α : Type} (a : α) (e : Int) {S : BE} (hS : S.2 = 0) (he : e ≠ 0) : stepR (failR a e) S = ([], e) := by
  unfold stepR failR; simp [hS, he]
theorem step_failS {α β : Type} (a : α) (b : β) (e : Int) (S : BE) : stepR (failR a e) S = stepR (failR b e) S := rfl

/-- How many there are, as the program has it. -/
def manyX (S : BE) : Int := if (stepR manyR S).2 = 0 then (manyR S.1).val else 0

theorem many_neg {S : BE} (h : int4X S < 0) : stepR manyR S = stepR (failR (0 : Int) 11) (stepR int4R S) ∧ manyX S = 0 := by
  have h0 : (stepR int4R S).2 = 0 := by
    by_cases h1 : (stepR int4R S).2 = 0
    · exact h1
    · rw [int4X_err h1] at h; omega
  have e : stepR manyR S = stepR (failR (0 : Int) 11) (stepR int4R S) := by
    rw [manyR, step_bind, ← int4_val h0, if_pos h]
  refine ⟨e, ?_⟩
  unfold manyX
  rw [e, step_fail _ _ h0 (by decide), if_neg (by decide)]

theorem many_big {S : BE} (h : 4096 < int4X S) : stepR manyR S = stepR (failR (0 : Int) 12) (stepR int4R S) ∧ manyX S = 0 := by
  have h0 : (stepR int4R S).2 = 0 := by
    by_cases h1 : (stepR int4R S).2 = 0
    · exact h1
    · rw [int4X_err h1] at h; omega
  have e : stepR manyR S = stepR (failR (0 : Int) 12) (stepR int4R S) := by
    rw [manyR, step_bind, ← int4_val h0, if_neg (by omega), if_pos h]
  refine ⟨e, ?_⟩
  unfold manyX
  rw [e, step_fail _ _ h0 (by decide), if_neg (by decide)]

theorem many_mid {S : BE} (h : 0 ≤ int4X S) (h2 : int4X S ≤ 4096) : stepR manyR S = stepR int4R S ∧ manyX S = int4X S := by
  by_cases h0 : (stepR int4R S).2 = 0
  · have e : stepR manyR S = stepR int4R S := by
      rw [manyR, step_bind, ← int4_val h0, if_neg (by omega), if_neg (by omega), step_pure2]
    have hv : (manyR S.1).val = int4X S := by
      have := bind_val int4R (fun n => if n < 0 then failR 0 11 else if 4096 < n then failR 0 12 else pureR n) S (by rw [← manyR, e]; exact h0)
      rw [← manyR, ← int4_val h0, if_neg (by omega), if_neg (by omega)] at this
      exact this
    refine ⟨e, ?_⟩
    unfold manyX
    rw [e, if_pos h0, hv]
  · have e : stepR manyR S = stepR int4R S := by
      rw [manyR, step_bind, step_err _ h0 (step_nrm _ _)]
    refine ⟨e, ?_⟩
    unfold manyX
    rw [e, if_neg h0, int4X_err h0]

theorem manyX_bounds (S : BE) : 0 ≤ manyX S ∧ manyX S ≤ 4096 := by
  by_cases h1 : int4X S < 0
  · rw [(many_neg h1).2]; omega
  · by_cases h2 : 4096 < int4X S
    · rw [(many_big h2).2]; omega
    · rw [(many_mid (by omega) (by omega)).2]; omega

theorem many_val {S : BE} (h : (stepR manyR S).2 = 0) : manyX S = (manyR S.1).val := by unfold manyX; rw [if_pos h]

set_option maxHeartbeats 400000 in
theorem rmany {w : World} {p : Nat} {S : BE} (h : Rd w p S) {m : Int} (hm : m = manyX S) :
    Calls Tryd.prog 48 #[.pointer (some ⟨p, 0, none⟩)] w fun e w' => e = .returned (.int .i64 m) ∧ Hid (Rd w' p (stepR manyR S)) ∧ Hid (Kept (fun k => k = p) w w') := by
  obtain ⟨t, ht⟩ : ∃ t, t = int4X S := ⟨_, rfl⟩
  have hb := int4X_bounds S
  rw [← ht] at hb
  have H : Hid (Rd w p S) := h
  have HT : Hid (t = int4X S) := ht
  have HM : Hid (m = manyX S) := hm
  clear h ht hm
  by_cases h1 : t < 0
  · have HY : Hid _ := many_neg (S := S) (by rw [← HT.out]; exact h1)
    go_enter Tryd.func48, Tryd.ntmps48
    go_wp2_with fail
    refine (rnumber H.out HT.out).mono ?_
    rintro e w1 ⟨rfl, HR, HK⟩
    go_wp2_with fail
    refine (rfail HR.out 11 (by decide)).mono ?_
    rintro e w2 ⟨rfl, HR2, HK2⟩
    go_wp2_with fail
    go_ret
    refine ⟨by rw [HM.out, HY.out.2]; rfl, ?_, HK.out.trans HK2.out (fun _ _ e => e)⟩
    rw [HY.out.1]; exact HR2
  · by_cases h2 : 4096 < t
    · have HY : Hid _ := many_big (S := S) (by rw [← HT.out]; exact h2)
      go_enter Tryd.func48, Tryd.ntmps48
      go_wp2_with fail
      refine (rnumber H.out HT.out).mono ?_
      rintro e w1 ⟨rfl, HR, HK⟩
      go_wp2_with fail
      refine (rfail HR.out 12 (by decide)).mono ?_
      rintro e w2 ⟨rfl, HR2, HK2⟩
      go_wp2_with fail
      go_ret
      refine ⟨by rw [HM.out, HY.out.2]; rfl, ?_, HK.out.trans HK2.out (fun _ _ e => e)⟩
      rw [HY.out.1]; exact HR2
    · have HY : Hid _ := many_mid (S := S) (by rw [← HT.out]; omega) (by rw [← HT.out]; omega)
      go_enter Tryd.func48, Tryd.ntmps48
      go_wp2_with fail
      refine (rnumber H.out HT.out).mono ?_
      rintro e w1 ⟨rfl, HR, HK⟩
      go_wp2_with fail
      go_ret
      refine ⟨by rw [HM.out, HY.out.2, HT.out]; rfl, ?_, HK⟩
      rw [HY.out.1]; exact HR
end Go.Proofs.YtnapeecmlkkolaaDoor
