/-
  The reader's methods number, signed, id, kind.
-/
import Derived.Test.YtcecdklgiocbaaaRd2
namespace Go.Proofs.Ytcecdklgiocbaaa
open Go.RowKit
set_option maxRecDepth 100000
set_option linter.unusedVariables false
set_option linter.unusedSimpArgs false

/-- The number that is read, or nought. -/
def numX (n : Nat) (S : BE) : Int := if (stepR (numR n) S).2 = 0 then numTo S.1 n else 0

/-- Without an error the reader's slice has a place that is known. -/
def Pl (w : World) (p : Nat) (S : BE) : Prop := S.2 = 0 → ∃ b off lr cr, w.heap[p]? = some (.cells #[.slice (some ⟨b, off, none⟩) lr cr, .int .i64 S.2] 91 (0, 0)) ∧ BRow w b off lr cr S.1 ∧ b < p

theorem rd_row {α : Type} {w1 : World} {p : Nat} {S : BE} (P : Ps α) (hl : S.1.length ≤ 140737488351232) (hr : Rng S.1) (hS : S.2 = 0) {x0 x : Value} (hb : w1.heap[p]? = some (.cells #[x0, x] 91 (0, 0)))
    {r2 : Option Addr} {lr2 cr2 : Nat} (hB : (P S.1).err = 0 → ∃ b off, r2 = some ⟨b, off, none⟩ ∧ b < p ∧ BRow w1 b off lr2 cr2 (S.1.drop (P S.1).done)) :
    Rd ((w1.setCell ⟨p, 0, none⟩ (.slice r2 lr2 cr2)).setCell ⟨p, 1, none⟩ (.int .i64 (P S.1).err)) p (stepR P S) ∧ Pl ((w1.setCell ⟨p, 0, none⟩ (.slice r2 lr2 cr2)).setCell ⟨p, 1, none⟩ (.int .i64 (P S.1).err)) p (stepR P S) := by
  have hblk := two_set1 (two_set0 hb (.slice r2 lr2 cr2)) (.int .i64 (P S.1).err)
  have he : (stepR P S).2 = (P S.1).err := by
    unfold stepR
    rw [if_pos hS]
    split
    · rename_i h; rw [h]
    · rfl
  have key : (stepR P S).2 = 0 → ∃ b off, r2 = some ⟨b, off, none⟩ ∧ b < p ∧ BRow ((w1.setCell ⟨p, 0, none⟩ (.slice r2 lr2 cr2)).setCell ⟨p, 1, none⟩ (.int .i64 (P S.1).err)) b off lr2 cr2 (stepR P S).1 := by
    intro e
    rw [he] at e
    obtain ⟨b, off, h5, hbp, h7⟩ := hB e
    have hs : stepR P S = (S.1.drop (P S.1).done, 0) := by unfold stepR; rw [if_pos hS, if_pos e]
    exact ⟨b, off, h5, hbp, by rw [hs]; exact (h7.set (by omega) _).set (by omega) _⟩
  refine ⟨⟨⟨r2, lr2, cr2, by rw [he]; exact hblk, fun e => ?_⟩, step_nrm _ _, Nat.le_trans (step_len _ _) hl, step_rng _ hr⟩, fun e => ?_⟩
  · obtain ⟨b, off, rfl, hbp, hR⟩ := key e
    exact ⟨hR.isB, fun q hq _ => by cases hq; exact hbp⟩
  · obtain ⟨b, off, rfl, hbp, hR⟩ := key e
    exact ⟨b, off, lr2, cr2, by rw [he]; exact hblk, hR, hbp⟩

set_option maxHeartbeats 400000 in
/-- The closure that reads a number. -/
theorem numClo {w : World} {a : Option Addr} {len cap : Nat} {zs : List Int} (h : IsB w a len cap zs) (n : Nat) (h1 : 1 ≤ n) (h2 : n ≤ 8) {bx : Nat} {m : Int} (hm : m = n) (hbx : w.cell? ⟨bx, 0, none⟩ = some (.int .i64 m)) :
    Calls Try.prog 102 #[.slice a len cap, .pointer (some ⟨bx, 0, none⟩)] w fun e w' => ∃ r lr cr, e = .returned (.tuple #[.int .u64 (numR n zs).val, .slice r lr cr, .int .i64 (numR n zs).err]) ∧ Hid ((numR n zs).err = 0 → ∃ b o off, a = some ⟨b, o, none⟩ ∧ 0 < len ∧ r = some ⟨b, off, none⟩ ∧ BRow w' b off lr cr (zs.drop (numR n zs).done)) ∧ Below w.heap.size w w' := by
  have hle := h.1
  by_cases hl : len < n
  · have HE : Hid (numR n zs = ⟨0, 0, 10⟩) := by show _ = _; unfold numR; rw [if_pos (by omega)]
    have HM : Hid (m = n) := hm
    clear hm
    go_enter Try.func102, Try.ntmps102
    go_wp2_with fail
    refine (bget_short a len cap n _ h1 h2 hl _ HM.out).mono ?_
    rintro e w1 ⟨rfl, rfl⟩
    go_wp2_with fail
    go_ret3
    exact ⟨none, 0, 0, by rw [HE.out]; rfl, by rw [HE.out]; exact fun h => absurd h (by decide : ¬ (10 : Int) = 0), Below.refl _ _⟩
  · obtain ⟨b, off, rfl, hR⟩ := h.2.2.2.2 (by omega)
    have H : Hid (BRow w b off len cap zs) := hR
    have HE : Hid (numR n zs = ⟨numTo zs n, n, 0⟩) := by show _ = _; unfold numR; rw [if_neg (by omega)]
    have hnl : n ≤ len := by omega
    have HM : Hid (m = n) := hm
    clear hR hm
    go_enter Try.func102, Try.ntmps102
    go_wp2_with fail
    refine (bget H.out n h1 h2 hnl _ HM.out).mono ?_
    rintro e w1 ⟨off', rfl, hR1, hB1⟩
    have HR1 : Hid (BRow w1 b off' (len - n) (cap - n) (zs.drop n)) := hR1
    have HB1 : Hid (Below w.heap.size w w1) := hB1
    obtain ⟨x, hx⟩ : ∃ x, x = numTo zs n := ⟨_, rfl⟩
    rw [← hx] at HE ⊢
    clear hR1 hB1 hx
    go_wp2_with fail
    go_ret3
    exact ⟨_, _, _, by rw [HE.out]; rfl, by rw [HE.out]; exact fun _ => ⟨b, off, off', rfl, by omega, rfl, HR1.out⟩, HB1.out⟩

set_option maxHeartbeats 1000000 in
theorem read_num {w : World} {p : Nat} {S : BE} (h : Rd w p S) (n : Nat) (h1 : 1 ≤ n) (h2 : n ≤ 8) {bx : Nat} {m : Int} (hm : m = n) (hbx : w.cell? ⟨bx, 0, none⟩ = some (.int .i64 m)) :
    Calls Try.prog 101 #[.pointer (some ⟨p, 0, none⟩), .func (.func 102) #[] #[.pointer (some ⟨bx, 0, none⟩)]] w fun e w' => ∃ t, e = .returned (.int .u64 t) ∧ Hid (Rd w' p (stepR (numR n) S)) ∧ Hid (Pl w' p (stepR (numR n) S)) ∧ Hid (t = numX n S) ∧ Hid (Kept (fun k => k = p) w w') := by
  obtain ⟨⟨r, lr, cr, hb, hok⟩, hn, hl, hr⟩ := h
  obtain ⟨c0, c1, f0, f1⟩ := two_cells hb
  have hlt := block_lt hb
  have HB : Hid (w.heap[p]? = some (.cells #[.slice r lr cr, .int .i64 S.2] 91 (0, 0))) := hb
  have HN : Hid (Nrm S) := hn
  have HL : Hid (S.1.length ≤ 140737488351232) := hl
  have HR : Hid (Rng S.1) := hr
  have HOK : Hid (S.2 = 0 → IsB w r lr cr S.1 ∧ ∀ q, r = some q → 0 < lr → q.block < p) := hok
  clear hb hok hn hl hr
  by_cases hS : S.2 = 0
  · have HI : Hid (IsB w r lr cr S.1) := (HOK.out hS).1
    have HLOW : Hid (∀ q, r = some q → 0 < lr → q.block < p) := (HOK.out hS).2
    have HS : Hid (S.2 = 0) := hS
    have HSM : Hid (lr ≤ 140737488351232) := by show _ ≤ _; rw [← HI.out.1]; exact HL.out
    rw [hS] at c1
    have HM : Hid (m = n) := hm
    have HBX : Hid (w.cell? ⟨bx, 0, none⟩ = some (.int .i64 m)) := hbx
    clear hS HOK hm hbx
    go_enter Try.func101, Try.ntmps101
    go_wp2_with fail
    refine (numClo HI.out n h1 h2 HM.out HBX.out).mono ?_
    rintro e w1 ⟨r2, lr2, cr2, rfl, HBH, hB⟩
    obtain ⟨X, hX⟩ : ∃ X, X = numR n S.1 := ⟨_, rfl⟩
    rw [← hX]
    have HX : Hid (X = numR n S.1) := hX
    clear hX
    have HB1 : Hid (Below w.heap.size w w1) := hB
    have hb1 : w1.heap[p]? = some (.cells #[.slice r lr cr, .int .i64 S.2] 91 (0, 0)) := (hB.block p hlt).trans HB.out
    obtain ⟨d0, d1, g0, g1⟩ := two_cells hb1
    have HBK : Hid (w1.heap[p]? = some (.cells #[.slice r lr cr, .int .i64 S.2] 91 (0, 0))) := hb1
    have hlt1 := block_lt hb1
    clear hB hb1
    go_wp2_with fail
    go_ret
    have hrow := rd_row (numR n) HL.out HR.out HS.out HBK.out (r2 := r2) (lr2 := lr2) (cr2 := cr2) (fun e => by
      obtain ⟨b, o, off, hr, hpos, hr2, hRow⟩ := HBH.out e
      exact ⟨b, off, hr2, HLOW.out _ hr hpos, hRow⟩)
    rw [← HX.out] at hrow
    refine ⟨_, rfl, hrow.1, hrow.2, ?_, rd_kept HB1.out _ _⟩
    show X.val = _
    rw [HX.out]
    unfold numX stepR
    rw [if_pos HS.out]
    unfold numR
    by_cases hl : S.1.length < n
    · rw [if_pos hl, if_neg (by decide : ¬ (10 : Int) = 0), if_neg (by decide : ¬ (10 : Int) = 0)]
    · rw [if_neg hl, if_pos rfl, if_pos rfl]
  · have t : (S.2 == 0) = false := by simpa using hS
    have HE : Hid (stepR (numR n) S = S) := step_err _ hS HN.out
    have HNE : Hid (S.2 ≠ 0) := hS
    clear hS
    go_enter Try.func101, Try.ntmps101
    go_wp2_with fail
    go_ret
    exact ⟨_, rfl, by rw [HE.out]; exact ⟨⟨r, lr, cr, HB.out, HOK.out⟩, HN.out, HL.out, HR.out⟩, by rw [HE.out]; exact fun h => absurd h HNE.out, by show _ = _; unfold numX; rw [HE.out]; exact (if_neg HNE.out).symm, Kept.refl _ _⟩

set_option maxHeartbeats 1000000 in
theorem rnumber {w : World} {p : Nat} {S : BE} (h : Rd w p S) (n : Nat) (h1 : 1 ≤ n) (h2 : n ≤ 8) (m : Int) (hm : m = n) :
    Calls Try.prog 83 #[.pointer (some ⟨p, 0, none⟩), .int .i64 m] w fun e w' => ∃ t, e = .returned (.int .u64 t) ∧ Hid (Rd w' p (stepR (numR n) S)) ∧ Hid (Pl w' p (stepR (numR n) S)) ∧ Hid (t = numX n S) ∧ Hid (Kept (fun k => k = p) w w') := by
  have H : Hid (Rd (w.alloc (.cells #[.int .i64 m] 3)) p S) := h.new (below_one _ _)
  have HM : Hid (m = n) := hm
  have HC : Hid ((w.alloc (.cells #[.int .i64 m] 3)).cell? ⟨w.heap.size, 0, none⟩ = some (.int .i64 m)) := by show _ = _; simp [go_sem]
  clear h hm
  go_enter Try.func83, Try.ntmps83
  go_wp2_with fail
  refine (read_num H.out n h1 h2 HM.out HC.out).mono ?_
  rintro e w1 ⟨t, rfl, HR, HPL, HT, HK⟩
  go_wp2_with fail
  go_ret
  exact ⟨t, rfl, HR, HPL, HT, (kept_of (below_one _ _)).trans HK.out (fun i hi e => e)⟩

theorem num_rng {S : BE} (hr : Rng S.1) {n : Nat} (h2 : n ≤ 8) {x : Int} (hx : x = numX n S) : 0 ≤ x ∧ x < 256 ^ n := by
  rw [hx]
  unfold numX
  split
  · rename_i h
    obtain ⟨_, h3, _⟩ := step_ok h
    have hl : ¬ S.1.length < n := by
      intro hl
      unfold numR at h3
      rw [if_pos hl] at h3
      exact absurd h3 (by decide : ¬ (10 : Int) = 0)
    exact numTo_bound S.1 hr n (by omega)
  · refine ⟨by omega, ?_⟩
    have : (0 : Int) < 256 := by decide
    exact Int.pow_pos this

set_option maxHeartbeats 1000000 in
theorem rsigned {w : World} {p : Nat} {S : BE} (h : Rd w p S) (n : Nat) (h1 : 1 ≤ n) (h2 : n ≤ 8) (m : Int) (hm : m = n) :
    Calls Try.prog 82 #[.pointer (some ⟨p, 0, none⟩), .int .i64 m] w fun e w' => ∃ x t, e = .returned (.int .i64 t) ∧ Hid (Rd w' p (stepR (sgnR n) S)) ∧ Hid (t = sgn x n) ∧ Hid ((stepR (sgnR n) S).2 = 0 → t = (sgnR n S.1).val) ∧ Hid (Kept (fun k => k = p) w w') := by
  have H : Hid (Rd w p S) := h
  subst hm
  clear h
  go_enter Try.func82, Try.ntmps82
  go_wp2_with fail
  refine (rnumber H.out n h1 h2 _ rfl).mono ?_
  rintro e w1 ⟨x, rfl, HR, HPL, HT, HK⟩
  go_wp2_with fail
  refine (signed_yes x n _ h1 h2).mono ?_
  rintro e w2 ⟨rfl, rfl⟩
  have HE : Hid (stepR (sgnR n) S = stepR (numR n) S) := by
    show _ = _
    rw [sgnR, step_bind]
    exact step_pure _ (step_nrm _ _)
  have HV : Hid ((stepR (sgnR n) S).2 = 0 → sgn x n = (sgnR n S.1).val) := by
    intro h0
    have h3 := h0
    rw [HE.out] at h3
    rw [sgnR, bind_val (numR n) _ S (by rw [sgnR] at h0; exact h0), HT.out, numX, if_pos h3]
    obtain ⟨_, h4, _⟩ := step_ok h3
    show sgn _ n = sgn _ n
    have hl : ¬ S.1.length < n := by
      intro hl
      unfold numR at h4
      rw [if_pos hl] at h4
      exact absurd h4 (by decide : ¬ (10 : Int) = 0)
    unfold numR
    rw [if_neg hl]
  obtain ⟨t, ht⟩ : ∃ t, t = sgn x n := ⟨_, rfl⟩
  rw [← ht] at HV ⊢
  have HTT : Hid (t = sgn x n) := ht
  clear ht
  go_wp2_with fail
  go_ret
  exact ⟨x, t, rfl, by rw [HE.out]; exact HR, HTT, HV, HK⟩

set_option maxHeartbeats 400000 in
/-- The closure that takes bytes off. -/
theorem takeClo {w : World} {b off len cap : Nat} {zs : List Int} (h : BRow w b off len cap zs) (hsm : len ≤ 140737488351232) (n : Nat) {bx : Nat} {m : Int} (hm : m = n) (hbx : w.cell? ⟨bx, 0, none⟩ = some (.int .u64 m)) :
    Calls Try.prog 85 #[.slice (some ⟨b, off, none⟩) len cap, .pointer (some ⟨bx, 0, none⟩)] w fun e w' => ∃ t lt ct r lr cr, e = .returned (.tuple #[.slice t lt ct, .slice r lr cr, .int .i64 (takeR n zs).err]) ∧ Hid (IsB w' t lt ct (takeR n zs).val) ∧ Fresh w.heap.size w' t ∧ Hid ((takeR n zs).err = 0 → ∃ off', r = some ⟨b, off', none⟩ ∧ BRow w' b off' lr cr (zs.drop (takeR n zs).done)) ∧ Below w.heap.size w w' := by
  have hle := h.len_eq
  have HM : Hid (m = n) := hm
  have H : Hid (BRow w b off len cap zs) := h
  have hmx : len ≤ maxLen := Nat.le_trans h.le h.cap_le
  have HMX : Hid (len ≤ maxLen) := hmx
  by_cases hl : len < n
  · have HE : Hid (takeR n zs = ⟨[], 0, 10⟩) := by show _ = _; unfold takeR; rw [if_pos (by omega)]
    have HLT : Hid ((len : Int) < m) := by show _ < _; rw [hm]; omega
    clear hm h hmx
    go_enter Try.func85, Try.ntmps85
    go_wp2_with fail
    refine (btake_short _ len cap m _ HMX.out HLT.out).mono ?_
    rintro e w1 ⟨rfl, rfl⟩
    go_wp2_with fail
    go_ret3
    exact ⟨none, 0, 0, none, 0, 0, by rw [HE.out]; rfl, by rw [HE.out]; exact isB_nil _, Fresh.none, by rw [HE.out]; exact fun h => absurd h (by decide : ¬ (10 : Int) = 0), Below.refl _ _⟩
  · have HE : Hid (takeR n zs = ⟨zs.take n, n, 0⟩) := by show _ = _; unfold takeR; rw [if_neg (by omega)]
    have hnl : n ≤ len := by omega
    clear hm h hmx
    go_enter Try.func85, Try.ntmps85
    go_wp2_with fail
    refine (btake H.out n hnl hsm _ HM.out).mono ?_
    rintro e w1 ⟨off', rfl, hT, hD, hB, hs⟩
    have HT : Hid (BRow w1 w.heap.size 0 n n (zs.take n)) := hT
    have HD : Hid (BRow w1 b off' (len - n) (cap - n) (zs.drop n)) := hD
    have HB1 : Hid (Below w.heap.size w w1) := hB
    have HSZ : Hid (w.heap.size < w1.heap.size) := hs
    clear hT hD hB hs
    go_wp2_with fail
    go_ret3
    exact ⟨_, _, _, _, _, _, by rw [HE.out]; rfl, by rw [HE.out]; exact HT.out.isB, Fresh.at (Nat.le_refl _) HSZ.out, by rw [HE.out]; exact fun _ => ⟨off', rfl, HD.out⟩, HB1.out⟩

set_option maxHeartbeats 1000000 in
theorem read_bytes {w : World} {p : Nat} {S : BE} (h : Rd w p S) (hpl : Pl w p S) (n : Nat) {bx : Nat} {m : Int} (hm : m = n) (hbx : w.cell? ⟨bx, 0, none⟩ = some (.int .u64 m)) :
    Calls Try.prog 84 #[.pointer (some ⟨p, 0, none⟩), .func (.func 85) #[] #[.pointer (some ⟨bx, 0, none⟩)]] w fun e w' => ∃ t lt ct X, e = .returned (.slice t lt ct) ∧ Hid (Rd w' p (stepR (takeR n) S)) ∧ Hid (IsB w' t lt ct X) ∧ Fresh w.heap.size w' t ∧ Hid ((stepR (takeR n) S).2 = 0 → X = (takeR n S.1).val) ∧ Hid (Kept (fun k => k = p) w w') := by
  have HRD : Hid (Rd w p S) := h
  have HPL : Hid (Pl w p S) := hpl
  have HM : Hid (m = n) := hm
  have HBX : Hid (w.cell? ⟨bx, 0, none⟩ = some (.int .u64 m)) := hbx
  by_cases hS : S.2 = 0
  · obtain ⟨b, off, lr, cr, hb, hrow, hbp⟩ := hpl hS
    obtain ⟨c0, c1, f0, f1⟩ := two_cells hb
    have hlt := block_lt hb
    have HB : Hid (w.heap[p]? = some (.cells #[.slice (some ⟨b, off, none⟩) lr cr, .int .i64 S.2] 91 (0, 0))) := hb
    have HROW : Hid (BRow w b off lr cr S.1) := hrow
    have HSM : Hid (lr ≤ 140737488351232) := by show _ ≤ _; rw [← hrow.len_eq]; exact h.len
    have HS : Hid (S.2 = 0) := hS
    have HBP : Hid (b < p) := hbp
    rw [hS] at c1
    clear hS h hpl hm hbx hb hrow hbp
    go_enter Try.func84, Try.ntmps84
    go_wp2_with fail
    refine (takeClo HROW.out HSM.out n HM.out HBX.out).mono ?_
    rintro e w1 ⟨t, lt, ct, r2, lr2, cr2, rfl, HT, hF, HBH, hB⟩
    obtain ⟨X, hX⟩ : ∃ X, X = takeR n S.1 := ⟨_, rfl⟩
    rw [← hX]
    have HX : Hid (X = takeR n S.1) := hX
    clear hX
    have HB1 : Hid (Below w.heap.size w w1) := hB
    have hb1 : w1.heap[p]? = some (.cells #[.slice (some ⟨b, off, none⟩) lr cr, .int .i64 S.2] 91 (0, 0)) := (hB.block p hlt).trans HB.out
    obtain ⟨d0, d1, g0, g1⟩ := two_cells hb1
    have HBK : Hid (w1.heap[p]? = some (.cells #[.slice (some ⟨b, off, none⟩) lr cr, .int .i64 S.2] 91 (0, 0))) := hb1
    have hlt1 := block_lt hb1
    clear hB hb1
    go_wp2_with fail
    go_ret
    have hn2 := rd_row (takeR n) HRD.out.len HRD.out.rng HS.out HBK.out (r2 := r2) (lr2 := lr2) (cr2 := cr2) (fun e => by
      obtain ⟨off', hr2, hRow⟩ := HBH.out e
      exact ⟨b, off', hr2, HBP.out, hRow⟩)
    rw [← HX.out] at hn2
    refine ⟨t, lt, ct, X.val, rfl, hn2.1, ?_, fun z hz => by have := hF z hz; simp; omega, fun _ => by rw [HX.out], rd_kept HB1.out _ _⟩
    have h0 := HT.out
    rw [← HX.out] at h0
    exact (h0.kept (one_kept w1 p 0 _) (fun z hz _ e => by have := (hF z hz).1; omega)).kept (one_kept _ p 1 _) (fun z hz _ e => by have := (hF z hz).1; omega)
  · obtain ⟨r, lr, cr, hb, _⟩ := h.blk
    obtain ⟨c0, c1, f0, f1⟩ := two_cells hb
    have hlt := block_lt hb
    have t : (S.2 == 0) = false := by simpa using hS
    have HE : Hid (stepR (takeR n) S = S) := step_err _ hS h.nrm
    have HNE : Hid (S.2 ≠ 0) := hS
    clear hS h hpl hm hbx hb
    go_enter Try.func84, Try.ntmps84
    go_wp2_with fail
    go_ret
    exact ⟨none, 0, 0, [], rfl, by rw [HE.out]; exact HRD.out, isB_nil _, Fresh.none, fun h => absurd (by rw [HE.out] at h; exact h) HNE.out, Kept.refl _ _⟩

set_option maxHeartbeats 1000000 in
theorem rid {w : World} {p : Nat} {S : BE} (h : Rd w p S) :
    Calls Try.prog 41 #[.pointer (some ⟨p, 0, none⟩)] w fun e w' => ∃ t lt ct s, e = .returned (.slice t lt ct) ∧ Hid (Rd w' p (stepR textR S)) ∧ Hid (IsB w' t lt ct (sNums s)) ∧ Fresh w.heap.size w' t ∧ Hid ((stepR textR S).2 = 0 → s = (textR S.1).val) ∧ Hid (Kept (fun k => k = p) w w') := by
  have H : Hid (Rd w p S) := h
  clear h
  go_enter Try.func41, Try.ntmps41
  go_wp2_with fail
  refine (rnumber H.out 2 (by omega) (by omega) _ rfl).mono ?_
  rintro e w1 ⟨x, rfl, HR, HPL, HT, HK⟩
  have hx0 := (num_rng H.out.rng (by omega) HT.out).1
  obtain ⟨n, hn⟩ := Int.eq_ofNat_of_zero_le hx0
  subst hn
  have HST := step_text S H.out.nrm H.out.rng n HT.out
  rw [Int.toNat_natCast] at HST
  have HS1 : Hid (stepR (takeR n) (stepR (numR 2) S) = stepR textR S) := HST.1
  have HS2 : Hid ((stepR textR S).2 = 0 → (takeR n (stepR (numR 2) S).1).val = (textA S.1).bytes) := HST.2
  have HR1 : Hid (Rd (w1.alloc (.cells #[.int .u64 n] 117)) p (stepR (numR 2) S)) := HR.out.new (below_one _ _)
  have HPL1 : Hid (Pl (w1.alloc (.cells #[.int .u64 n] 117)) p (stepR (numR 2) S)) := by
    intro e0
    obtain ⟨b, off, lr, cr, h1, h2, h3⟩ := HPL.out e0
    exact ⟨b, off, lr, cr, ((below_one w1 _).block p (block_lt h1)).trans h1, h2.old (below_one _ _), h3⟩
  have HC : Hid ((w1.alloc (.cells #[.int .u64 n] 117)).cell? ⟨w1.heap.size, 0, none⟩ = some (.int .u64 n)) := by show _ = _; simp [go_sem]
  have HSZ : Hid (w.heap.size ≤ w1.heap.size) := HK.out.size
  clear HST hx0
  go_wp2_with fail
  refine (read_bytes HR1.out HPL1.out n rfl HC.out).mono ?_
  rintro e w2 ⟨t, lt, ct, X, rfl, HR2, HI2, hF, HV, HK2⟩
  rw [HS1.out] at HR2 HV
  go_wp2_with fail
  go_ret
  refine ⟨t, lt, ct, strOfNums X, rfl, HR2, ?_, fun z hz => by have h1 := hF z hz; have h2 := HSZ.out; simp at h1; omega, ?_, (HK.out.trans (kept_of (below_one _ _)) (fun i hi e => e)).trans HK2.out (fun i hi e => e)⟩
  · show IsB _ _ _ _ _
    rw [sNums_strOfNums HI2.out.range]
    exact HI2.out
  · intro h0
    rw [HV.out h0, HS2.out h0]
    rfl

theorem wrap_u8 (x : Int) (h0 : 0 ≤ x) (h1 : x < 256) : IntKind.u8.wrap x = x := by rw [IntKind.wrap_u8]; omega

set_option maxHeartbeats 1000000 in
theorem rkind {w : World} {p : Nat} {S : BE} (h : Rd w p S) :
    Calls Try.prog 46 #[.pointer (some ⟨p, 0, none⟩)] w fun e w' => ∃ k, e = .returned (.int .u8 k) ∧ Hid (Rd w' p (stepR kindR S)) ∧ Hid (0 ≤ k ∧ k ≤ 255) ∧ Hid ((stepR kindR S).2 = 0 → k = (kindR S.1).val) ∧ Hid (Kept (fun k => k = p) w w') := by
  have H : Hid (Rd w p S) := h
  clear h
  go_enter Try.func46, Try.ntmps46
  go_wp2_with fail
  refine (rnumber H.out 1 (by omega) (by omega) _ rfl).mono ?_
  rintro e w1 ⟨x, rfl, HR, HPL, HT, HK⟩
  have hx0 := (num_rng H.out.rng (by omega) HT.out)
  have h256 : (256 : Int) ^ 1 = 256 := by decide
  have hx1 : 0 ≤ x ∧ x ≤ 255 := by omega
  have hw8 := wrap_u8 x (by omega) (by omega)
  have HKR : Hid (stepR kindR S = stepR (if decide (2 < (numR 1 S.1).val) then (failR 11 : Ps Int) else pureR (numR 1 S.1).val) (stepR (numR 1) S)) := by
    show _ = _
    rw [kindR, checkR, step_bind]
  have HVX : Hid ((stepR (numR 1) S).2 = 0 → x = (numR 1 S.1).val) := by
    intro h0
    rw [HT.out, numX, if_pos h0]
    obtain ⟨_, h4, _⟩ := step_ok h0
    unfold numR at h4 ⊢
    by_cases hl : S.1.length < 1
    · rw [if_pos hl] at h4; exact absurd h4 (by decide : ¬ (10 : Int) = 0)
    · rw [if_neg hl]
  clear hx0 h256
  by_cases hk : x ≤ 2
  · have HE : Hid (stepR kindR S = stepR (numR 1) S) := by
      show _ = _
      rw [HKR.out]
      by_cases h0 : (stepR (numR 1) S).2 = 0
      · rw [← HVX.out h0, if_neg (by simpa using hk)]
        exact step_pure _ (step_nrm _ _)
      · exact step_err _ h0 (step_nrm _ _)
    have HV : Hid ((stepR kindR S).2 = 0 → x = (kindR S.1).val) := by
      intro h0
      have h1 := h0
      rw [HE.out] at h1
      rw [kindR, checkR, bind_val (numR 1) _ S (by rw [kindR, checkR] at h0; exact h0), ← HVX.out h1, if_neg (by simpa using hk)]
      rfl
    go_wp2_with fail
    go_ret
    exact ⟨x, by first | rfl | (simp only [hw8]; rfl), by rw [HE.out]; exact HR, hx1, HV, HK⟩
  · have hok : (stepR (numR 1) S).2 = 0 := by
      by_cases h0 : (stepR (numR 1) S).2 = 0
      · exact h0
      · have := HT.out
        rw [numX, if_neg h0] at this
        omega
    have HE : Hid (stepR kindR S = stepR (failR 11 : Ps Int) (stepR (numR 1) S)) := by
      show _ = _
      rw [HKR.out, ← HVX.out hok, if_pos (by simp; omega)]
    have HNZ : Hid ((stepR kindR S).2 ≠ 0) := by
      show _ ≠ _
      rw [HE.out]
      unfold stepR at hok ⊢
      rw [hok, if_pos rfl]
      unfold failR
      rw [if_neg (by decide : ¬ (11 : Int) = 0)]
      exact (by decide : (11 : Int) ≠ 0)
    clear hok
    go_wp2_with fail
    refine (rfail HR.out 11 (by decide)).mono ?_
    rintro e w2 ⟨rfl, HR2, HK2⟩
    go_wp2_with fail
    go_ret
    exact ⟨x, by first | rfl | (simp only [hw8]; rfl), by rw [HE.out]; exact HR2, hx1, fun h => absurd h HNZ.out, HK.out.trans HK2.out (fun i hi e => e)⟩
end Go.Proofs.Ytcecdklgiocbaaa
