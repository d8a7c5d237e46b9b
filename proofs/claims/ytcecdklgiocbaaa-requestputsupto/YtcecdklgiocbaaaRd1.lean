/-
  A reader in memory; its methods fail and end; the generic function that reads a part, of texts, values, consistencies and lists.
-/
import Derived.Test.YtcecdklgiocbaaaRdMath
import Derived.Laws.EntriesVeiled
namespace Go.Proofs.Ytcecdklgiocbaaa
open Go.RowKit
set_option maxRecDepth 100000
set_option linter.unusedVariables false
set_option linter.unusedSimpArgs false

/-- A reader in memory: its block p; without an error its slice has the bytes that are left, in an older block. -/
structure Rd (w : World) (p : Nat) (S : BE) : Prop where
  blk : ∃ r lr cr, w.heap[p]? = some (.cells #[.slice r lr cr, .int .i64 S.2] 91 (0, 0)) ∧ (S.2 = 0 → IsB w r lr cr S.1 ∧ ∀ q, r = some q → 0 < lr → q.block < p)
  nrm : Nrm S
  len : S.1.length ≤ 140737488351232
  rng : Rng S.1

theorem Rd.lt {w : World} {p : Nat} {S : BE} (h : Rd w p S) : p < w.heap.size := by
  obtain ⟨r, lr, cr, hb, _⟩ := h.blk
  exact block_lt hb

theorem Rd.new {w w' : World} {p : Nat} {S : BE} (h : Rd w p S) (hB : Below w.heap.size w w') : Rd w' p S := by
  obtain ⟨⟨r, lr, cr, hb, hok⟩, hn, hl, hr⟩ := h
  exact ⟨⟨r, lr, cr, (hB.block p (block_lt hb)).trans hb, fun e => ⟨(hok e).1.old hB, (hok e).2⟩⟩, hn, hl, hr⟩

/-- A block other than the reader's, or a new one, is written: the reader stays. -/
theorem Rd.kept {w w' : World} {p : Nat} {S : BE} {K : Nat → Prop} (h : Rd w p S) (hK : Kept K w w') (hp : ∀ k, k ≤ p → ¬ K k) : Rd w' p S := by
  obtain ⟨⟨r, lr, cr, hb, hok⟩, hn, hl, hr⟩ := h
  refine ⟨⟨r, lr, cr, (hK.block p (block_lt hb) (hp p (Nat.le_refl _))).trans hb, fun e => ⟨(hok e).1.kept hK (fun q hq hl => hp _ (Nat.le_of_lt ((hok e).2 q hq hl))), (hok e).2⟩⟩, hn, hl, hr⟩

theorem rng_drop {X : List Int} (h : Rng X) (k : Nat) : Rng (X.drop k) := range_drop h k

theorem step_len {α : Type} (P : Ps α) (S : BE) : (stepR P S).1.length ≤ S.1.length := by
  unfold stepR
  split
  · split
    · simp
    · simp
  · simp

theorem step_rng {α : Type} (P : Ps α) {S : BE} (h : Rng S.1) : Rng (stepR P S).1 := by
  unfold stepR
  split
  · split
    · exact rng_drop h _
    · exact rng_nil
  · exact rng_nil

/-- What a part that was read leaves: the two cells are written. -/
theorem rd_next {α : Type} {w w1 : World} {p : Nat} {S : BE} (P : Ps α) (hn : Nrm S) (hl : S.1.length ≤ 140737488351232) (hr : Rng S.1) (hS : S.2 = 0) {r : Option Addr} {lr cr : Nat} {x : Value} (hb : w1.heap[p]? = some (.cells #[.slice r lr cr, x] 91 (0, 0))) (hI : IsB w r lr cr S.1) (hlow : ∀ q, r = some q → 0 < lr → q.block < p)
    {r2 : Option Addr} {lr2 cr2 : Nat} (hB : Behind w1 r r2 lr2 cr2 S.1 (P S.1).done (P S.1).err) : Rd ((w1.setCell ⟨p, 0, none⟩ (.slice r2 lr2 cr2)).setCell ⟨p, 1, none⟩ (.int .i64 (P S.1).err)) p (stepR P S) := by
  have hblk := two_set1 (two_set0 hb (.slice r2 lr2 cr2)) (.int .i64 (P S.1).err)
  have he : (stepR P S).2 = (P S.1).err := by
    unfold stepR
    rw [if_pos hS]
    split
    · rename_i h; rw [h]
    · rfl
  refine ⟨⟨r2, lr2, cr2, by rw [he]; exact hblk, fun e => ?_⟩, step_nrm _ _, Nat.le_trans (step_len _ _) hl, step_rng _ hr⟩
  rw [he] at e
  rcases hB with ⟨h1, _⟩ | ⟨_, h2, h3, b, o, off, h4, h5, h6, h7⟩
  · exact absurd e h1
  · have hs : stepR P S = (S.1.drop (P S.1).done, 0) := by unfold stepR; rw [if_pos hS, if_pos e]
    have hbp : b < p := by
      have := hlow ⟨b, o, none⟩ h4 (by rw [← hI.1]; exact h3)
      exact this
    rw [hs, h5]
    refine ⟨((h7.set (by omega) _).set (by omega) _).isB, fun q hq _ => by cases hq; exact hbp⟩

theorem rd_kept {w w1 : World} {p : Nat} (hB : Below w.heap.size w w1) (u v : Value) : Kept (fun k => k = p) w ((w1.setCell ⟨p, 0, none⟩ u).setCell ⟨p, 1, none⟩ v) :=
  ((kept_of (S := fun k => k = p) hB).setCell (p := ⟨p, 0, none⟩) (fun _ => rfl) u).setCell (p := ⟨p, 1, none⟩) (fun _ => rfl) v

set_option maxHeartbeats 400000 in
theorem rfail {w : World} {p : Nat} {S : BE} (h : Rd w p S) (e : Int) (he : e ≠ 0) :
    Calls Try.prog 48 #[.pointer (some ⟨p, 0, none⟩), .int .i64 e] w fun r w' => r = .returned (.tuple #[]) ∧ Hid (Rd w' p (stepR (failR e : Ps Int) S)) ∧ Hid (Kept (fun k => k = p) w w') := by
  obtain ⟨⟨r, lr, cr, hb, hok⟩, hn, hl, hr⟩ := h
  obtain ⟨c0, c1, f0, f1⟩ := two_cells hb
  have hlt := block_lt hb
  have HB : Hid (w.heap[p]? = some (.cells #[.slice r lr cr, .int .i64 S.2] 91 (0, 0))) := hb
  have HOK : Hid (S.2 = 0 → IsB w r lr cr S.1 ∧ ∀ q, r = some q → 0 < lr → q.block < p) := hok
  have HN : Hid (Nrm S) := hn
  have HL : Hid (S.1.length ≤ 140737488351232) := hl
  have HR : Hid (Rng S.1) := hr
  clear hb hok hn hl hr
  by_cases hS : S.2 = 0
  · have HE : Hid (stepR (failR e : Ps Int) S = ([], e)) := by show _ = _; unfold stepR failR; simp [hS, he]
    have HNE : Hid (e ≠ 0) := he
    rw [hS] at c1
    clear hS he
    go_enter Try.func48, Try.ntmps48
    go_wp2
    go_end0
    refine ⟨rfl, ?_, one_kept _ _ _ _⟩
    rw [HE.out]
    exact ⟨⟨r, lr, cr, two_set1 HB.out _, fun e0 => absurd e0 HNE.out⟩, fun _ => rfl, by simp, rng_nil⟩
  · have t : (S.2 == 0) = false := by simpa using hS
    have HE : Hid (stepR (failR e : Ps Int) S = S) := step_err _ hS HN.out
    clear hS
    go_enter Try.func48, Try.ntmps48
    go_wp2
    go_end0
    exact ⟨rfl, by rw [HE.out]; exact ⟨⟨r, lr, cr, HB.out, HOK.out⟩, HN.out, HL.out, HR.out⟩, Kept.refl _ _⟩

set_option maxHeartbeats 400000 in
/-- end. -/
theorem rend {w : World} {p : Nat} {S : BE} (h : Rd w p S) {E : Int} (hE : E = if S.2 = 0 then (if 0 < S.1.length then 23 else 0) else S.2) :
    Calls Try.prog 49 #[.pointer (some ⟨p, 0, none⟩)] w fun r w' => r = .returned (.tuple #[]) ∧ ∃ x, w'.heap[p]? = some (.cells #[x, .int .i64 E] 91 (0, 0)) ∧ Hid (Kept (fun k => k = p) w w') := by
  have H : Hid (Rd w p S) := h
  have HE : Hid (E = if S.2 = 0 then (if 0 < S.1.length then 23 else 0) else S.2) := hE
  obtain ⟨⟨r, lr, cr, hb, hok⟩, hn, hl, hr⟩ := h
  obtain ⟨c0, c1, f0, f1⟩ := two_cells hb
  have hlt := block_lt hb
  have HB : Hid (w.heap[p]? = some (.cells #[.slice r lr cr, .int .i64 S.2] 91 (0, 0))) := hb
  have HOK : Hid (S.2 = 0 → S.1.length = lr) := fun e => (hok e).1.1
  clear hb hok hn hl hr hE
  by_cases h0 : lr = 0
  · subst h0
    have HX : Hid (E = S.2) := by
      show _ = _
      rw [HE.out]
      split
      · rename_i h1
        rw [if_neg (by rw [HOK.out h1]; omega), h1]
      · rfl
    go_enter Try.func49, Try.ntmps49
    go_wp2_with fail
    go_end0
    exact ⟨rfl, .slice r 0 cr, by rw [HX.out]; exact HB.out, Kept.refl _ _⟩
  · have hp : 0 < lr := by omega
    have HX : Hid (E = (stepR (failR 23 : Ps Int) S).2) := by
      show _ = _
      rw [HE.out]
      unfold stepR failR
      split
      · rename_i h1
        rw [if_pos (by rw [HOK.out h1]; exact hp)]
        simp
      · rfl
    go_enter Try.func49, Try.ntmps49
    go_wp2_with fail
    refine (rfail H.out 23 (by decide)).mono ?_
    rintro r1 w1 ⟨rfl, HW1, HK1⟩
    obtain ⟨r2, lr2, cr2, hb2, _⟩ := HW1.out.blk
    have HB2 : Hid (w1.heap[p]? = some (.cells #[.slice r2 lr2 cr2, .int .i64 (stepR (failR 23 : Ps Int) S).2] 91 (0, 0))) := hb2
    clear hb2
    go_wp2_with fail
    go_end0
    exact ⟨rfl, _, by rw [HX.out]; exact HB2.out, HK1⟩

set_option maxHeartbeats 1000000 in
theorem read_long {w : World} {p : Nat} {S : BE} (h : Rd w p S) :
    Calls Try.prog 38 #[.pointer (some ⟨p, 0, none⟩), .func (.func 39) #[] #[]] w fun e w' => ∃ t, e = .returned (.string t) ∧ Hid (Rd w' p (stepR longR S)) ∧ Hid ((stepR longR S).2 = 0 → t = (longR S.1).val) ∧ Hid (Kept (fun k => k = p) w w') := by
  obtain ⟨⟨r, lr, cr, hb, hok⟩, hn, hl, hr⟩ := h
  obtain ⟨c0, c1, f0, f1⟩ := two_cells hb
  have hlt := block_lt hb
  have HB : Hid (w.heap[p]? = some (.cells #[.slice r lr cr, .int .i64 S.2] 91 (0, 0))) := hb
  have HN : Hid (Nrm S) := hn
  have HL : Hid (S.1.length ≤ 140737488351232) := hl
  have HR : Hid (Rng S.1) := hr
  have HOK : Hid (S.2 = 0 → IsB w r lr cr S.1 ∧ ∀ q, r = some q → 0 < lr → q.block < p) := hok
  clear hb hok hn hl hr
  by_cases hS : S.2 = 0
  · have HI : Hid (IsB w r lr cr S.1) := (HOK.out hS).1
    have HLOW : Hid (∀ q, r = some q → 0 < lr → q.block < p) := (HOK.out hS).2
    have HS : Hid (S.2 = 0) := hS
    have HSM : Hid (lr ≤ 140737488351232) := by show _ ≤ _; rw [← HI.out.1]; exact HL.out
    rw [hS] at c1
    clear hS HOK
    go_enter Try.func38, Try.ntmps38
    go_wp2_with fail
    refine (getLong_any HI.out HSM.out).mono ?_
    rintro e w1 ⟨r2, lr2, cr2, rfl, HBH, hB⟩
    have HB1 : Hid (Below w.heap.size w w1) := hB
    have hb1 : w1.heap[p]? = some (.cells #[.slice r lr cr, .int .i64 S.2] 91 (0, 0)) := (hB.block p hlt).trans HB.out
    obtain ⟨d0, d1, g0, g1⟩ := two_cells hb1
    have HBK : Hid (w1.heap[p]? = some (.cells #[.slice r lr cr, .int .i64 S.2] 91 (0, 0))) := hb1
    have hlt1 := block_lt hb1
    clear hB hb1
    go_wp2_with fail
    go_ret
    exact ⟨_, rfl, rd_next longR HN.out HL.out HR.out HS.out HBK.out HI.out HLOW.out HBH.out, fun _ => rfl, rd_kept HB1.out _ _⟩
  · have t : (S.2 == 0) = false := by simpa using hS
    have HE : Hid (stepR longR S = S) := step_err _ hS HN.out
    have HNE : Hid (S.2 ≠ 0) := hS
    clear hS
    go_enter Try.func38, Try.ntmps38
    go_wp2_with fail
    go_ret
    exact ⟨_, rfl, by rw [HE.out]; exact ⟨⟨r, lr, cr, HB.out, HOK.out⟩, HN.out, HL.out, HR.out⟩, fun h => absurd (by rw [HE.out] at h; exact h) HNE.out, Kept.refl _ _⟩

set_option maxHeartbeats 1000000 in
theorem read_text {w : World} {p : Nat} {S : BE} (h : Rd w p S) :
    Calls Try.prog 38 #[.pointer (some ⟨p, 0, none⟩), .func (.func 75) #[] #[]] w fun e w' => ∃ t, e = .returned (.string t) ∧ Hid (Rd w' p (stepR textR S)) ∧ Hid ((stepR textR S).2 = 0 → t = (textR S.1).val) ∧ Hid (Kept (fun k => k = p) w w') := by
  obtain ⟨⟨r, lr, cr, hb, hok⟩, hn, hl, hr⟩ := h
  obtain ⟨c0, c1, f0, f1⟩ := two_cells hb
  have hlt := block_lt hb
  have HB : Hid (w.heap[p]? = some (.cells #[.slice r lr cr, .int .i64 S.2] 91 (0, 0))) := hb
  have HN : Hid (Nrm S) := hn
  have HL : Hid (S.1.length ≤ 140737488351232) := hl
  have HR : Hid (Rng S.1) := hr
  have HOK : Hid (S.2 = 0 → IsB w r lr cr S.1 ∧ ∀ q, r = some q → 0 < lr → q.block < p) := hok
  clear hb hok hn hl hr
  by_cases hS : S.2 = 0
  · have HI : Hid (IsB w r lr cr S.1) := (HOK.out hS).1
    have HLOW : Hid (∀ q, r = some q → 0 < lr → q.block < p) := (HOK.out hS).2
    have HS : Hid (S.2 = 0) := hS
    have HSM : Hid (lr ≤ 140737488351232) := by show _ ≤ _; rw [← HI.out.1]; exact HL.out
    rw [hS] at c1
    clear hS HOK
    go_enter Try.func38, Try.ntmps38
    go_wp2_with fail
    refine (getText_any HI.out HSM.out).mono ?_
    rintro e w1 ⟨r2, lr2, cr2, rfl, HBH, hB⟩
    have HB1 : Hid (Below w.heap.size w w1) := hB
    have hb1 : w1.heap[p]? = some (.cells #[.slice r lr cr, .int .i64 S.2] 91 (0, 0)) := (hB.block p hlt).trans HB.out
    obtain ⟨d0, d1, g0, g1⟩ := two_cells hb1
    have HBK : Hid (w1.heap[p]? = some (.cells #[.slice r lr cr, .int .i64 S.2] 91 (0, 0))) := hb1
    have hlt1 := block_lt hb1
    clear hB hb1
    go_wp2_with fail
    go_ret
    exact ⟨_, rfl, rd_next textR HN.out HL.out HR.out HS.out HBK.out HI.out HLOW.out HBH.out, fun _ => rfl, rd_kept HB1.out _ _⟩
  · have t : (S.2 == 0) = false := by simpa using hS
    have HE : Hid (stepR textR S = S) := step_err _ hS HN.out
    have HNE : Hid (S.2 ≠ 0) := hS
    clear hS
    go_enter Try.func38, Try.ntmps38
    go_wp2_with fail
    go_ret
    exact ⟨_, rfl, by rw [HE.out]; exact ⟨⟨r, lr, cr, HB.out, HOK.out⟩, HN.out, HL.out, HR.out⟩, fun h => absurd (by rw [HE.out] at h; exact h) HNE.out, Kept.refl _ _⟩

theorem set_far (w : World) (p j : Nat) (v : Value) : ∀ k, k < w.heap.size → some k ≠ some p → (w.setCell ⟨p, j, none⟩ v).heap[k]? = w.heap[k]? := by
  intro k hk hne
  rw [Below.heap_setCell _ _ _ _ (by simpa using hne)]

set_option maxHeartbeats 1000000 in
theorem read_pairs {w : World} {p : Nat} {S : BE} (h : Rd w p S) :
    Calls Try.prog 36 #[.pointer (some ⟨p, 0, none⟩), .func (.func 37) #[] #[]] w fun e w' => ∃ v L, e = .returned v ∧ Hid (Rd w' p (stepR (listR (keyR textR)) S)) ∧ Hid (Own 87 2 VP w' w.heap.size v L) ∧ Hid ((stepR (listR (keyR textR)) S).2 = 0 → L = ((listR (keyR textR)) S.1).val) ∧ Hid (Kept (fun k => k = p) w w') := by
  obtain ⟨⟨r, lr, cr, hb, hok⟩, hn, hl, hr⟩ := h
  obtain ⟨c0, c1, f0, f1⟩ := two_cells hb
  have hlt := block_lt hb
  have HB : Hid (w.heap[p]? = some (.cells #[.slice r lr cr, .int .i64 S.2] 91 (0, 0))) := hb
  have HN : Hid (Nrm S) := hn
  have HL : Hid (S.1.length ≤ 140737488351232) := hl
  have HR : Hid (Rng S.1) := hr
  have HOK : Hid (S.2 = 0 → IsB w r lr cr S.1 ∧ ∀ q, r = some q → 0 < lr → q.block < p) := hok
  clear hb hok hn hl hr
  by_cases hS : S.2 = 0
  · have HI : Hid (IsB w r lr cr S.1) := (HOK.out hS).1
    have HLOW : Hid (∀ q, r = some q → 0 < lr → q.block < p) := (HOK.out hS).2
    have HS : Hid (S.2 = 0) := hS
    have HSM : Hid (lr ≤ 140737488351232) := by show _ ≤ _; rw [← HI.out.1]; exact HL.out
    rw [hS] at c1
    obtain ⟨Y, hY⟩ : ∃ Y, Y = (listR (keyR textR)) S.1 := ⟨_, rfl⟩
    have HYE : Hid (Y = (listR (keyR textR)) S.1) := hY
    clear hY
    clear hS HOK
    go_enter Try.func36, Try.ntmps36
    go_wp2_with fail
    refine (getPairs_any HI.out HSM.out HYE.out).mono ?_
    rintro e w1 ⟨v, r2, lr2, cr2, rfl, HO, HBH, hB⟩
    obtain ⟨xa, xl, rfl, _, _⟩ := HO.out.view
    have HB1 : Hid (Below w.heap.size w w1) := hB
    have hb1 : w1.heap[p]? = some (.cells #[.slice r lr cr, .int .i64 S.2] 91 (0, 0)) := (hB.block p hlt).trans HB.out
    obtain ⟨d0, d1, g0, g1⟩ := two_cells hb1
    have HBK : Hid (w1.heap[p]? = some (.cells #[.slice r lr cr, .int .i64 S.2] 91 (0, 0))) := hb1
    have hlt1 := block_lt hb1
    clear hB hb1
    go_wp2_with fail
    go_ret
    refine ⟨_, Y.val, rfl, ?_, (HO.out.kept stays_p (set_far _ _ _ _) (by simp) (fun k e => by cases e; exact hlt)).kept stays_p (set_far _ _ _ _) (by simp) (fun k e => by cases e; exact hlt), fun _ => by rw [HYE.out], rd_kept HB1.out _ _⟩
    rw [HYE.out] at HBH ⊢
    exact rd_next (listR (keyR textR)) HN.out HL.out HR.out HS.out HBK.out HI.out HLOW.out HBH.out
  · have t : (S.2 == 0) = false := by simpa using hS
    have HE : Hid (stepR (listR (keyR textR)) S = S) := step_err _ hS HN.out
    have HNE : Hid (S.2 ≠ 0) := hS
    clear hS
    go_enter Try.func36, Try.ntmps36
    go_wp2_with fail
    go_ret
    exact ⟨_, [], rfl, by rw [HE.out]; exact ⟨⟨r, lr, cr, HB.out, HOK.out⟩, HN.out, HL.out, HR.out⟩, own_nil _ _ _ _ _, fun h => absurd (by rw [HE.out] at h; exact h) HNE.out, Kept.refl _ _⟩

set_option maxHeartbeats 1000000 in
theorem read_texts {w : World} {p : Nat} {S : BE} (h : Rd w p S) :
    Calls Try.prog 42 #[.pointer (some ⟨p, 0, none⟩), .func (.func 43) #[] #[]] w fun e w' => ∃ v L, e = .returned v ∧ Hid (Rd w' p (stepR (listR textR) S)) ∧ Hid (Own 9 1 VS w' w.heap.size v L) ∧ Hid ((stepR (listR textR) S).2 = 0 → L = ((listR textR) S.1).val) ∧ Hid (Kept (fun k => k = p) w w') := by
  obtain ⟨⟨r, lr, cr, hb, hok⟩, hn, hl, hr⟩ := h
  obtain ⟨c0, c1, f0, f1⟩ := two_cells hb
  have hlt := block_lt hb
  have HB : Hid (w.heap[p]? = some (.cells #[.slice r lr cr, .int .i64 S.2] 91 (0, 0))) := hb
  have HN : Hid (Nrm S) := hn
  have HL : Hid (S.1.length ≤ 140737488351232) := hl
  have HR : Hid (Rng S.1) := hr
  have HOK : Hid (S.2 = 0 → IsB w r lr cr S.1 ∧ ∀ q, r = some q → 0 < lr → q.block < p) := hok
  clear hb hok hn hl hr
  by_cases hS : S.2 = 0
  · have HI : Hid (IsB w r lr cr S.1) := (HOK.out hS).1
    have HLOW : Hid (∀ q, r = some q → 0 < lr → q.block < p) := (HOK.out hS).2
    have HS : Hid (S.2 = 0) := hS
    have HSM : Hid (lr ≤ 140737488351232) := by show _ ≤ _; rw [← HI.out.1]; exact HL.out
    rw [hS] at c1
    obtain ⟨Y, hY⟩ : ∃ Y, Y = (listR textR) S.1 := ⟨_, rfl⟩
    have HYE : Hid (Y = (listR textR) S.1) := hY
    clear hY
    clear hS HOK
    go_enter Try.func42, Try.ntmps42
    go_wp2_with fail
    refine (getTexts_any HI.out HSM.out HYE.out).mono ?_
    rintro e w1 ⟨v, r2, lr2, cr2, rfl, HO, HBH, hB⟩
    obtain ⟨xa, xl, rfl, _, _⟩ := HO.out.view
    have HB1 : Hid (Below w.heap.size w w1) := hB
    have hb1 : w1.heap[p]? = some (.cells #[.slice r lr cr, .int .i64 S.2] 91 (0, 0)) := (hB.block p hlt).trans HB.out
    obtain ⟨d0, d1, g0, g1⟩ := two_cells hb1
    have HBK : Hid (w1.heap[p]? = some (.cells #[.slice r lr cr, .int .i64 S.2] 91 (0, 0))) := hb1
    have hlt1 := block_lt hb1
    clear hB hb1
    go_wp2_with fail
    go_ret
    refine ⟨_, Y.val, rfl, ?_, (HO.out.kept stays_s (set_far _ _ _ _) (by simp) (fun k e => by cases e; exact hlt)).kept stays_s (set_far _ _ _ _) (by simp) (fun k e => by cases e; exact hlt), fun _ => by rw [HYE.out], rd_kept HB1.out _ _⟩
    rw [HYE.out] at HBH ⊢
    exact rd_next (listR textR) HN.out HL.out HR.out HS.out HBK.out HI.out HLOW.out HBH.out
  · have t : (S.2 == 0) = false := by simpa using hS
    have HE : Hid (stepR (listR textR) S = S) := step_err _ hS HN.out
    have HNE : Hid (S.2 ≠ 0) := hS
    clear hS
    go_enter Try.func42, Try.ntmps42
    go_wp2_with fail
    go_ret
    exact ⟨_, [], rfl, by rw [HE.out]; exact ⟨⟨r, lr, cr, HB.out, HOK.out⟩, HN.out, HL.out, HR.out⟩, own_nil _ _ _ _ _, fun h => absurd (by rw [HE.out] at h; exact h) HNE.out, Kept.refl _ _⟩

end Go.Proofs.Ytcecdklgiocbaaa
