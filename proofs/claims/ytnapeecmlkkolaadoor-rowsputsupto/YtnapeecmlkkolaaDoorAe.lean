/-
  Rd10, Rd11, Rd12, Rd13, laid together.
-/
import Derived.Test.YtnapeecmlkkolaaDoorAd
import Derived.Laws.EntriesVeiled
namespace Go.Proofs.YtnapeecmlkkolaaDoor
open Go.RowKit
set_option maxRecDepth 100000
set_option linter.unusedVariables false
set_option linter.unusedSimpArgs false

/-- A reader in memory: its block p; without an error its slice has the bytes that are left, in an older block. -/
structure Rd (w : World) (p : Nat) (S : BE) : Prop where
  blk : ∃ r lr cr, w.heap[p]? = some (.cells #[.slice r lr cr, .int .i64 S.2] 71 (0, 0)) ∧ (S.2 = 0 → IsB w r lr cr S.1 ∧ ∀ q, r = some q → 0 < lr → q.block < p)
  nrm : Nrm S
  len : S.1.length ≤ 140737488351232
  rng : Rng S.1

theorem Rd.lt {w : World} {p : Nat} {S : BE} (h : Rd w p S) : p < w.heap.size := by
  obtain ⟨r, lr, cr, hb, _⟩ := h.blk
  exact block_lt hb

theorem Rd.new {w w' : World} {p : Nat} {S : BE} (h : Rd w p S) (hB : Below w.heap.size w w') : Rd w' p S := by
  obtain ⟨⟨r, lr, cr, hb, hok⟩, hn, hl, hr⟩ := h
  exact ⟨⟨r, lr, cr, (hB.block p (block_lt hb)).trans hb, fun e => ⟨(hok e).1.old hB, (hok e).2⟩⟩, hn, hl, hr⟩

/-- A block other than the reader's, or a new one, is written: the reader stays. -/
theorem Rd.kept {w w' : World} {p : Nat} {S : BE} {K : Nat → Prop} (h : Rd w p S) (hK : Kept K w w') (hp : ∀ k, k ≤ p → ¬ K k) : Rd w' p S := by
  obtain ⟨⟨r, lr, cr, hb, hok⟩, hn, hl, hr⟩ := h
  refine ⟨⟨r, lr, cr, (hK.block p (block_lt hb) (hp p (Nat.le_refl _))).trans hb, fun e => ⟨(hok e).1.kept hK (fun q hq hl => hp _ (Nat.le_of_lt ((hok e).2 q hq hl))), (hok e).2⟩⟩, hn, hl, hr⟩

theorem rng_drop {X : List Int} (h : Rng X) (k : Nat) : Rng (X.drop k) := range_drop h k

theorem step_len {α : Type} (P : Ps α) (S : BE) : (stepR P S).1.length ≤ S.1.length := by
  unfold stepR
  split
  · split
    · simp
    · simp
  · simp

theorem step_rng {α : Type} (P : Ps α) {S : BE} (h : Rng S.1) : Rng (stepR P S).1 := by
  unfold stepR
  split
  · split
    · exact rng_drop h _
    · exact rng_nil
  · exact rng_nil

/-- What a part that was read leaves: the two cells are written. -/
theorem rd_next {α : Type} {w w1 : World} {p : Nat} {S : BE} (P : Ps α) (hn : Nrm S) (hl : S.1.length ≤ 140737488351232) (hr : Rng S.1) (hS : S.2 = 0) {r : Option Addr} {lr cr : Nat} {x : Value} (hb : w1.heap[p]? = some (.cells #[.slice r lr cr, x] 71 (0, 0))) (hI : IsB w r lr cr S.1) (hlow : ∀ q, r = some q → 0 < lr → q.block < p)
    {r2 : Option Addr} {lr2 cr2 : Nat} (hB : Behind w1 r r2 lr2 cr2 S.1 (P S.1).done (P S.1).err) : Rd ((w1.setCell ⟨p, 0, none⟩ (.slice r2 lr2 cr2)).setCell ⟨p, 1, none⟩ (.int .i64 (P S.1).err)) p (stepR P S) := by
  have hblk := two_set1 (two_set0 hb (.slice r2 lr2 cr2)) (.int .i64 (P S.1).err)
  have he : (stepR P S).2 = (P S.1).err := by
    unfold stepR
    rw [if_pos hS]
    split
    · rename_i h; rw [h]
    · rfl
  refine ⟨⟨r2, lr2, cr2, by rw [he]; exact hblk, fun e => ?_⟩, step_nrm _ _, Nat.le_trans (step_len _ _) hl, step_rng _ hr⟩
  rw [he] at e
  rcases hB with ⟨h1, _⟩ | ⟨_, h2, h3, b, o, off, h4, h5, h6, h7⟩
  · exact absurd e h1
  · have hs : stepR P S = (S.1.drop (P S.1).done, 0) := by unfold stepR; rw [if_pos hS, if_pos e]
    have hbp : b < p := by
      have := hlow ⟨b, o, none⟩ h4 (by rw [← hI.1]; exact h3)
      exact this
    rw [hs, h5]
    refine ⟨((h7.set (by omega) _).set (by omega) _).isB, fun q hq _ => by cases hq; exact hbp⟩

theorem rd_kept {w w1 : World} {p : Nat} (hB : Below w.heap.size w w1) (u v : Value) : Kept (fun k => k = p) w ((w1.setCell ⟨p, 0, none⟩ u).setCell ⟨p, 1, none⟩ v) :=
  ((kept_of (S := fun k => k = p) hB).setCell (p := ⟨p, 0, none⟩) (fun _ => rfl) u).setCell (p := ⟨p, 1, none⟩) (fun _ => rfl) v

set_option maxHeartbeats 400000 in
theorem rfail {w : World} {p : Nat} {S : BE} (h : Rd w p S) (e : Int) (he : e ≠ 0) :
    Calls Tryd.prog 47 #[.pointer (some ⟨p, 0, none⟩), .int .i64 e] w fun r w' => r = .returned (.tuple #[]) ∧ Hid (Rd w' p (stepR (failR (0 : Int) e) S)) ∧ Hid (Kept (fun k => k = p) w w') := by
  obtain ⟨⟨r, lr, cr, hb, hok⟩, hn, hl, hr⟩ := h
  obtain ⟨c0, c1, f0, f1⟩ := two_cells hb
  have hlt := block_lt hb
  have HB : Hid (w.heap[p]? = some (.cells #[.slice r lr cr, .int .i64 S.2] 71 (0, 0))) := hb
  have HOK : Hid (S.2 = 0 → IsB w r lr cr S.1 ∧ ∀ q, r = some q → 0 < lr → q.block < p) := hok
  have HN : Hid (Nrm S) := hn
  have HL : Hid (S.1.length ≤ 140737488351232) := hl
  have HR : Hid (Rng S.1) := hr
  clear hb hok hn hl hr
  by_cases hS : S.2 = 0
  · have HE : Hid (stepR (failR (0 : Int) e) S = ([], e)) := by show _ = _; unfold stepR failR; simp [hS, he]
    have HNE : Hid (e ≠ 0) := he
    rw [hS] at c1
    clear hS he
    go_enter Tryd.func47, Tryd.ntmps47
    go_wp2
    go_end0
    refine ⟨rfl, ?_, one_kept _ _ _ _⟩
    rw [HE.out]
    exact ⟨⟨r, lr, cr, two_set1 HB.out _, fun e0 => absurd e0 HNE.out⟩, fun _ => rfl, by simp, rng_nil⟩
  · have t : (S.2 == 0) = false := by simpa using hS
    have HE : Hid (stepR (failR (0 : Int) e) S = S) := step_err _ hS HN.out
    clear hS
    go_enter Tryd.func47, Tryd.ntmps47
    go_wp2
    go_end0
    exact ⟨rfl, by rw [HE.out]; exact ⟨⟨r, lr, cr, HB.out, HOK.out⟩, HN.out, HL.out, HR.out⟩, Kept.refl _ _⟩

set_option maxHeartbeats 400000 in
/-- end. -/
theorem rend {w : World} {p : Nat} {S : BE} (h : Rd w p S) {E : Int} (hE : E = if S.2 = 0 then (if 0 < S.1.length then 23 else 0) else S.2) :
    Calls Tryd.prog 24 #[.pointer (some ⟨p, 0, none⟩)] w fun r w' => r = .returned (.tuple #[]) ∧ ∃ x, w'.heap[p]? = some (.cells #[x, .int .i64 E] 71 (0, 0)) ∧ Hid (Kept (fun k => k = p) w w') := by
  have H : Hid (Rd w p S) := h
  have HE : Hid (E = if S.2 = 0 then (if 0 < S.1.length then 23 else 0) else S.2) := hE
  obtain ⟨⟨r, lr, cr, hb, hok⟩, hn, hl, hr⟩ := h
  obtain ⟨c0, c1, f0, f1⟩ := two_cells hb
  have hlt := block_lt hb
  have HB : Hid (w.heap[p]? = some (.cells #[.slice r lr cr, .int .i64 S.2] 71 (0, 0))) := hb
  have HOK : Hid (S.2 = 0 → S.1.length = lr) := fun e => (hok e).1.1
  clear hb hok hn hl hr hE
  by_cases h0 : lr = 0
  · subst h0
    have HX : Hid (E = S.2) := by
      show _ = _
      rw [HE.out]
      split
      · rename_i h1
        rw [if_neg (by rw [HOK.out h1]; omega), h1]
      · rfl
    go_enter Tryd.func24, Tryd.ntmps24
    go_wp2_with fail
    go_end0
    exact ⟨rfl, .slice r 0 cr, by rw [HX.out]; exact HB.out, Kept.refl _ _⟩
  · have hp : 0 < lr := by omega
    have HX : Hid (E = (stepR (failR (0 : Int) 23) S).2) := by
      show _ = _
      rw [HE.out]
      unfold stepR failR
      split
      · rename_i h1
        rw [if_pos (by rw [HOK.out h1]; exact hp)]
        simp
      · rfl
    go_enter Tryd.func24, Tryd.ntmps24
    go_wp2_with fail
    refine (rfail H.out 23 (by decide)).mono ?_
    rintro r1 w1 ⟨rfl, HW1, HK1⟩
    obtain ⟨r2, lr2, cr2, hb2, _⟩ := HW1.out.blk
    have HB2 : Hid (w1.heap[p]? = some (.cells #[.slice r2 lr2 cr2, .int .i64 (stepR (failR (0 : Int) 23) S).2] 71 (0, 0))) := hb2
    clear hb2
    go_wp2_with fail
    go_end0
    exact ⟨rfl, _, by rw [HX.out]; exact HB2.out, HK1⟩

set_option maxHeartbeats 1000000 in
theorem read_text {w : World} {p : Nat} {S : BE} (h : Rd w p S) :
    Calls Tryd.prog 70 #[.pointer (some ⟨p, 0, none⟩), .func (.func 71) #[] #[]] w fun e w' => ∃ t, e = .returned (.string t) ∧ Hid (Rd w' p (stepR textR S)) ∧ Hid ((stepR textR S).2 = 0 → t = (textR S.1).val) ∧ Hid (Kept (fun k => k = p) w w') := by
  obtain ⟨⟨r, lr, cr, hb, hok⟩, hn, hl, hr⟩ := h
  obtain ⟨c0, c1, f0, f1⟩ := two_cells hb
  have hlt := block_lt hb
  have HB : Hid (w.heap[p]? = some (.cells #[.slice r lr cr, .int .i64 S.2] 71 (0, 0))) := hb
  have HN : Hid (Nrm S) := hn
  have HL : Hid (S.1.length ≤ 140737488351232) := hl
  have HR : Hid (Rng S.1) := hr
  have HOK : Hid (S.2 = 0 → IsB w r lr cr S.1 ∧ ∀ q, r = some q → 0 < lr → q.block < p) := hok
  clear hb hok hn hl hr
  by_cases hS : S.2 = 0
  · have HI : Hid (IsB w r lr cr S.1) := (HOK.out hS).1
    have HLOW : Hid (∀ q, r = some q → 0 < lr → q.block < p) := (HOK.out hS).2
    have HS : Hid (S.2 = 0) := hS
    have HSM : Hid (lr ≤ 140737488351232) := by show _ ≤ _; rw [← HI.out.1]; exact HL.out
    rw [hS] at c1
    clear hS HOK
    go_enter Tryd.func70, Tryd.ntmps70
    go_wp2_with fail
    refine (getText_any HI.out HSM.out).mono ?_
    rintro e w1 ⟨r2, lr2, cr2, rfl, HBH, hB⟩
    have HB1 : Hid (Below w.heap.size w w1) := hB
    have hb1 : w1.heap[p]? = some (.cells #[.slice r lr cr, .int .i64 S.2] 71 (0, 0)) := (hB.block p hlt).trans HB.out
    obtain ⟨d0, d1, g0, g1⟩ := two_cells hb1
    have HBK : Hid (w1.heap[p]? = some (.cells #[.slice r lr cr, .int .i64 S.2] 71 (0, 0))) := hb1
    have hlt1 := block_lt hb1
    clear hB hb1
    go_wp2_with fail
    go_ret
    exact ⟨_, rfl, rd_next textR HN.out HL.out HR.out HS.out HBK.out HI.out HLOW.out HBH.out, fun _ => rfl, rd_kept HB1.out _ _⟩
  · have t : (S.2 == 0) = false := by simpa using hS
    have HE : Hid (stepR textR S = S) := step_err _ hS HN.out
    have HNE : Hid (S.2 ≠ 0) := hS
    clear hS
    go_enter Tryd.func70, Tryd.ntmps70
    go_wp2_with fail
    go_ret
    exact ⟨_, rfl, by rw [HE.out]; exact ⟨⟨r, lr, cr, HB.out, HOK.out⟩, HN.out, HL.out, HR.out⟩, fun h => absurd (by rw [HE.out] at h; exact h) HNE.out, Kept.refl _ _⟩

theorem set_far (w : World) (p j : Nat) (v : Value) : ∀ k, k < w.heap.size → some k ≠ some p → (w.setCell ⟨p, j, none⟩ v).heap[k]? = w.heap[k]? := by
  intro k hk hne
  rw [Below.heap_setCell _ _ _ _ (by simpa using hne)]

theorem Behind.kept {S : Nat → Prop} {w W : World} {a r : Option Addr} {lr cr : Nat} {zs : List Int} {d : Nat} {er : Int} (h : Behind w a r lr cr zs d er) (hK : Kept S w W) (hn : ∀ q, a = some q → 0 < zs.length → ¬ S q.block) : Behind W a r lr cr zs d er := by
  rcases h with h | ⟨h1, h2, h3, b, o, off, h0, h4, h5, h6⟩
  · exact .inl h
  · refine .inr ⟨h1, h2, h3, b, o, off, h0, h4, Nat.lt_of_lt_of_le h5 hK.size, h6.len_eq, h6.le, h6.cap_le, fun _ => Nat.lt_of_lt_of_le h5 hK.size, fun i hi => ?_, h6.rng⟩
    exact (hK.cell (p := ⟨b, off + i, none⟩) h5 (hn ⟨b, o, none⟩ h0 h3)).trans (h6.cell i hi)

set_option maxHeartbeats 1000000 in
theorem read_value {w : World} {p : Nat} {S : BE} (h : Rd w p S) :
    Calls Tryd.prog 43 #[.pointer (some ⟨p, 0, none⟩), .func (.func 44) #[] #[]] w fun e w' => ∃ (V : Vl) (x : Option Addr) (lx cx : Nat), e = .returned (.agg #[.int .i64 V.1, .slice x lx cx]) ∧ Hid (Rd w' p (stepR valueR S)) ∧ Hid (IsB w' x lx cx (sNums V.2)) ∧ Fresh w.heap.size w' x ∧
      Hid ((stepR valueR S).2 = 0 → V = (valueR S.1).val) ∧ Hid (Kept (fun k => k = p) w w') := by
  obtain ⟨⟨r, lr, cr, hb, hok⟩, hn, hl, hr⟩ := h
  have hlt0 := block_lt hb
  obtain ⟨w0, hw0⟩ : ∃ w0, w0 = (w.alloc (.cells #[.int .i64 0, .slice none 0 0] 26)).alloc (.cells #[.int .i64 0, .slice none 0 0] 26) := ⟨_, rfl⟩
  have HW0 : Hid ((w.alloc (.cells #[.int .i64 0, .slice none 0 0] 26)).alloc (.cells #[.int .i64 0, .slice none 0 0] 26) = w0) := hw0.symm
  have hB0 : Below w.heap.size w w0 := by rw [hw0]; exact (below_one _ _).alloc (by simp) _
  have hq1 : w0.heap[w.heap.size]? = some (.cells #[.int .i64 0, .slice none 0 0] 26 (0, 0)) := by
    rw [hw0]
    exact ((below_one (w.alloc (.cells #[.int .i64 0, .slice none 0 0] 26)) _).block w.heap.size (by simp)).trans (heap_alloc_new w _)
  have hq2 : w0.heap[w.heap.size + 1]? = some (.cells #[.int .i64 0, .slice none 0 0] 26 (0, 0)) := by
    rw [hw0]
    have := heap_alloc_new (w.alloc (.cells #[.int .i64 0, .slice none 0 0] 26)) (.cells #[.int .i64 0, .slice none 0 0] 26)
    simpa using this
  have hb0 : w0.heap[p]? = some (.cells #[.slice r lr cr, .int .i64 S.2] 71 (0, 0)) := (hB0.block p hlt0).trans hb
  obtain ⟨c0, c1, f0, f1⟩ := two_cells hb0
  obtain ⟨a0, a1, af0, af1⟩ := two_cells hq1
  obtain ⟨b0, b1, bf0, bf1⟩ := two_cells hq2
  have hlt := block_lt hb0
  have hlta := block_lt hq1
  have hltb := block_lt hq2
  have HB : Hid (w0.heap[p]? = some (.cells #[.slice r lr cr, .int .i64 S.2] 71 (0, 0))) := hb0
  have HQ1 : Hid (w0.heap[w.heap.size]? = some (.cells #[.int .i64 0, .slice none 0 0] 26 (0, 0))) := hq1
  have HQ2 : Hid (w0.heap[w.heap.size + 1]? = some (.cells #[.int .i64 0, .slice none 0 0] 26 (0, 0))) := hq2
  have HB0 : Hid (Below w.heap.size w w0) := hB0
  have HN : Hid (Nrm S) := hn
  have HL : Hid (S.1.length ≤ 140737488351232) := hl
  have HR : Hid (Rng S.1) := hr
  have HOK : Hid (S.2 = 0 → IsB w r lr cr S.1 ∧ ∀ q, r = some q → 0 < lr → q.block < p) := hok
  obtain ⟨q, hq⟩ : ∃ q, q = w.heap.size := ⟨_, rfl⟩
  have HQE : Hid (q = w.heap.size) := hq
  rw [← hq] at a0 a1 af0 af1 b0 b1 bf0 bf1 hlta hltb hlt0 HQ1 HQ2
  have HQW : Hid (w.heap.size = q) := hq.symm
  clear hb hok hn hl hr hb0 hq1 hq2 hw0 hB0 hq
  by_cases hS : S.2 = 0
  · have HI : Hid (IsB w r lr cr S.1) := (HOK.out hS).1
    have HLOW : Hid (∀ q, r = some q → 0 < lr → q.block < p) := (HOK.out hS).2
    have HS : Hid (S.2 = 0) := hS
    have HSM : Hid (lr ≤ 140737488351232) := by show _ ≤ _; rw [← HI.out.1]; exact HL.out
    rw [hS] at c1
    clear hS HOK
    go_enter Tryd.func43, Tryd.ntmps43
    go_upto_region 2 with fail
    rw [HW0.out]
    clear HW0
    (try rw [HQW.out])
    go_wp2_with fail
    refine (getValue_any (HI.out.old HB0.out) HSM.out).mono ?_
    rintro e w1 ⟨r2, lr2, cr2, x, lx, cx, rfl, HX, hF, HBH, hB⟩
    have hb1 : w1.heap[p]? = some (.cells #[.slice r lr cr, .int .i64 S.2] 71 (0, 0)) := (hB.block p hlt).trans HB.out
    obtain ⟨d0, d1, g0, g1⟩ := two_cells hb1
    have HBK : Hid (w1.heap[p]? = some (.cells #[.slice r lr cr, .int .i64 S.2] 71 (0, 0))) := hb1
    have hlt1 := block_lt hb1
    have hq1 : w1.heap[q]? = some (.cells #[.int .i64 0, .slice none 0 0] 26 (0, 0)) := (hB.block _ hlta).trans HQ1.out
    have hq2 : w1.heap[q + 1]? = some (.cells #[.int .i64 0, .slice none 0 0] 26 (0, 0)) := (hB.block _ hltb).trans HQ2.out
    obtain ⟨a0, a1, af0, af1⟩ := two_cells hq1
    obtain ⟨b0, b1, bf0, bf1⟩ := two_cells hq2
    have hlta := block_lt hq1
    have hltb := block_lt hq2
    have hpq : p ≠ q := by omega
    have hpq1 : p ≠ q + 1 := by omega
    have hqp : q ≠ p := by omega
    have hqp1 : q + 1 ≠ p := by omega
    have HB1 : Hid (Below w0.heap.size w0 w1) := hB
    clear hB hb1
    go_wp2_with fail
    have hKA : Kept (fun k => k = q + 1) w1 ((w1.setCell ⟨q + 1, 0, none⟩ (.int .i64 (valueA S.1).kind)).setCell ⟨q + 1, 1, none⟩ (.slice x lx cx)) := ((Kept.refl (fun k => k = q + 1) w1).setCell (p := ⟨q + 1, 0, none⟩) (fun _ => rfl) _).setCell (p := ⟨q + 1, 1, none⟩) (fun _ => rfl) _
    generalize (w1.setCell ⟨q + 1, 0, none⟩ (.int .i64 (valueA S.1).kind)).setCell ⟨q + 1, 1, none⟩ (.slice x lx cx) = wA at hKA ⊢
    have hbA : wA.heap[p]? = some (.cells #[.slice r lr cr, .int .i64 S.2] 71 (0, 0)) := (hKA.block p hlt1 hpq1).trans HBK.out
    have hBA : Behind wA r r2 lr2 cr2 S.1 (valueR S.1).done (valueR S.1).err := HBH.out.kept hKA (fun z hz hl e => by
      have h1 := HLOW.out z hz (by rw [← HI.out.1]; exact hl)
      omega)
    have hRB := rd_next valueR HN.out HL.out HR.out HS.out hbA HI.out HLOW.out hBA
    have hKB : Kept (fun k => k = p) wA ((wA.setCell ⟨p, 0, none⟩ (.slice r2 lr2 cr2)).setCell ⟨p, 1, none⟩ (.int .i64 (valueR S.1).err)) := ((Kept.refl (fun k => k = p) wA).setCell (p := ⟨p, 0, none⟩) (fun _ => rfl) _).setCell (p := ⟨p, 1, none⟩) (fun _ => rfl) _
    have eE : (valueR S.1).err = (valueA S.1).err := rfl
    rw [eE] at hRB hKB
    generalize (wA.setCell ⟨p, 0, none⟩ (.slice r2 lr2 cr2)).setCell ⟨p, 1, none⟩ (.int .i64 (valueA S.1).err) = wB at hRB hKB ⊢
    have hqA : wA.heap[q]? = some (.cells #[.int .i64 0, .slice none 0 0] 26 (0, 0)) := (hKA.block q hlta (by omega)).trans hq1
    have hqB : wB.heap[q]? = some (.cells #[.int .i64 0, .slice none 0 0] 26 (0, 0)) := (hKB.block q (block_lt hqA) hqp).trans hqA
    have hKC : Kept (fun k => k = q) wB ((wB.setCell ⟨q, 0, none⟩ (.int .i64 (valueA S.1).kind)).setCell ⟨q, 1, none⟩ (.slice x lx cx)) := ((Kept.refl (fun k => k = q) wB).setCell (p := ⟨q, 0, none⟩) (fun _ => rfl) _).setCell (p := ⟨q, 1, none⟩) (fun _ => rfl) _
    have hqC := two_set1 (two_set0 hqB (.int .i64 (valueA S.1).kind)) (.slice x lx cx)
    generalize (wB.setCell ⟨q, 0, none⟩ (.int .i64 (valueA S.1).kind)).setCell ⟨q, 1, none⟩ (.slice x lx cx) = wC at hKC hqC ⊢
    obtain ⟨z0, z1, _, _⟩ := two_cells hqC
    have hFx : ∀ z, x = some z → 0 < lx → z.block ≠ q + 1 ∧ z.block ≠ p ∧ z.block ≠ q := fun z hz _ => by
      have h1 := (hF z hz).1
      have h2 := hltb
      have h3 := (HB1.out.size)
      have hw0s : q + 1 < w0.heap.size := block_lt HQ2.out
      omega
    have hIA := HX.out.kept hKA (fun z hz hl e => (hFx z hz hl).1 e)
    have hIB := hIA.kept hKB (fun z hz hl e => (hFx z hz hl).2.1 e)
    have hIC := hIB.kept hKC (fun z hz hl e => (hFx z hz hl).2.2 e)
    have hK1 : Kept (fun k => k = p) w w1 := kept_of (HB0.out.trans (HB1.out.mono HB0.out.size))
    have hKall : Kept (fun k => k = p) w wC := ((hK1.trans hKA (fun i hi e => by have := HQE.out; omega)).trans hKB (fun i hi e => e)).trans hKC (fun i hi e => by have := HQE.out; omega)
    refine bodyPost_ret (v := .agg #[.int .i64 (valueA S.1).kind, .slice x lx cx]) (by simp [results, Tryd.results43, go_sem, z0, z1]) rfl ?_
    refine ⟨((valueA S.1).kind, strOfNums (valueA S.1).bytes), x, lx, cx, rfl, hRB.kept hKC (fun k hk e => by omega), ?_, fun z hz => ?_, fun _ => rfl, hKall⟩
    · show IsB _ _ _ _ _
      rw [sNums_strOfNums HX.out.range]
      exact hIC
    · have h1 := hF z hz
      have h2 := HB0.out.size
      have h3 := hKA.size
      have h4 := hKB.size
      have h5 := hKC.size
      omega
  · have t : (S.2 == 0) = false := by simpa using hS
    have HE : Hid (stepR valueR S = S) := step_err _ hS HN.out
    have HNE : Hid (S.2 ≠ 0) := hS
    clear hS
    go_enter Tryd.func43, Tryd.ntmps43
    go_upto_region 2 with fail
    rw [HW0.out]
    clear HW0
    (try rw [HQW.out])
    go_wp2_with fail
    have hKC : Kept (fun k => k = q) w0 ((w0.setCell ⟨q, 0, none⟩ (.int .i64 0)).setCell ⟨q, 1, none⟩ (.slice none 0 0)) := ((Kept.refl (fun k => k = q) w0).setCell (p := ⟨q, 0, none⟩) (fun _ => rfl) _).setCell (p := ⟨q, 1, none⟩) (fun _ => rfl) _
    have hqC := two_set1 (two_set0 HQ1.out (.int .i64 0)) (.slice none 0 0)
    generalize (w0.setCell ⟨q, 0, none⟩ (.int .i64 0)).setCell ⟨q, 1, none⟩ (.slice none 0 0) = wC at hKC hqC ⊢
    obtain ⟨z0, z1, _, _⟩ := two_cells hqC
    refine bodyPost_ret (v := .agg #[.int .i64 0, .slice none 0 0]) (by simp [results, Tryd.results43, go_sem, z0, z1]) rfl ?_
    refine ⟨(0, ByteArray.empty), none, 0, 0, rfl, ?_, isB_nil _, Fresh.none, fun h => absurd (by rw [HE.out] at h; exact h) HNE.out, (kept_of HB0.out).trans hKC (fun i hi e => by have := HQE.out; omega)⟩
    rw [HE.out]
    have hR : Rd w0 p S := ⟨⟨r, lr, cr, HB.out, fun e => absurd e HNE.out⟩, HN.out, HL.out, HR.out⟩
    exact hR.kept hKC (fun k hk e => by omega)

/-- The number that is read, or nought. -/
def numX (n : Nat) (S : BE) : Int := if (stepR (numR n) S).2 = 0 then numTo S.1 n else 0

/-- Without an error the reader's slice has a place that is known. -/
def Pl (w : World) (p : Nat) (S : BE) : Prop := S.2 = 0 → ∃ b off lr cr, w.heap[p]? = some (.cells #[.slice (some ⟨b, off, none⟩) lr cr, .int .i64 S.2] 71 (0, 0)) ∧ BRow w b off lr cr S.1 ∧ b < p

theorem rd_row {α : Type} {w1 : World} {p : Nat} {S : BE} (P : Ps α) (hl : S.1.length ≤ 140737488351232) (hr : Rng S.1) (hS : S.2 = 0) {x0 x : Value} (hb : w1.heap[p]? = some (.cells #[x0, x] 71 (0, 0)))
    {r2 : Option Addr} {lr2 cr2 : Nat} (hB : (P S.1).err = 0 → ∃ b off, r2 = some ⟨b, off, none⟩ ∧ b < p ∧ BRow w1 b off lr2 cr2 (S.1.drop (P S.1).done)) :
    Rd ((w1.setCell ⟨p, 0, none⟩ (.slice r2 lr2 cr2)).setCell ⟨p, 1, none⟩ (.int .i64 (P S.1).err)) p (stepR P S) ∧ Pl ((w1.setCell ⟨p, 0, none⟩ (.slice r2 lr2 cr2)).setCell ⟨p, 1, none⟩ (.int .i64 (P S.1).err)) p (stepR P S) := by
  have hblk := two_set1 (two_set0 hb (.slice r2 lr2 cr2)) (.int .i64 (P S.1).err)
  have he : (stepR P S).2 = (P S.1).err := by
    unfold stepR
    rw [if_pos hS]
    split
    · rename_i h; rw [h]
    · rfl
  have key : (stepR P S).2 = 0 → ∃ b off, r2 = some ⟨b, off, none⟩ ∧ b < p ∧ BRow ((w1.setCell ⟨p, 0, none⟩ (.slice r2 lr2 cr2)).setCell ⟨p, 1, none⟩ (.int .i64 (P S.1).err)) b off lr2 cr2 (stepR P S).1 := by
    intro e
    rw [he] at e
    obtain ⟨b, off, h5, hbp, h7⟩ := hB e
    have hs : stepR P S = (S.1.drop (P S.1).done, 0) := by unfold stepR; rw [if_pos hS, if_pos e]
    exact ⟨b, off, h5, hbp, by rw [hs]; exact (h7.set (by omega) _).set (by omega) _⟩
  refine ⟨⟨⟨r2, lr2, cr2, by rw [he]; exact hblk, fun e => ?_⟩, step_nrm _ _, Nat.le_trans (step_len _ _) hl, step_rng _ hr⟩, fun e => ?_⟩
  · obtain ⟨b, off, rfl, hbp, hR⟩ := key e
    exact ⟨hR.isB, fun q hq _ => by cases hq; exact hbp⟩
  · obtain ⟨b, off, rfl, hbp, hR⟩ := key e
    exact ⟨b, off, lr2, cr2, by rw [he]; exact hblk, hR, hbp⟩
end Go.Proofs.YtnapeecmlkkolaaDoor

namespace Go.Proofs.YtnapeecmlkkolaaDoor
open Go.RowKit
set_option maxRecDepth 100000
set_option linter.unusedVariables false
set_option linter.unusedSimpArgs false

set_option maxHeartbeats 400000 in
theorem int_clo {w : World} {a : Option Addr} {len cap : Nat} {zs : List Int} (h : IsB w a len cap zs) :
    Calls Tryd.prog 75 #[.slice a len cap] w fun e w' => ∃ r lr cr, e = .returned (.tuple #[.int .u64 (numR 4 zs).val, .slice r lr cr, .int .i64 (numR 4 zs).err]) ∧ Hid ((numR 4 zs).err = 0 → ∃ b o off, a = some ⟨b, o, none⟩ ∧ 0 < len ∧ r = some ⟨b, off, none⟩ ∧ BRow w' b off lr cr (zs.drop (numR 4 zs).done)) ∧ Below w.heap.size w w' := by
  have hle := h.1
  by_cases hl : len < 4
  · have HE : Hid (numR 4 zs = ⟨0, 0, 10⟩) := by show _ = _; unfold numR; rw [if_pos (by omega)]
    go_enter Tryd.func75, Tryd.ntmps75
    go_wp2_with fail
    refine (bget_short a len cap 4 _ (by omega) (by omega) hl _ rfl).mono ?_
    rintro e w1 ⟨rfl, rfl⟩
    go_wp2_with fail
    go_ret3
    exact ⟨none, 0, 0, by rw [HE.out]; rfl, by rw [HE.out]; exact fun h => absurd h (by decide : ¬ (10 : Int) = 0), Below.refl _ _⟩
  · obtain ⟨b, off, rfl, hR⟩ := h.2.2.2.2 (by omega)
    have H : Hid (BRow w b off len cap zs) := hR
    have HE : Hid (numR 4 zs = ⟨numTo zs 4, 4, 0⟩) := by show _ = _; unfold numR; rw [if_neg (by omega)]
    have hnl : 4 ≤ len := by omega
    clear hR
    go_enter Tryd.func75, Tryd.ntmps75
    go_wp2_with fail
    refine (bget H.out 4 (by omega) (by omega) hnl _ rfl).mono ?_
    rintro e w1 ⟨off', rfl, hR1, hB1⟩
    have HR1 : Hid (BRow w1 b off' (len - 4) (cap - 4) (zs.drop 4)) := hR1
    have HB1 : Hid (Below w.heap.size w w1) := hB1
    obtain ⟨x, hx⟩ : ∃ x, x = numTo zs 4 := ⟨_, rfl⟩
    rw [← hx] at HE ⊢
    clear hR1 hB1 hx
    go_wp2_with fail
    go_ret3
    exact ⟨_, _, _, by rw [HE.out]; rfl, by rw [HE.out]; exact fun _ => ⟨b, off, off', rfl, by omega, rfl, HR1.out⟩, HB1.out⟩

set_option maxHeartbeats 400000 in
theorem short_clo {w : World} {a : Option Addr} {len cap : Nat} {zs : List Int} (h : IsB w a len cap zs) :
    Calls Tryd.prog 57 #[.slice a len cap] w fun e w' => ∃ r lr cr, e = .returned (.tuple #[.int .u64 (numR 2 zs).val, .slice r lr cr, .int .i64 (numR 2 zs).err]) ∧ Hid ((numR 2 zs).err = 0 → ∃ b o off, a = some ⟨b, o, none⟩ ∧ 0 < len ∧ r = some ⟨b, off, none⟩ ∧ BRow w' b off lr cr (zs.drop (numR 2 zs).done)) ∧ Below w.heap.size w w' := by
  have hle := h.1
  by_cases hl : len < 2
  · have HE : Hid (numR 2 zs = ⟨0, 0, 10⟩) := by show _ = _; unfold numR; rw [if_pos (by omega)]
    go_enter Tryd.func57, Tryd.ntmps57
    go_wp2_with fail
    refine (bget_short a len cap 2 _ (by omega) (by omega) hl _ rfl).mono ?_
    rintro e w1 ⟨rfl, rfl⟩
    go_wp2_with fail
    go_ret3
    exact ⟨none, 0, 0, by rw [HE.out]; rfl, by rw [HE.out]; exact fun h => absurd h (by decide : ¬ (10 : Int) = 0), Below.refl _ _⟩
  · obtain ⟨b, off, rfl, hR⟩ := h.2.2.2.2 (by omega)
    have H : Hid (BRow w b off len cap zs) := hR
    have HE : Hid (numR 2 zs = ⟨numTo zs 2, 2, 0⟩) := by show _ = _; unfold numR; rw [if_neg (by omega)]
    have hnl : 2 ≤ len := by omega
    clear hR
    go_enter Tryd.func57, Tryd.ntmps57
    go_wp2_with fail
    refine (bget H.out 2 (by omega) (by omega) hnl _ rfl).mono ?_
    rintro e w1 ⟨off', rfl, hR1, hB1⟩
    have HR1 : Hid (BRow w1 b off' (len - 2) (cap - 2) (zs.drop 2)) := hR1
    have HB1 : Hid (Below w.heap.size w w1) := hB1
    obtain ⟨x, hx⟩ : ∃ x, x = numTo zs 2 := ⟨_, rfl⟩
    rw [← hx] at HE ⊢
    clear hR1 hB1 hx
    go_wp2_with fail
    go_ret3
    exact ⟨_, _, _, by rw [HE.out]; rfl, by rw [HE.out]; exact fun _ => ⟨b, off, off', rfl, by omega, rfl, HR1.out⟩, HB1.out⟩

set_option maxHeartbeats 1000000 in
theorem read_int {w : World} {p : Nat} {S : BE} (h : Rd w p S) :
    Calls Tryd.prog 56 #[.pointer (some ⟨p, 0, none⟩), .func (.func 75) #[] #[]] w fun e w' => ∃ t, e = .returned (.int .u64 t) ∧ Hid (Rd w' p (stepR (numR 4) S)) ∧ Hid (Pl w' p (stepR (numR 4) S)) ∧ Hid (t = numX 4 S) ∧ Hid (Kept (fun k => k = p) w w') := by
  obtain ⟨⟨r, lr, cr, hb, hok⟩, hn, hl, hr⟩ := h
  obtain ⟨c0, c1, f0, f1⟩ := two_cells hb
  have hlt := block_lt hb
  have HB : Hid (w.heap[p]? = some (.cells #[.slice r lr cr, .int .i64 S.2] 71 (0, 0))) := hb
  have HN : Hid (Nrm S) := hn
  have HL : Hid (S.1.length ≤ 140737488351232) := hl
  have HR : Hid (Rng S.1) := hr
  have HOK : Hid (S.2 = 0 → IsB w r lr cr S.1 ∧ ∀ q, r = some q → 0 < lr → q.block < p) := hok
  clear hb hok hn hl hr
  by_cases hS : S.2 = 0
  · have HI : Hid (IsB w r lr cr S.1) := (HOK.out hS).1
    have HLOW : Hid (∀ q, r = some q → 0 < lr → q.block < p) := (HOK.out hS).2
    have HS : Hid (S.2 = 0) := hS
    have HSM : Hid (lr ≤ 140737488351232) := by show _ ≤ _; rw [← HI.out.1]; exact HL.out
    rw [hS] at c1
    clear hS HOK
    go_enter Tryd.func56, Tryd.ntmps56
    go_wp2_with fail
    refine (int_clo HI.out).mono ?_
    rintro e w1 ⟨r2, lr2, cr2, rfl, HBH, hB⟩
    obtain ⟨X, hX⟩ : ∃ X, X = numR 4 S.1 := ⟨_, rfl⟩
    rw [← hX]
    have HX : Hid (X = numR 4 S.1) := hX
    clear hX
    have HB1 : Hid (Below w.heap.size w w1) := hB
    have hb1 : w1.heap[p]? = some (.cells #[.slice r lr cr, .int .i64 S.2] 71 (0, 0)) := (hB.block p hlt).trans HB.out
    obtain ⟨d0, d1, g0, g1⟩ := two_cells hb1
    have HBK : Hid (w1.heap[p]? = some (.cells #[.slice r lr cr, .int .i64 S.2] 71 (0, 0))) := hb1
    have hlt1 := block_lt hb1
    clear hB hb1
    go_wp2_with fail
    go_ret
    have hrow := rd_row (numR 4) HL.out HR.out HS.out HBK.out (r2 := r2) (lr2 := lr2) (cr2 := cr2) (fun e => by
      obtain ⟨b, o, off, hr, hpos, hr2, hRow⟩ := HBH.out e
      exact ⟨b, off, hr2, HLOW.out _ hr hpos, hRow⟩)
    rw [← HX.out] at hrow
    refine ⟨_, rfl, hrow.1, hrow.2, ?_, rd_kept HB1.out _ _⟩
    show X.val = _
    rw [HX.out]
    unfold numX stepR
    rw [if_pos HS.out]
    unfold numR
    by_cases hl : S.1.length < 4
    · rw [if_pos hl, if_neg (by decide : ¬ (10 : Int) = 0), if_neg (by decide : ¬ (10 : Int) = 0)]
    · rw [if_neg hl, if_pos rfl, if_pos rfl]
  · have t : (S.2 == 0) = false := by simpa using hS
    have HE : Hid (stepR (numR 4) S = S) := step_err _ hS HN.out
    have HNE : Hid (S.2 ≠ 0) := hS
    clear hS
    go_enter Tryd.func56, Tryd.ntmps56
    go_wp2_with fail
    go_ret
    exact ⟨_, rfl, by rw [HE.out]; exact ⟨⟨r, lr, cr, HB.out, HOK.out⟩, HN.out, HL.out, HR.out⟩, by rw [HE.out]; exact fun h => absurd h HNE.out, by show _ = _; unfold numX; rw [HE.out]; exact (if_neg HNE.out).symm, Kept.refl _ _⟩

set_option maxHeartbeats 1000000 in
theorem read_short {w : World} {p : Nat} {S : BE} (h : Rd w p S) :
    Calls Tryd.prog 56 #[.pointer (some ⟨p, 0, none⟩), .func (.func 57) #[] #[]] w fun e w' => ∃ t, e = .returned (.int .u64 t) ∧ Hid (Rd w' p (stepR (numR 2) S)) ∧ Hid (Pl w' p (stepR (numR 2) S)) ∧ Hid (t = numX 2 S) ∧ Hid (Kept (fun k => k = p) w w') := by
  obtain ⟨⟨r, lr, cr, hb, hok⟩, hn, hl, hr⟩ := h
  obtain ⟨c0, c1, f0, f1⟩ := two_cells hb
  have hlt := block_lt hb
  have HB : Hid (w.heap[p]? = some (.cells #[.slice r lr cr, .int .i64 S.2] 71 (0, 0))) := hb
  have HN : Hid (Nrm S) := hn
  have HL : Hid (S.1.length ≤ 140737488351232) := hl
  have HR : Hid (Rng S.1) := hr
  have HOK : Hid (S.2 = 0 → IsB w r lr cr S.1 ∧ ∀ q, r = some q → 0 < lr → q.block < p) := hok
  clear hb hok hn hl hr
  by_cases hS : S.2 = 0
  · have HI : Hid (IsB w r lr cr S.1) := (HOK.out hS).1
    have HLOW : Hid (∀ q, r = some q → 0 < lr → q.block < p) := (HOK.out hS).2
    have HS : Hid (S.2 = 0) := hS
    have HSM : Hid (lr ≤ 140737488351232) := by show _ ≤ _; rw [← HI.out.1]; exact HL.out
    rw [hS] at c1
    clear hS HOK
    go_enter Tryd.func56, Tryd.ntmps56
    go_wp2_with fail
    refine (short_clo HI.out).mono ?_
    rintro e w1 ⟨r2, lr2, cr2, rfl, HBH, hB⟩
    obtain ⟨X, hX⟩ : ∃ X, X = numR 2 S.1 := ⟨_, rfl⟩
    rw [← hX]
    have HX : Hid (X = numR 2 S.1) := hX
    clear hX
    have HB1 : Hid (Below w.heap.size w w1) := hB
    have hb1 : w1.heap[p]? = some (.cells #[.slice r lr cr, .int .i64 S.2] 71 (0, 0)) := (hB.block p hlt).trans HB.out
    obtain ⟨d0, d1, g0, g1⟩ := two_cells hb1
    have HBK : Hid (w1.heap[p]? = some (.cells #[.slice r lr cr, .int .i64 S.2] 71 (0, 0))) := hb1
    have hlt1 := block_lt hb1
    clear hB hb1
    go_wp2_with fail
    go_ret
    have hrow := rd_row (numR 2) HL.out HR.out HS.out HBK.out (r2 := r2) (lr2 := lr2) (cr2 := cr2) (fun e => by
      obtain ⟨b, o, off, hr, hpos, hr2, hRow⟩ := HBH.out e
      exact ⟨b, off, hr2, HLOW.out _ hr hpos, hRow⟩)
    rw [← HX.out] at hrow
    refine ⟨_, rfl, hrow.1, hrow.2, ?_, rd_kept HB1.out _ _⟩
    show X.val = _
    rw [HX.out]
    unfold numX stepR
    rw [if_pos HS.out]
    unfold numR
    by_cases hl : S.1.length < 2
    · rw [if_pos hl, if_neg (by decide : ¬ (10 : Int) = 0), if_neg (by decide : ¬ (10 : Int) = 0)]
    · rw [if_neg hl, if_pos rfl, if_pos rfl]
  · have t : (S.2 == 0) = false := by simpa using hS
    have HE : Hid (stepR (numR 2) S = S) := step_err _ hS HN.out
    have HNE : Hid (S.2 ≠ 0) := hS
    clear hS
    go_enter Tryd.func56, Tryd.ntmps56
    go_wp2_with fail
    go_ret
    exact ⟨_, rfl, by rw [HE.out]; exact ⟨⟨r, lr, cr, HB.out, HOK.out⟩, HN.out, HL.out, HR.out⟩, by rw [HE.out]; exact fun h => absurd h HNE.out, by show _ = _; unfold numX; rw [HE.out]; exact (if_neg HNE.out).symm, Kept.refl _ _⟩

/-- The int that is read, or nought. -/
def int4X (S : BE) : Int := sgn (numX 4 S) 4

theorem step_int4 {S : BE} : stepR int4R S = stepR (numR 4) S := by
  rw [int4R, step_bind, step_pure _ (step_nrm _ _)]

theorem int4_val {S : BE} (h : (stepR int4R S).2 = 0) : int4X S = (int4R S.1).val := by
  rw [int4R, bind_val _ _ _ h]
  rw [step_int4] at h
  have h2 := (step_ok h).2.1
  unfold int4X numX pureR
  rw [if_pos h]
  simp only
  unfold numR at h2 ⊢
  split
  · rename_i hl; rw [if_pos hl] at h2; exact absurd h2 (by decide)
  · rfl

theorem int4X_bounds (S : BE) : -2147483648 ≤ int4X S ∧ int4X S ≤ 2147483647 := by
  unfold int4X sgn
  generalize numX 4 S = x
  simp only [show 8 * 4 - 1 = 31 from rfl, show 8 * 4 = 32 from rfl]
  split <;> omega

theorem int4X_err {S : BE} (h : (stepR int4R S).2 ≠ 0) : int4X S = 0 := by
  rw [step_int4] at h
  unfold int4X numX
  rw [if_neg h]
  decide

set_option maxHeartbeats 400000 in
theorem rnumber {w : World} {p : Nat} {S : BE} (h : Rd w p S) {t : Int} (ht : t = int4X S) :
    Calls Tryd.prog 46 #[.pointer (some ⟨p, 0, none⟩)] w fun e w' => e = .returned (.int .i64 t) ∧ Hid (Rd w' p (stepR int4R S)) ∧ Hid (Kept (fun k => k = p) w w') := by
  have H : Hid (Rd w p S) := h
  have HT : Hid (t = int4X S) := ht
  clear h ht
  go_enter Tryd.func46, Tryd.ntmps46
  go_wp2_with fail
  refine (read_int H.out).mono ?_
  rintro e w1 ⟨x, rfl, HR, HP, HX, HK⟩
  go_wp2_with fail
  refine (signed_yes x 4 _ (by omega) (by omega)).mono ?_
  rintro e w2 ⟨rfl, rfl⟩
  have HE : Hid (sgn x 4 = t) := by show _ = _; rw [HT.out, int4X, HX.out]
  rw [HE.out]
  go_wp2_with fail
  go_ret
  exact ⟨rfl, by rw [step_int4]; exact HR, HK⟩

theorem step_pure2 {α β : Type} (a : α) (p : Ps β) (S : BE) : stepR (pureR a) (stepR p S) = stepR p S := step_pure a (step_nrm _ _)
theorem step_fail {α : Type} (a : α) (e : Int) {S : BE} (hS : S.2 = 0) (he : e ≠ 0) : stepR (failR a e) S = ([], e) := by
  unfold stepR failR; simp [hS, he]
theorem step_failS {α β : Type} (a : α) (b : β) (e : Int) (S : BE) : stepR (failR a e) S = stepR (failR b e) S := rfl

/-- How many there are, as the program has it. -/
def manyX (S : BE) : Int := if (stepR manyR S).2 = 0 then (manyR S.1).val else 0

theorem many_neg {S : BE} (h : int4X S < 0) : stepR manyR S = stepR (failR (0 : Int) 11) (stepR int4R S) ∧ manyX S = 0 := by
  have h0 : (stepR int4R S).2 = 0 := by
    by_cases h1 : (stepR int4R S).2 = 0
    · exact h1
    · rw [int4X_err h1] at h; omega
  have e : stepR manyR S = stepR (failR (0 : Int) 11) (stepR int4R S) := by
    rw [manyR, step_bind, ← int4_val h0, if_pos h]
  refine ⟨e, ?_⟩
  unfold manyX
  rw [e, step_fail _ _ h0 (by decide), if_neg (by decide)]

theorem many_big {S : BE} (h : 4096 < int4X S) : stepR manyR S = stepR (failR (0 : Int) 12) (stepR int4R S) ∧ manyX S = 0 := by
  have h0 : (stepR int4R S).2 = 0 := by
    by_cases h1 : (stepR int4R S).2 = 0
    · exact h1
    · rw [int4X_err h1] at h; omega
  have e : stepR manyR S = stepR (failR (0 : Int) 12) (stepR int4R S) := by
    rw [manyR, step_bind, ← int4_val h0, if_neg (by omega), if_pos h]
  refine ⟨e, ?_⟩
  unfold manyX
  rw [e, step_fail _ _ h0 (by decide), if_neg (by decide)]

theorem many_mid {S : BE} (h : 0 ≤ int4X S) (h2 : int4X S ≤ 4096) : stepR manyR S = stepR int4R S ∧ manyX S = int4X S := by
  by_cases h0 : (stepR int4R S).2 = 0
  · have e : stepR manyR S = stepR int4R S := by
      rw [manyR, step_bind, ← int4_val h0, if_neg (by omega), if_neg (by omega), step_pure2]
    have hv : (manyR S.1).val = int4X S := by
      have := bind_val int4R (fun n => if n < 0 then failR 0 11 else if 4096 < n then failR 0 12 else pureR n) S (by rw [← manyR, e]; exact h0)
      rw [← manyR, ← int4_val h0, if_neg (by omega), if_neg (by omega)] at this
      exact this
    refine ⟨e, ?_⟩
    unfold manyX
    rw [e, if_pos h0, hv]
  · have e : stepR manyR S = stepR int4R S := by
      rw [manyR, step_bind, step_err _ h0 (step_nrm _ _)]
    refine ⟨e, ?_⟩
    unfold manyX
    rw [e, if_neg h0, int4X_err h0]

theorem manyX_bounds (S : BE) : 0 ≤ manyX S ∧ manyX S ≤ 4096 := by
  by_cases h1 : int4X S < 0
  · rw [(many_neg h1).2]; omega
  · by_cases h2 : 4096 < int4X S
    · rw [(many_big h2).2]; omega
    · rw [(many_mid (by omega) (by omega)).2]; omega

theorem many_val {S : BE} (h : (stepR manyR S).2 = 0) : manyX S = (manyR S.1).val := by unfold manyX; rw [if_pos h]

set_option maxHeartbeats 400000 in
theorem rmany {w : World} {p : Nat} {S : BE} (h : Rd w p S) {m : Int} (hm : m = manyX S) :
    Calls Tryd.prog 48 #[.pointer (some ⟨p, 0, none⟩)] w fun e w' => e = .returned (.int .i64 m) ∧ Hid (Rd w' p (stepR manyR S)) ∧ Hid (Kept (fun k => k = p) w w') := by
  obtain ⟨t, ht⟩ : ∃ t, t = int4X S := ⟨_, rfl⟩
  have hb := int4X_bounds S
  rw [← ht] at hb
  have H : Hid (Rd w p S) := h
  have HT : Hid (t = int4X S) := ht
  have HM : Hid (m = manyX S) := hm
  clear h ht hm
  by_cases h1 : t < 0
  · have HY : Hid _ := many_neg (S := S) (by rw [← HT.out]; exact h1)
    go_enter Tryd.func48, Tryd.ntmps48
    go_wp2_with fail
    refine (rnumber H.out HT.out).mono ?_
    rintro e w1 ⟨rfl, HR, HK⟩
    go_wp2_with fail
    refine (rfail HR.out 11 (by decide)).mono ?_
    rintro e w2 ⟨rfl, HR2, HK2⟩
    go_wp2_with fail
    go_ret
    refine ⟨by rw [HM.out, HY.out.2]; rfl, ?_, HK.out.trans HK2.out (fun _ _ e => e)⟩
    rw [HY.out.1]; exact HR2
  · by_cases h2 : 4096 < t
    · have HY : Hid _ := many_big (S := S) (by rw [← HT.out]; exact h2)
      go_enter Tryd.func48, Tryd.ntmps48
      go_wp2_with fail
      refine (rnumber H.out HT.out).mono ?_
      rintro e w1 ⟨rfl, HR, HK⟩
      go_wp2_with fail
      refine (rfail HR.out 12 (by decide)).mono ?_
      rintro e w2 ⟨rfl, HR2, HK2⟩
      go_wp2_with fail
      go_ret
      refine ⟨by rw [HM.out, HY.out.2]; rfl, ?_, HK.out.trans HK2.out (fun _ _ e => e)⟩
      rw [HY.out.1]; exact HR2
    · have HY : Hid _ := many_mid (S := S) (by rw [← HT.out]; omega) (by rw [← HT.out]; omega)
      go_enter Tryd.func48, Tryd.ntmps48
      go_wp2_with fail
      refine (rnumber H.out HT.out).mono ?_
      rintro e w1 ⟨rfl, HR, HK⟩
      go_wp2_with fail
      go_ret
      refine ⟨by rw [HM.out, HY.out.2, HT.out]; rfl, ?_, HK⟩
      rw [HY.out.1]; exact HR
end Go.Proofs.YtnapeecmlkkolaaDoor

namespace Go.Proofs.YtnapeecmlkkolaaDoor
open Go.RowKit
set_option maxRecDepth 100000
set_option linter.unusedVariables false
set_option linter.unusedSimpArgs false

theorem blk_set {w : World} {p : Nat} {cs : Array Value} {t : TypeId} (h : w.heap[p]? = some (.cells cs t (0, 0))) (j : Nat) (u : Value) : (w.setCell ⟨p, j, none⟩ u).heap[p]? = some (.cells (cs.setIfInBounds j u) t (0, 0)) := by
  have hlt := block_lt h
  have h' : w.heap[p] = .cells cs t (0, 0) := by simpa [Array.getElem?_eq_getElem hlt] using h
  show (w.heap.modify p _)[p]? = _
  rw [Array.getElem?_eq_getElem (by simpa using hlt), Array.getElem_modify_self, h']
  rfl
theorem blk_cell {w : World} {p : Nat} {cs : Array Value} {t : TypeId} (h : w.heap[p]? = some (.cells cs t (0, 0))) (j : Nat) : w.cell? ⟨p, j, none⟩ = cs[j]? := by
  simp [World.cell?, h]
theorem blk_frozen {w : World} {p : Nat} {cs : Array Value} {t : TypeId} (h : w.heap[p]? = some (.cells cs t (0, 0))) (j : Nat) : w.frozen? ⟨p, j, none⟩ = false := by
  simp [World.frozen?, h]
theorem blk5 {w : World} {p : Nat} {a b c d e : Value} {t : TypeId} (h : w.heap[p]? = some (.cells #[a, b, c, d, e] t (0, 0))) :
    (w.cell? ⟨p, 0, none⟩ = some a ∧ w.cell? ⟨p, 1, none⟩ = some b ∧ w.cell? ⟨p, 2, none⟩ = some c ∧ w.cell? ⟨p, 3, none⟩ = some d ∧ w.cell? ⟨p, 4, none⟩ = some e) ∧
    (w.frozen? ⟨p, 0, none⟩ = false ∧ w.frozen? ⟨p, 1, none⟩ = false ∧ w.frozen? ⟨p, 2, none⟩ = false ∧ w.frozen? ⟨p, 3, none⟩ = false ∧ w.frozen? ⟨p, 4, none⟩ = false) :=
  ⟨⟨blk_cell h 0, blk_cell h 1, blk_cell h 2, blk_cell h 3, blk_cell h 4⟩, ⟨blk_frozen h 0, blk_frozen h 1, blk_frozen h 2, blk_frozen h 3, blk_frozen h 4⟩⟩

theorem Tab.kept {w W : World} {K : Nat → Prop} (h : Tab w) (hK : Kept K w W) (h0 : ¬ K 0) : Tab W :=
  ⟨fun i hi => (hK.cell (p := ⟨0, i, none⟩) h.lt h0).trans (h.cell i hi), Nat.lt_of_lt_of_le h.lt hK.size⟩

/-- New blocks, and what they hold, stay while others are written. -/
theorem TyAt.apart {n : Nat} {F K : Nat → Prop} {w W : World} {t : Ty} {na : Option Addr} {nl nc : Nat} {ka : Option Addr} {kl kc : Nat} (h : TyAt n F w t na nl nc ka kl kc) (hK : Kept K w W) (hn : ∀ k, k < w.heap.size → F k → ¬ K k) : TyAt n F W t na nl nc ka kl kc :=
  h.mono (fun k hk hF => ⟨hF, hK.block k hk (hn k hk hF)⟩) hK.size

theorem head_bad {S : BE} (h : int4X S < 0 ∨ 7 < int4X S) : stepR headR S = stepR (failR (0 : Int) 21) (stepR int4R S) := by
  have h0 : (stepR int4R S).2 = 0 := by
    by_cases h1 : (stepR int4R S).2 = 0
    · exact h1
    · rw [int4X_err h1] at h; omega
  rw [headR, step_bind, ← int4_val h0, if_pos h]
  rfl

theorem head_ok {S : BE} (h : 0 ≤ int4X S) (h7 : int4X S ≤ 7) : stepR headR S = stepR manyR (stepR int4R S) ∧ ((stepR headR S).2 = 0 → (headR S.1).val = (int4X S, manyX (stepR int4R S))) := by
  by_cases h0 : (stepR int4R S).2 = 0
  · have hn : ¬ (int4X S < 0 ∨ 7 < int4X S) := by omega
    have e : stepR headR S = stepR manyR (stepR int4R S) := by
      rw [headR, step_bind, ← int4_val h0, if_neg hn, step_bind, step_pure2]
    refine ⟨e, fun hh => ?_⟩
    have h2 := hh
    rw [headR] at h2 ⊢
    rw [bind_val _ _ _ h2, ← int4_val h0, if_neg hn]
    have h3 : (stepR (bindR manyR fun n => pureR (int4X S, n)) (stepR int4R S)).2 = 0 := by
      rw [step_bind, step_pure2, ← e]; exact hh
    rw [bind_val _ _ _ h3]
    have h4 : (stepR manyR (stepR int4R S)).2 = 0 := by rw [← e]; exact hh
    rw [← many_val h4]
    rfl
  · have e : stepR headR S = stepR int4R S := by rw [headR, step_bind, step_err _ h0 (step_nrm _ _)]
    have e2 : stepR manyR (stepR int4R S) = stepR int4R S := step_err _ h0 (step_nrm _ _)
    exact ⟨by rw [e, e2], fun hh => absurd (by rw [← e]; exact hh) h0⟩

set_option maxHeartbeats 400000 in
theorem rhead {w : World} {p : Nat} {S : BE} (h : Rd w p S) :
    Calls Tryd.prog 22 #[.pointer (some ⟨p, 0, none⟩)] w fun e w' => ∃ f n, e = .returned (.tuple #[.int .i64 f, .int .i64 n]) ∧ Hid (Rd w' p (stepR headR S)) ∧ (0 ≤ n ∧ n ≤ 4096) ∧ Hid ((stepR headR S).2 = 0 → (f, n) = (headR S.1).val) ∧ Hid (Kept (fun k => k = p) w w') := by
  obtain ⟨t, ht⟩ : ∃ t, t = int4X S := ⟨_, rfl⟩
  have hb := int4X_bounds S
  rw [← ht] at hb
  have H : Hid (Rd w p S) := h
  have HT : Hid (t = int4X S) := ht
  clear h ht
  by_cases h1 : t < 0 ∨ 7 < t
  · have HY : Hid _ := head_bad (S := S) (by rw [← HT.out]; exact h1)
    by_cases h2 : t < 0
    · clear h1
      go_enter Tryd.func22, Tryd.ntmps22
      go_wp2_with fail
      refine (rnumber H.out HT.out).mono ?_
      rintro e w1 ⟨rfl, HR, HK⟩
      go_wp2_with fail
      refine (rfail HR.out 21 (by decide)).mono ?_
      rintro e w2 ⟨rfl, HR2, HK2⟩
      rw [← HY.out] at HR2
      obtain ⟨m, hm⟩ : ∃ m, m = manyX (stepR headR S) := ⟨_, rfl⟩
      have HM : Hid (m = manyX (stepR headR S)) := hm
      have hmb := manyX_bounds (stepR headR S)
      rw [← hm] at hmb
      clear hm
      go_wp2_with fail
      refine (rmany HR2.out HM.out).mono ?_
      rintro e w3 ⟨rfl, HR3, HK3⟩
      go_wp2_with fail
      go_ret2
      have he : (stepR headR S).2 ≠ 0 := by
        rw [HY.out]
        by_cases h0 : (stepR int4R S).2 = 0
        · rw [step_fail _ _ h0 (by decide)]; decide
        · rw [step_err _ h0 (step_nrm _ _)]; exact h0
      refine ⟨_, _, rfl, ?_, hmb, fun hh => absurd hh he, (HK.out.trans HK2.out (fun _ _ e => e)).trans HK3.out (fun _ _ e => e)⟩
      rw [step_err _ he (step_nrm _ _)] at HR3; exact HR3
    · have h3 : 7 < t := by omega
      clear h1
      go_enter Tryd.func22, Tryd.ntmps22
      go_wp2_with fail
      refine (rnumber H.out HT.out).mono ?_
      rintro e w1 ⟨rfl, HR, HK⟩
      go_wp2_with fail
      refine (rfail HR.out 21 (by decide)).mono ?_
      rintro e w2 ⟨rfl, HR2, HK2⟩
      rw [← HY.out] at HR2
      obtain ⟨m, hm⟩ : ∃ m, m = manyX (stepR headR S) := ⟨_, rfl⟩
      have HM : Hid (m = manyX (stepR headR S)) := hm
      have hmb := manyX_bounds (stepR headR S)
      rw [← hm] at hmb
      clear hm
      go_wp2_with fail
      refine (rmany HR2.out HM.out).mono ?_
      rintro e w3 ⟨rfl, HR3, HK3⟩
      go_wp2_with fail
      go_ret2
      have he : (stepR headR S).2 ≠ 0 := by
        rw [HY.out]
        by_cases h0 : (stepR int4R S).2 = 0
        · rw [step_fail _ _ h0 (by decide)]; decide
        · rw [step_err _ h0 (step_nrm _ _)]; exact h0
      refine ⟨_, _, rfl, ?_, hmb, fun hh => absurd hh he, (HK.out.trans HK2.out (fun _ _ e => e)).trans HK3.out (fun _ _ e => e)⟩
      rw [step_err _ he (step_nrm _ _)] at HR3; exact HR3
  · have HY : Hid _ := head_ok (S := S) (by rw [← HT.out]; omega) (by rw [← HT.out]; omega)
    have h2 : ¬ t < 0 := by omega
    have h3 : ¬ 7 < t := by omega
    clear h1
    go_enter Tryd.func22, Tryd.ntmps22
    go_wp2_with fail
    refine (rnumber H.out HT.out).mono ?_
    rintro e w1 ⟨rfl, HR, HK⟩
    obtain ⟨m, hm⟩ : ∃ m, m = manyX (stepR int4R S) := ⟨_, rfl⟩
    have HM : Hid (m = manyX (stepR int4R S)) := hm
    have hmb := manyX_bounds (stepR int4R S)
    rw [← hm] at hmb
    clear hm
    go_wp2_with fail
    refine (rmany HR.out HM.out).mono ?_
    rintro e w3 ⟨rfl, HR3, HK3⟩
    go_wp2_with fail
    go_ret2
    refine ⟨_, _, rfl, ?_, hmb, fun hh => ?_, HK.out.trans HK3.out (fun _ _ e => e)⟩
    · rw [HY.out.1]; exact HR3
    · rw [HY.out.2 hh, HT.out, HM.out]

set_option maxHeartbeats 2000000 in
theorem read_opt {w : World} {p : Nat} {S : BE} (h : Rd w p S) (hT : Tab w) :
    Calls Tryd.prog 72 #[.pointer (some ⟨p, 0, none⟩), .func (.func 73) #[] #[]] w fun e w' => ∃ (X : Ty) (na : Option Addr) (nl nc : Nat) (ka : Option Addr) (kl kc : Nat), e = .returned (.agg #[.int .u16 X.id, .string X.space, .string X.name, .slice na nl nc, .slice ka kl kc]) ∧ Hid (Rd w' p (stepR (tyR 20) S)) ∧ Hid (TyAt 19 (New w.heap.size w') w' X na nl nc ka kl kc) ∧
      Hid ((stepR (tyR 20) S).2 = 0 → X = (tyR 20 S.1).val) ∧ Hid (Kept (fun k => k = p) w w') := by
  obtain ⟨⟨r, lr, cr, hb, hok⟩, hn, hl, hr⟩ := h
  have hlt0 := block_lt hb
  obtain ⟨w0, hw0⟩ : ∃ w0, w0 = (w.alloc (.cells #[.int .u16 0, .string ⟨#[]⟩, .string ⟨#[]⟩, .slice none 0 0, .slice none 0 0] 62)).alloc (.cells #[.int .u16 0, .string ⟨#[]⟩, .string ⟨#[]⟩, .slice none 0 0, .slice none 0 0] 62) := ⟨_, rfl⟩
  have HW0 : Hid ((w.alloc (.cells #[.int .u16 0, .string ⟨#[]⟩, .string ⟨#[]⟩, .slice none 0 0, .slice none 0 0] 62)).alloc (.cells #[.int .u16 0, .string ⟨#[]⟩, .string ⟨#[]⟩, .slice none 0 0, .slice none 0 0] 62) = w0) := hw0.symm
  have hB0 : Below w.heap.size w w0 := by rw [hw0]; exact (below_one _ _).alloc (by simp) _
  have hq1 : w0.heap[w.heap.size]? = some (.cells #[.int .u16 0, .string ⟨#[]⟩, .string ⟨#[]⟩, .slice none 0 0, .slice none 0 0] 62 (0, 0)) := by
    rw [hw0]
    exact ((below_one (w.alloc (.cells #[.int .u16 0, .string ⟨#[]⟩, .string ⟨#[]⟩, .slice none 0 0, .slice none 0 0] 62)) _).block w.heap.size (by simp)).trans (heap_alloc_new w _)
  have hq2 : w0.heap[w.heap.size + 1]? = some (.cells #[.int .u16 0, .string ⟨#[]⟩, .string ⟨#[]⟩, .slice none 0 0, .slice none 0 0] 62 (0, 0)) := by
    rw [hw0]
    have := heap_alloc_new (w.alloc (.cells #[.int .u16 0, .string ⟨#[]⟩, .string ⟨#[]⟩, .slice none 0 0, .slice none 0 0] 62)) (.cells #[.int .u16 0, .string ⟨#[]⟩, .string ⟨#[]⟩, .slice none 0 0, .slice none 0 0] 62)
    simpa using this
  have hb0 : w0.heap[p]? = some (.cells #[.slice r lr cr, .int .i64 S.2] 71 (0, 0)) := (hB0.block p hlt0).trans hb
  obtain ⟨c0, c1, f0, f1⟩ := two_cells hb0
  obtain ⟨⟨a0, a1, a2, a3, a4⟩, af0, af1, af2, af3, af4⟩ := blk5 hq1
  obtain ⟨⟨b0, b1, b2, b3, b4⟩, bf0, bf1, bf2, bf3, bf4⟩ := blk5 hq2
  have hlt := block_lt hb0
  have hlta := block_lt hq1
  have hltb := block_lt hq2
  have HB : Hid (w0.heap[p]? = some (.cells #[.slice r lr cr, .int .i64 S.2] 71 (0, 0))) := hb0
  have HQ1 : Hid (w0.heap[w.heap.size]? = some (.cells #[.int .u16 0, .string ⟨#[]⟩, .string ⟨#[]⟩, .slice none 0 0, .slice none 0 0] 62 (0, 0))) := hq1
  have HQ2 : Hid (w0.heap[w.heap.size + 1]? = some (.cells #[.int .u16 0, .string ⟨#[]⟩, .string ⟨#[]⟩, .slice none 0 0, .slice none 0 0] 62 (0, 0))) := hq2
  have HB0 : Hid (Below w.heap.size w w0) := hB0
  have HT0 : Hid (Tab w0) := hT.old hB0
  have HN : Hid (Nrm S) := hn
  have HL : Hid (S.1.length ≤ 140737488351232) := hl
  have HR : Hid (Rng S.1) := hr
  have HOK : Hid (S.2 = 0 → IsB w r lr cr S.1 ∧ ∀ q, r = some q → 0 < lr → q.block < p) := hok
  obtain ⟨q, hq⟩ : ∃ q, q = w.heap.size := ⟨_, rfl⟩
  have HQE : Hid (q = w.heap.size) := hq
  rw [← hq] at a0 a1 a2 a3 a4 af0 af1 af2 af3 af4 b0 b1 b2 b3 b4 bf0 bf1 bf2 bf3 bf4 hlta hltb hlt0 HQ1 HQ2
  have HQW : Hid (w.heap.size = q) := hq.symm
  clear hb hok hn hl hr hb0 hq1 hq2 hw0 hB0 hq hT
  by_cases hS : S.2 = 0
  · have HI : Hid (IsB w r lr cr S.1) := (HOK.out hS).1
    have HLOW : Hid (∀ q, r = some q → 0 < lr → q.block < p) := (HOK.out hS).2
    have HS : Hid (S.2 = 0) := hS
    have HSM : Hid (lr ≤ 140737488351232) := by show _ ≤ _; rw [← HI.out.1]; exact HL.out
    obtain ⟨Y, hY⟩ : ∃ Y, Y = tyR 20 S.1 := ⟨_, rfl⟩
    have HY : Hid (Y = tyR 20 S.1) := hY
    rw [hS] at c1
    clear hS HOK hY
    go_enter Tryd.func72, Tryd.ntmps72
    go_upto_region 2 with fail
    rw [HW0.out]
    clear HW0
    (try rw [HQW.out])
    go_wp2_with fail
    refine (Get_any (HI.out.old HB0.out) HT0.out HSM.out HY.out).mono ?_
    rintro e w1 ⟨r2, lr2, cr2, na, nl, nc, ka, kl, kc, rfl, HX, HBH, hB⟩
    obtain ⟨X, hX⟩ : ∃ X, X = Y.val := ⟨_, rfl⟩
    obtain ⟨E, hE⟩ : ∃ E, E = Y.err := ⟨_, rfl⟩
    rw [← hX, ← hE]
    rw [← hX] at HX
    have HXE : Hid (X = Y.val) := hX
    have HEE : Hid (E = Y.err) := hE
    clear hX hE
    have hb1 : w1.heap[p]? = some (.cells #[.slice r lr cr, .int .i64 S.2] 71 (0, 0)) := (hB.block p hlt).trans HB.out
    obtain ⟨d0, d1, g0, g1⟩ := two_cells hb1
    have HBK : Hid (w1.heap[p]? = some (.cells #[.slice r lr cr, .int .i64 S.2] 71 (0, 0))) := hb1
    have hlt1 := block_lt hb1
    have hq1 : w1.heap[q]? = some (.cells #[.int .u16 0, .string ⟨#[]⟩, .string ⟨#[]⟩, .slice none 0 0, .slice none 0 0] 62 (0, 0)) := (hB.block _ hlta).trans HQ1.out
    have hq2 : w1.heap[q + 1]? = some (.cells #[.int .u16 0, .string ⟨#[]⟩, .string ⟨#[]⟩, .slice none 0 0, .slice none 0 0] 62 (0, 0)) := (hB.block _ hltb).trans HQ2.out
    obtain ⟨⟨a0, a1, a2, a3, a4⟩, af0, af1, af2, af3, af4⟩ := blk5 hq1
    obtain ⟨⟨b0, b1, b2, b3, b4⟩, bf0, bf1, bf2, bf3, bf4⟩ := blk5 hq2
    have hlta := block_lt hq1
    have hltb := block_lt hq2
    have hpq : p ≠ q := by omega
    have hpq1 : p ≠ q + 1 := by omega
    have hqp : q ≠ p := by omega
    have hqp1 : q + 1 ≠ p := by omega
    have HB1 : Hid (Below w0.heap.size w0 w1) := hB
    clear hB hb1
    go_wp2_with fail
    have hKA : Kept (fun k => k = q + 1) w1 (((((w1.setCell ⟨q + 1, 0, none⟩ (.int .u16 X.id)).setCell ⟨q + 1, 1, none⟩ (.string X.space)).setCell ⟨q + 1, 2, none⟩ (.string X.name)).setCell ⟨q + 1, 3, none⟩ (.slice na nl nc)).setCell ⟨q + 1, 4, none⟩ (.slice ka kl kc)) := (((((Kept.refl (fun k => k = q + 1) w1).setCell (p := ⟨q + 1, 0, none⟩) (fun _ => rfl) _).setCell (p := ⟨q + 1, 1, none⟩) (fun _ => rfl) _).setCell (p := ⟨q + 1, 2, none⟩) (fun _ => rfl) _).setCell (p := ⟨q + 1, 3, none⟩) (fun _ => rfl) _).setCell (p := ⟨q + 1, 4, none⟩) (fun _ => rfl) _
    generalize ((((w1.setCell ⟨q + 1, 0, none⟩ (.int .u16 X.id)).setCell ⟨q + 1, 1, none⟩ (.string X.space)).setCell ⟨q + 1, 2, none⟩ (.string X.name)).setCell ⟨q + 1, 3, none⟩ (.slice na nl nc)).setCell ⟨q + 1, 4, none⟩ (.slice ka kl kc) = wA at hKA ⊢
    have hbA : wA.heap[p]? = some (.cells #[.slice r lr cr, .int .i64 S.2] 71 (0, 0)) := (hKA.block p hlt1 hpq1).trans HBK.out
    have hBA : Behind wA r r2 lr2 cr2 S.1 (tyR 20 S.1).done (tyR 20 S.1).err := by
      rw [← HY.out]
      exact HBH.out.kept hKA (fun z hz hl e => by
        have h1 := HLOW.out z hz (by rw [← HI.out.1]; exact hl)
        omega)
    have hRB := rd_next (tyR 20) HN.out HL.out HR.out HS.out hbA HI.out HLOW.out hBA
    rw [← HY.out, ← HEE.out] at hRB
    have hKB : Kept (fun k => k = p) wA ((wA.setCell ⟨p, 0, none⟩ (.slice r2 lr2 cr2)).setCell ⟨p, 1, none⟩ (.int .i64 E)) := ((Kept.refl (fun k => k = p) wA).setCell (p := ⟨p, 0, none⟩) (fun _ => rfl) _).setCell (p := ⟨p, 1, none⟩) (fun _ => rfl) _
    generalize (wA.setCell ⟨p, 0, none⟩ (.slice r2 lr2 cr2)).setCell ⟨p, 1, none⟩ (.int .i64 E) = wB at hRB hKB ⊢
    have hqA : wA.heap[q]? = some (.cells #[.int .u16 0, .string ⟨#[]⟩, .string ⟨#[]⟩, .slice none 0 0, .slice none 0 0] 62 (0, 0)) := (hKA.block q hlta (by omega)).trans hq1
    have hqB : wB.heap[q]? = some (.cells #[.int .u16 0, .string ⟨#[]⟩, .string ⟨#[]⟩, .slice none 0 0, .slice none 0 0] 62 (0, 0)) := (hKB.block q (block_lt hqA) hqp).trans hqA
    have hKC : Kept (fun k => k = q) wB (((((wB.setCell ⟨q, 0, none⟩ (.int .u16 X.id)).setCell ⟨q, 1, none⟩ (.string X.space)).setCell ⟨q, 2, none⟩ (.string X.name)).setCell ⟨q, 3, none⟩ (.slice na nl nc)).setCell ⟨q, 4, none⟩ (.slice ka kl kc)) := (((((Kept.refl (fun k => k = q) wB).setCell (p := ⟨q, 0, none⟩) (fun _ => rfl) _).setCell (p := ⟨q, 1, none⟩) (fun _ => rfl) _).setCell (p := ⟨q, 2, none⟩) (fun _ => rfl) _).setCell (p := ⟨q, 3, none⟩) (fun _ => rfl) _).setCell (p := ⟨q, 4, none⟩) (fun _ => rfl) _
    have hqC : (((((wB.setCell ⟨q, 0, none⟩ (.int .u16 X.id)).setCell ⟨q, 1, none⟩ (.string X.space)).setCell ⟨q, 2, none⟩ (.string X.name)).setCell ⟨q, 3, none⟩ (.slice na nl nc)).setCell ⟨q, 4, none⟩ (.slice ka kl kc)).heap[q]? = some (.cells #[.int .u16 X.id, .string X.space, .string X.name, .slice na nl nc, .slice ka kl kc] 62 (0, 0)) := blk_set ((blk_set ((blk_set ((blk_set ((blk_set (hqB) 0 (.int .u16 X.id))) 1 (.string X.space))) 2 (.string X.name))) 3 (.slice na nl nc))) 4 (.slice ka kl kc)
    generalize ((((wB.setCell ⟨q, 0, none⟩ (.int .u16 X.id)).setCell ⟨q, 1, none⟩ (.string X.space)).setCell ⟨q, 2, none⟩ (.string X.name)).setCell ⟨q, 3, none⟩ (.slice na nl nc)).setCell ⟨q, 4, none⟩ (.slice ka kl kc) = wC at hKC hqC ⊢
    obtain ⟨⟨z0, z1, z2, z3, z4⟩, _⟩ := blk5 hqC
    have hsz : w0.heap.size ≤ w1.heap.size := HB1.out.size
    have hw0s : q + 1 < w0.heap.size := block_lt HQ2.out
    have hF1 : ∀ k, k < w1.heap.size → New w0.heap.size w1 k → ¬ k = q + 1 := fun k _ hk e => by have := hk.1; omega
    have hF2 : ∀ k, k < wA.heap.size → New w0.heap.size w1 k → ¬ k = p := fun k _ hk e => by have := hk.1; omega
    have hF3 : ∀ k, k < wB.heap.size → New w0.heap.size w1 k → ¬ k = q := fun k _ hk e => by have := hk.1; omega
    have hTC := ((HX.out.apart hKA hF1).apart hKB hF2).apart hKC hF3
    have hK1 : Kept (fun k => k = p) w w1 := kept_of (HB0.out.trans (HB1.out.mono HB0.out.size))
    have hKall : Kept (fun k => k = p) w wC := ((hK1.trans hKA (fun i hi e => by have := HQE.out; omega)).trans hKB (fun i hi e => e)).trans hKC (fun i hi e => by have := HQE.out; omega)
    have hsz2 : w1.heap.size ≤ wC.heap.size := by have := hKA.size; have := hKB.size; have := hKC.size; omega
    refine bodyPost_ret (v := .agg #[.int .u16 X.id, .string X.space, .string X.name, .slice na nl nc, .slice ka kl kc]) (by simp [results, Tryd.results72, go_sem, z0, z1, z2, z3, z4]) rfl ?_
    refine ⟨X, na, nl, nc, ka, kl, kc, rfl, ?_, ?_, fun _ => by rw [HXE.out, HY.out], hKall⟩
    · exact hRB.kept hKC (fun k hk e => by omega)
    · exact hTC.mono (fun k hk hF => ⟨⟨by have := hF.1; have := HQE.out; omega, hk⟩, rfl⟩) (Nat.le_refl _)
  · have t : (S.2 == 0) = false := by simpa using hS
    have HE : Hid (stepR (tyR 20) S = S) := step_err _ hS HN.out
    have HNE : Hid (S.2 ≠ 0) := hS
    clear hS
    go_enter Tryd.func72, Tryd.ntmps72
    go_upto_region 2 with fail
    rw [HW0.out]
    clear HW0
    (try rw [HQW.out])
    go_wp2_with fail
    have hKC : Kept (fun k => k = q) w0 (((((w0.setCell ⟨q, 0, none⟩ (.int .u16 0)).setCell ⟨q, 1, none⟩ (.string ⟨#[]⟩)).setCell ⟨q, 2, none⟩ (.string ⟨#[]⟩)).setCell ⟨q, 3, none⟩ (.slice none 0 0)).setCell ⟨q, 4, none⟩ (.slice none 0 0)) := (((((Kept.refl (fun k => k = q) w0).setCell (p := ⟨q, 0, none⟩) (fun _ => rfl) _).setCell (p := ⟨q, 1, none⟩) (fun _ => rfl) _).setCell (p := ⟨q, 2, none⟩) (fun _ => rfl) _).setCell (p := ⟨q, 3, none⟩) (fun _ => rfl) _).setCell (p := ⟨q, 4, none⟩) (fun _ => rfl) _
    have hqC : (((((w0.setCell ⟨q, 0, none⟩ (.int .u16 0)).setCell ⟨q, 1, none⟩ (.string ⟨#[]⟩)).setCell ⟨q, 2, none⟩ (.string ⟨#[]⟩)).setCell ⟨q, 3, none⟩ (.slice none 0 0)).setCell ⟨q, 4, none⟩ (.slice none 0 0)).heap[q]? = some (.cells #[.int .u16 0, .string ⟨#[]⟩, .string ⟨#[]⟩, .slice none 0 0, .slice none 0 0] 62 (0, 0)) := blk_set ((blk_set ((blk_set ((blk_set ((blk_set (HQ1.out) 0 (.int .u16 0))) 1 (.string ⟨#[]⟩))) 2 (.string ⟨#[]⟩))) 3 (.slice none 0 0))) 4 (.slice none 0 0)
    generalize ((((w0.setCell ⟨q, 0, none⟩ (.int .u16 0)).setCell ⟨q, 1, none⟩ (.string ⟨#[]⟩)).setCell ⟨q, 2, none⟩ (.string ⟨#[]⟩)).setCell ⟨q, 3, none⟩ (.slice none 0 0)).setCell ⟨q, 4, none⟩ (.slice none 0 0) = wC at hKC hqC ⊢
    obtain ⟨⟨z0, z1, z2, z3, z4⟩, _⟩ := blk5 hqC
    refine bodyPost_ret (v := .agg #[.int .u16 0, .string ⟨#[]⟩, .string ⟨#[]⟩, .slice none 0 0, .slice none 0 0]) (by simp [results, Tryd.results72, go_sem, z0, z1, z2, z3, z4]) rfl ?_
    refine ⟨tyNil, none, 0, 0, none, 0, 0, rfl, ?_, tyAt_nil _ _ _, fun h => absurd (by rw [HE.out] at h; exact h) HNE.out, (kept_of HB0.out).trans hKC (fun i hi e => by have := HQE.out; omega)⟩
    rw [HE.out]
    have hR : Rd w0 p S := ⟨⟨r, lr, cr, HB.out, fun e => absurd e HNE.out⟩, HN.out, HL.out, HR.out⟩
    exact hR.kept hKC (fun k hk e => by omega)

end Go.Proofs.YtnapeecmlkkolaaDoor

namespace Go.Proofs.YtnapeecmlkkolaaDoor
open Go.RowKit
set_option maxRecDepth 100000
set_option linter.unusedVariables false
set_option linter.unusedSimpArgs false

theorem Kept.wider {S S' : Nat → Prop} {w w' : World} (h : Kept S w w') (hs : ∀ k, S k → S' k) : Kept S' w w' := ⟨h.os, h.tape, h.output, h.size, fun k h1 h2 => h.block k h1 (fun e => h2 (hs k e))⟩

theorem loop_next {α : Type} {P : Ps α} {n k : Nat} {S R : BE} {acc L : List α} (h : stepR (loopR P (n - k)) S = R ∧ (R.2 = 0 → acc ++ (loopR P (n - k) S.1).val = L)) (hk : k < n) (he : (stepR P S).2 = 0) :
    stepR (loopR P (n - (k + 1))) (stepR P S) = R ∧ (R.2 = 0 → (acc ++ [(P S.1).val]) ++ (loopR P (n - (k + 1)) (stepR P S).1).val = L) := by
  rw [show n - k = (n - (k + 1)) + 1 by omega] at h
  obtain ⟨h1, h2⟩ := h
  have e : stepR (loopR P (n - (k + 1) + 1)) S = stepR (loopR P (n - (k + 1))) (stepR P S) := by rw [loopR, step_bind, step_bind, step_pure2]
  refine ⟨by rw [← e]; exact h1, fun hR => ?_⟩
  rw [← h2 hR]
  have h0 : (stepR (loopR P (n - (k + 1) + 1)) S).2 = 0 := by rw [h1]; exact hR
  rw [loopR] at h0 ⊢
  rw [bind_val _ _ _ h0]
  rw [step_bind] at h0
  rw [bind_val _ _ _ h0, List.append_assoc]
  rfl
theorem loop_halt {α : Type} {P : Ps α} {n k : Nat} {S R : BE} {acc L : List α} (h : stepR (loopR P (n - k)) S = R ∧ (R.2 = 0 → acc ++ (loopR P (n - k) S.1).val = L)) (hk : k < n) (he : (stepR P S).2 ≠ 0) : R = stepR P S := by
  rw [show n - k = (n - (k + 1)) + 1 by omega] at h
  rw [← h.1, loopR, step_bind, step_err _ he (step_nrm _ _)]
theorem loop_done {α : Type} {P : Ps α} {n k : Nat} {S R : BE} {acc L : List α} (hn : Nrm S) (h : stepR (loopR P (n - k)) S = R ∧ (R.2 = 0 → acc ++ (loopR P (n - k) S.1).val = L)) (hk : n ≤ k) : R = S ∧ (R.2 = 0 → acc = L) := by
  rw [show n - k = 0 by omega, loopR] at h
  refine ⟨by rw [← h.1, step_pure _ hn], fun hR => ?_⟩
  rw [← h.2 hR]; simp [pureR]

theorem strOf_size (zs : List Int) : (strOfNums zs).size = zs.length := strOfNums_size zs
theorem text_size (zs : List Int) : (textR zs).val.size ≤ zs.length := by
  unfold textR textA
  split
  · simp [strOf_size]
  · split
    · simp [strOf_size]
    · simp [strOf_size]; omega

theorem owner_val {S : BE} (h : (stepR ownerR S).2 = 0) : (ownerR S.1).val = ((textR S.1).val, (textR (stepR textR S).1).val) := by
  rw [ownerR] at h ⊢
  rw [bind_val _ _ _ h]
  rw [step_bind] at h
  rw [bind_val _ _ _ h]
  rfl
theorem owner_step (S : BE) : stepR ownerR S = stepR textR (stepR textR S) := by
  rw [ownerR, step_bind, step_bind, step_pure2]

theorem col_step (g : Bool) (o : ByteArray × ByteArray) (S : BE) : stepR (colR g o) S = stepR (tyR 20) (stepR textR (stepR (optR (!g) o ownerR) S)) := by
  rw [colR, step_bind, step_bind, step_bind, step_pure2]
theorem col_val {g : Bool} {o : ByteArray × ByteArray} {S : BE} (h : (stepR (colR g o) S).2 = 0) :
    (colR g o S.1).val = ((optR (!g) o ownerR S.1).val.1, (optR (!g) o ownerR S.1).val.2, (textR (stepR (optR (!g) o ownerR) S).1).val, (tyR 20 (stepR textR (stepR (optR (!g) o ownerR) S)).1).val) := by
  rw [colR] at h ⊢
  rw [bind_val _ _ _ h]
  rw [step_bind] at h
  rw [bind_val _ _ _ h]
  rw [step_bind] at h
  rw [bind_val _ _ _ h]
  rfl

theorem step_fine {α : Type} {P : Ps α} {S : BE} (h : (stepR P S).2 = 0) : S.2 = 0 := (step_ok h).1

theorem blk8 {w : World} {p : Nat} {a b c d e f g i : Value} {t : TypeId} (h : w.heap[p]? = some (.cells #[a, b, c, d, e, f, g, i] t (0, 0))) :
    (w.cell? ⟨p, 0, none⟩ = some a ∧ w.cell? ⟨p, 1, none⟩ = some b ∧ w.cell? ⟨p, 2, none⟩ = some c ∧ w.cell? ⟨p, 3, none⟩ = some d ∧ w.cell? ⟨p, 4, none⟩ = some e ∧ w.cell? ⟨p, 5, none⟩ = some f ∧ w.cell? ⟨p, 6, none⟩ = some g ∧ w.cell? ⟨p, 7, none⟩ = some i) ∧
    (w.frozen? ⟨p, 0, none⟩ = false ∧ w.frozen? ⟨p, 1, none⟩ = false ∧ w.frozen? ⟨p, 2, none⟩ = false ∧ w.frozen? ⟨p, 3, none⟩ = false ∧ w.frozen? ⟨p, 4, none⟩ = false ∧ w.frozen? ⟨p, 5, none⟩ = false ∧ w.frozen? ⟨p, 6, none⟩ = false ∧ w.frozen? ⟨p, 7, none⟩ = false) :=
  ⟨⟨blk_cell h 0, blk_cell h 1, blk_cell h 2, blk_cell h 3, blk_cell h 4, blk_cell h 5, blk_cell h 6, blk_cell h 7⟩, ⟨blk_frozen h 0, blk_frozen h 1, blk_frozen h 2, blk_frozen h 3, blk_frozen h 4, blk_frozen h 5, blk_frozen h 6, blk_frozen h 7⟩⟩

set_option maxHeartbeats 1000000 in
theorem rowner {w : World} {p : Nat} {S : BE} (h : Rd w p S) {q : Nat} (hpq : p < q) {a b : ByteArray} {c d e f g i : Value} (hq : w.heap[q]? = some (.cells #[.string a, .string b, c, d, e, f, g, i] 64 (0, 0))) :
    Calls Tryd.prog 69 #[.pointer (some ⟨p, 0, none⟩), .pointer (some ⟨q, 0, none⟩)] w fun r w' => r = .returned (.tuple #[]) ∧ ∃ s t, Hid (w'.heap[q]? = some (.cells #[.string s, .string t, c, d, e, f, g, i] 64 (0, 0))) ∧ Hid (Rd w' p (stepR ownerR S)) ∧ Hid ((stepR ownerR S).2 = 0 → (s, t) = (ownerR S.1).val) ∧ Hid (Kept (fun k => k = p ∨ k = q) w w') := by
  have H : Hid (Rd w p S) := h
  have HQ : Hid (w.heap[q]? = some (.cells #[.string a, .string b, c, d, e, f, g, i] 64 (0, 0))) := hq
  have hlp := h.lt
  have hlq := block_lt hq
  clear h hq
  go_enter Tryd.func69, Tryd.ntmps69
  go_wp2_with fail
  refine (read_text H.out).mono ?_
  rintro r w1 ⟨s, rfl, HR1, HS1, HK1⟩
  have hq1 : w1.heap[q]? = some (.cells #[.string a, .string b, c, d, e, f, g, i] 64 (0, 0)) := (HK1.out.block q hlq (by omega)).trans HQ.out
  obtain ⟨⟨k0, k1, _⟩, f0, f1, _⟩ := blk8 hq1
  have hl1 := block_lt hq1
  have HQ1 : Hid _ := hq1
  clear hq1
  go_wp2_with fail
  have hq2 : (w1.setCell ⟨q, 0, none⟩ (.string s)).heap[q]? = some (.cells #[.string s, .string b, c, d, e, f, g, i] 64 (0, 0)) := blk_set HQ1.out 0 (.string s)
  have HR2 : Hid (Rd (w1.setCell ⟨q, 0, none⟩ (.string s)) p (stepR textR S)) := HR1.out.kept (one_kept w1 q 0 (.string s)) (fun k hk e => by omega)
  have HK2 : Hid (Kept (fun k => k = p ∨ k = q) w (w1.setCell ⟨q, 0, none⟩ (.string s))) := (HK1.out.wider (fun k e => .inl e)).setCell (p := ⟨q, 0, none⟩) (fun _ => .inr rfl) _
  generalize w1.setCell ⟨q, 0, none⟩ (.string s) = w2 at hq2 HR2 HK2 ⊢
  have HQ2 : Hid _ := hq2
  have hl2 := block_lt hq2
  clear hq2 k0 k1 f0 f1 HQ1 HR1
  refine (read_text HR2.out).mono ?_
  rintro r w3 ⟨t, rfl, HR3, HS3, HK3⟩
  have hq3 : w3.heap[q]? = some (.cells #[.string s, .string b, c, d, e, f, g, i] 64 (0, 0)) := (HK3.out.block q hl2 (by omega)).trans HQ2.out
  obtain ⟨⟨k0, k1, _⟩, f0, f1, _⟩ := blk8 hq3
  have hl3 := block_lt hq3
  have HQ3 : Hid _ := hq3
  clear hq3
  go_wp2_with fail
  go_end0
  have hK : Kept (fun k => k = p ∨ k = q) w (w3.setCell ⟨q, 1, none⟩ (.string t)) := (HK2.out.trans HK3.out (fun i hi e => .inl e)).setCell (p := ⟨q, 1, none⟩) (fun _ => .inr rfl) _
  refine ⟨rfl, s, t, blk_set HQ3.out 1 (.string t), ?_, fun hh => ?_, hK⟩
  · rw [owner_step]; exact HR3.out.kept (one_kept w3 q 1 (.string t)) (fun k hk e => by omega)
  · rw [owner_val hh]
    rw [owner_step] at hh
    rw [HS1.out (step_fine hh), HS3.out hh]

end Go.Proofs.YtnapeecmlkkolaaDoor
