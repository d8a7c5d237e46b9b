/-
  A reader in memory; its methods fail and end; the generic function that reads a part, of texts and values.
-/
import Derived.Test.YtnapeecmlkkolaaDoorRdM
import Derived.Test.YtnapeecmlkkolaaDoorBackMath
import Derived.Laws.EntriesVeiled
namespace Go.Proofs.YtnapeecmlkkolaaDoor
open Go.RowKit
set_option maxRecDepth 100000
set_option linter.unusedVariables false
set_option linter.unusedSimpArgs false

/-- A reader in memory: its block p; without an error its slice has the bytes that are left, in an older block. -/
structure Rd (w : World) (p : Nat) (S : BE) : Prop where
  blk : ∃ r lr cr, w.heap[p]? = some (.cells #[.slice r lr cr, .int .i64 S.2] 71 (0, 0)) ∧ (S.2 = 0 → IsB w r lr cr S.1 ∧ ∀ q, r = some q → 0 < lr → q.block < p)
  nrm : Nrm S
  len : S.1.length ≤ 140737488351232
  rng : Rng S.1

theorem Rd.lt {w : World} {p : Nat} {S : BE} (h : Rd w p S) : p < w.heap.size := by
  obtain ⟨r, lr, cr, hb, _⟩ := h.blk
  exact block_lt hb

theorem Rd.new {w w' : World} {p : Nat} {S : BE} (h : Rd w p S) (hB : Below w.heap.size w w') : Rd w' p S := by
  obtain ⟨⟨r, lr, cr, hb, hok⟩, hn, hl, hr⟩ := h
  exact ⟨⟨r, lr, cr, (hB.block p (block_lt hb)).trans hb, fun e => ⟨(hok e).1.old hB, (hok e).2⟩⟩, hn, hl, hr⟩

/-- A block other than the reader's, or a new one, is written: the reader stays. -/
theorem Rd.kept {w w' : World} {p : Nat} {S : BE} {K : Nat → Prop} (h : Rd w p S) (hK : Kept K w w') (hp : ∀ k, k ≤ p → ¬ K k) : Rd w' p S := by
  obtain ⟨⟨r, lr, cr, hb, hok⟩, hn, hl, hr⟩ := h
  refine ⟨⟨r, lr, cr, (hK.block p (block_lt hb) (hp p (Nat.le_refl _))).trans hb, fun e => ⟨(hok e).1.kept hK (fun q hq hl => hp _ (Nat.le_of_lt ((hok e).2 q hq hl))), (hok e).2⟩⟩, hn, hl, hr⟩

theorem rng_drop {X : List Int} (h : Rng X) (k : Nat) : Rng (X.drop k) := range_drop h k

theorem step_len {α : Type} (P : Ps α) (S : BE) : (stepR P S).1.length ≤ S.1.length := by
  unfold stepR
  split
  · split
    · simp
    · simp
  · simp

theorem step_rng {α : Type} (P : Ps α) {S : BE} (h : Rng S.1) : Rng (stepR P S).1 := by
  unfold stepR
  split
  · split
    · exact rng_drop h _
    · exact rng_nil
  · exact rng_nil

/-- What a part that was read leaves: the two cells are written. -/
theorem rd_next {α : Type} {w w1 : World} {p : Nat} {S : BE} (P : Ps α) (hn : Nrm S) (hl : S.1.length ≤ 140737488351232) (hr : Rng S.1) (hS : S.2 = 0) {r : Option Addr} {lr cr : Nat} {x : Value} (hb : w1.heap[p]? = some (.cells #[.slice r lr cr, x] 71 (0, 0))) (hI : IsB w r lr cr S.1) (hlow : ∀ q, r = some q → 0 < lr → q.block < p)
    {r2 : Option Addr} {lr2 cr2 : Nat} (hB : Behind w1 r r2 lr2 cr2 S.1 (P S.1).done (P S.1).err) : Rd ((w1.setCell ⟨p, 0, none⟩ (.slice r2 lr2 cr2)).setCell ⟨p, 1, none⟩ (.int .i64 (P S.1).err)) p (stepR P S) := by
  have hblk := two_set1 (two_set0 hb (.slice r2 lr2 cr2)) (.int .i64 (P S.1).err)
  have he : (stepR P S).2 = (P S.1).err := by
    unfold stepR
    rw [if_pos hS]
    split
    · rename_i h; rw [h]
    · rfl
  refine ⟨⟨r2, lr2, cr2, by rw [he]; exact hblk, fun e => ?_⟩, step_nrm _ _, Nat.le_trans (step_len _ _) hl, step_rng _ hr⟩
  rw [he] at e
  rcases hB with ⟨h1, _⟩ | ⟨_, h2, h3, b, o, off, h4, h5, h6, h7⟩
  · exact absurd e h1
  · have hs : stepR P S = (S.1.drop (P S.1).done, 0) := by unfold stepR; rw [if_pos hS, if_pos e]
    have hbp : b < p := by
      have := hlow ⟨b, o, none⟩ h4 (by rw [← hI.1]; exact h3)
      exact this
    rw [hs, h5]
    refine ⟨((h7.set (by omega) _).set (by omega) _).isB, fun q hq _ => by cases hq; exact hbp⟩

theorem rd_kept {w w1 : World} {p : Nat} (hB : Below w.heap.size w w1) (u v : Value) : Kept (fun k => k = p) w ((w1.setCell ⟨p, 0, none⟩ u).setCell ⟨p, 1, none⟩ v) :=
  ((kept_of (S := fun k => k = p) hB).setCell (p := ⟨p, 0, none⟩) (fun _ => rfl) u).setCell (p := ⟨p, 1, none⟩) (fun _ => rfl) v

set_option maxHeartbeats 400000 in
theorem rfail {w : World} {p : Nat} {S : BE} (h : Rd w p S) (e : Int) (he : e ≠ 0) :
    Calls Tryd.prog 47 #[.pointer (some ⟨p, 0, none⟩), .int .i64 e] w fun r w' => r = .returned (.tuple #[]) ∧ Hid (Rd w' p (stepR (failR (0 : Int) e) S)) ∧ Hid (Kept (fun k => k = p) w w') := by
  obtain ⟨⟨r, lr, cr, hb, hok⟩, hn, hl, hr⟩ := h
  obtain ⟨c0, c1, f0, f1⟩ := two_cells hb
  have hlt := block_lt hb
  have HB : Hid (w.heap[p]? = some (.cells #[.slice r lr cr, .int .i64 S.2] 71 (0, 0))) := hb
  have HOK : Hid (S.2 = 0 → IsB w r lr cr S.1 ∧ ∀ q, r = some q → 0 < lr → q.block < p) := hok
  have HN : Hid (Nrm S) := hn
  have HL : Hid (S.1.length ≤ 140737488351232) := hl
  have HR : Hid (Rng S.1) := hr
  clear hb hok hn hl hr
  by_cases hS : S.2 = 0
  · have HE : Hid (stepR (failR (0 : Int) e) S = ([], e)) := by show _ = _; unfold stepR failR; simp [hS, he]
    have HNE : Hid (e ≠ 0) := he
    rw [hS] at c1
    clear hS he
    go_enter Tryd.func47, Tryd.ntmps47
    go_wp2
    go_end0
    refine ⟨rfl, ?_, one_kept _ _ _ _⟩
    rw [HE.out]
    exact ⟨⟨r, lr, cr, two_set1 HB.out _, fun e0 => absurd e0 HNE.out⟩, fun _ => rfl, by simp, rng_nil⟩
  · have t : (S.2 == 0) = false := by simpa using hS
    have HE : Hid (stepR (failR (0 : Int) e) S = S) := step_err _ hS HN.out
    clear hS
    go_enter Tryd.func47, Tryd.ntmps47
    go_wp2
    go_end0
    exact ⟨rfl, by rw [HE.out]; exact ⟨⟨r, lr, cr, HB.out, HOK.out⟩, HN.out, HL.out, HR.out⟩, Kept.refl _ _⟩

set_option maxHeartbeats 400000 in
/-- end. -/
theorem rend {w : World} {p : Nat} {S : BE} (h : Rd w p S) {E : Int} (hE : E = if S.2 = 0 then (if 0 < S.1.length then 23 else 0) else S.2) :
    Calls Tryd.prog 24 #[.pointer (some ⟨p, 0, none⟩)] w fun r w' => r = .returned (.tuple #[]) ∧ ∃ x, w'.heap[p]? = some (.cells #[x, .int .i64 E] 71 (0, 0)) ∧ Hid (Kept (fun k => k = p) w w') := by
  have H : Hid (Rd w p S) := h
  have HE : Hid (E = if S.2 = 0 then (if 0 < S.1.length then 23 else 0) else S.2) := hE
  obtain ⟨⟨r, lr, cr, hb, hok⟩, hn, hl, hr⟩ := h
  obtain ⟨c0, c1, f0, f1⟩ := two_cells hb
  have hlt := block_lt hb
  have HB : Hid (w.heap[p]? = some (.cells #[.slice r lr cr, .int .i64 S.2] 71 (0, 0))) := hb
  have HOK : Hid (S.2 = 0 → S.1.length = lr) := fun e => (hok e).1.1
  clear hb hok hn hl hr hE
  by_cases h0 : lr = 0
  · subst h0
    have HX : Hid (E = S.2) := by
      show _ = _
      rw [HE.out]
      split
      · rename_i h1
        rw [if_neg (by rw [HOK.out h1]; omega), h1]
      · rfl
    go_enter Tryd.func24, Tryd.ntmps24
    go_wp2_with fail
    go_end0
    exact ⟨rfl, .slice r 0 cr, by rw [HX.out]; exact HB.out, Kept.refl _ _⟩
  · have hp : 0 < lr := by omega
    have HX : Hid (E = (stepR (failR (0 : Int) 23) S).2) := by
      show _ = _
      rw [HE.out]
      unfold stepR failR
      split
      · rename_i h1
        rw [if_pos (by rw [HOK.out h1]; exact hp)]
        simp
      · rfl
    go_enter Tryd.func24, Tryd.ntmps24
    go_wp2_with fail
    refine (rfail H.out 23 (by decide)).mono ?_
    rintro r1 w1 ⟨rfl, HW1, HK1⟩
    obtain ⟨r2, lr2, cr2, hb2, _⟩ := HW1.out.blk
    have HB2 : Hid (w1.heap[p]? = some (.cells #[.slice r2 lr2 cr2, .int .i64 (stepR (failR (0 : Int) 23) S).2] 71 (0, 0))) := hb2
    clear hb2
    go_wp2_with fail
    go_end0
    exact ⟨rfl, _, by rw [HX.out]; exact HB2.out, HK1⟩

set_option maxHeartbeats 1000000 in
theorem read_text {w : World} {p : Nat} {S : BE} (h : Rd w p S) :
    Calls Tryd.prog 70 #[.pointer (some ⟨p, 0, none⟩), .func (.func 71) #[] #[]] w fun e w' => ∃ t, e = .returned (.string t) ∧ Hid (Rd w' p (stepR textR S)) ∧ Hid ((stepR textR S).2 = 0 → t = (textR S.1).val) ∧ Hid (Kept (fun k => k = p) w w') := by
  obtain ⟨⟨r, lr, cr, hb, hok⟩, hn, hl, hr⟩ := h
  obtain ⟨c0, c1, f0, f1⟩ := two_cells hb
  have hlt := block_lt hb
  have HB : Hid (w.heap[p]? = some (.cells #[.slice r lr cr, .int .i64 S.2] 71 (0, 0))) := hb
  have HN : Hid (Nrm S) := hn
  have HL : Hid (S.1.length ≤ 140737488351232) := hl
  have HR : Hid (Rng S.1) := hr
  have HOK : Hid (S.2 = 0 → IsB w r lr cr S.1 ∧ ∀ q, r = some q → 0 < lr → q.block < p) := hok
  clear hb hok hn hl hr
  by_cases hS : S.2 = 0
  · have HI : Hid (IsB w r lr cr S.1) := (HOK.out hS).1
    have HLOW : Hid (∀ q, r = some q → 0 < lr → q.block < p) := (HOK.out hS).2
    have HS : Hid (S.2 = 0) := hS
    have HSM : Hid (lr ≤ 140737488351232) := by show _ ≤ _; rw [← HI.out.1]; exact HL.out
    rw [hS] at c1
    clear hS HOK
    go_enter Tryd.func70, Tryd.ntmps70
    go_wp2_with fail
    refine (getText_any HI.out HSM.out).mono ?_
    rintro e w1 ⟨r2, lr2, cr2, rfl, HBH, hB⟩
    have HB1 : Hid (Below w.heap.size w w1) := hB
    have hb1 : w1.heap[p]? = some (.cells #[.slice r lr cr, .int .i64 S.2] 71 (0, 0)) := (hB.block p hlt).trans HB.out
    obtain ⟨d0, d1, g0, g1⟩ := two_cells hb1
    have HBK : Hid (w1.heap[p]? = some (.cells #[.slice r lr cr, .int .i64 S.2] 71 (0, 0))) := hb1
    have hlt1 := block_lt hb1
    clear hB hb1
    go_wp2_with fail
    go_ret
    exact ⟨_, rfl, rd_next textR HN.out HL.out HR.out HS.out HBK.out HI.out HLOW.out HBH.out, fun _ => rfl, rd_kept HB1.out _ _⟩
  · have t : (S.2 == 0) = false := by simpa using hS
    have HE : Hid (stepR textR S = S) := step_err _ hS HN.out
    have HNE : Hid (S.2 ≠ 0) := hS
    clear hS
    go_enter Tryd.func70, Tryd.ntmps70
    go_wp2_with fail
    go_ret
    exact ⟨_, rfl, by rw [HE.out]; exact ⟨⟨r, lr, cr, HB.out, HOK.out⟩, HN.out, HL.out, HR.out⟩, fun h => absurd (by rw [HE.out] at h; exact h) HNE.out, Kept.refl _ _⟩

theorem set_far (w : World) (p j : Nat) (v : Value) : ∀ k, k < w.heap.size → some k ≠ some p → (w.setCell ⟨p, j, none⟩ v).heap[k]? = w.heap[k]? := by
  intro k hk hne
  rw [Below.heap_setCell _ _ _ _ (by simpa using hne)]

theorem Behind.kept {S : Nat → Prop} {w W : World} {a r : Option Addr} {lr cr : Nat} {zs : List Int} {d : Nat} {er : Int} (h : Behind w a r lr cr zs d er) (hK : Kept S w W) (hn : ∀ q, a = some q → 0 < zs.length → ¬ S q.block) : Behind W a r lr cr zs d er := by
  rcases h with h | ⟨h1, h2, h3, b, o, off, h0, h4, h5, h6⟩
  · exact .inl h
  · refine .inr ⟨h1, h2, h3, b, o, off, h0, h4, Nat.lt_of_lt_of_le h5 hK.size, h6.len_eq, h6.le, h6.cap_le, fun _ => Nat.lt_of_lt_of_le h5 hK.size, fun i hi => ?_, h6.rng⟩
    exact (hK.cell (p := ⟨b, off + i, none⟩) h5 (hn ⟨b, o, none⟩ h0 h3)).trans (h6.cell i hi)

set_option maxHeartbeats 1000000 in
theorem read_value {w : World} {p : Nat} {S : BE} (h : Rd w p S) :
    Calls Tryd.prog 43 #[.pointer (some ⟨p, 0, none⟩), .func (.func 44) #[] #[]] w fun e w' => ∃ (V : Vl) (x : Option Addr) (lx cx : Nat), e = .returned (.agg #[.int .i64 V.1, .slice x lx cx]) ∧ Hid (Rd w' p (stepR valueR S)) ∧ Hid (IsB w' x lx cx (sNums V.2)) ∧ Fresh w.heap.size w' x ∧
      Hid ((stepR valueR S).2 = 0 → V = (valueR S.1).val) ∧ Hid (Kept (fun k => k = p) w w') := by
  obtain ⟨⟨r, lr, cr, hb, hok⟩, hn, hl, hr⟩ := h
  have hlt0 := block_lt hb
  obtain ⟨w0, hw0⟩ : ∃ w0, w0 = (w.alloc (.cells #[.int .i64 0, .slice none 0 0] 26)).alloc (.cells #[.int .i64 0, .slice none 0 0] 26) := ⟨_, rfl⟩
  have HW0 : Hid ((w.alloc (.cells #[.int .i64 0, .slice none 0 0] 26)).alloc (.cells #[.int .i64 0, .slice none 0 0] 26) = w0) := hw0.symm
  have hB0 : Below w.heap.size w w0 := by rw [hw0]; exact (below_one _ _).alloc (by simp) _
  have hq1 : w0.heap[w.heap.size]? = some (.cells #[.int .i64 0, .slice none 0 0] 26 (0, 0)) := by
    rw [hw0]
    exact ((below_one (w.alloc (.cells #[.int .i64 0, .slice none 0 0] 26)) _).block w.heap.size (by simp)).trans (heap_alloc_new w _)
  have hq2 : w0.heap[w.heap.size + 1]? = some (.cells #[.int .i64 0, .slice none 0 0] 26 (0, 0)) := by
    rw [hw0]
    have := heap_alloc_new (w.alloc (.cells #[.int .i64 0, .slice none 0 0] 26)) (.cells #[.int .i64 0, .slice none 0 0] 26)
    simpa using this
  have hb0 : w0.heap[p]? = some (.cells #[.slice r lr cr, .int .i64 S.2] 71 (0, 0)) := (hB0.block p hlt0).trans hb
  obtain ⟨c0, c1, f0, f1⟩ := two_cells hb0
  obtain ⟨a0, a1, af0, af1⟩ := two_cells hq1
  obtain ⟨b0, b1, bf0, bf1⟩ := two_cells hq2
  have hlt := block_lt hb0
  have hlta := block_lt hq1
  have hltb := block_lt hq2
  have HB : Hid (w0.heap[p]? = some (.cells #[.slice r lr cr, .int .i64 S.2] 71 (0, 0))) := hb0
  have HQ1 : Hid (w0.heap[w.heap.size]? = some (.cells #[.int .i64 0, .slice none 0 0] 26 (0, 0))) := hq1
  have HQ2 : Hid (w0.heap[w.heap.size + 1]? = some (.cells #[.int .i64 0, .slice none 0 0] 26 (0, 0))) := hq2
  have HB0 : Hid (Below w.heap.size w w0) := hB0
  have HN : Hid (Nrm S) := hn
  have HL : Hid (S.1.length ≤ 140737488351232) := hl
  have HR : Hid (Rng S.1) := hr
  have HOK : Hid (S.2 = 0 → IsB w r lr cr S.1 ∧ ∀ q, r = some q → 0 < lr → q.block < p) := hok
  obtain ⟨q, hq⟩ : ∃ q, q = w.heap.size := ⟨_, rfl⟩
  have HQE : Hid (q = w.heap.size) := hq
  rw [← hq] at a0 a1 af0 af1 b0 b1 bf0 bf1 hlta hltb hlt0 HQ1 HQ2
  have HQW : Hid (w.heap.size = q) := hq.symm
  clear hb hok hn hl hr hb0 hq1 hq2 hw0 hB0 hq
  by_cases hS : S.2 = 0
  · have HI : Hid (IsB w r lr cr S.1) := (HOK.out hS).1
    have HLOW : Hid (∀ q, r = some q → 0 < lr → q.block < p) := (HOK.out hS).2
    have HS : Hid (S.2 = 0) := hS
    have HSM : Hid (lr ≤ 140737488351232) := by show _ ≤ _; rw [← HI.out.1]; exact HL.out
    rw [hS] at c1
    clear hS HOK
    go_enter Tryd.func43, Tryd.ntmps43
    go_upto_region 2 with fail
    rw [HW0.out]
    clear HW0
    (try rw [HQW.out])
    go_wp2_with fail
    refine (getValue_any (HI.out.old HB0.out) HSM.out).mono ?_
    rintro e w1 ⟨r2, lr2, cr2, x, lx, cx, rfl, HX, hF, HBH, hB⟩
    have hb1 : w1.heap[p]? = some (.cells #[.slice r lr cr, .int .i64 S.2] 71 (0, 0)) := (hB.block p hlt).trans HB.out
    obtain ⟨d0, d1, g0, g1⟩ := two_cells hb1
    have HBK : Hid (w1.heap[p]? = some (.cells #[.slice r lr cr, .int .i64 S.2] 71 (0, 0))) := hb1
    have hlt1 := block_lt hb1
    have hq1 : w1.heap[q]? = some (.cells #[.int .i64 0, .slice none 0 0] 26 (0, 0)) := (hB.block _ hlta).trans HQ1.out
    have hq2 : w1.heap[q + 1]? = some (.cells #[.int .i64 0, .slice none 0 0] 26 (0, 0)) := (hB.block _ hltb).trans HQ2.out
    obtain ⟨a0, a1, af0, af1⟩ := two_cells hq1
    obtain ⟨b0, b1, bf0, bf1⟩ := two_cells hq2
    have hlta := block_lt hq1
    have hltb := block_lt hq2
    have hpq : p ≠ q := by omega
    have hpq1 : p ≠ q + 1 := by omega
    have hqp : q ≠ p := by omega
    have hqp1 : q + 1 ≠ p := by omega
    have HB1 : Hid (Below w0.heap.size w0 w1) := hB
    clear hB hb1
    go_wp2_with fail
    have hKA : Kept (fun k => k = q + 1) w1 ((w1.setCell ⟨q + 1, 0, none⟩ (.int .i64 (valueA S.1).kind)).setCell ⟨q + 1, 1, none⟩ (.slice x lx cx)) := ((Kept.refl (fun k => k = q + 1) w1).setCell (p := ⟨q + 1, 0, none⟩) (fun _ => rfl) _).setCell (p := ⟨q + 1, 1, none⟩) (fun _ => rfl) _
    generalize (w1.setCell ⟨q + 1, 0, none⟩ (.int .i64 (valueA S.1).kind)).setCell ⟨q + 1, 1, none⟩ (.slice x lx cx) = wA at hKA ⊢
    have hbA : wA.heap[p]? = some (.cells #[.slice r lr cr, .int .i64 S.2] 71 (0, 0)) := (hKA.block p hlt1 hpq1).trans HBK.out
    have hBA : Behind wA r r2 lr2 cr2 S.1 (valueR S.1).done (valueR S.1).err := HBH.out.kept hKA (fun z hz hl e => by
      have h1 := HLOW.out z hz (by rw [← HI.out.1]; exact hl)
      omega)
    have hRB := rd_next valueR HN.out HL.out HR.out HS.out hbA HI.out HLOW.out hBA
    have hKB : Kept (fun k => k = p) wA ((wA.setCell ⟨p, 0, none⟩ (.slice r2 lr2 cr2)).setCell ⟨p, 1, none⟩ (.int .i64 (valueR S.1).err)) := ((Kept.refl (fun k => k = p) wA).setCell (p := ⟨p, 0, none⟩) (fun _ => rfl) _).setCell (p := ⟨p, 1, none⟩) (fun _ => rfl) _
    have eE : (valueR S.1).err = (valueA S.1).err := rfl
    rw [eE] at hRB hKB
    generalize (wA.setCell ⟨p, 0, none⟩ (.slice r2 lr2 cr2)).setCell ⟨p, 1, none⟩ (.int .i64 (valueA S.1).err) = wB at hRB hKB ⊢
    have hqA : wA.heap[q]? = some (.cells #[.int .i64 0, .slice none 0 0] 26 (0, 0)) := (hKA.block q hlta (by omega)).trans hq1
    have hqB : wB.heap[q]? = some (.cells #[.int .i64 0, .slice none 0 0] 26 (0, 0)) := (hKB.block q (block_lt hqA) hqp).trans hqA
    have hKC : Kept (fun k => k = q) wB ((wB.setCell ⟨q, 0, none⟩ (.int .i64 (valueA S.1).kind)).setCell ⟨q, 1, none⟩ (.slice x lx cx)) := ((Kept.refl (fun k => k = q) wB).setCell (p := ⟨q, 0, none⟩) (fun _ => rfl) _).setCell (p := ⟨q, 1, none⟩) (fun _ => rfl) _
    have hqC := two_set1 (two_set0 hqB (.int .i64 (valueA S.1).kind)) (.slice x lx cx)
    generalize (wB.setCell ⟨q, 0, none⟩ (.int .i64 (valueA S.1).kind)).setCell ⟨q, 1, none⟩ (.slice x lx cx) = wC at hKC hqC ⊢
    obtain ⟨z0, z1, _, _⟩ := two_cells hqC
    have hFx : ∀ z, x = some z → 0 < lx → z.block ≠ q + 1 ∧ z.block ≠ p ∧ z.block ≠ q := fun z hz _ => by
      have h1 := (hF z hz).1
      have h2 := hltb
      have h3 := (HB1.out.size)
      have hw0s : q + 1 < w0.heap.size := block_lt HQ2.out
      omega
    have hIA := HX.out.kept hKA (fun z hz hl e => (hFx z hz hl).1 e)
    have hIB := hIA.kept hKB (fun z hz hl e => (hFx z hz hl).2.1 e)
    have hIC := hIB.kept hKC (fun z hz hl e => (hFx z hz hl).2.2 e)
    have hK1 : Kept (fun k => k = p) w w1 := kept_of (HB0.out.trans (HB1.out.mono HB0.out.size))
    have hKall : Kept (fun k => k = p) w wC := ((hK1.trans hKA (fun i hi e => by have := HQE.out; omega)).trans hKB (fun i hi e => e)).trans hKC (fun i hi e => by have := HQE.out; omega)
    refine bodyPost_ret (v := .agg #[.int .i64 (valueA S.1).kind, .slice x lx cx]) (by simp [results, Tryd.results43, go_sem, z0, z1]) rfl ?_
    refine ⟨((valueA S.1).kind, strOfNums (valueA S.1).bytes), x, lx, cx, rfl, hRB.kept hKC (fun k hk e => by omega), ?_, fun z hz => ?_, fun _ => rfl, hKall⟩
    · show IsB _ _ _ _ _
      rw [sNums_strOfNums HX.out.range]
      exact hIC
    · have h1 := hF z hz
      have h2 := HB0.out.size
      have h3 := hKA.size
      have h4 := hKB.size
      have h5 := hKC.size
      omega
  · have t : (S.2 == 0) = false := by simpa using hS
    have HE : Hid (stepR valueR S = S) := step_err _ hS HN.out
    have HNE : Hid (S.2 ≠ 0) := hS
    clear hS
    go_enter Tryd.func43, Tryd.ntmps43
    go_upto_region 2 with fail
    rw [HW0.out]
    clear HW0
    (try rw [HQW.out])
    go_wp2_with fail
    have hKC : Kept (fun k => k = q) w0 ((w0.setCell ⟨q, 0, none⟩ (.int .i64 0)).setCell ⟨q, 1, none⟩ (.slice none 0 0)) := ((Kept.refl (fun k => k = q) w0).setCell (p := ⟨q, 0, none⟩) (fun _ => rfl) _).setCell (p := ⟨q, 1, none⟩) (fun _ => rfl) _
    have hqC := two_set1 (two_set0 HQ1.out (.int .i64 0)) (.slice none 0 0)
    generalize (w0.setCell ⟨q, 0, none⟩ (.int .i64 0)).setCell ⟨q, 1, none⟩ (.slice none 0 0) = wC at hKC hqC ⊢
    obtain ⟨z0, z1, _, _⟩ := two_cells hqC
    refine bodyPost_ret (v := .agg #[.int .i64 0, .slice none 0 0]) (by simp [results, Tryd.results43, go_sem, z0, z1]) rfl ?_
    refine ⟨(0, ByteArray.empty), none, 0, 0, rfl, ?_, isB_nil _, Fresh.none, fun h => absurd (by rw [HE.out] at h; exact h) HNE.out, (kept_of HB0.out).trans hKC (fun i hi e => by have := HQE.out; omega)⟩
    rw [HE.out]
    have hR : Rd w0 p S := ⟨⟨r, lr, cr, HB.out, fun e => absurd e HNE.out⟩, HN.out, HL.out, HR.out⟩
    exact hR.kept hKC (fun k hk e => by omega)

/-- The number that is read, or nought. -/
def numX (n : Nat) (S : BE) : Int := if (stepR (numR n) S).2 = 0 then numTo S.1 n else 0

/-- Without an error the reader's slice has a place that is known. -/
def Pl (w : World) (p : Nat) (S : BE) : Prop := S.2 = 0 → ∃ b off lr cr, w.heap[p]? = some (.cells #[.slice (some ⟨b, off, none⟩) lr cr, .int .i64 S.2] 71 (0, 0)) ∧ BRow w b off lr cr S.1 ∧ b < p

theorem rd_row {α : Type} {w1 : World} {p : Nat} {S : BE} (P : Ps α) (hl : S.1.length ≤ 140737488351232) (hr : Rng S.1) (hS : S.2 = 0) {x0 x : Value} (hb : w1.heap[p]? = some (.cells #[x0, x] 71 (0, 0)))
    {r2 : Option Addr} {lr2 cr2 : Nat} (hB : (P S.1).err = 0 → ∃ b off, r2 = some ⟨b, off, none⟩ ∧ b < p ∧ BRow w1 b off lr2 cr2 (S.1.drop (P S.1).done)) :
    Rd ((w1.setCell ⟨p, 0, none⟩ (.slice r2 lr2 cr2)).setCell ⟨p, 1, none⟩ (.int .i64 (P S.1).err)) p (stepR P S) ∧ Pl ((w1.setCell ⟨p, 0, none⟩ (.slice r2 lr2 cr2)).setCell ⟨p, 1, none⟩ (.int .i64 (P S.1).err)) p (stepR P S) := by
  have hblk := two_set1 (two_set0 hb (.slice r2 lr2 cr2)) (.int .i64 (P S.1).err)
  have he : (stepR P S).2 = (P S.1).err := by
    unfold stepR
    rw [if_pos hS]
    split
    · rename_i h; rw [h]
    · rfl
  have key : (stepR P S).2 = 0 → ∃ b off, r2 = some ⟨b, off, none⟩ ∧ b < p ∧ BRow ((w1.setCell ⟨p, 0, none⟩ (.slice r2 lr2 cr2)).setCell ⟨p, 1, none⟩ (.int .i64 (P S.1).err)) b off lr2 cr2 (stepR P S).1 := by
    intro e
    rw [he] at e
    obtain ⟨b, off, h5, hbp, h7⟩ := hB e
    have hs : stepR P S = (S.1.drop (P S.1).done, 0) := by unfold stepR; rw [if_pos hS, if_pos e]
    exact ⟨b, off, h5, hbp, by rw [hs]; exact (h7.set (by omega) _).set (by omega) _⟩
  refine ⟨⟨⟨r2, lr2, cr2, by rw [he]; exact hblk, fun e => ?_⟩, step_nrm _ _, Nat.le_trans (step_len _ _) hl, step_rng _ hr⟩, fun e => ?_⟩
  · obtain ⟨b, off, rfl, hbp, hR⟩ := key e
    exact ⟨hR.isB, fun q hq _ => by cases hq; exact hbp⟩
  · obtain ⟨b, off, rfl, hbp, hR⟩ := key e
    exact ⟨b, off, lr2, cr2, by rw [he]; exact hblk, hR, hbp⟩
end Go.Proofs.YtnapeecmlkkolaaDoor
