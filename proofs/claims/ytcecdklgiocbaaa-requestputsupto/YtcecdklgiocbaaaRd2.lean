/-
  The generic function that reads a part, of values and of consistencies.
-/
import Derived.Test.YtcecdklgiocbaaaRd1
namespace Go.Proofs.Ytcecdklgiocbaaa
open Go.RowKit
set_option maxRecDepth 100000
set_option linter.unusedVariables false
set_option linter.unusedSimpArgs false

theorem sNums_strOfNums {zs : List Int} (h : ∀ j : Nat, 0 ≤ zs[j]?.getD 0 ∧ zs[j]?.getD 0 ≤ 255) : sNums (strOfNums zs) = zs := by
  apply List.ext_getElem?
  intro j
  by_cases hj : j < zs.length
  · have hh := h j
    rw [List.getElem?_eq_getElem hj, Option.getD_some] at hh
    simp only [sNums, strOfNums]
    simp [hj]
    omega
  · rw [List.getElem?_eq_none (by rw [sNums_length, strOfNums_size]; omega), List.getElem?_eq_none (by omega)]

theorem Behind.kept {S : Nat → Prop} {w W : World} {a r : Option Addr} {lr cr : Nat} {zs : List Int} {d : Nat} {er : Int} (h : Behind w a r lr cr zs d er) (hK : Kept S w W) (hn : ∀ q, a = some q → 0 < zs.length → ¬ S q.block) : Behind W a r lr cr zs d er := by
  rcases h with h | ⟨h1, h2, h3, b, o, off, h0, h4, h5, h6⟩
  · exact .inl h
  · refine .inr ⟨h1, h2, h3, b, o, off, h0, h4, Nat.lt_of_lt_of_le h5 hK.size, h6.len_eq, h6.le, h6.cap_le, fun _ => Nat.lt_of_lt_of_le h5 hK.size, fun i hi => ?_, h6.rng⟩
    exact (hK.cell (p := ⟨b, off + i, none⟩) h5 (hn ⟨b, o, none⟩ h0 h3)).trans (h6.cell i hi)

theorem check_short (bad : Int → Bool) (e : Int) (n : Nat) (zs : List Int) (h : zs.length < n) : checkR bad e (numR n) zs = ⟨0, 0, 10⟩ := by
  unfold checkR bindR numR
  simp [h]
theorem check_num (bad : Int → Bool) (e : Int) (he : e ≠ 0) (n : Nat) (zs : List Int) (h : ¬ zs.length < n) : checkR bad e (numR n) zs = if bad (numTo zs n) then ⟨0, 0, e⟩ else ⟨numTo zs n, n, 0⟩ := by
  unfold checkR bindR numR
  by_cases hb : bad (numTo zs n) = true
  · simp [h, hb, failR, he]
  · simp [h, hb, pureR]

set_option maxHeartbeats 1000000 in
theorem read_value {w : World} {p : Nat} {S : BE} (h : Rd w p S) :
    Calls Try.prog 44 #[.pointer (some ⟨p, 0, none⟩), .func (.func 45) #[] #[]] w fun e w' => ∃ (V : Vl) (x : Option Addr) (lx cx : Nat), e = .returned (.agg #[.int .i64 V.1, .slice x lx cx]) ∧ Hid (Rd w' p (stepR valueR S)) ∧ Hid (IsB w' x lx cx (sNums V.2)) ∧ Fresh w.heap.size w' x ∧
      Hid ((stepR valueR S).2 = 0 → V = (valueR S.1).val) ∧ Hid (Kept (fun k => k = p) w w') := by
  obtain ⟨⟨r, lr, cr, hb, hok⟩, hn, hl, hr⟩ := h
  have hlt0 := block_lt hb
  obtain ⟨w0, hw0⟩ : ∃ w0, w0 = (w.alloc (.cells #[.int .i64 0, .slice none 0 0] 28)).alloc (.cells #[.int .i64 0, .slice none 0 0] 28) := ⟨_, rfl⟩
  have HW0 : Hid ((w.alloc (.cells #[.int .i64 0, .slice none 0 0] 28)).alloc (.cells #[.int .i64 0, .slice none 0 0] 28) = w0) := hw0.symm
  have hB0 : Below w.heap.size w w0 := by rw [hw0]; exact (below_one _ _).alloc (by simp) _
  have hq1 : w0.heap[w.heap.size]? = some (.cells #[.int .i64 0, .slice none 0 0] 28 (0, 0)) := by
    rw [hw0]
    exact ((below_one (w.alloc (.cells #[.int .i64 0, .slice none 0 0] 28)) _).block w.heap.size (by simp)).trans (heap_alloc_new w _)
  have hq2 : w0.heap[w.heap.size + 1]? = some (.cells #[.int .i64 0, .slice none 0 0] 28 (0, 0)) := by
    rw [hw0]
    have := heap_alloc_new (w.alloc (.cells #[.int .i64 0, .slice none 0 0] 28)) (.cells #[.int .i64 0, .slice none 0 0] 28)
    simpa using this
  have hb0 : w0.heap[p]? = some (.cells #[.slice r lr cr, .int .i64 S.2] 91 (0, 0)) := (hB0.block p hlt0).trans hb
  obtain ⟨c0, c1, f0, f1⟩ := two_cells hb0
  obtain ⟨a0, a1, af0, af1⟩ := two_cells hq1
  obtain ⟨b0, b1, bf0, bf1⟩ := two_cells hq2
  have hlt := block_lt hb0
  have hlta := block_lt hq1
  have hltb := block_lt hq2
  have HB : Hid (w0.heap[p]? = some (.cells #[.slice r lr cr, .int .i64 S.2] 91 (0, 0))) := hb0
  have HQ1 : Hid (w0.heap[w.heap.size]? = some (.cells #[.int .i64 0, .slice none 0 0] 28 (0, 0))) := hq1
  have HQ2 : Hid (w0.heap[w.heap.size + 1]? = some (.cells #[.int .i64 0, .slice none 0 0] 28 (0, 0))) := hq2
  have HB0 : Hid (Below w.heap.size w w0) := hB0
  have HN : Hid (Nrm S) := hn
  have HL : Hid (S.1.length ≤ 140737488351232) := hl
  have HR : Hid (Rng S.1) := hr
  have HOK : Hid (S.2 = 0 → IsB w r lr cr S.1 ∧ ∀ q, r = some q → 0 < lr → q.block < p) := hok
  obtain ⟨q, hq⟩ : ∃ q, q = w.heap.size := ⟨_, rfl⟩
  have HQE : Hid (q = w.heap.size) := hq
  rw [← hq] at a0 a1 af0 af1 b0 b1 bf0 bf1 hlta hltb hlt0 HQ1 HQ2
  have HQW : Hid (w.heap.size = q) := hq.symm
  clear hb hok hn hl hr hb0 hq1 hq2 hw0 hB0 hq
  by_cases hS : S.2 = 0
  · have HI : Hid (IsB w r lr cr S.1) := (HOK.out hS).1
    have HLOW : Hid (∀ q, r = some q → 0 < lr → q.block < p) := (HOK.out hS).2
    have HS : Hid (S.2 = 0) := hS
    have HSM : Hid (lr ≤ 140737488351232) := by show _ ≤ _; rw [← HI.out.1]; exact HL.out
    rw [hS] at c1
    clear hS HOK
    go_enter Try.func44, Try.ntmps44
    go_upto_region 2 with fail
    rw [HW0.out]
    clear HW0
    (try rw [HQW.out])
    go_wp2_with fail
    refine (getValue_any (HI.out.old HB0.out) HSM.out).mono ?_
    rintro e w1 ⟨r2, lr2, cr2, x, lx, cx, rfl, HX, hF, HBH, hB⟩
    have hb1 : w1.heap[p]? = some (.cells #[.slice r lr cr, .int .i64 S.2] 91 (0, 0)) := (hB.block p hlt).trans HB.out
    obtain ⟨d0, d1, g0, g1⟩ := two_cells hb1
    have HBK : Hid (w1.heap[p]? = some (.cells #[.slice r lr cr, .int .i64 S.2] 91 (0, 0))) := hb1
    have hlt1 := block_lt hb1
    have hq1 : w1.heap[q]? = some (.cells #[.int .i64 0, .slice none 0 0] 28 (0, 0)) := (hB.block _ hlta).trans HQ1.out
    have hq2 : w1.heap[q + 1]? = some (.cells #[.int .i64 0, .slice none 0 0] 28 (0, 0)) := (hB.block _ hltb).trans HQ2.out
    obtain ⟨a0, a1, af0, af1⟩ := two_cells hq1
    obtain ⟨b0, b1, bf0, bf1⟩ := two_cells hq2
    have hlta := block_lt hq1
    have hltb := block_lt hq2
    have hpq : p ≠ q := by omega
    have hpq1 : p ≠ q + 1 := by omega
    have hqp : q ≠ p := by omega
    have hqp1 : q + 1 ≠ p := by omega
    have HB1 : Hid (Below w0.heap.size w0 w1) := hB
    clear hB hb1
    go_wp2_with fail
    have hKA : Kept (fun k => k = q + 1) w1 ((w1.setCell ⟨q + 1, 0, none⟩ (.int .i64 (valueA S.1).kind)).setCell ⟨q + 1, 1, none⟩ (.slice x lx cx)) := ((Kept.refl (fun k => k = q + 1) w1).setCell (p := ⟨q + 1, 0, none⟩) (fun _ => rfl) _).setCell (p := ⟨q + 1, 1, none⟩) (fun _ => rfl) _
    generalize (w1.setCell ⟨q + 1, 0, none⟩ (.int .i64 (valueA S.1).kind)).setCell ⟨q + 1, 1, none⟩ (.slice x lx cx) = wA at hKA ⊢
    have hbA : wA.heap[p]? = some (.cells #[.slice r lr cr, .int .i64 S.2] 91 (0, 0)) := (hKA.block p hlt1 hpq1).trans HBK.out
    have hBA : Behind wA r r2 lr2 cr2 S.1 (valueR S.1).done (valueR S.1).err := HBH.out.kept hKA (fun z hz hl e => by
      have h1 := HLOW.out z hz (by rw [← HI.out.1]; exact hl)
      omega)
    have hRB := rd_next valueR HN.out HL.out HR.out HS.out hbA HI.out HLOW.out hBA
    have hKB : Kept (fun k => k = p) wA ((wA.setCell ⟨p, 0, none⟩ (.slice r2 lr2 cr2)).setCell ⟨p, 1, none⟩ (.int .i64 (valueR S.1).err)) := ((Kept.refl (fun k => k = p) wA).setCell (p := ⟨p, 0, none⟩) (fun _ => rfl) _).setCell (p := ⟨p, 1, none⟩) (fun _ => rfl) _
    have eE : (valueR S.1).err = (valueA S.1).err := rfl
    rw [eE] at hRB hKB
    generalize (wA.setCell ⟨p, 0, none⟩ (.slice r2 lr2 cr2)).setCell ⟨p, 1, none⟩ (.int .i64 (valueA S.1).err) = wB at hRB hKB ⊢
    have hqA : wA.heap[q]? = some (.cells #[.int .i64 0, .slice none 0 0] 28 (0, 0)) := (hKA.block q hlta (by omega)).trans hq1
    have hqB : wB.heap[q]? = some (.cells #[.int .i64 0, .slice none 0 0] 28 (0, 0)) := (hKB.block q (block_lt hqA) hqp).trans hqA
    have hKC : Kept (fun k => k = q) wB ((wB.setCell ⟨q, 0, none⟩ (.int .i64 (valueA S.1).kind)).setCell ⟨q, 1, none⟩ (.slice x lx cx)) := ((Kept.refl (fun k => k = q) wB).setCell (p := ⟨q, 0, none⟩) (fun _ => rfl) _).setCell (p := ⟨q, 1, none⟩) (fun _ => rfl) _
    have hqC := two_set1 (two_set0 hqB (.int .i64 (valueA S.1).kind)) (.slice x lx cx)
    generalize (wB.setCell ⟨q, 0, none⟩ (.int .i64 (valueA S.1).kind)).setCell ⟨q, 1, none⟩ (.slice x lx cx) = wC at hKC hqC ⊢
    obtain ⟨z0, z1, _, _⟩ := two_cells hqC
    have hFx : ∀ z, x = some z → 0 < lx → z.block ≠ q + 1 ∧ z.block ≠ p ∧ z.block ≠ q := fun z hz _ => by
      have h1 := (hF z hz).1
      have h2 := hltb
      have h3 := (HB1.out.size)
      have hw0s : q + 1 < w0.heap.size := block_lt HQ2.out
      omega
    have hIA := HX.out.kept hKA (fun z hz hl e => (hFx z hz hl).1 e)
    have hIB := hIA.kept hKB (fun z hz hl e => (hFx z hz hl).2.1 e)
    have hIC := hIB.kept hKC (fun z hz hl e => (hFx z hz hl).2.2 e)
    have hK1 : Kept (fun k => k = p) w w1 := kept_of (HB0.out.trans (HB1.out.mono HB0.out.size))
    have hKall : Kept (fun k => k = p) w wC := ((hK1.trans hKA (fun i hi e => by have := HQE.out; omega)).trans hKB (fun i hi e => e)).trans hKC (fun i hi e => by have := HQE.out; omega)
    refine bodyPost_ret (v := .agg #[.int .i64 (valueA S.1).kind, .slice x lx cx]) (by simp [results, Try.results44, go_sem, z0, z1]) rfl ?_
    refine ⟨((valueA S.1).kind, strOfNums (valueA S.1).bytes), x, lx, cx, rfl, hRB.kept hKC (fun k hk e => by omega), ?_, fun z hz => ?_, fun _ => rfl, hKall⟩
    · show IsB _ _ _ _ _
      rw [sNums_strOfNums HX.out.range]
      exact hIC
    · have h1 := hF z hz
      have h2 := HB0.out.size
      have h3 := hKA.size
      have h4 := hKB.size
      have h5 := hKC.size
      omega
  · have t : (S.2 == 0) = false := by simpa using hS
    have HE : Hid (stepR valueR S = S) := step_err _ hS HN.out
    have HNE : Hid (S.2 ≠ 0) := hS
    clear hS
    go_enter Try.func44, Try.ntmps44
    go_upto_region 2 with fail
    rw [HW0.out]
    clear HW0
    (try rw [HQW.out])
    go_wp2_with fail
    have hKC : Kept (fun k => k = q) w0 ((w0.setCell ⟨q, 0, none⟩ (.int .i64 0)).setCell ⟨q, 1, none⟩ (.slice none 0 0)) := ((Kept.refl (fun k => k = q) w0).setCell (p := ⟨q, 0, none⟩) (fun _ => rfl) _).setCell (p := ⟨q, 1, none⟩) (fun _ => rfl) _
    have hqC := two_set1 (two_set0 HQ1.out (.int .i64 0)) (.slice none 0 0)
    generalize (w0.setCell ⟨q, 0, none⟩ (.int .i64 0)).setCell ⟨q, 1, none⟩ (.slice none 0 0) = wC at hKC hqC ⊢
    obtain ⟨z0, z1, _, _⟩ := two_cells hqC
    refine bodyPost_ret (v := .agg #[.int .i64 0, .slice none 0 0]) (by simp [results, Try.results44, go_sem, z0, z1]) rfl ?_
    refine ⟨(0, ByteArray.empty), none, 0, 0, rfl, ?_, isB_nil _, Fresh.none, fun h => absurd (by rw [HE.out] at h; exact h) HNE.out, (kept_of HB0.out).trans hKC (fun i hi e => by have := HQE.out; omega)⟩
    rw [HE.out]
    have hR : Rd w0 p S := ⟨⟨r, lr, cr, HB.out, fun e => absurd e HNE.out⟩, HN.out, HL.out, HR.out⟩
    exact hR.kept hKC (fun k hk e => by omega)

set_option maxHeartbeats 1000000 in
/-- prims.GetConsistency. -/
theorem getCons_any {w : World} {a : Option Addr} {len cap : Nat} {zs : List Int} (h : IsB w a len cap zs) :
    Calls Try.prog 79 #[.slice a len cap] w fun e w' => ∃ c r lr cr, e = .returned (.tuple #[.int .u16 c, .slice r lr cr, .int .i64 (consR zs).err]) ∧ Hid (0 ≤ c ∧ c ≤ 65535) ∧ Hid ((consR zs).err = 0 → c = (consR zs).val) ∧ Hid (Behind w' a r lr cr zs (consR zs).done (consR zs).err) ∧ Below w.heap.size w w' := by
  have hle := h.1
  by_cases hl : len < 2
  · have HE : Hid (consR zs = ⟨0, 0, 10⟩) := by
      show _ = _
      exact check_short _ _ _ _ (by omega)
    go_enter Try.func79, Try.ntmps79
    go_wp2_with fail
    refine (bget_short a len cap 2 _ (by omega) (by omega) hl _ rfl).mono ?_
    rintro e w1 ⟨rfl, rfl⟩
    go_wp2_with fail
    go_ret3
    exact ⟨0, none, 0, 0, by rw [HE.out]; rfl, ⟨by omega, by omega⟩, by rw [HE.out]; exact fun h => absurd h (by decide : ¬ (10 : Int) = 0), by rw [HE.out]; exact .inl ⟨(by decide : (10 : Int) ≠ 0), rfl⟩, Below.refl _ _⟩
  · obtain ⟨b, off, rfl, hR⟩ := h.2.2.2.2 (by omega)
    have hb := hR.lt (by omega)
    have hnb := numTo_bound zs hR.rng 2 (by omega)
    have h4 : (256 : Int) ^ 2 = 65536 := by decide
    obtain ⟨n, hn⟩ : ∃ n, n = numTo zs 2 := ⟨_, rfl⟩
    rw [← hn] at hnb
    have HN : Hid (numTo zs 2 = n) := hn.symm
    have H : Hid (BRow w b off len cap zs) := hR
    have hlen : 2 ≤ len := by omega
    have hz : zs.length = len := hle
    have HZ : Hid (zs.length = len) := hz
    by_cases hc : n ≤ 10
    · have HE : Hid (consR zs = ⟨n, 2, 0⟩) := by
        show _ = _
        rw [consR, check_num _ _ (by decide) _ _ (by omega), HN.out, if_neg (by simpa using hc)]
      have td : decide (n ≤ 10) = true := by simpa using hc
      clear hR hn hle hz
      go_enter Try.func79, Try.ntmps79
      go_wp2_with fail
      refine (bget H.out 2 (by omega) (by omega) hlen _ rfl).mono ?_
      rintro e w1 ⟨off', rfl, hR1, hB1⟩
      rw [HN.out]
      have HR1 : Hid (BRow w1 b off' (len - 2) (cap - 2) (zs.drop 2)) := hR1
      have HB1 : Hid (Below w.heap.size w w1) := hB1
      clear hR1 hB1
      go_wp2_with fail
      refine (isCons_any n _).mono ?_
      rintro e w2 ⟨rfl, rfl⟩
      rw [td]
      go_wp2_with fail
      go_ret3
      refine ⟨n, _, _, _, by rw [HE.out]; rfl, ⟨hnb.1, by omega⟩, by rw [HE.out]; exact fun _ => rfl, ?_, HB1.out⟩
      rw [HE.out]
      exact .inr ⟨rfl, (show 2 ≤ zs.length by have := HZ.out; omega), by have := HZ.out; omega, b, off, off', rfl, rfl, Nat.lt_of_lt_of_le hb HB1.out.size, HR1.out⟩
    · have HE : Hid (consR zs = ⟨0, 0, 11⟩) := by
        show _ = _
        rw [consR, check_num _ _ (by decide) _ _ (by omega), HN.out, if_pos (by simp; omega)]
      have td : decide (n ≤ 10) = false := by simpa using hc
      clear hR hn hle hz
      go_enter Try.func79, Try.ntmps79
      go_wp2_with fail
      refine (bget H.out 2 (by omega) (by omega) hlen _ rfl).mono ?_
      rintro e w1 ⟨off', rfl, hR1, hB1⟩
      rw [HN.out]
      have HB1 : Hid (Below w.heap.size w w1) := hB1
      clear hR1 hB1
      go_wp2_with fail
      refine (isCons_any n _).mono ?_
      rintro e w2 ⟨rfl, rfl⟩
      rw [td]
      go_wp2_with fail
      go_ret3
      exact ⟨0, none, 0, 0, by rw [HE.out]; rfl, ⟨by omega, by omega⟩, by rw [HE.out]; exact fun h => absurd h (by decide : ¬ (11 : Int) = 0), by rw [HE.out]; exact .inl ⟨(by decide : (11 : Int) ≠ 0), rfl⟩, HB1.out⟩

set_option maxHeartbeats 1000000 in
theorem read_cons {w : World} {p : Nat} {S : BE} (h : Rd w p S) :
    Calls Try.prog 78 #[.pointer (some ⟨p, 0, none⟩), .func (.func 79) #[] #[]] w fun e w' => ∃ t, e = .returned (.int .u16 t) ∧ Hid (Rd w' p (stepR consR S)) ∧ Hid (0 ≤ t ∧ t ≤ 65535) ∧ Hid ((stepR consR S).2 = 0 → t = (consR S.1).val) ∧ Hid (Kept (fun k => k = p) w w') := by
  obtain ⟨⟨r, lr, cr, hb, hok⟩, hn, hl, hr⟩ := h
  obtain ⟨c0, c1, f0, f1⟩ := two_cells hb
  have hlt := block_lt hb
  have HB : Hid (w.heap[p]? = some (.cells #[.slice r lr cr, .int .i64 S.2] 91 (0, 0))) := hb
  have HN : Hid (Nrm S) := hn
  have HL : Hid (S.1.length ≤ 140737488351232) := hl
  have HR : Hid (Rng S.1) := hr
  have HOK : Hid (S.2 = 0 → IsB w r lr cr S.1 ∧ ∀ q, r = some q → 0 < lr → q.block < p) := hok
  clear hb hok hn hl hr
  by_cases hS : S.2 = 0
  · have HI : Hid (IsB w r lr cr S.1) := (HOK.out hS).1
    have HLOW : Hid (∀ q, r = some q → 0 < lr → q.block < p) := (HOK.out hS).2
    have HS : Hid (S.2 = 0) := hS
    have HSM : Hid (lr ≤ 140737488351232) := by show _ ≤ _; rw [← HI.out.1]; exact HL.out
    rw [hS] at c1
    clear hS HOK
    go_enter Try.func78, Try.ntmps78
    go_wp2_with fail
    refine (getCons_any HI.out).mono ?_
    rintro e w1 ⟨t, r2, lr2, cr2, rfl, HT, HTV, HBH, hB⟩
    have HB1 : Hid (Below w.heap.size w w1) := hB
    have hb1 : w1.heap[p]? = some (.cells #[.slice r lr cr, .int .i64 S.2] 91 (0, 0)) := (hB.block p hlt).trans HB.out
    obtain ⟨d0, d1, g0, g1⟩ := two_cells hb1
    have HBK : Hid (w1.heap[p]? = some (.cells #[.slice r lr cr, .int .i64 S.2] 91 (0, 0))) := hb1
    have hlt1 := block_lt hb1
    clear hB hb1
    go_wp2_with fail
    go_ret
    exact ⟨_, rfl, rd_next consR HN.out HL.out HR.out HS.out HBK.out HI.out HLOW.out HBH.out, HT, fun h => HTV.out (step_ok h).2.1, rd_kept HB1.out _ _⟩
  · have t : (S.2 == 0) = false := by simpa using hS
    have HE : Hid (stepR consR S = S) := step_err _ hS HN.out
    have HNE : Hid (S.2 ≠ 0) := hS
    clear hS
    go_enter Try.func78, Try.ntmps78
    go_wp2_with fail
    go_ret
    exact ⟨_, rfl, by rw [HE.out]; exact ⟨⟨r, lr, cr, HB.out, HOK.out⟩, HN.out, HL.out, HR.out⟩, ⟨by omega, by omega⟩, fun h => absurd (by rw [HE.out] at h; exact h) HNE.out, Kept.refl _ _⟩

end Go.Proofs.Ytcecdklgiocbaaa
