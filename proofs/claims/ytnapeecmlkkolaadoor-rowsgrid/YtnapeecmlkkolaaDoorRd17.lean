/-
  The reader: keys.
-/
import Derived.Test.YtnapeecmlkkolaaDoorRd16
namespace Go.Proofs.YtnapeecmlkkolaaDoor
open Go.RowKit
set_option maxRecDepth 100000
set_option linter.unusedVariables false
set_option linter.unusedSimpArgs false

theorem numX2_bounds {S : BE} (hr : Rng S.1) : 0 ≤ numX 2 S ∧ numX 2 S < 65536 := by
  unfold numX
  split
  · rename_i h0
    have h2 := (step_ok h0).2.1
    have hl : 2 ≤ S.1.length := by
      unfold numR at h2
      split at h2
      · exact absurd h2 (by decide)
      · omega
    have h := numTo_bound S.1 hr 2 hl
    exact ⟨h.1, Int.lt_of_lt_of_le h.2 (by decide)⟩
  · omega

theorem numX_val {S : BE} (h : (stepR (numR 2) S).2 = 0) : numX 2 S = (numR 2 S.1).val := by
  have h2 := (step_ok h).2.1
  unfold numX
  rw [if_pos h]
  unfold numR at h2 ⊢
  split
  · rename_i hl; rw [if_pos hl] at h2; exact absurd h2 (by decide)
  · rfl

/-- One more, with an error or without. -/
theorem loop_any {α : Type} {P : Ps α} {n k : Nat} {S R : BE} {acc L : List α} {x : α} (h : stepR (loopR P (n - k)) S = R ∧ (R.2 = 0 → acc ++ (loopR P (n - k) S.1).val = L)) (hk : k < n) (hx : (stepR P S).2 = 0 → x = (P S.1).val) :
    stepR (loopR P (n - (k + 1))) (stepR P S) = R ∧ (R.2 = 0 → (acc ++ [x]) ++ (loopR P (n - (k + 1)) (stepR P S).1).val = L) := by
  by_cases he : (stepR P S).2 = 0
  · rw [hx he]; exact loop_next h hk he
  · have hr := loop_halt h hk he
    exact ⟨by rw [step_err _ he (step_nrm _ _), hr], fun hh => absurd (by rw [← hr]; exact hh) he⟩

def kbad (n : Int) (l : List Int) : Bool := l.any (fun k => decide (n ≤ k))
theorem kbad_snoc (n : Int) (l : List Int) (x : Int) : kbad n (l ++ [x]) = (kbad n l || decide (n ≤ x)) := by simp [kbad, List.any_append]

set_option maxHeartbeats 2000000 in
theorem rkeys {w : World} {p : Nat} {S : BE} (h : Rd w p S) {n : Int} (hn : 0 ≤ n ∧ n ≤ 4096) :
    Calls Tryd.prog 28 #[.pointer (some ⟨p, 0, none⟩), .int .i64 n] w fun e w' => ∃ v ks, e = .returned v ∧ Hid (Rd w' p (stepR (keysR n) S)) ∧ Hid (OwnI 51 1 VKey w' (fun k => w.heap.size ≤ k) v ks) ∧ Hid ((stepR (keysR n) S).2 = 0 → ks = (keysR n S.1).val) ∧ Hid (Kept (fun k => k = p) w w') := by
  obtain ⟨q, hq⟩ : ∃ q, q = w.heap.size := ⟨_, rfl⟩
  have HQE : Hid (q = w.heap.size) := hq
  have hlt := h.lt
  have hpq : p < q := by omega
  have HR0 : Hid (Rd w p S) := h
  obtain ⟨M, hM⟩ : ∃ M : Nat, M = (manyX S).toNat := ⟨_, rfl⟩
  have hmb := manyX_bounds S
  have HM : Hid (((M : Nat) : Int) = manyX S) := by show _ = _; omega
  have hM2 : M ≤ 4096 := by omega
  obtain ⟨S1, hS1⟩ : ∃ S1, S1 = stepR manyR S := ⟨_, rfl⟩
  obtain ⟨R, hR⟩ : ∃ R, R = stepR (loopR (numR 2) M) S1 := ⟨_, rfl⟩
  obtain ⟨L, hL⟩ : ∃ L, L = (loopR (numR 2) M S1.1).val := ⟨_, rfl⟩
  have hN1 : Nrm S1 := by rw [hS1]; exact step_nrm _ _
  have HRR : Hid (Nrm R) := by rw [hR]; exact step_nrm _ _
  have HRE : Hid ((R.2 ≠ 0 → stepR (keysR n) S = R) ∧ (R.2 = 0 → (kbad n L = true → stepR (keysR n) S = stepR (failR (0 : Int) 11) R) ∧ (kbad n L = false → stepR (keysR n) S = R ∧ (keysR n S.1).val = L))) := by
    have e1 : stepR (keysR n) S = stepR (bindR (loopR (numR 2) (manyR S.1).val.toNat) fun l => if kbad n l = true then failR l 11 else pureR l) S1 := by rw [keysR, step_bind, ← hS1]; rfl
    by_cases h1 : S1.2 = 0
    · have h2 : (manyR S.1).val.toNat = M := by rw [hM, many_val (by rw [← hS1]; exact h1)]
      rw [h2, step_bind, ← hR, ← hL] at e1
      refine ⟨fun hh => by rw [e1, step_err _ hh HRR.out], fun hh => ⟨fun hb => by rw [e1, if_pos hb]; rfl, fun hb => ?_⟩⟩
      have e2 : stepR (keysR n) S = R := by rw [e1, hb, if_neg (by decide), step_pure _ HRR.out]
      refine ⟨e2, ?_⟩
      have h3 : (stepR (keysR n) S).2 = 0 := by rw [e2]; exact hh
      rw [keysR] at h3 ⊢
      rw [bind_val _ _ _ h3, ← hS1, h2]
      rw [step_bind, ← hS1, h2] at h3
      rw [bind_val _ _ _ h3, ← hL]
      show ((if kbad n L = true then failR L 11 else pureR L) _).val = L
      rw [hb, if_neg (by decide)]
      rfl
    · have e2 : stepR (keysR n) S = S1 := by rw [e1, step_err _ h1 hN1]
      have e3 : R = S1 := by rw [hR, step_err _ h1 hN1]
      exact ⟨fun _ => by rw [e2, e3], fun hh => absurd (by rw [← e3]; exact hh) h1⟩
  have HI0 : Hid (stepR (loopR (numR 2) (M - 0)) S1 = R ∧ (R.2 = 0 → [] ++ (loopR (numR 2) (M - 0) S1.1).val = L)) := ⟨hR.symm, fun _ => hL.symm⟩
  have HS1 : Hid (stepR manyR S = S1) := hS1.symm
  clear hR hL hS1 h hq hM hmb hN1
  go_enter Tryd.func28, Tryd.ntmps28
  go_wp2_with fail
  refine (rmany HR0.out HM.out).mono ?_
  rintro r w1 ⟨rfl, HR1, HK1⟩
  rw [HS1.out] at HR1
  go_wp2_with fail
  go_loopw [5, 6, 10] (fun v g i wr => ∃ (k : Nat) (Sk : BE) (acc : List Int) (gb : Bool), k ≤ M ∧ i = .int .i64 k ∧ g = .bool gb ∧ Hid (gb = kbad n acc) ∧ Hid (Rd wr p Sk) ∧ Hid (OwnI 51 1 VKey wr (fun z => q ≤ z) v acc) ∧ Hid (acc.length = k) ∧ Hid (stepR (loopR (numR 2) (M - k)) Sk = R ∧ (R.2 = 0 → acc ++ (loopR (numR 2) (M - k) Sk.1).val = L)) ∧ Hid (Kept (fun z => z = p) w wr)) (fun _ _ i _ => M - (intOf i).toNat)
  case atStart => exact ⟨0, S1, [], false, by omega, rfl, rfl, rfl, HR1, ownI_nil _ _ _ _ _, rfl, HI0, HK1⟩
  case round =>
    obtain ⟨k, Sk, acc, gb, hk, rfl, rfl, HGB, HRk, HO, HLk, HIk, HKk⟩ := hrel
    by_cases hlt2 : k < M
    · have hnb := numX2_bounds HRk.out.rng
      obtain ⟨t, ht⟩ : ∃ t, t = numX 2 Sk := ⟨_, rfl⟩
      rw [← ht] at hnb
      have hw16 : IntKind.u16.wrap t = t := by rw [IntKind.wrap_u16]; omega
      have HTE : Hid (t = numX 2 Sk) := ht
      obtain ⟨d, hd⟩ : ∃ d, decide (n ≤ t) = d := ⟨_, rfl⟩
      have HD : Hid (decide (n ≤ t) = d) := hd
      have HNX : Hid _ := loop_any (x := t) HIk.out hlt2 (fun he => by rw [ht]; exact numX_val he)
      clear ht
      have HGN : Hid ((gb || d) = kbad n (acc ++ [t])) := by show _ = _; rw [kbad_snoc, ← HGB.out, HD.out]
      cases gb <;> cases d
      all_goals
        go_wp2_with fail
        refine (read_short HRk.out).mono ?_
        rintro r w2 ⟨t', rfl, HR2, HPL, HT', HK2⟩
        obtain rfl : t' = t := by rw [HT'.out, HTE.out]
        have HO2 : Hid (OwnI 51 1 VKey w2 (fun z => q ≤ z) u5 acc) := HO.out.apart stays_key HK2.out (fun z _ hz e => by omega)
        have HK2w : Hid (Kept (fun z => z = p) w w2) := HKk.out.trans HK2.out (fun i hi e => e)
        have hs2 : q ≤ w2.heap.size := by have := HK2w.out.size; have := HQE.out; omega
        have HBN : Hid ((w2.alloc (.cells #[.int .u16 t'] 51)).heap[w2.heap.size]? = some (.cells [Value.int .u16 t'].toArray 51 (0, 0))) := heap_alloc_new w2 _
        have HON : Hid (OwnI 51 1 VKey (w2.alloc (.cells #[.int .u16 t'] 51)) (fun z => q ≤ z) u5 acc) := HO2.out.old stays_key (below_one _ _)
        have HXN : Hid (VKey (fun z => z < (w2.alloc (.cells #[.int .u16 t'] 51)).heap.size ∧ u5.ownBlock ≠ some z ∧ q ≤ z) (w2.alloc (.cells #[.int .u16 t'] 51)) t' (fun j => ([Value.int .u16 t'] : List Value).getD j default)) := rfl
        have HFN : Hid ((fun z => q ≤ z) (w2.alloc (.cells #[.int .u16 t'] 51)).heap.size) := by show q ≤ _; simp; omega
        go_wp2_with (at_builtin; refine wpList_appendI rfl (.tmp 22) (.tmp 24) 44 rfl stays_key elem_key rfl HON.out rfl HBN.out rfl ?c1 t' HXN.out HFN.out ?c2 ?c3 ?_)
        case c1 => first | rfl | (intro u hu; simp at hu; rw [hu]; rfl)
        case c2 => rw [HLk.out]; unfold maxLen; omega
        case c3 => rw [HLk.out]; omega
        intro v4 w7 ho7 hK7 hv7
        have hK57 : Kept (fun z => u5.ownBlock = some z) w2 w7 := (kept_of (below_one w2 _)).trans hK7 (fun i hi e => e)
        have hfar : ∀ z, u5.ownBlock = some z → q ≤ z := fun z hz => (HO2.out.lt z hz).1
        have HR7 : Hid (Rd w7 p (stepR (numR 2) Sk)) := HR2.out.kept hK57 (fun z hz e => by have := hfar z e; omega)
        have HO7 : Hid (OwnI 51 1 VKey w7 (fun z => q ≤ z) v4 (acc ++ [t'])) := ho7
        have HK7 : Hid (Kept (fun z => z = p) w w7) := HK2w.out.trans hK57 (fun i hi e => by have := hfar i e; have := HQE.out; omega)
        have HL7 : Hid ((acc ++ [t']).length = k + 1) := by show _ = _; rw [List.length_append, HLk.out]; rfl
        clear hK57 hfar ho7 hK7 hv7
        go_wp2_with fail
        go_roundw
        case rel => exact ⟨k + 1, _, _, _, by omega, by go_num, rfl, HGN, HR7, HO7, HL7, HNX, HK7⟩
        case measure => simp [intOf]; omega
    · have HDN : Hid (R = Sk ∧ (R.2 = 0 → acc = L)) := loop_done HRk.out.nrm HIk.out (by omega)
      have HOF : Hid (OwnI 51 1 VKey wr (fun z => w.heap.size ≤ z) u5 acc) := HO.out.sub stays_key (fun z _ hz => by have := HQE.out; omega)
      cases gb with
      | false =>
        go_wp2_with fail
        go_ret
        have hE : stepR (keysR n) S = R := by
          by_cases h0 : R.2 = 0
          · exact ((HRE.out.2 h0).2 (by rw [← HDN.out.2 h0]; exact HGB.out.symm)).1
          · exact HRE.out.1 h0
        refine ⟨_, acc, rfl, ?_, HOF, fun hh => ?_, HKk⟩
        · rw [hE, HDN.out.1]; exact HRk
        · rw [hE] at hh
          rw [((HRE.out.2 hh).2 (by rw [← HDN.out.2 hh]; exact HGB.out.symm)).2]
          exact HDN.out.2 hh
      | true =>
        go_wp2_with fail
        refine (rfail HRk.out 11 (by decide)).mono ?_
        rintro r w2 ⟨rfl, HR2, HK2⟩
        have HOF2 : Hid (OwnI 51 1 VKey w2 (fun z => w.heap.size ≤ z) u5 acc) := HOF.out.apart stays_key HK2.out (fun z _ hz e => by have := HQE.out; omega)
        go_wp2_with fail
        go_ret
        have hE : stepR (keysR n) S = stepR (failR (0 : Int) 11) R ∧ (stepR (keysR n) S).2 ≠ 0 := by
          by_cases h0 : R.2 = 0
          · have e := (HRE.out.2 h0).1 (by rw [← HDN.out.2 h0]; exact HGB.out.symm)
            exact ⟨e, by rw [e, step_fail _ _ h0 (by decide)]; decide⟩
          · have e := HRE.out.1 h0
            exact ⟨by rw [e, step_err _ h0 HRR.out], by rw [e]; exact h0⟩
        refine ⟨_, acc, rfl, ?_, HOF2, fun hh => absurd hh hE.2, HKk.out.trans HK2.out (fun i hi e => e)⟩
        rw [hE.1, HDN.out.1]; exact HR2

end Go.Proofs.YtnapeecmlkkolaaDoor
