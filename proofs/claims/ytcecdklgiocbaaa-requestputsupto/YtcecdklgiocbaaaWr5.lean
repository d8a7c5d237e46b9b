/-
  The writer's method statements; which flags a run has.
-/
import Derived.Test.YtcecdklgiocbaaaWr4
namespace Go.Proofs.Ytcecdklgiocbaaa
open Go.RowKit
set_option maxRecDepth 100000
set_option linter.unusedVariables false
set_option linter.unusedSimpArgs false

theorem View.st_at {w0 w : World} {a : Option Addr} {len cap : Nat} {ss : List St} (h : View 4 VSt w0 a len cap ss) (hB : Below w0.heap.size w0 w) {k : Nat} (hk : k < len) :
    ∃ b off a1 l1 c1 a2 l2 c2, a = some ⟨b, off, none⟩ ∧ w.cell? ⟨b, off + k * 4, none⟩ = some (.bool (ss.getD k default).prep) ∧ w.cell? ⟨b, off + k * 4 + 1, none⟩ = some (.string (ss.getD k default).text) ∧ w.cell? ⟨b, off + k * 4 + 2, none⟩ = some (.slice a1 l1 c1) ∧ w.cell? ⟨b, off + k * 4 + 3, none⟩ = some (.slice a2 l2 c2) ∧
      IsB w0 a1 l1 c1 (sNums (ss.getD k default).id) ∧ View 2 VV w0 a2 l2 c2 (ss.getD k default).vals := by
  obtain ⟨h1, h2, h3, h4, h5⟩ := h
  obtain ⟨b, off, ha, hb, hc⟩ := h5 (by omega)
  obtain ⟨c, hcell, hv0, hv1, ⟨a1, l1, c1, hv2, hI⟩, a2, l2, c2, hv3, hV⟩ := hc k hk
  have g0 := hcell 0 (by omega)
  have g1 := hcell 1 (by omega)
  have g2 := hcell 2 (by omega)
  have g3 := hcell 3 (by omega)
  rw [hv0] at g0
  rw [hv1] at g1
  rw [hv2] at g2
  rw [hv3] at g3
  refine ⟨b, off, a1, l1, c1, a2, l2, c2, ha, ?_, ?_, ?_, ?_, hI, hV⟩
  · exact (hB.cell (p := ⟨b, off + k * 4, none⟩) hb).trans (by simpa using g0)
  · exact (hB.cell (p := ⟨b, off + k * 4 + 1, none⟩) hb).trans (by rw [Nat.add_assoc]; exact g1)
  · exact (hB.cell (p := ⟨b, off + k * 4 + 2, none⟩) hb).trans (by rw [Nat.add_assoc]; exact g2)
  · exact (hB.cell (p := ⟨b, off + k * 4 + 3, none⟩) hb).trans (by rw [Nat.add_assoc]; exact g3)

theorem listB_len_le {α : Type} (f : α → BE) (g : α → Nat) (hf : ∀ x, (f x).1.length ≤ g x) : ∀ (xs : List α) (acc : List Int), (goB f xs acc).1.length ≤ acc.length + (xs.map g).sum := by
  intro xs
  induction xs with
  | nil => intro acc; simp [goB]
  | cons x r ih =>
    intro acc
    rw [goB]
    split
    · have h1 := ih (acc ++ (f x).1)
      have h2 := hf x
      simp only [List.length_append, List.map_cons, List.sum_cons] at h1 ⊢
      omega
    · simp

theorem costV_sum : ∀ vs : List Vl, costV vs = (vs.map (fun x => x.2.size + 4)).sum
  | [] => rfl
  | x :: r => by rw [costV, List.map_cons, List.sum_cons, costV_sum r]

theorem valsList_len (vs : List Vl) : (listB valueB vs).1.length ≤ 2 + costV vs := by
  unfold listB
  split
  · have := listB_len_le valueB (fun x => x.2.size + 4) valueB_len vs (putL vs.length 2)
    rw [putL_length, ← costV_sum] at this
    exact this
  · simp

theorem stB_len (s : St) : (stB s).1.length ≤ costS s := by
  have h1 := seqB_len (aheadB s) (listB valueB s.vals)
  have h2 := valsList_len s.vals
  have h3 : (aheadB s).1.length ≤ 1 + (s.id.size + 2) + (4 + s.text.size) := by
    unfold aheadB
    split
    · have h4 := seqB_len ([1], 0) (textB s.id)
      have h5 := textB_len2 s.id
      simp only [List.length_singleton] at h4
      omega
    · have h4 := seqB_len ([0], 0) (longB s.text)
      have h5 : (longB s.text).1.length = 4 + s.text.size := by unfold longB; simp only [List.length_append, putL_length, sNums_length]
      simp only [List.length_singleton] at h4
      omega
  unfold stB costS
  omega

set_option maxHeartbeats 1000000 in
theorem wstatements {w0 w : World} {p : Nat} {v : Value} {S : BE} (h : Wr w p v S) (hp : w0.heap.size ≤ p) (hB : Below w0.heap.size w0 w) {a : Option Addr} {l c : Nat} {ss : List St} (hV : View 4 VSt w0 a l c ss)
    (hsz : ∀ s ∈ ss, ∀ x ∈ s.vals, x.2.size ≤ 140737488351232) (hbd : S.1.length + 2 + costA ss ≤ 140737488351232) :
    Calls Try.prog 24 #[.pointer (some ⟨p, 0, none⟩), .slice a l c] w fun r w' => r = .returned (.tuple #[]) ∧ ∃ v', Hid (Wr w' p v' (seqB S (listB stB ss))) ∧ Hid (Chg p v v' w w') := by
  obtain ⟨Y, hY⟩ : ∃ Y, Y = seqB S (listB stB ss) := ⟨_, rfl⟩
  have hlv : ss.length = l := hV.1
  have HY : Hid (goS stB ss (seqB S (countB l)) = Y) := by show _ = _; rw [hY, ← goS_list, hlv]
  rw [← hY]
  have H : Hid (Wr w p v S) := h
  have HV : Hid (View 4 VSt w0 a l c ss) := hV
  have HB : Hid (Below w0.heap.size w0 w) := hB
  have HP : Hid (w0.heap.size ≤ p) := hp
  have HSZ : Hid (∀ s ∈ ss, ∀ x ∈ s.vals, x.2.size ≤ 140737488351232) := hsz
  have HBD : Hid (S.1.length + 2 + costA ss ≤ 140737488351232) := hbd
  have HLV : Hid (ss.length = l) := hlv
  have hlm : l ≤ maxLen := Nat.le_trans hV.2.1 hV.2.2.1
  have HLM : Hid (l ≤ maxLen) := hlm
  unfold maxLen at hlm
  clear h hV hB hp hsz hbd hlv hY
  go_enter Try.func24, Try.ntmps24
  go_wp2_with fail
  refine (wcount H.out l HLM.out (by have := HBD.out; omega)).mono ?_
  rintro r w1 ⟨rfl, v1, HW1, HC1⟩
  go_wp2_with fail
  go_loopw [12] (fun i wr => ∃ (k : Nat) (v' : Value) (S' : BE), k ≤ l ∧ i = .int .i64 k ∧ Hid (Wr wr p v' S') ∧ Hid (Chg p v v' w wr) ∧ Hid (goS stB (ss.drop k) S' = Y) ∧ Hid (S'.1.length + costA (ss.drop k) ≤ 140737488351232)) (fun i _ => l - (intOf i).toNat)
  case atStart =>
    refine ⟨0, v1, _, by omega, rfl, HW1, HC1, HY.out, ?_⟩
    have h1 := seqB_len S (countB l)
    have h2 := countB_len l
    have h3 := HBD.out
    show _ ≤ _
    rw [List.drop_zero]
    omega
  case round =>
    obtain ⟨k, v2, S2, hk, rfl, HW2, HC2, HG, HQ⟩ := hrel
    obtain ⟨q0, q1, f0, f1⟩ := two_cells HW2.out.blk
    have hplt := HW2.out.lt
    by_cases hlt : k < l
    · have hlow : Below w0.heap.size w0 wr := HB.out.trans (HC2.out.low H.out HP.out)
      obtain ⟨b, off, a1, l1, c1, a2, l2, c2, rfl, hc0, hc1, hc2, hc3, hI, hVV⟩ := HV.out.st_at hlow hlt
      have HKV : Hid (k < ss.length) := by show _ < _; rw [HLV.out]; exact hlt
      obtain ⟨x, hx⟩ : ∃ x, x = ss.getD k default := ⟨_, rfl⟩
      rw [← hx] at hc0 hc1 hI hVV
      have HX : Hid (x = ss.getD k default) := hx
      have HI : Hid (IsB w0 a1 l1 c1 (sNums x.id)) := hI
      have HVV : Hid (View 2 VV w0 a2 l2 c2 x.vals) := hVV
      have HXS : Hid (∀ y ∈ x.vals, y.2.size ≤ 140737488351232) := by
        show ∀ y ∈ x.vals, _
        rw [hx, List.getD_eq_getElem?_getD, List.getElem?_eq_getElem HKV.out]
        exact HSZ.out _ (List.getElem_mem _)
      have HSTEP : Hid (goS stB (ss.drop (k + 1)) (seqB S2 (stB x)) = Y) := by rw [hx]; exact goS_step HG.out HKV.out
      have HQ2 : Hid (S2.1.length + costS x + costA (ss.drop (k + 1)) ≤ 140737488351232) := by
        have h1 := HQ.out
        have h2 := costA_drop HKV.out
        rw [← hx] at h2
        show _ ≤ _
        omega
      clear hx hI hVV
      by_cases he : S2.2 = 0
      · rw [he] at q1
        obtain ⟨w3, hw3⟩ : ∃ w3, w3 = wr.alloc (.cells #[.bool x.prep, .string x.text, .slice a1 l1 c1, .slice a2 l2 c2] 60) := ⟨_, rfl⟩
        have hB3 : Below wr.heap.size wr w3 := by rw [hw3]; exact below_one _ _
        have HB3 : Hid (Below wr.heap.size wr w3) := hB3
        have H3 : Hid (Wr w3 p v2 S2) := HW2.out.new hB3
        have HL3 : Hid (Below w0.heap.size w0 w3) := hlow.trans (hB3.mono hlow.size)
        have HW3 : Hid (wr.alloc (.cells #[.bool x.prep, .string x.text, .slice a1 l1 c1, .slice a2 l2 c2] 60) = w3) := hw3.symm
        have HBD3 : Hid (S2.1.length + costS x ≤ 140737488351232) := by have := HQ2.out; show _ ≤ _; omega
        clear he hB3 hw3 hlow
        go_wp2_with fail
        rw [HW3.out]
        refine (wstatement H3.out HP.out HL3.out HI.out HVV.out HXS.out HBD3.out).mono ?_
        rintro r w4 ⟨rfl, v4, HW4, HC4⟩
        go_wp2_with fail
        go_roundw
        case rel =>
          refine ⟨k + 1, v4, _, by omega, by go_num, HW4, HC2.out.trans ((chg_new HB3.out).trans HC4.out), HSTEP.out, ?_⟩
          have h1 := seqB_len S2 (stB x)
          have h2 := HQ2.out
          have h3 := stB_len x
          show _ ≤ _
          omega
        case measure => simp [intOf]; omega
      · have t : (S2.2 == 0) = false := by simpa using he
        have HE : Hid (Y = S2) := by
          have := HG.out
          rw [goS_err stB _ HW2.out.nrm he] at this
          exact this.symm
        clear he hlow
        go_wp2_with fail
        (try simp only [Exit.inBlock, Exit.then])
        refine bodyPost_ret (results_none rfl _ _ _) rfl ?_
        exact ⟨rfl, v2, by rw [HE.out]; exact HW2.out.new (below_one _ _), HC2.out.trans (chg_new (below_one _ _))⟩
    · have HE : Hid (Y = S2) := goS_end HG.out (by rw [HLV.out]; omega) HW2.out.nrm
      go_wp2_with fail
      go_end0
      exact ⟨rfl, v2, by rw [HE.out]; exact HW2, HC2⟩
end Go.Proofs.Ytcecdklgiocbaaa
