/-
  The writer's method values.
-/
import Derived.Test.YtcecdklgiocbaaaWr2
namespace Go.Proofs.Ytcecdklgiocbaaa
open Go.RowKit
set_option maxRecDepth 100000
set_option linter.unusedVariables false
set_option linter.unusedSimpArgs false

theorem four_range (a b c d : Int) (h : (0 ≤ a ∧ a ≤ 255) ∧ (0 ≤ b ∧ b ≤ 255) ∧ (0 ≤ c ∧ c ≤ 255) ∧ (0 ≤ d ∧ d ≤ 255)) : ∀ j : Nat, 0 ≤ [a, b, c, d][j]?.getD 0 ∧ [a, b, c, d][j]?.getD 0 ≤ 255 := by
  intro j
  match j with
  | 0 => exact h.1
  | 1 => exact h.2.1
  | 2 => exact h.2.2.1
  | 3 => exact h.2.2.2
  | j + 4 => simp

theorem value_any (x : Int × ByteArray) {a : Option Addr} {l c : Nat} (w : World) (h : IsB w a l c (sNums x.2)) (hsm : x.2.size ≤ 140737488351232) {B : List Int × Int} (hB : B = valueB x) :
    Calls Try.prog 22 #[.agg #[.int .i64 x.1, .slice a l c]] w fun e w' => ∃ a cp, e = .returned (.tuple #[.slice a B.1.length cp, .int .i64 B.2]) ∧ Hid (Put w' w.heap.size a cp B.1) ∧ Below w.heap.size w w' := by
  obtain ⟨k, bs⟩ := x
  have hl : l = bs.size := by rw [← h.1, sNums_length]
  subst hB
  by_cases h0 : k = 0
  · subst h0
    refine (value_null a l c w).mono ?_
    rintro e w' ⟨v, rfl, ho, hB⟩
    obtain ⟨a', cp, rfl, hp⟩ := ho.put (four_range _ _ _ _ (by omega))
    exact ⟨a', cp, rfl, hp, hB⟩
  by_cases h1 : k = 1
  · subst h1
    refine (value_unset a l c w).mono ?_
    rintro e w' ⟨v, rfl, ho, hB⟩
    obtain ⟨a', cp, rfl, hp⟩ := ho.put (four_range _ _ _ _ (by omega))
    exact ⟨a', cp, rfl, hp, hB⟩
  by_cases h2 : k = 2
  · subst h2
    subst hl
    refine (value_set a _ c _ w h hsm).mono ?_
    rintro e w' ⟨v, rfl, ho, hB⟩
    obtain ⟨a', cp, rfl, hp⟩ := ho.put (range_append (putL_range _ _) (sNums_range bs))
    exact ⟨a', cp, rfl, hp, hB⟩
  · refine (value_none k a l c w h0 h1 h2).mono ?_
    rintro e w' ⟨rfl, hB⟩
    simp only [valueB, if_neg h0, if_neg h1, if_neg h2]
    exact ⟨none, 0, rfl, put_nil _ _, hB⟩

/-- A value in memory. -/
def VV (w : World) (x : Vl) (c : Nat → Value) : Prop := c 0 = .int .i64 x.1 ∧ ∃ a l cp, c 1 = .slice a l cp ∧ IsB w a l cp (sNums x.2)

theorem stays_v : Stays 2 VV := by
  intro w w' row x c c' h hc hb hs hne
  obtain ⟨h0, a, l, cp, h1, hv⟩ := h
  exact ⟨(hc 0 (by omega)).trans h0, a, l, cp, (hc 1 (by omega)).trans h1, bytes_stay hv hb hs (fun k hk => hne 1 k (by omega) (by rw [h1]; exact hk))⟩

theorem View.val {w : World} {a : Option Addr} {len cap : Nat} {ss : List Vl} (h : View 2 VV w a len cap ss) {k : Nat} (hk : k < len) :
    ∃ b off a1 l1 c1, a = some ⟨b, off, none⟩ ∧ w.cell? ⟨b, off + k * 2, none⟩ = some (.int .i64 (ss.getD k default).1) ∧ w.cell? ⟨b, off + k * 2 + 1, none⟩ = some (.slice a1 l1 c1) ∧ IsB w a1 l1 c1 (sNums (ss.getD k default).2) := by
  obtain ⟨h1, h2, h3, h4, h5⟩ := h
  obtain ⟨b, off, ha, hb, hc⟩ := h5 (by omega)
  obtain ⟨c, hcell, hv0, a1, l1, c1, hv1, hv⟩ := hc k hk
  have h0 := hcell 0 (by omega)
  have h1 := hcell 1 (by omega)
  rw [hv0] at h0
  rw [hv1] at h1
  exact ⟨b, off, a1, l1, c1, ha, by simpa using h0, by rw [Nat.add_assoc]; exact h1, hv⟩

theorem Chg.low {n p : Nat} {v v' : Value} {S : BE} {w w' : World} (hC : Chg p v v' w w') (h : Wr w p v S) (hn : n ≤ p) : Below n w w' :=
  hC.1.below (by have := h.lt; omega) (fun k hk e => by
    rcases e with e | e
    · omega
    · have := (h.far k e).1; omega)

/-- How many bytes values, and names, are at most. -/
def costV : List Vl → Nat
  | [] => 0
  | x :: r => x.2.size + 4 + costV r
def costN : List ByteArray → Nat
  | [] => 0
  | x :: r => x.size + 2 + costN r

theorem costV_drop {vs : List Vl} {k : Nat} (h : k < vs.length) : costV (vs.drop k) = (vs.getD k default).2.size + 4 + costV (vs.drop (k + 1)) := by
  rw [List.drop_eq_getElem_cons h, costV, List.getD_eq_getElem?_getD, List.getElem?_eq_getElem h, Option.getD_some]
theorem costN_drop {vs : List ByteArray} {k : Nat} (h : k < vs.length) : costN (vs.drop k) = (vs.getD k default).size + 2 + costN (vs.drop (k + 1)) := by
  rw [List.drop_eq_getElem_cons h, costN, List.getD_eq_getElem?_getD, List.getElem?_eq_getElem h, Option.getD_some]

theorem valueB_len (x : Vl) : (valueB x).1.length ≤ x.2.size + 4 := by
  unfold valueB
  split
  · simp
  · split
    · simp
    · split
      · simp only [List.length_append, putL_length, sNums_length]; omega
      · simp
theorem textB_len2 (s : ByteArray) : (textB s).1.length ≤ s.size + 2 := by
  unfold textB
  split
  · rw [List.length_append, putL_length, sNums_length]; omega
  · simp

theorem goS_step {α : Type} [Inhabited α] {f : α → BE} {xs : List α} {k : Nat} {S Y : BE} (h : goS f (xs.drop k) S = Y) (hk : k < xs.length) : goS f (xs.drop (k + 1)) (seqB S (f (xs.getD k default))) = Y := by
  rw [List.drop_eq_getElem_cons hk, goS_cons] at h
  rw [List.getD_eq_getElem?_getD, List.getElem?_eq_getElem hk, Option.getD_some]
  exact h

theorem goS_end {α : Type} {f : α → BE} {xs : List α} {k : Nat} {S Y : BE} (h : goS f (xs.drop k) S = Y) (hk : xs.length ≤ k) (hn : Nrm S) : Y = S := by
  rw [List.drop_of_length_le hk, goS_nil f hn] at h
  exact h.symm

set_option maxHeartbeats 1000000 in
theorem wvalues0 {w0 w : World} {p : Nat} {v : Value} {S : BE} (h : Wr w p v S) (hp : w0.heap.size ≤ p) (hB : Below w0.heap.size w0 w) {a : Option Addr} {l c : Nat} {vs : List Vl} (hV : View 2 VV w0 a l c vs) (na : Option Addr) (nc : Nat)
    (hsz : ∀ x ∈ vs, x.2.size ≤ 140737488351232) (hbd : S.1.length + 2 + costV vs ≤ 140737488351232) :
    Calls Try.prog 62 #[.pointer (some ⟨p, 0, none⟩), .slice a l c, .slice na 0 nc] w fun r w' => r = .returned (.tuple #[]) ∧ ∃ v', Hid (Wr w' p v' (seqB S (listB valueB vs))) ∧ Hid (Chg p v v' w w') := by
  obtain ⟨Y, hY⟩ : ∃ Y, Y = seqB S (listB valueB vs) := ⟨_, rfl⟩
  have hlv : vs.length = l := hV.1
  have HY : Hid (goS valueB vs (seqB S (countB l)) = Y) := by show _ = _; rw [hY, ← goS_list, hlv]
  rw [← hY]
  have H : Hid (Wr w p v S) := h
  have HV : Hid (View 2 VV w0 a l c vs) := hV
  have HB : Hid (Below w0.heap.size w0 w) := hB
  have HP : Hid (w0.heap.size ≤ p) := hp
  have HSZ : Hid (∀ x ∈ vs, x.2.size ≤ 140737488351232) := hsz
  have HBD : Hid (S.1.length + 2 + costV vs ≤ 140737488351232) := hbd
  have HLV : Hid (vs.length = l) := hlv
  have hlm : l ≤ maxLen := Nat.le_trans hV.2.1 hV.2.2.1
  have HLM : Hid (l ≤ maxLen) := hlm
  unfold maxLen at hlm
  clear h hV hB hp hsz hbd hlv hY
  go_enter Try.func62, Try.ntmps62
  go_wp2_with fail
  refine (wcount H.out l HLM.out (by have := HBD.out; omega)).mono ?_
  rintro r w1 ⟨rfl, v1, HW1, HC1⟩
  go_wp2_with fail
  go_loopw [14] (fun i wr => ∃ (k : Nat) (v' : Value) (S' : BE), k ≤ l ∧ i = .int .i64 k ∧ Hid (Wr wr p v' S') ∧ Hid (Chg p v v' w wr) ∧ Hid (goS valueB (vs.drop k) S' = Y) ∧ Hid (S'.1.length + costV (vs.drop k) ≤ 140737488351232)) (fun i _ => l - (intOf i).toNat)
  case atStart =>
    refine ⟨0, v1, _, by omega, rfl, HW1, HC1, HY.out, ?_⟩
    have h1 := seqB_len S (countB l)
    have h2 := countB_len l
    have h3 := HBD.out
    show _ ≤ _
    rw [List.drop_zero]
    omega
  case round =>
    obtain ⟨k, v2, S2, hk, rfl, HW2, HC2, HG, HQ⟩ := hrel
    obtain ⟨q0, q1, f0, f1⟩ := two_cells HW2.out.blk
    have hplt := HW2.out.lt
    by_cases hlt : k < l
    · have hlow : Below w0.heap.size w0 wr := HB.out.trans (HC2.out.low H.out HP.out)
      obtain ⟨b, off, a1, l1, c1, rfl, hc0, hc1, hI⟩ := (HV.out.old stays_v hlow).val hlt
      have HKV : Hid (k < vs.length) := by show _ < _; rw [HLV.out]; exact hlt
      obtain ⟨x, hx⟩ : ∃ x, x = vs.getD k default := ⟨_, rfl⟩
      rw [← hx] at hc0 hI
      have HX : Hid (x = vs.getD k default) := hx
      have HI : Hid (IsB (wr.alloc (.cells #[.int .i64 x.1, .slice a1 l1 c1] 28)) a1 l1 c1 (sNums x.2)) := hI.old (below_one _ _)
      have HXS : Hid (x.2.size ≤ 140737488351232) := by
        show _ ≤ _
        rw [hx, List.getD_eq_getElem?_getD, List.getElem?_eq_getElem HKV.out]
        exact HSZ.out _ (List.getElem_mem _)
      have HSTEP : Hid (goS valueB (vs.drop (k + 1)) (seqB S2 (valueB x)) = Y) := by rw [hx]; exact goS_step HG.out HKV.out
      have HQ2 : Hid (S2.1.length + (valueB x).1.length + costV (vs.drop (k + 1)) ≤ 140737488351232) := by
        have h1 := HQ.out
        have h2 := costV_drop HKV.out
        have h3 := valueB_len x
        rw [hx] at h3 ⊢
        show _ ≤ _
        omega
      clear hx hI hlow
      by_cases he : S2.2 = 0
      · rw [he] at q1
        obtain ⟨B, hBt⟩ : ∃ B, B = valueB x := ⟨_, rfl⟩
        have HBt : Hid (B = valueB x) := hBt
        rw [← hBt] at HSTEP HQ2
        clear hBt he
        go_wp2_with fail
        refine (value_any x _ HI.out HXS.out HBt.out).mono ?_
        rintro e w3 ⟨a3, cp3, rfl, HP3, hB3⟩
        have HB3 : Hid (Below wr.heap.size wr w3) := (below_one wr _).trans (hB3.mono (by simp))
        have HBD3 : Hid (S2.1.length + B.1.length ≤ 140737488355328) := by have := HQ2.out; show _ ≤ _; omega
        clear hB3
        go_wp2_with fail
        refine (wpart_new HW2.out HB3.out HP3.out.2 HBD3.out B.2).mono ?_
        rintro r w4 ⟨rfl, v4, HW4, HC4⟩
        go_wp2_with fail
        go_roundw
        case rel =>
          refine ⟨k + 1, v4, _, by omega, by go_num, HW4, HC2.out.trans HC4.out, HSTEP.out, ?_⟩
          have h1 := seqB_len S2 (B.1, B.2)
          have h2 := HQ2.out
          show _ ≤ _
          simp only at h1
          omega
        case measure => simp [intOf]; omega
      · have t : (S2.2 == 0) = false := by simpa using he
        have HE : Hid (Y = S2) := by
          have := HG.out
          rw [goS_err valueB _ HW2.out.nrm he] at this
          exact this.symm
        clear he
        go_wp2_with fail
        (try simp only [Exit.inBlock, Exit.then])
        refine bodyPost_ret (results_none rfl _ _ _) rfl ?_
        exact ⟨rfl, v2, by rw [HE.out]; exact HW2.out.new (below_one _ _), HC2.out.trans (chg_new (below_one _ _))⟩
    · have HE : Hid (Y = S2) := goS_end HG.out (by rw [HLV.out]; omega) HW2.out.nrm
      go_wp2_with fail
      go_end0
      exact ⟨rfl, v2, by rw [HE.out]; exact HW2, HC2⟩
end Go.Proofs.Ytcecdklgiocbaaa
