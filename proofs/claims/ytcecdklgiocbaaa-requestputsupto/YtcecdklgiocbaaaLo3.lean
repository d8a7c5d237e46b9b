/-
  PutP, SeqB, Keep, Wr, ToldMath, Fits, CutMath, Long, laid together.
-/
import Derived.Test.YtcecdklgiocbaaaLo2
import Derived.Deep.AppendLies
import Derived.ArgAppend
namespace Go.Proofs.Ytcecdklgiocbaaa
open Go.RowKit
set_option maxRecDepth 100000
set_option linter.unusedVariables false
set_option linter.unusedSimpArgs false

theorem keyB_key {α : Type} {g : α → List Int × Int} {x : ByteArray × α} {Y : List Int × Int} (hY : Y = keyB g x) {B : List Int × Int} (hB : B = textB x.1) (he : B.2 ≠ 0) : Y = ([], B.2) := by
  subst hB; rw [hY, keyB, if_neg he]
theorem keyB_part {α : Type} {g : α → List Int × Int} {x : ByteArray × α} {Y : List Int × Int} (hY : Y = keyB g x) {B : List Int × Int} (hB : B = textB x.1) (he : B.2 = 0) {B2 : List Int × Int} (hB2 : B2 = g x.2) (he2 : B2.2 ≠ 0) : Y = ([], B2.2) := by
  subst hB; subst hB2; rw [hY, keyB, if_pos he, if_neg he2]
theorem keyB_both {α : Type} {g : α → List Int × Int} {x : ByteArray × α} {Y : List Int × Int} (hY : Y = keyB g x) {B : List Int × Int} (hB : B = textB x.1) (he : B.2 = 0) {B2 : List Int × Int} (hB2 : B2 = g x.2) (he2 : B2.2 = 0) : Y = (B.1 ++ B2.1, 0) := by
  subst hB; subst hB2; rw [hY, keyB, if_pos he, if_pos he2]

theorem keyB_len {α : Type} (g : α → List Int × Int) (x : ByteArray × α) : (keyB g x).1.length ≤ 65537 + (g x.2).1.length := by
  have := textB_len x.1
  unfold keyB
  split
  · split
    · rw [List.length_append]; omega
    · simp
  · simp

theorem keyB_textB_len (x : ByteArray × ByteArray) : (keyB textB x).1.length ≤ 131074 := by
  have := keyB_len textB x
  have := textB_len x.2
  omega

/-- The cells of a map of texts. -/
theorem View.pair {w : World} {a : Option Addr} {len cap : Nat} {ss : List (ByteArray × ByteArray)} (h : View 2 VP w a len cap ss) {k : Nat} (hk : k < len) :
    ∃ b off, a = some ⟨b, off, none⟩ ∧ w.cell? ⟨b, off + k * 2, none⟩ = some (.string (ss.getD k default).1) ∧ w.cell? ⟨b, off + k * 2 + 1, none⟩ = some (.string (ss.getD k default).2) := by
  obtain ⟨h1, h2, h3, h4, h5⟩ := h
  obtain ⟨b, off, ha, hb, hc⟩ := h5 (by omega)
  obtain ⟨c, hcell, hv⟩ := hc k hk
  have h0 := hcell 0 (by omega)
  have h1 := hcell 1 (by omega)
  rw [hv.1] at h0
  rw [hv.2] at h1
  exact ⟨b, off, ha, by simpa using h0, by rw [Nat.add_assoc]; exact h1⟩

set_option maxHeartbeats 1000000 in
theorem putKeyedP (x : ByteArray × ByteArray) (w : World) (hm : x.1.size ≤ maxLen ∧ x.2.size ≤ maxLen) {Y : List Int × Int} (hY : Y = keyB textB x) :
    Calls Try.prog 56 #[.string x.1, .string x.2, .func (.func 57) #[] #[]] w fun e w' => ∃ a cp, e = .returned (.tuple #[.slice a Y.1.length cp, .int .i64 Y.2]) ∧ Hid (Put w' w.heap.size a cp Y.1) ∧ Below w.heap.size w w' := by
  obtain ⟨B, hB⟩ : ∃ B, B = textB x.1 := ⟨_, rfl⟩
  obtain ⟨B2, hB2⟩ : ∃ B2, B2 = textB x.2 := ⟨_, rfl⟩
  have HB : Hid _ := hB
  have HB2 : Hid _ := hB2
  have HY : Hid _ := hY
  have HM : Hid _ := hm
  have HBD : Hid (B.1.length + B2.1.length ≤ 140737488355328) := by
    show _ ≤ _
    have h1 := textB_len x.1
    have h2 := textB_len x.2
    rw [hB, hB2]; omega
  clear hB hB2 hY hm
  go_enter Try.func56, Try.ntmps56
  go_wp2_with fail
  refine (text_any x.1 _ HM.out.1 HB.out).mono ?_
  rintro e w1 ⟨a1, cp1, rfl, HP1, hB1⟩
  by_cases he : B.2 = 0
  · rw [he]
    go_wp2_with fail
    refine (text_any x.2 _ HM.out.2 HB2.out).mono ?_
    rintro e w2 ⟨a2, cp2, rfl, HP2, hB2⟩
    by_cases he2 : B2.2 = 0
    · have HE := keyB_both HY.out HB.out he HB2.out he2
      have HO2 : Hid (OwnB w2 w.heap.size (.slice a1 B.1.length cp1) B.1.length B.1) := (HP1.out.old hB2).1
      have hbs := hB1.size
      have hbs2 := hB2.size
      have HHE : Hid _ := HE
      have HR : Hid (∀ j : Nat, 0 ≤ (B.1 ++ B2.1)[j]?.getD 0 ∧ (B.1 ++ B2.1)[j]?.getD 0 ≤ 255) := range_append HP1.out.2.range HP2.out.2.range
      clear HE
      rw [he2]
      go_wp2_with (at_builtin; refine wpList_append_bytes rfl (.tmp 28) (.tmp 29) rfl rfl HO2.out rfl HP2.out.2 HBD.out (by omega) ?_)
      intro v3 w3 ho3 hB3
      obtain ⟨a3, cp3, rfl, hp3⟩ := OwnB.put ho3 HR.out
      have HP3 : Hid (Put w3 w.heap.size a3 cp3 (B.1 ++ B2.1)) := hp3
      clear hp3 ho3
      go_wp2_with fail
      go_ret2
      exact ⟨a3, cp3, by rw [HHE.out]; rfl, by rw [HHE.out]; exact HP3, (hB1.trans (hB2.mono hbs)).trans hB3⟩
    · have t : (B2.2 == 0) = false := by simpa using he2
      have HE := keyB_part HY.out HB.out he HB2.out he2
      have HHE : Hid _ := HE
      clear he2 HE
      go_wp2_with fail
      go_ret2
      exact ⟨none, 0, by rw [HHE.out]; rfl, by rw [HHE.out]; exact put_nil _ _, hB1.trans (hB2.mono hB1.size)⟩
  · have t : (B.2 == 0) = false := by simpa using he
    have HE := keyB_key HY.out HB.out he
    have HHE : Hid _ := HE
    clear he HE
    go_wp2_with fail
    go_ret2
    exact ⟨none, 0, by rw [HHE.out]; rfl, by rw [HHE.out]; exact put_nil _ _, hB1⟩

set_option maxHeartbeats 1000000 in
theorem putItemP (x : ByteArray × ByteArray) (w : World) (hm : x.1.size ≤ maxLen ∧ x.2.size ≤ maxLen) {Y : List Int × Int} (hY : Y = keyB textB x) :
    Calls Try.prog 55 #[.agg #[.string x.1, .string x.2]] w fun e w' => ∃ a cp, e = .returned (.tuple #[.slice a Y.1.length cp, .int .i64 Y.2]) ∧ Hid (Put w' w.heap.size a cp Y.1) ∧ Below w.heap.size w w' := by
  have HY : Hid _ := hY
  have HM : Hid _ := hm
  clear hY hm
  go_enter Try.func55, Try.ntmps55
  go_wp2_with fail
  refine (putKeyedP x _ HM.out HY.out).mono ?_
  rintro e w1 ⟨a1, cp1, rfl, HP, hB⟩
  go_wp2_with fail
  go_ret2
  exact ⟨a1, cp1, rfl, HP.out.mono (by simp), (below_one _ _).trans (hB.mono (by simp))⟩

set_option maxHeartbeats 1000000 in
theorem putP_yes {w : World} {a : Option Addr} {len cap : Nat} {xs : List (ByteArray × ByteArray)} (h : View 2 VP w a len cap xs) (hl : len ≤ 65535) (hx : ∀ x ∈ xs, x.1.size ≤ maxLen ∧ x.2.size ≤ maxLen) {Y : List Int × Int} (hY : Y = listB (keyB textB) xs) :
    Calls Try.prog 54 #[.slice a len cap, .func (.func 55) #[] #[]] w fun e w' => ∃ a cp, e = .returned (.tuple #[.slice a Y.1.length cp, .int .i64 Y.2]) ∧ Hid (Put w' w.heap.size a cp Y.1) ∧ Below w.heap.size w w' := by
  have hlx : xs.length = len := h.1
  have HY : Hid (Y = goB (keyB textB) xs (putL len 2)) := by
    show _ = _
    rw [hY, listB, if_pos (by omega), hlx]
  have H : Hid (View 2 VP w a len cap xs) := h
  have HX : Hid _ := hx
  have HLX : Hid (xs.length = len) := hlx
  have hd : decide ((65535 : Int) < len) = false := by simp; omega
  clear h hx hlx hY
  go_enter Try.func54, Try.ntmps54
  go_wp2_with fail
  refine (put_own len 2 _ (by omega) (by omega) (by omega) _ rfl).mono ?_
  rintro e w1 ⟨v, rfl, ho, hB1⟩
  have HO1 : Hid (OwnB w1 w.heap.size v (putL len 2).length (putL len 2)) := by
    show OwnB _ _ _ _ _
    rw [putL_length]; exact ho
  have HR1 : Hid _ := putL_range (len : Int) 2
  clear ho
  go_wp2_with fail
  go_loopw [6, 20] (fun v i wr => ∃ (k : Nat) (acc : List Int), k ≤ len ∧ i = .int .i64 k ∧ Hid (OwnB wr w.heap.size v acc.length acc) ∧ Hid (goB (keyB textB) (xs.drop k) acc = Y) ∧ acc.length ≤ 2 + k * 131074 ∧
      Hid (∀ j : Nat, 0 ≤ acc[j]?.getD 0 ∧ acc[j]?.getD 0 ≤ 255) ∧ Below w.heap.size w wr) (fun _ i _ => len - (intOf i).toNat)
  case atStart => exact ⟨0, _, by omega, rfl, HO1, HY.out.symm, by rw [putL_length]; omega, HR1, hB1⟩
  case round =>
    obtain ⟨k, acc, hk, rfl, HO, HG, hacc, HR, hB⟩ := hrel
    by_cases hlt : k < len
    · obtain ⟨b, off, rfl, hc0, hc1⟩ := (H.out.old stays_p hB).pair hlt
      obtain ⟨s, hs⟩ : ∃ s, s = xs.getD k default := ⟨_, rfl⟩
      rw [← hs] at hc0 hc1
      obtain ⟨B, hBt⟩ : ∃ B, B = keyB textB s := ⟨_, rfl⟩
      have HS : Hid _ := hs
      have HBt : Hid _ := hBt
      have HSM : Hid (s.1.size ≤ maxLen ∧ s.2.size ≤ maxLen) := by
        show _ ∧ _
        rw [hs, List.getD_eq_getElem?_getD, List.getElem?_eq_getElem (by rw [HLX.out]; exact hlt)]
        exact HX.out _ (List.getElem_mem _)
      clear hs hBt
      go_wp2_with fail
      refine (putItemP s _ HSM.out HBt.out).mono ?_
      rintro e w2 ⟨a2, cp2, rfl, HP2, hB2x⟩
      have hB2 : Below wr.heap.size wr w2 := (below_one wr _).trans (hB2x.mono (by simp))
      clear hB2x
      have hbl : B.1.length ≤ 131074 := by rw [HBt.out]; exact keyB_textB_len s
      by_cases he : B.2 = 0
      · have HG2 : Hid (goB (keyB textB) (xs.drop (k + 1)) (acc ++ B.1) = Y) := by
          rw [HBt.out, HS.out]
          exact goB_step HG.out (by rw [HLX.out]; exact hlt) (by rw [← HS.out, ← HBt.out]; exact he)
        have HO2 : Hid (OwnB w2 w.heap.size u6 acc.length acc) := HO.out.old hB2
        have hbs := hB.size
        have hbs2 := hB2.size
        have HBD : Hid (acc.length + B.1.length ≤ 140737488355328) := by
          show _ ≤ _
          have : k * 131074 ≤ 65535 * 131074 := Nat.mul_le_mul_right _ (by omega)
          omega
        rw [he]
        go_wp2_with (at_builtin; refine wpList_append_bytes rfl (.tmp 33) (.tmp 34) rfl rfl HO2.out rfl HP2.out.2 HBD.out (by omega) ?_)
        intro v3 w3 ho3 hB3
        have HO3 : Hid (OwnB w3 w.heap.size v3 (acc ++ B.1).length (acc ++ B.1)) := by
          show OwnB _ _ _ _ _
          rw [List.length_append]; exact ho3
        have HR3 : Hid (∀ j : Nat, 0 ≤ (acc ++ B.1)[j]?.getD 0 ∧ (acc ++ B.1)[j]?.getD 0 ≤ 255) := range_append HR.out HP2.out.2.range
        have hB03 : Below w.heap.size w w3 := (hB.trans (hB2.mono hbs)).trans hB3
        clear ho3
        go_wp2_with fail
        go_roundw
        case rel => exact ⟨k + 1, acc ++ B.1, by omega, by go_num, HO3, HG2, by rw [List.length_append, Nat.succ_mul]; omega, HR3, hB03⟩
        case measure => simp [intOf]; omega
      · have t : (B.2 == 0) = false := by simpa using he
        have HE := goB_stop HG.out (by rw [HLX.out]; exact hlt) (by rw [← HS.out, ← HBt.out]; exact he)
        rw [← HS.out, ← HBt.out] at HE
        clear he
        go_wp2_with fail
        go_ret2
        exact ⟨none, 0, by rw [HE]; rfl, by rw [HE]; exact put_nil _ _, hB.trans (hB2.mono hB.size)⟩
    · have HE := goB_end HG.out (by rw [HLX.out]; omega)
      obtain ⟨a2, cp2, hv, hp⟩ := OwnB.put HO.out HR.out
      subst hv
      go_wp2_with fail
      go_ret2
      exact ⟨a2, cp2, by rw [HE]; rfl, by rw [HE]; exact hp, hB⟩

set_option maxHeartbeats 400000 in
theorem putP_long (a : Option Addr) (len cap : Nat) (w : World) (hl : 65535 < len) (hm : len ≤ maxLen) :
    Calls Try.prog 54 #[.slice a len cap, .func (.func 55) #[] #[]] w fun e w' => e = .returned (.tuple #[.slice none 0 0, .int .i64 12]) ∧ w' = w := by
  unfold maxLen at hm
  go_enter Try.func54, Try.ntmps54
  go_wp2_with fail
  go_ret2
  exact ⟨rfl, rfl⟩

theorem putP_any {w : World} {a : Option Addr} {len cap : Nat} {xs : List (ByteArray × ByteArray)} (h : View 2 VP w a len cap xs) (hx : ∀ x ∈ xs, x.1.size ≤ maxLen ∧ x.2.size ≤ maxLen) {Y : List Int × Int} (hY : Y = listB (keyB textB) xs) :
    Calls Try.prog 54 #[.slice a len cap, .func (.func 55) #[] #[]] w fun e w' => ∃ a cp, e = .returned (.tuple #[.slice a Y.1.length cp, .int .i64 Y.2]) ∧ Hid (Put w' w.heap.size a cp Y.1) ∧ Below w.heap.size w w' := by
  by_cases hl : len ≤ 65535
  · exact putP_yes h hl hx hY
  · refine (putP_long a len cap w (by omega) (Nat.le_trans h.2.1 h.2.2.1)).mono ?_
    rintro e w' ⟨rfl, rfl⟩
    rw [listB, if_neg (by rw [h.1]; exact hl)] at hY
    subst hY
    exact ⟨none, 0, rfl, put_nil _ _, Below.refl _ _⟩

set_option maxHeartbeats 400000 in
theorem pairs_any {w : World} {a : Option Addr} {len cap : Nat} {xs : List (ByteArray × ByteArray)} (h : View 2 VP w a len cap xs) (hx : ∀ x ∈ xs, x.1.size ≤ maxLen ∧ x.2.size ≤ maxLen) {Y : List Int × Int} (hY : Y = listB (keyB textB) xs) :
    Calls Try.prog 17 #[.slice a len cap] w fun e w' => ∃ a cp, e = .returned (.tuple #[.slice a Y.1.length cp, .int .i64 Y.2]) ∧ Hid (Put w' w.heap.size a cp Y.1) ∧ Below w.heap.size w w' := by
  have H : Hid (View _ _ _ _ _ _ _) := h
  have HX : Hid _ := hx
  have HY : Hid _ := hY
  clear h hx hY
  go_enter Try.func17, Try.ntmps17
  go_wp2_with fail
  refine (putP_any H.out HX.out HY.out).mono ?_
  rintro e w1 ⟨a1, cp1, rfl, HP, hB⟩
  go_wp2_with fail
  go_ret2
  exact ⟨a1, cp1, rfl, HP, hB⟩
end Go.Proofs.Ytcecdklgiocbaaa

namespace Go.Proofs.Ytcecdklgiocbaaa
open Go.RowKit
set_option linter.unusedVariables false
set_option linter.unusedSimpArgs false

/-- Bytes, and an error. -/
abbrev BE := List Int × Int

def seqB (S B : BE) : BE := if S.2 = 0 then (if B.2 = 0 then (S.1 ++ B.1, 0) else ([], B.2)) else ([], S.2)

/-- With an error there are no bytes. -/
def Nrm (S : BE) : Prop := S.2 ≠ 0 → S.1 = []

theorem seqB_assoc (A B C : BE) : seqB (seqB A B) C = seqB A (seqB B C) := by
  unfold seqB
  by_cases hA : A.2 = 0 <;> by_cases hB : B.2 = 0 <;> by_cases hC : C.2 = 0 <;> simp [hA, hB, hC, List.append_assoc]

theorem nrm_seq (A B : BE) : Nrm (seqB A B) := by
  unfold Nrm seqB
  split
  · split
    · intro h; exact absurd rfl h
    · intro _; rfl
  · intro _; rfl

theorem seqB_unit {S : BE} (h : Nrm S) : seqB S ([], 0) = S := by
  obtain ⟨X, e⟩ := S
  unfold seqB
  by_cases he : e = 0
  · subst he; simp
  · have := h he
    simp only at this
    subst this
    simp [he]

theorem unit_seqB {B : BE} (h : Nrm B) : seqB ([], 0) B = B := by
  obtain ⟨X, e⟩ := B
  unfold seqB
  by_cases he : e = 0
  · subst he; simp
  · have := h he
    simp only at this
    subst this
    simp [he]

theorem seqB_err {S : BE} (B : BE) (h : S.2 ≠ 0) : seqB S B = ([], S.2) := by unfold seqB; rw [if_neg h]
theorem seqB_ok {S B : BE} (h : S.2 = 0) (hb : B.2 = 0) : seqB S B = (S.1 ++ B.1, 0) := by unfold seqB; rw [if_pos h, if_pos hb]
theorem seqB_no {S B : BE} (h : S.2 = 0) (hb : B.2 ≠ 0) : seqB S B = ([], B.2) := by unfold seqB; rw [if_pos h, if_neg hb]

theorem seqB_keep {S B : BE} (hS : Nrm S) (h : S.2 ≠ 0) : seqB S B = S := by
  rw [seqB_err B h, ← hS h]

theorem seqB_fine {A B : BE} (h : (seqB A B).2 = 0) : A.2 = 0 ∧ B.2 = 0 ∧ seqB A B = (A.1 ++ B.1, 0) := by
  by_cases hA : A.2 = 0
  · by_cases hB : B.2 = 0
    · exact ⟨hA, hB, seqB_ok hA hB⟩
    · rw [seqB_no hA hB] at h; exact absurd h hB
  · rw [seqB_err B hA] at h; exact absurd h hA

/-- How many there are, as a short. -/
def countB (n : Nat) : BE := if n ≤ 65535 then (putL n 2, 0) else ([], 12)

/-- The rest of a list, behind what is there. -/
def goS {α : Type} (f : α → BE) (xs : List α) (S : BE) : BE := if S.2 = 0 then goB f xs S.1 else ([], S.2)

theorem goS_cons {α : Type} (f : α → BE) (x : α) (r : List α) (S : BE) : goS f (x :: r) S = goS f r (seqB S (f x)) := by
  unfold goS seqB
  by_cases hS : S.2 = 0
  · by_cases hx : (f x).2 = 0
    · simp [hS, hx, goB]
    · simp [hS, hx, goB]
  · simp [hS]

theorem goS_nil {α : Type} (f : α → BE) {S : BE} (h : Nrm S) : goS f [] S = S := by
  obtain ⟨X, e⟩ := S
  unfold goS
  by_cases he : e = 0
  · subst he; simp [goB]
  · have := h he
    simp only at this
    subst this
    simp [he]

theorem goS_err {α : Type} (f : α → BE) (xs : List α) {S : BE} (h : Nrm S) (he : S.2 ≠ 0) : goS f xs S = S := by
  unfold goS
  rw [if_neg he, ← h he]

theorem goB_pre {α : Type} (f : α → BE) (xs : List α) : ∀ (A acc : List Int), goB f xs (A ++ acc) = seqB (A, 0) (goB f xs acc) := by
  induction xs with
  | nil => intro A acc; simp [goB, seqB]
  | cons x r ih =>
    intro A acc
    rw [goB, goB]
    by_cases hx : (f x).2 = 0
    · rw [if_pos hx, if_pos hx, List.append_assoc, ih]
    · rw [if_neg hx, if_neg hx]
      simp [seqB, hx]

theorem goS_list {α : Type} (f : α → BE) (xs : List α) (S : BE) : goS f xs (seqB S (countB xs.length)) = seqB S (listB f xs) := by
  unfold goS
  by_cases hS : S.2 = 0
  · by_cases hl : xs.length ≤ 65535
    · rw [countB, if_pos hl, listB, if_pos hl, seqB_ok hS rfl, if_pos rfl, goB_pre]
      unfold seqB
      simp [hS]
    · rw [countB, if_neg hl, listB, if_neg hl, seqB_no hS (by decide : ((12 : Int)) ≠ 0), if_neg (by decide : ¬ ((12 : Int)) = 0)]
  · rw [seqB_err _ hS, seqB_err _ hS, if_neg hS]

abbrev Vl := Int × ByteArray

/-- What a statement is run with: consistency, values, names, skip, paged, page, resumed, state, serially, serial, timed, time. -/
abbrev Rn := Int × List Vl × List ByteArray × Bool × Bool × Int × Bool × Vl × Bool × Int × Bool × Int
def Rn.cons (p : Rn) : Int := p.1
def Rn.vals (p : Rn) : List Vl := p.2.1
def Rn.names (p : Rn) : List ByteArray := p.2.2.1
def Rn.skip (p : Rn) : Bool := p.2.2.2.1
def Rn.paged (p : Rn) : Bool := p.2.2.2.2.1
def Rn.page (p : Rn) : Int := p.2.2.2.2.2.1
def Rn.resumed (p : Rn) : Bool := p.2.2.2.2.2.2.1
def Rn.state (p : Rn) : Vl := p.2.2.2.2.2.2.2.1
def Rn.serially (p : Rn) : Bool := p.2.2.2.2.2.2.2.2.1
def Rn.serial (p : Rn) : Int := p.2.2.2.2.2.2.2.2.2.1
def Rn.timed (p : Rn) : Bool := p.2.2.2.2.2.2.2.2.2.2.1
def Rn.time (p : Rn) : Int := p.2.2.2.2.2.2.2.2.2.2.2

/-- A statement of a batch: whether it was prepared, its text, its number, its values. -/
abbrev St := Bool × ByteArray × ByteArray × List Vl
def St.prep (p : St) : Bool := p.1
def St.text (p : St) : ByteArray := p.2.1
def St.id (p : St) : ByteArray := p.2.2.1
def St.vals (p : St) : List Vl := p.2.2.2

/-- A request: opcode, options, text, number, run, events, token, kind, all. -/
abbrev Rq := Int × List (ByteArray × ByteArray) × ByteArray × ByteArray × Rn × List ByteArray × Vl × Int × List St
def Rq.op (p : Rq) : Int := p.1
def Rq.opts (p : Rq) : List (ByteArray × ByteArray) := p.2.1
def Rq.text (p : Rq) : ByteArray := p.2.2.1
def Rq.id (p : Rq) : ByteArray := p.2.2.2.1
def Rq.run (p : Rq) : Rn := p.2.2.2.2.1
def Rq.evs (p : Rq) : List ByteArray := p.2.2.2.2.2.1
def Rq.tok (p : Rq) : Vl := p.2.2.2.2.2.2.1
def Rq.kind (p : Rq) : Int := p.2.2.2.2.2.2.2.1
def Rq.all (p : Rq) : List St := p.2.2.2.2.2.2.2.2

def longB (s : ByteArray) : BE := (putL s.size 4 ++ sNums s, 0)
def kindB (k : Int) : BE := if k ≤ 2 then (putL k 1, 0) else ([], 1)
def consB (c : Int) : BE := if c ≤ 10 then (putL c 2, 0) else ([], 1)
def valsB (l : List Vl) (ns : List ByteArray) : BE := if ns.length = 0 then listB valueB l else listB (keyB valueB) (ns.zip l)
def bN (b : Bool) (k : Int) : Int := if b then k else 0
def flN (v s p r e t n : Bool) : Int := bN v 1 + bN s 2 + bN p 4 + bN r 8 + bN e 16 + bN t 32 + bN n 64
def hasV (p : Rn) : Bool := decide (0 < p.vals.length)
def hasN (p : Rn) : Bool := decide (0 < p.names.length)
def flagsN (p : Rn) : Int := flN (hasV p) p.skip p.paged p.resumed p.serially p.timed (hasN p)
def badF (batch : Bool) (p : Rn) : Bool := (batch && (hasV p || p.skip || p.paged || p.resumed || hasN p)) || (hasN p && !decide (p.names.length = p.vals.length))
def flagsB (batch : Bool) (p : Rn) : BE := if badF batch p then ([], 1) else ([flagsN p], 0)
def optB (b : Bool) (B : BE) : BE := if b then B else ([], 0)
def numB (x : Int) (n : Nat) : BE := (putL x n, 0)
def runB5 (p : Rn) : BE := optB p.timed (numB (IntKind.u64.wrap p.time) 8)
def runB4 (p : Rn) : BE := seqB (optB p.serially (consB p.serial)) (runB5 p)
def runB3 (p : Rn) : BE := seqB (optB p.resumed (valueB p.state)) (runB4 p)
def runB2 (p : Rn) : BE := seqB (optB p.paged (numB (IntKind.u64.wrap p.page) 4)) (runB3 p)
def runB1 (p : Rn) : BE := seqB (optB (hasV p) (valsB p.vals p.names)) (runB2 p)
def runB (batch : Bool) (p : Rn) : BE := seqB (consB p.cons) (seqB (flagsB batch p) (runB1 p))
def aheadB (s : St) : BE := if s.prep then seqB ([1], 0) (textB s.id) else seqB ([0], 0) (longB s.text)
def stB (s : St) : BE := seqB (aheadB s) (listB valueB s.vals)

/-- A request's body. -/
def putB (r : Rq) : BE :=
  if r.op = 1 then listB (keyB textB) r.opts
  else if r.op = 5 then ([], 0)
  else if r.op = 7 then seqB (longB r.text) (runB false r.run)
  else if r.op = 9 then longB r.text
  else if r.op = 10 then seqB (textB r.id) (runB false r.run)
  else if r.op = 11 then listB textB r.evs
  else if r.op = 15 then valueB r.tok
  else if r.op = 13 then seqB (kindB r.kind) (seqB (listB stB r.all) (runB true r.run))
  else ([], 22)

/-- A row of bytes. -/
def Rng (X : List Int) : Prop := ∀ j : Nat, 0 ≤ X[j]?.getD 0 ∧ X[j]?.getD 0 ≤ 255
theorem rng_nil : Rng [] := by intro j; simp
theorem rng_seq {A B : BE} (hA : Rng A.1) (hB : Rng B.1) : Rng (seqB A B).1 := by
  unfold seqB
  split
  · split
    · exact range_append hA hB
    · exact rng_nil
  · exact rng_nil
end Go.Proofs.Ytcecdklgiocbaaa

namespace Go.Proofs.Ytcecdklgiocbaaa
open Go.RowKit
set_option maxRecDepth 100000
set_option linter.unusedVariables false
set_option linter.unusedSimpArgs false

/-- But for the blocks S, and what is new, the world is as it was. -/
structure Kept (S : Nat → Prop) (w w' : World) : Prop where
  os : w'.os = w.os
  tape : w'.tape = w.tape
  output : w'.output = w.output
  size : w.heap.size ≤ w'.heap.size
  block : ∀ k, k < w.heap.size → ¬ S k → w'.heap[k]? = w.heap[k]?

theorem Kept.refl (S : Nat → Prop) (w : World) : Kept S w w := ⟨rfl, rfl, rfl, Nat.le_refl _, fun _ _ _ => rfl⟩

theorem Kept.trans {S S' : Nat → Prop} {a b c : World} (h : Kept S a b) (k : Kept S' b c) (hs : ∀ i, i < a.heap.size → S' i → S i) : Kept S a c :=
  ⟨k.os.trans h.os, k.tape.trans h.tape, k.output.trans h.output, Nat.le_trans h.size k.size, fun i hi hn => (k.block i (Nat.lt_of_lt_of_le hi h.size) (fun e => hn (hs i hi e))).trans (h.block i hi hn)⟩

theorem kept_of {S : Nat → Prop} {w w' : World} (h : Below w.heap.size w w') : Kept S w w' := ⟨h.os, h.tape, h.output, h.size, fun k hk _ => h.block k hk⟩

theorem Kept.below {S : Nat → Prop} {w w' : World} (h : Kept S w w') {B : Nat} (hB : B ≤ w.heap.size) (hs : ∀ k, k < w.heap.size → S k → B ≤ k) : Below B w w' :=
  ⟨h.os, h.tape, h.output, h.size, fun k hk => h.block k (by omega) (fun e => by have := hs k (by omega) e; omega)⟩

theorem Kept.setCell {S : Nat → Prop} {a w : World} (h : Kept S a w) {p : Addr} (hp : p.block < a.heap.size → S p.block) (u : Value) : Kept S a (w.setCell p u) :=
  h.trans (S' := fun k => k = p.block) ⟨rfl, rfl, rfl, by simp [World.setCell], fun k hk hn => Below.heap_setCell _ _ _ _ hn⟩ (fun i hi e => by subst e; exact hp hi)

theorem Kept.alloc {S : Nat → Prop} {a w : World} (h : Kept S a w) (o : Obj) : Kept S a (w.alloc o) :=
  h.trans (S' := fun _ => False) (kept_of ((Below.refl _ _).alloc (Nat.le_refl _) _)) (fun _ _ e => e.elim)

theorem Kept.new {S : Nat → Prop} {a w w' : World} (h : Kept S a w) (hB : Below w.heap.size w w') : Kept S a w' := h.trans (S' := fun _ => False) (kept_of hB) (fun _ _ e => e.elim)

theorem Kept.cell {S : Nat → Prop} {w w' : World} (h : Kept S w w') {p : Addr} (hp : p.block < w.heap.size) (hn : ¬ S p.block) : w'.cell? p = w.cell? p := World.cell?_of_block (w := w) (h.block _ hp hn)

theorem IsB.kept {S : Nat → Prop} {w W : World} {a : Option Addr} {len cap : Nat} {zs : List Int} (h : IsB w a len cap zs) (hK : Kept S w W) (hn : ∀ p, a = some p → 0 < len → ¬ S p.block) : IsB W a len cap zs := by
  obtain ⟨h1, h2, h3, h4, h5⟩ := h
  refine ⟨h1, h2, h3, h4, fun hp => ?_⟩
  obtain ⟨b, off, rfl, hR⟩ := h5 hp
  have hb := hR.lt hp
  exact ⟨b, off, rfl, hR.len_eq, hR.le, hR.cap_le, fun _ => Nat.lt_of_lt_of_le hb hK.size, fun i hi => (hK.cell (p := ⟨b, off + i, none⟩) hb (hn ⟨b, off, none⟩ rfl hp)).trans (hR.cell i hi), hR.rng⟩

theorem block_lt {w : World} {p : Nat} {o : Obj} (h : w.heap[p]? = some o) : p < w.heap.size := (Array.getElem?_eq_some_iff.1 h).1

/-- The cells of a block of two, and that none is frozen. -/
theorem two_cells {w : World} {p : Nat} {x0 x1 : Value} {t : TypeId} (h : w.heap[p]? = some (.cells #[x0, x1] t (0, 0))) :
    w.cell? ⟨p, 0, none⟩ = some x0 ∧ w.cell? ⟨p, 1, none⟩ = some x1 ∧ w.frozen? ⟨p, 0, none⟩ = false ∧ w.frozen? ⟨p, 1, none⟩ = false := by
  refine ⟨?_, ?_, ?_, ?_⟩ <;> simp [World.cell?, World.frozen?, h]

theorem two_set0 {w : World} {p : Nat} {x0 x1 : Value} {t : TypeId} (h : w.heap[p]? = some (.cells #[x0, x1] t (0, 0))) (u : Value) : (w.setCell ⟨p, 0, none⟩ u).heap[p]? = some (.cells #[u, x1] t (0, 0)) := by
  have hlt := block_lt h
  have h' : w.heap[p] = .cells #[x0, x1] t (0, 0) := by simpa [Array.getElem?_eq_getElem hlt] using h
  show (w.heap.modify p _)[p]? = _
  rw [Array.getElem?_eq_getElem (by simpa using hlt), Array.getElem_modify_self, h']
  rfl
theorem two_set1 {w : World} {p : Nat} {x0 x1 : Value} {t : TypeId} (h : w.heap[p]? = some (.cells #[x0, x1] t (0, 0))) (u : Value) : (w.setCell ⟨p, 1, none⟩ u).heap[p]? = some (.cells #[x0, u] t (0, 0)) := by
  have hlt := block_lt h
  have h' : w.heap[p] = .cells #[x0, x1] t (0, 0) := by simpa [Array.getElem?_eq_getElem hlt] using h
  show (w.heap.modify p _)[p]? = _
  rw [Array.getElem?_eq_getElem (by simpa using hlt), Array.getElem_modify_self, h']
  rfl

theorem one_kept (w : World) (p j : Nat) (v : Value) : Kept (fun k => k = p) w (w.setCell ⟨p, j, none⟩ v) := (Kept.refl (fun k => k = p) w).setCell (p := ⟨p, j, none⟩) (fun _ => rfl) v

/-- What is owned in other blocks stays. -/
theorem OwnB.kept {S : Nat → Prop} {w W : World} {base : Nat} {v : Value} {n : Nat} {X : List Int} (h : OwnB w base v n X) (hK : Kept S w W) (hn : ∀ k, v.ownBlock = some k → ¬ S k) : OwnB W base v n X := by
  refine ⟨h.1, ?_⟩
  rcases h.2 with h2 | ⟨g, cap, cur, hv, hg, hh, r⟩
  · exact .inl h2
  · exact .inr ⟨g, cap, cur, hv, hg, by rw [hK.block g (block_lt hh) (hn g (by rw [hv]; rfl))]; exact hh, r⟩

/-- append of bytes onto a row that is owned, and where the row lies then. -/
theorem append_own_run {w : World} {base : Nat} {v : Value} {n : Nat} {X : List Int} (hown : OwnB w base v n X) {xa : Option Addr} {len cap : Nat} {zs : List Int} (hB : IsB w xa len cap zs) (hbd : n + len ≤ 140737488355328) (hbase : base ≤ w.heap.size) (ty : TypeId) :
    ∃ v' w', (Builtin.append_ #[23, 23] ty #[v, .slice xa len cap]).run Try.prog w = .ok v' w' ∧ OwnB w' base v' (n + len) (X ++ zs) ∧ Kept (fun k => v.ownBlock = some k) w w' ∧ (v'.ownBlock = v.ownBlock ∨ v'.ownBlock = some w.heap.size) := by
  obtain ⟨i0, hi, hz0, hz1, hz2⟩ := info_parts Try.info5
  cases xa with
  | none =>
    obtain ⟨h1, h2, h3, h4, h5⟩ := hB
    obtain ⟨rfl, rfl⟩ := h4 rfl
    obtain rfl : zs = [] := List.eq_nil_of_length_eq_zero h1
    refine ⟨v, w, run_append_owned_none (P := Try.prog) (w := w) base 23 ty 5 i0 1 Try.underlying23 hi v n _ hown, ?_, Kept.refl _ _, .inl rfl⟩
    rw [List.append_nil]; exact hown
  | some x =>
    have hl : (zs.map (Value.int .u8)).length = len * 1 := by rw [List.length_map, hB.1, Nat.mul_one]
    obtain ⟨v', w', hr, h2, h3, _, h5⟩ := run_append_own_at (P := Try.prog) w base 23 ty 5 i0 (.int .u8 0) 1 1 Try.underlying23 hi hz0 hz1 hz2 rfl (by decide) v n _ hown x len cap _ hl hB.news (bytes_one zs) (by unfold maxLen; omega) (by omega) hbase
    exact ⟨v', w', hr, OwnB.join h2 rfl, ⟨h3.os, h3.tape, h3.output, h3.size, fun k hk hn => h3.block k hk (fun e => hn e.symm)⟩, h5⟩

theorem wpList_append_own {ops : Array Oper} {rest : List Oper} {o : Oper} {a : Act} {w : World} {Q : Exit → Act → World → Prop} (hgd : o.guard = none) (s x : Operand)
    (ho : o.op = .call { callee := .builtin .append, args := #[s, x], argTypes := #[23, 23] })
    {base : Nat} {v : Value} {n : Nat} {X : List Int} (hs : a.eval s = v) (hown : OwnB w base v n X) {xa : Option Addr} {len cap : Nat} {zs : List Int} (hx : a.eval x = .slice xa len cap) (hB : IsB w xa len cap zs) (hbd : n + len ≤ 140737488355328) (hbase : base ≤ w.heap.size)
    (h : ∀ v' w', OwnB w' base v' (n + len) (X ++ zs) → Kept (fun k => v.ownBlock = some k) w w' → (v'.ownBlock = v.ownBlock ∨ v'.ownBlock = some w.heap.size) → wpList Try.prog ops Q rest (a.put o.dst v') w') : wpList Try.prog ops Q (o :: rest) a w := by
  refine wpList_plain hgd fun K hK => ?_
  obtain ⟨v', w', hr, h2, h3, h4⟩ := append_own_run hown hB hbd hbase o.type
  unfold Oper.wp
  simp [execOp, ho, resolve, invoke, builtin, hs, hx, hr, Result.andThen]
  exact hK _ _ (h v' w' h2 h3 h4)
end Go.Proofs.Ytcecdklgiocbaaa

namespace Go.Proofs.Ytcecdklgiocbaaa
open Go.RowKit
set_option maxRecDepth 100000
set_option linter.unusedVariables false
set_option linter.unusedSimpArgs false

/-- A writer in memory: its block p, its slice v; without an error v owns the bytes. -/
structure Wr (w : World) (p : Nat) (v : Value) (S : BE) : Prop where
  blk : w.heap[p]? = some (.cells #[v, .int .i64 S.2] 63 (0, 0))
  far : ∀ k, v.ownBlock = some k → p < k ∧ k < w.heap.size
  shape : ∃ a l c, v = .slice a l c
  own : S.2 = 0 → OwnB w (p + 1) v S.1.length S.1
  nrm : Nrm S
  rng : Rng S.1

/-- What a method of a writer changes: the writer's block, the row of its slice; its new row is the old one, or new. -/
def Chg (p : Nat) (v v' : Value) (w w' : World) : Prop := Kept (fun k => k = p ∨ v.ownBlock = some k) w w' ∧ ∀ k, v'.ownBlock = some k → v.ownBlock = some k ∨ w.heap.size ≤ k

theorem Chg.refl (p : Nat) (v : Value) (w : World) : Chg p v v w w := ⟨Kept.refl _ _, fun k h => .inl h⟩
theorem Chg.trans {p : Nat} {v v' v'' : Value} {a b c : World} (h : Chg p v v' a b) (k : Chg p v' v'' b c) : Chg p v v'' a c := by
  refine ⟨h.1.trans k.1 (fun i hi e => ?_), fun i hi => ?_⟩
  · rcases e with e | e
    · exact .inl e
    · rcases h.2 i e with e | e
      · exact .inr e
      · omega
  · rcases k.2 i hi with e | e
    · exact h.2 i e
    · exact .inr (Nat.le_trans h.1.size e)
theorem chg_new {p : Nat} {v : Value} {w w' : World} (h : Below w.heap.size w w') : Chg p v v w w' := ⟨kept_of h, fun k h => .inl h⟩

theorem Wr.new {w w' : World} {p : Nat} {v : Value} {S : BE} (h : Wr w p v S) (hB : Below w.heap.size w w') : Wr w' p v S :=
  ⟨(hB.block p (block_lt h.blk)).trans h.blk, fun k hk => ⟨(h.far k hk).1, Nat.lt_of_lt_of_le (h.far k hk).2 hB.size⟩, h.shape, fun e => (h.own e).old hB, h.nrm, h.rng⟩

theorem Wr.lt {w : World} {p : Nat} {v : Value} {S : BE} (h : Wr w p v S) : p < w.heap.size := block_lt h.blk

/-- Bytes that are read do not lie in a writer's block. -/
theorem Wr.apart {w : World} {p : Nat} {v : Value} {S : BE} (h : Wr w p v S) {a : Option Addr} {len cap : Nat} {zs : List Int} (hI : IsB w a len cap zs) : ∀ q, a = some q → 0 < len → q.block ≠ p := by
  intro q hq hl e
  obtain ⟨b, off, rfl, hR⟩ := hI.2.2.2.2 hl
  cases hq
  simp only at e
  subst e
  have hc := hR.cell 0 hl
  rw [World.cell?, h.blk] at hc
  obtain ⟨xa, xl, xc, rfl⟩ := h.shape
  match off, hc with
  | 0, hc => simp at hc
  | 1, hc => simp at hc
  | k + 2, hc => simp at hc

theorem Wr.setE {w : World} {p : Nat} {v : Value} {S : BE} (h : Wr w p v S) (hS : S.2 = 0) (e : Int) : Wr (w.setCell ⟨p, 1, none⟩ (.int .i64 e)) p v (seqB S ([], e)) := by
  have hb : (seqB S ([], e)).2 = e := by
    by_cases he : e = 0
    · rw [seqB_ok hS he, he]
    · rw [seqB_no hS he]
  refine ⟨by rw [hb]; exact two_set1 h.blk _, fun k hk => by simpa using h.far k hk, h.shape, fun e0 => ?_, nrm_seq _ _, rng_seq h.rng rng_nil⟩
  rw [hb] at e0
  have e1 : seqB S ([], e) = (S.1 ++ [], 0) := seqB_ok hS e0
  rw [e1, List.append_nil]
  exact (h.own hS).kept (one_kept w p 1 _) (fun k hk e => by have := (h.far k hk).1; omega)

set_option maxHeartbeats 400000 in
theorem wfail {w : World} {p : Nat} {v : Value} {S : BE} (h : Wr w p v S) (e : Int) :
    Calls Try.prog 25 #[.pointer (some ⟨p, 0, none⟩), .int .i64 e] w fun r w' => r = .returned (.tuple #[]) ∧ Wr w' p v (seqB S ([], e)) ∧ Kept (fun k => k = p) w w' := by
  obtain ⟨c0, c1, f0, f1⟩ := two_cells h.blk
  have hlt := h.lt
  have H : Hid (Wr w p v S) := h
  clear h
  by_cases hS : S.2 = 0
  · rw [hS] at c1
    have HS : Hid (S.2 = 0) := hS
    clear hS
    go_enter Try.func25, Try.ntmps25
    go_wp2
    go_end0
    exact ⟨rfl, H.out.setE HS.out e, one_kept _ _ _ _⟩
  · have t : (S.2 == 0) = false := by simpa using hS
    have HE : Hid (seqB S ([], e) = S) := seqB_keep H.out.nrm hS
    clear hS
    go_enter Try.func25, Try.ntmps25
    go_wp2
    go_end0
    exact ⟨rfl, by rw [HE.out]; exact H.out, Kept.refl _ _⟩

theorem Wr.grow {w w2 : World} {p : Nat} {v v2 : Value} {S : BE} (h : Wr w p v S) (hS : S.2 = 0) {zs : List Int} (hz : Rng zs) {len : Nat} (hl : zs.length = len) (ho : OwnB w2 (p + 1) v2 (S.1.length + len) (S.1 ++ zs)) (hK : Kept (fun k => v.ownBlock = some k) w w2)
    (hv : v2.ownBlock = v.ownBlock ∨ v2.ownBlock = some w.heap.size) : Wr (w2.setCell ⟨p, 0, none⟩ v2) p v2 (seqB S (zs, 0)) ∧ Chg p v v2 w (w2.setCell ⟨p, 0, none⟩ v2) := by
  have e1 : seqB S (zs, 0) = (S.1 ++ zs, 0) := seqB_ok hS rfl
  have hp := h.lt
  have hb : w2.heap[p]? = some (.cells #[v, .int .i64 S.2] 63 (0, 0)) := (hK.block p hp (fun e => by have := (h.far p e).1; omega)).trans h.blk
  have hfar : ∀ k, v2.ownBlock = some k → p + 1 ≤ k ∧ k < w2.heap.size := World.ownsRow.lt ho
  refine ⟨⟨by rw [e1, two_set0 hb, hS], fun k hk => by have := hfar k hk; simp; omega, ?_, fun _ => ?_, nrm_seq _ _, rng_seq h.rng hz⟩, ?_, fun k hk => ?_⟩
  · rcases ho.2 with ⟨rfl, _⟩ | ⟨g, cp, cur, rfl, _⟩ <;> exact ⟨_, _, _, rfl⟩
  · rw [e1]
    simp only [List.length_append]
    rw [hl]
    exact OwnB.kept ho (one_kept w2 p 0 v2) (fun k hk e => by have := (hfar k hk).1; omega)
  · exact (hK.trans (S' := fun _ => False) (Kept.refl _ _) (fun _ _ e => e.elim) |> fun hk => (⟨hk.os, hk.tape, hk.output, hk.size, fun k h1 h2 => hk.block k h1 (fun e => h2 (.inr e))⟩ : Kept (fun k => k = p ∨ v.ownBlock = some k) w w2)).setCell (p := ⟨p, 0, none⟩) (fun _ => .inl rfl) v2
  · rcases hv with e | e
    · exact .inl (e ▸ hk)
    · rw [e] at hk; cases hk; exact .inr (Nat.le_refl _)

theorem OwnB.shape {w : World} {base : Nat} {v : Value} {n : Nat} {X : List Int} (h : OwnB w base v n X) : ∃ a l c, v = .slice a l c := by
  rcases h.2 with ⟨rfl, _⟩ | ⟨g, cp, cur, rfl, _⟩ <;> exact ⟨_, _, _, rfl⟩

set_option maxHeartbeats 400000 in
theorem wpart {w : World} {p : Nat} {v : Value} {S : BE} (h : Wr w p v S) {a : Option Addr} {len cap : Nat} {zs : List Int} (hI : IsB w a len cap zs) (hbd : S.1.length + len ≤ 140737488355328) (e : Int) :
    Calls Try.prog 16 #[.pointer (some ⟨p, 0, none⟩), .slice a len cap, .int .i64 e] w fun r w' => r = .returned (.tuple #[]) ∧ ∃ v', Hid (Wr w' p v' (seqB S (zs, e))) ∧ Hid (Chg p v v' w w') := by
  have H : Hid (Wr w p v S) := h
  have HI : Hid (IsB w a len cap zs) := hI
  have HBD : Hid (S.1.length + len ≤ 140737488355328) := hbd
  clear h hI hbd
  go_enter Try.func16, Try.ntmps16
  go_wp2_with fail
  refine (wfail H.out e).mono ?_
  rintro r w1 ⟨rfl, h1, hK1⟩
  obtain ⟨c0, c1, f0, f1⟩ := two_cells h1.blk
  have hlt := h1.lt
  have H1 : Hid (Wr w1 p v (seqB S ([], e))) := h1
  have HK1 : Hid (Kept (fun k => k = p) w w1) := hK1
  have HC1 : Hid (Chg p v v w w1) := ⟨⟨hK1.os, hK1.tape, hK1.output, hK1.size, fun k h1 h2 => hK1.block k h1 (fun e => h2 (.inl e))⟩, fun k hk => .inl hk⟩
  have HI1 : Hid (IsB w1 a len cap zs) := HI.out.kept hK1 (fun q hq hl e => H.out.apart HI.out q hq hl e)
  clear h1 hK1
  by_cases hS : S.2 = 0 ∧ e = 0
  · obtain ⟨hS, rfl⟩ := hS
    have e1 : seqB S ([], 0) = S := seqB_unit H.out.nrm
    rw [e1] at H1 c1
    rw [hS] at c1
    have HO : Hid (OwnB w1 (p + 1) v S.1.length S.1) := H1.out.own hS
    have HS : Hid (S.2 = 0) := hS
    have hs : p + 1 ≤ w1.heap.size := hlt
    clear hS e1
    go_wp2_with (at_builtin; refine wpList_append_own rfl (.tmp 18) (.tmp 19) rfl rfl HO.out rfl HI1.out HBD.out hs ?_)
    intro v2 w2 ho2 hK2 hv2
    obtain ⟨xa2, xl2, xc2, rfl⟩ := ho2.shape
    have hb2 : w2.heap[p]? = some (.cells #[v, .int .i64 S.2] 63 (0, 0)) := (hK2.block p hlt (fun e => by have := (H1.out.far p e).1; omega)).trans H1.out.blk
    obtain ⟨d0, d1, g0, g1⟩ := two_cells hb2
    have hlt2 := block_lt hb2
    have HG : Hid (Wr (w2.setCell ⟨p, 0, none⟩ (.slice xa2 xl2 xc2)) p (.slice xa2 xl2 xc2) (seqB S (zs, 0)) ∧ Chg p v (.slice xa2 xl2 xc2) w1 (w2.setCell ⟨p, 0, none⟩ (.slice xa2 xl2 xc2))) := H1.out.grow HS.out HI1.out.range HI1.out.1 ho2 hK2 hv2
    clear ho2 hK2 hv2 hb2
    go_wp2_with fail
    go_end0
    exact ⟨rfl, _, HG.out.1, HC1.out.trans HG.out.2⟩
  · have hne : (seqB S ([], e)).2 ≠ 0 := by
      intro h0
      obtain ⟨h1, h2, _⟩ := seqB_fine h0
      exact hS ⟨h1, h2⟩
    have t : ((seqB S ([], e)).2 == 0) = false := by simpa using hne
    have HE : Hid (seqB S (zs, e) = seqB S ([], e)) := by
      show _ = _
      by_cases h0 : S.2 = 0
      · have he : e ≠ 0 := fun he => hS ⟨h0, he⟩
        rw [seqB_no h0 he, seqB_no h0 he]
      · rw [seqB_err _ h0, seqB_err _ h0]
    generalize seqB S ([], e) = S1 at *
    clear hne hS
    go_wp2_with fail
    go_end0
    exact ⟨rfl, v, by rw [HE.out]; exact H1, HC1⟩
end Go.Proofs.Ytcecdklgiocbaaa

namespace Go.Proofs.Ytcecdklgiocbaaa
open Go.RowKit
set_option maxRecDepth 100000
set_option linter.unusedVariables false
set_option linter.unusedSimpArgs false

theorem putL_four (N : Int) : putL N 4 = [N / 16777216 % 256, N / 65536 % 256, N / 256 % 256, N % 256] := by
  simp [putL, byteAt, List.range_succ]

theorem putL_two (N : Int) : (putL N 4).drop 2 = putL N 2 := by
  simp [putL, byteAt, List.range_succ]

theorem told_drop (N : Int) (Z : List Int) : (putL N 4 ++ Z).drop 2 = putL N 2 ++ Z := by
  rw [List.drop_append_of_le_length (by rw [putL_length]; omega), putL_two]

/-- The number with its sign. -/
def sig (N : Int) : Int := if 2147483648 ≤ N then N - 4294967296 else N

theorem told_int4 (N : Int) (Z : List Int) (h0 : 0 ≤ N) (h1 : N < 4294967296) : int4 (putL N 4 ++ Z) = sig N := by
  unfold int4
  rw [numTo_putL N 4 Z (by omega) (by omega)]
  unfold sgn sig
  simp only [show 8 * 4 - 1 = 31 from rfl, show 8 * 4 = 32 from rfl]
  have e : N % 2 ^ 32 % 2 ^ 32 = N := by omega
  rw [e]
  split <;> split <;> omega

theorem told_text (N : Int) (Z : List Int) (h0 : 0 ≤ N) : numTo (putL N 2 ++ Z) 2 = N % 65536 := numTo_putL N 2 Z (by omega) (by omega)

theorem told_len (N : Int) (n : Nat) (Z : List Int) : (putL N n ++ Z).length = n + Z.length := by rw [List.length_append, putL_length]

theorem told_behind (N : Int) (n k : Nat) (Z : List Int) : (putL N n ++ Z).drop (n + k) = Z.drop k := by
  have e : (putL N n ++ Z).drop n = Z := by
    have := List.drop_left (l₁ := putL N n) (l₂ := Z)
    rwa [putL_length] at this
  rw [← List.drop_drop, e]

theorem told_front (N : Int) (n : Nat) (Z : List Int) : (putL N n ++ Z).drop n = Z := by
  have := told_behind N n 0 Z
  simpa using this

theorem text_told_no (N : Int) (Z : List Int) (h0 : 0 ≤ N) (h : (Z.length : Int) < N % 65536) : textA (putL N 2 ++ Z) = ⟨0, [], 0, 10⟩ := by
  unfold textA
  rw [told_len, told_text N Z h0, if_neg (by omega), if_pos (by omega)]

theorem text_told_yes (N : Int) (Z : List Int) (S : Nat) (h0 : 0 ≤ N) (hS : N % 65536 = S) (h : S ≤ Z.length) : textA (putL N 2 ++ Z) = ⟨0, Z.take S, 2 + S, 0⟩ := by
  unfold textA
  rw [told_len, told_text N Z h0, hS, if_neg (by omega), if_neg (by omega), told_front, Int.toNat_natCast]

theorem value_told_form (N : Int) (Z : List Int) (h0 : 0 ≤ N) (h1 : N < 4294967296) (h : sig N < -2) : valueA (putL N 4 ++ Z) = ⟨0, [], 0, 11⟩ := by
  unfold valueA
  rw [told_len, told_int4 N Z h0 h1, if_neg (by omega), if_pos h]

theorem value_told_unset (N : Int) (Z : List Int) (h0 : 0 ≤ N) (h1 : N < 4294967296) (h : sig N = -2) : valueA (putL N 4 ++ Z) = ⟨1, [], 4, 0⟩ := by
  unfold valueA
  rw [told_len, told_int4 N Z h0 h1, if_neg (by omega), if_neg (by omega), if_pos h]

theorem value_told_null (N : Int) (Z : List Int) (h0 : 0 ≤ N) (h1 : N < 4294967296) (h : sig N = -1) : valueA (putL N 4 ++ Z) = ⟨0, [], 4, 0⟩ := by
  unfold valueA
  rw [told_len, told_int4 N Z h0 h1, if_neg (by omega), if_neg (by omega), if_neg (by omega), if_pos h]

theorem value_told_no (N : Int) (Z : List Int) (h0 : 0 ≤ N) (h1 : N < 4294967296) (h : (Z.length : Int) < sig N) : valueA (putL N 4 ++ Z) = ⟨0, [], 0, 10⟩ := by
  unfold valueA
  rw [told_len, told_int4 N Z h0 h1, if_neg (by omega), if_neg (by omega), if_neg (by omega), if_neg (by omega), if_pos (by omega)]

theorem value_told_yes (N : Int) (Z : List Int) (K : Nat) (h0 : 0 ≤ N) (h1 : N < 4294967296) (hK : sig N = K) (h : K ≤ Z.length) : valueA (putL N 4 ++ Z) = ⟨2, Z.take K, 4 + K, 0⟩ := by
  unfold valueA
  rw [told_len, told_int4 N Z h0 h1, hK, if_neg (by omega), if_neg (by omega), if_neg (by omega), if_neg (by omega), if_neg (by omega), told_front, Int.toNat_natCast]

theorem and_low (N : Int) (h0 : 0 ≤ N) (h1 : N < 4294967296) : bits .and .u32 N 65535 = N % 65536 := by
  rw [u32_and N 65535 h0 h1 (by omega) (by omega)]
  have e : (65535 : Int).toNat = 2 ^ 16 - 1 := by decide
  rw [e, Nat.and_two_pow_sub_one_eq_mod]
  omega

theorem str_join (A B : List Int) : strOfNums A ++ strOfNums B = strOfNums (A ++ B) := by
  apply ByteArray.ext
  apply Array.ext'
  simp [strOfNums, ByteArray.data_append]

theorem str_parts (Z : List Int) (K : Nat) : strOfNums (Z.take K) ++ strOfNums (Z.drop K) = strOfNums Z := by
  rw [str_join, List.take_append_drop]
end Go.Proofs.Ytcecdklgiocbaaa

namespace Go.Proofs.Ytcecdklgiocbaaa
open Go.RowKit
set_option maxRecDepth 100000
set_option linter.unusedVariables false
set_option linter.unusedSimpArgs false

/-- What is put of x is got, whatever is behind. -/
def Fits {α : Type} (p : List Int → Res α) (f : α → List Int × Int) (x : α) : Prop := (f x).2 = 0 → ∀ Z, p ((f x).1 ++ Z) = ⟨x, (f x).1.length, 0⟩

theorem fits_text (s : ByteArray) : Fits textR textB s := by
  intro h Z
  by_cases hs : s.size ≤ 65535
  · simp only [textB, if_pos hs]
    rw [List.append_assoc]
    have := text_told_yes (s.size : Int) (sNums s ++ Z) s.size (by omega) (by omega) (by rw [List.length_append, sNums_length]; omega)
    rw [textR, this]
    simp only [List.length_append, putL_length, sNums_length]
    rw [List.take_append_of_le_length (by rw [sNums_length]; omega), List.take_of_length_le (by rw [sNums_length]; omega), strOfNums_sNums]
  · simp [textB, hs] at h

/-- The items' bytes, one behind the other. -/
def bodyB {α : Type} (f : α → List Int × Int) (xs : List α) : List Int := xs.flatMap fun x => (f x).1

theorem goB_ok {α : Type} (f : α → List Int × Int) (xs : List α) : ∀ acc, (goB f xs acc).2 = 0 → (goB f xs acc).1 = acc ++ bodyB f xs ∧ ∀ x ∈ xs, (f x).2 = 0 := by
  induction xs with
  | nil => intro acc _; simp [goB, bodyB]
  | cons x r ih =>
    intro acc h
    rw [goB] at h ⊢
    by_cases he : (f x).2 = 0
    · rw [if_pos he] at h ⊢
      obtain ⟨h1, h2⟩ := ih _ h
      refine ⟨by rw [h1, bodyB, bodyB, List.flatMap_cons, List.append_assoc], fun y hy => ?_⟩
      rcases List.mem_cons.1 hy with rfl | hy
      · exact he
      · exact h2 y hy
    · rw [if_neg he] at h
      exact absurd h he

theorem goR_body {α : Type} {p : List Int → Res α} {f : α → List Int × Int} (xs : List α) (hf : ∀ x ∈ xs, Fits p f x) (he : ∀ x ∈ xs, (f x).2 = 0) (Z : List Int) :
    ∀ (P : List Int) (acc : List α) (d : Nat), d = P.length → goR p (P ++ (bodyB f xs ++ Z)) xs.length d acc = ⟨acc ++ xs, d + (bodyB f xs).length, 0⟩ := by
  induction xs with
  | nil => intro P acc d hd; simp [goR, bodyB]
  | cons x r ih =>
    intro P acc d hd
    have hx := hf x List.mem_cons_self (he x List.mem_cons_self) (bodyB f r ++ Z)
    have hb : bodyB f (x :: r) = (f x).1 ++ bodyB f r := by rw [bodyB, bodyB, List.flatMap_cons]
    have hdrop : (P ++ (bodyB f (x :: r) ++ Z)).drop d = (f x).1 ++ (bodyB f r ++ Z) := by rw [hd, List.drop_left, hb, List.append_assoc]
    have hih := ih (fun y hy => hf y (List.mem_cons_of_mem _ hy)) (fun y hy => he y (List.mem_cons_of_mem _ hy)) (P ++ (f x).1) (acc ++ [x]) (d + (f x).1.length) (by rw [List.length_append, hd])
    rw [List.length_cons, goR, hdrop, hx, if_pos rfl]
    simp only
    rw [hb, List.append_assoc, ← List.append_assoc P, hih, List.length_append]
    simp only [List.append_assoc, List.singleton_append, Nat.add_assoc]

theorem listB_ok {α : Type} {f : α → List Int × Int} {xs : List α} (h : (listB f xs).2 = 0) : xs.length ≤ 65535 ∧ (listB f xs).1 = putL xs.length 2 ++ bodyB f xs ∧ ∀ x ∈ xs, (f x).2 = 0 := by
  by_cases hl : xs.length ≤ 65535
  · rw [listB, if_pos hl] at h ⊢
    obtain ⟨h1, h2⟩ := goB_ok f xs _ h
    exact ⟨hl, h1, h2⟩
  · rw [listB, if_neg hl] at h
    exact absurd h (by decide)

theorem fits_list {α : Type} {p : List Int → Res α} {f : α → List Int × Int} (hf : ∀ x, Fits p f x) (xs : List α) : Fits (listR p) (listB f) xs := by
  intro h Z
  obtain ⟨hl, h1, h2⟩ := listB_ok h
  rw [h1, List.append_assoc, listR, if_neg (by rw [List.length_append, putL_length]; omega), told_text _ _ (by omega),
    show ((xs.length : Int) % 65536).toNat = xs.length by omega, goR_body xs (fun x _ => hf x) h2 Z _ _ _ (putL_length _ _).symm, List.nil_append, List.length_append, putL_length]

theorem fits_key {α : Type} [Inhabited α] {q : List Int → Res α} {g : α → List Int × Int} (hf : ∀ y, Fits q g y) (x : ByteArray × α) : Fits (keyR q) (keyB g) x := by
  intro h Z
  by_cases h1 : (textB x.1).2 = 0
  · by_cases h2 : (g x.2).2 = 0
    · have e : keyB g x = ((textB x.1).1 ++ (g x.2).1, 0) := by rw [keyB, if_pos h1, if_pos h2]
      have ht := fits_text x.1 h1 ((g x.2).1 ++ Z)
      have hq := hf x.2 h2 Z
      rw [e]
      simp only
      rw [List.append_assoc, keyR, ht]
      simp only
      rw [List.drop_left, hq, List.length_append]
      simp
    · rw [keyB, if_pos h1, if_neg h2] at h
      exact absurd h h2
  · rw [keyB, if_neg h1] at h
    exact absurd h h1
end Go.Proofs.Ytcecdklgiocbaaa

namespace Go.Proofs.Ytcecdklgiocbaaa
open Go.RowKit
set_option maxRecDepth 100000
set_option linter.unusedVariables false
set_option linter.unusedSimpArgs false

/-- What is put of x is read to its end, whatever is behind. -/
def Reads {α : Type} (p : List Int → Res α) (f : α → List Int × Int) (x : α) : Prop := (f x).2 = 0 → ∀ Z, (p ((f x).1 ++ Z)).err = 0 ∧ (p ((f x).1 ++ Z)).done = (f x).1.length
/-- Cut anywhere, it ends too early. -/
def Cuts {α : Type} (p : List Int → Res α) (f : α → List Int × Int) (x : α) : Prop := (f x).2 = 0 → ∀ k, k < (f x).1.length → (p ((f x).1.take k)).err = 10

theorem reads_text (s : ByteArray) : Reads textR textB s := by
  intro h Z
  rw [fits_text s h Z]
  exact ⟨rfl, rfl⟩

theorem cuts_text (s : ByteArray) : Cuts textR textB s := by
  intro h k hk
  by_cases hs : s.size ≤ 65535
  · simp only [textB, if_pos hs] at hk ⊢
    rw [List.length_append, putL_length, sNums_length] at hk
    by_cases h2 : k < 2
    · unfold textR textA
      rw [if_pos (by rw [List.length_take, List.length_append, putL_length, sNums_length]; omega)]
    · have e : (putL (s.size : Int) 2 ++ sNums s).take k = putL (s.size : Int) 2 ++ (sNums s).take (k - 2) := by
        rw [List.take_append, putL_length, List.take_of_length_le (by rw [putL_length]; omega)]
      rw [e]
      have := text_told_no (s.size : Int) ((sNums s).take (k - 2)) (by omega) (by rw [List.length_take, sNums_length]; omega)
      unfold textR
      rw [this]
  · simp only [textB, if_neg hs] at hk
    simp at hk

theorem goR_cut {α : Type} {p : List Int → Res α} {f : α → List Int × Int} (xs : List α) (hr : ∀ x ∈ xs, Reads p f x) (hc : ∀ x ∈ xs, Cuts p f x) (he : ∀ x ∈ xs, (f x).2 = 0) :
    ∀ (P : List Int) (acc : List α) (d j : Nat), d = P.length → j < (bodyB f xs).length → (goR p (P ++ (bodyB f xs).take j) xs.length d acc).err = 10 := by
  induction xs with
  | nil => intro P acc d j hd hj; simp [bodyB] at hj
  | cons x r ih =>
    intro P acc d j hd hj
    have hb : bodyB f (x :: r) = (f x).1 ++ bodyB f r := by rw [bodyB, bodyB, List.flatMap_cons]
    have hx0 := he x List.mem_cons_self
    rw [hb, List.length_append] at hj
    rw [List.length_cons, goR]
    by_cases hlt : j < (f x).1.length
    · have e : (P ++ (bodyB f (x :: r)).take j).drop d = (f x).1.take j := by
        rw [hd, List.drop_left, hb, List.take_append_of_le_length (by omega)]
      have h10 := hc x List.mem_cons_self hx0 j hlt
      rw [e, if_neg (by rw [h10]; decide)]
      exact h10
    · have e : (bodyB f (x :: r)).take j = (f x).1 ++ (bodyB f r).take (j - (f x).1.length) := by
        rw [hb, List.take_append, List.take_of_length_le (by omega)]
      have e2 : (P ++ (bodyB f (x :: r)).take j).drop d = (f x).1 ++ (bodyB f r).take (j - (f x).1.length) := by
        rw [hd, List.drop_left, e]
      obtain ⟨h1, h2⟩ := hr x List.mem_cons_self hx0 ((bodyB f r).take (j - (f x).1.length))
      rw [e2, if_pos h1, h2, e, ← List.append_assoc]
      exact ih (fun y hy => hr y (List.mem_cons_of_mem _ hy)) (fun y hy => hc y (List.mem_cons_of_mem _ hy)) (fun y hy => he y (List.mem_cons_of_mem _ hy)) (P ++ (f x).1) _ _ _ (by rw [List.length_append, hd]) (by omega)

theorem cuts_list {α : Type} {p : List Int → Res α} {f : α → List Int × Int} (xs : List α) (hr : ∀ x ∈ xs, Reads p f x) (hc : ∀ x ∈ xs, Cuts p f x) : Cuts (listR p) (listB f) xs := by
  intro h k hk
  obtain ⟨hl, h1, h2⟩ := listB_ok h
  rw [h1] at hk ⊢
  rw [List.length_append, putL_length] at hk
  by_cases hk2 : k < 2
  · unfold listR
    rw [if_pos (by rw [List.length_take, List.length_append, putL_length]; omega)]
  · have e : (putL (xs.length : Int) 2 ++ bodyB f xs).take k = putL (xs.length : Int) 2 ++ (bodyB f xs).take (k - 2) := by
      rw [List.take_append, putL_length, List.take_of_length_le (by rw [putL_length]; omega)]
    rw [e, listR, if_neg (by rw [List.length_append, putL_length]; omega), told_text _ _ (by omega), show ((xs.length : Int) % 65536).toNat = xs.length by omega]
    exact goR_cut xs hr hc h2 _ _ _ _ (putL_length _ _).symm (by omega)

theorem reads_key {α : Type} [Inhabited α] {q : List Int → Res α} {g : α → List Int × Int} (x : ByteArray × α) (hq : Reads q g x.2) : Reads (keyR q) (keyB g) x := by
  intro h Z
  by_cases h1 : (textB x.1).2 = 0
  · by_cases h2 : (g x.2).2 = 0
    · have e : keyB g x = ((textB x.1).1 ++ (g x.2).1, 0) := by rw [keyB, if_pos h1, if_pos h2]
      have ht := fits_text x.1 h1 ((g x.2).1 ++ Z)
      obtain ⟨g1, g2⟩ := hq h2 Z
      rw [e]
      simp only
      rw [List.append_assoc, keyR, ht]
      simp only
      rw [List.drop_left, if_pos trivial, if_pos g1, List.length_append, g2]
      exact ⟨rfl, rfl⟩
    · rw [keyB, if_pos h1, if_neg h2] at h
      exact absurd h h2
  · rw [keyB, if_neg h1] at h
    exact absurd h h1

theorem cuts_key {α : Type} [Inhabited α] {q : List Int → Res α} {g : α → List Int × Int} (x : ByteArray × α) (hq : Cuts q g x.2) : Cuts (keyR q) (keyB g) x := by
  intro h k hk
  by_cases h1 : (textB x.1).2 = 0
  · by_cases h2 : (g x.2).2 = 0
    · have e : keyB g x = ((textB x.1).1 ++ (g x.2).1, 0) := by rw [keyB, if_pos h1, if_pos h2]
      rw [e] at hk ⊢
      simp only [List.length_append] at hk ⊢
      by_cases hlt : k < (textB x.1).1.length
      · have h10 := cuts_text x.1 h1 k hlt
        rw [List.take_append_of_le_length (by omega), keyR, if_neg (by rw [h10]; decide)]
        exact h10
      · have e2 : ((textB x.1).1 ++ (g x.2).1).take k = (textB x.1).1 ++ (g x.2).1.take (k - (textB x.1).1.length) := by
          rw [List.take_append, List.take_of_length_le (by omega)]
        have ht := fits_text x.1 h1 ((g x.2).1.take (k - (textB x.1).1.length))
        have h10 := hq h2 (k - (textB x.1).1.length) (by omega)
        rw [e2, keyR, ht]
        simp only
        rw [List.drop_left, if_pos trivial, if_neg (by rw [h10]; decide)]
        exact h10
    · rw [keyB, if_pos h1, if_neg h2] at h
      exact absurd h h2
  · rw [keyB, if_neg h1] at h
    exact absurd h h1

theorem minus_one (Z : List Int) : valueA ([255, 255, 255, 255] ++ Z) = ⟨0, [], 4, 0⟩ := by
  have e : putL 4294967295 4 = [255, 255, 255, 255] := by decide +kernel
  rw [← e]
  exact value_told_null 4294967295 Z (by omega) (by omega) (by decide +kernel)
theorem minus_two (Z : List Int) : valueA ([255, 255, 255, 254] ++ Z) = ⟨1, [], 4, 0⟩ := by
  have e : putL 4294967294 4 = [255, 255, 255, 254] := by decide +kernel
  rw [← e]
  exact value_told_unset 4294967294 Z (by omega) (by omega) (by decide +kernel)

theorem sig_small (n : Nat) (h : n < 2147483648) : sig (n : Int) = n := by
  unfold sig
  split <;> omega

theorem four_short (a b c d : Int) (k : Nat) (hk : k < 4) : (valueA ([a, b, c, d].take k)).err = 10 := by
  unfold valueA
  rw [if_pos (by rw [List.length_take]; simp; omega)]

theorem reads_value (x : Int × ByteArray) (hx : x.2.size < 2147483648) : Reads valueR valueB x := by
  intro h Z
  unfold valueR
  simp only
  unfold valueB at h ⊢
  by_cases h0 : x.1 = 0
  · rw [if_pos h0]; simp only; rw [minus_one]; exact ⟨rfl, rfl⟩
  rw [if_neg h0] at h ⊢
  by_cases h1 : x.1 = 1
  · rw [if_pos h1]; simp only; rw [minus_two]; exact ⟨rfl, rfl⟩
  rw [if_neg h1] at h ⊢
  by_cases h2 : x.1 = 2
  · rw [if_pos h2]
    simp only
    rw [List.append_assoc, value_told_yes (x.2.size : Int) (sNums x.2 ++ Z) x.2.size (by omega) (by omega) (sig_small _ hx) (by rw [List.length_append, sNums_length]; omega), List.length_append, putL_length, sNums_length]
    exact ⟨rfl, rfl⟩
  · rw [if_neg h2] at h; exact absurd h (by decide)

theorem cuts_value (x : Int × ByteArray) (hx : x.2.size < 2147483648) : Cuts valueR valueB x := by
  intro h k hk
  unfold valueR
  simp only
  unfold valueB at h hk ⊢
  by_cases h0 : x.1 = 0
  · rw [if_pos h0] at hk ⊢; exact four_short _ _ _ _ k hk
  rw [if_neg h0] at h hk ⊢
  by_cases h1 : x.1 = 1
  · rw [if_pos h1] at hk ⊢; exact four_short _ _ _ _ k hk
  rw [if_neg h1] at h hk ⊢
  by_cases h2 : x.1 = 2
  · rw [if_pos h2] at hk ⊢
    simp only at hk ⊢
    rw [List.length_append, putL_length, sNums_length] at hk
    by_cases hk4 : k < 4
    · unfold valueA
      rw [if_pos (by rw [List.length_take, List.length_append, putL_length]; omega)]
    · have e : (putL (x.2.size : Int) 4 ++ sNums x.2).take k = putL (x.2.size : Int) 4 ++ (sNums x.2).take (k - 4) := by
        rw [List.take_append, putL_length, List.take_of_length_le (by rw [putL_length]; omega)]
      rw [e, value_told_no (x.2.size : Int) _ (by omega) (by omega) (by rw [sig_small _ hx, List.length_take, sNums_length]; omega)]
  · rw [if_neg h2] at h; exact absurd h (by decide)
end Go.Proofs.Ytcecdklgiocbaaa

namespace Go.Proofs.Ytcecdklgiocbaaa
open Go.RowKit
set_option maxRecDepth 100000
set_option linter.unusedVariables false
set_option linter.unusedSimpArgs false

def longA (zs : List Int) : Ans :=
  if zs.length < 4 then ⟨0, [], 0, 10⟩ else if int4 zs < 0 then ⟨0, [], 0, 11⟩ else if ((zs.length - 4 : Nat) : Int) < int4 zs then ⟨0, [], 0, 10⟩ else ⟨0, (zs.drop 4).take (int4 zs).toNat, 4 + (int4 zs).toNat, 0⟩

set_option maxHeartbeats 400000 in
theorem getLong_short0 (a : Option Addr) (len cap : Nat) (w : World) (hl : len < 4) :
    Calls Try.prog 39 #[.slice a len cap] w fun e w' => e = .returned (.tuple #[.string ByteArray.empty, .slice none 0 0, .int .i64 10]) ∧ Below w.heap.size w w' := by
  go_enter Try.func39, Try.ntmps39
  go_wp2_with fail
  refine (getInt_short a len cap _ hl).mono ?_
  rintro e w1 ⟨rfl, rfl⟩
  go_wp2_with fail
  go_ret3
  exact ⟨rfl, Below.refl _ _⟩

set_option maxHeartbeats 400000 in
theorem getLong_neg {w : World} {b off len cap : Nat} {zs : List Int} (h : BRow w b off len cap zs) (hl : 4 ≤ len) (hn : int4 zs < 0) :
    Calls Try.prog 39 #[.slice (some ⟨b, off, none⟩) len cap] w fun e w' => e = .returned (.tuple #[.string ByteArray.empty, .slice none 0 0, .int .i64 11]) ∧ Below w.heap.size w w' := by
  have H : Hid _ := h
  clear h
  go_enter Try.func39, Try.ntmps39
  go_wp2_with fail
  refine (getInt_yes H.out hl).mono ?_
  rintro e w1 ⟨off', rfl, hR, hB⟩
  go_wp2_with fail
  go_ret3
  exact ⟨rfl, hB⟩

set_option maxHeartbeats 400000 in
theorem getLong_short {w : World} {b off len cap : Nat} {zs : List Int} (h : BRow w b off len cap zs) (hl : 4 ≤ len) (hn : ((len - 4 : Nat) : Int) < int4 zs) :
    Calls Try.prog 39 #[.slice (some ⟨b, off, none⟩) len cap] w fun e w' => e = .returned (.tuple #[.string ByteArray.empty, .slice none 0 0, .int .i64 10]) ∧ Below w.heap.size w w' := by
  have H : Hid _ := h
  have hlm : len ≤ maxLen := Nat.le_trans h.le h.cap_le
  have HN : Hid _ := hn
  have HLM : Hid (len - 4 ≤ maxLen) := (by omega : len - 4 ≤ maxLen)
  have hcn := conv_nil
  have h0 : 0 ≤ int4 zs := by omega
  have hbd := (int4_bounds zs).2
  clear h hn hlm
  go_enter Try.func39, Try.ntmps39
  go_wp2_with fail
  refine (getInt_yes H.out hl).mono ?_
  rintro e w1 ⟨off', rfl, hR, hB⟩
  have HR : Hid _ := hR
  clear hR
  go_wp2_with fail
  refine (btake_short _ _ _ _ _ HLM.out HN.out).mono ?_
  rintro e w2 ⟨rfl, rfl⟩
  go_wp2_with fail
  go_ret3
  exact ⟨rfl, hB⟩

set_option maxHeartbeats 400000 in
theorem getLong_yes {w : World} {b off len cap : Nat} {zs : List Int} (h : BRow w b off len cap zs) (hsm : len ≤ 140737488351232) (n : Nat) (hl : 4 + n ≤ len) (hn : int4 zs = n) :
    Calls Try.prog 39 #[.slice (some ⟨b, off, none⟩) len cap] w fun e w' => ∃ off', e = .returned (.tuple #[.string (strOfNums ((zs.drop 4).take n)), .slice (some ⟨b, off', none⟩) (len - 4 - n) (cap - 4 - n), .int .i64 0]) ∧
      BRow w' b off' (len - 4 - n) (cap - 4 - n) (zs.drop (4 + n)) ∧ Below w.heap.size w w' := by
  have H : Hid _ := h
  have HN : Hid _ := hn
  have h0 : 0 ≤ int4 zs := by omega
  have hbd := (int4_bounds zs).2
  clear h hn
  go_enter Try.func39, Try.ntmps39
  go_wp2_with fail
  refine (getInt_yes H.out (by omega)).mono ?_
  rintro e w1 ⟨off', rfl, hR, hB⟩
  have HR : Hid _ := hR
  clear hR
  go_wp2_with fail
  refine (btake HR.out n (by omega) (by omega) _ HN.out).mono ?_
  rintro e w2 ⟨off2, rfl, hX, hR2, hB2, _⟩
  have hcv := hX.conv
  rw [List.drop_drop] at hR2
  have HR2 : Hid _ := hR2
  obtain ⟨T, hT⟩ : ∃ T, T = strOfNums ((zs.drop 4).take n) := ⟨_, rfl⟩
  rw [← hT] at hcv
  have HT : Hid _ := hT
  clear hX hR2 hT
  go_wp2_with fail
  go_ret3
  exact ⟨off2, by rw [← HT.out]; rfl, HR2.out, hB.trans (hB2.mono hB.size)⟩

set_option maxHeartbeats 400000 in
theorem long_yes (s : ByteArray) (w : World) (hs : s.size ≤ 140737488351232) :
    Calls Try.prog 58 #[.string s] w fun e w' => ∃ v, e = .returned v ∧ OwnB w' w.heap.size v (4 + s.size) (putL s.size 4 ++ sNums s) ∧ Below w.heap.size w w' := by
  obtain ⟨i0, hi, hz0, hz1, hz2⟩ := info_parts Try.info5
  have HI : Hid (Try.prog.info? 5 = some i0 ∧ i0.zero = some (.int .u8 0) ∧ i0.size = 1 ∧ i0.bytes = 1) := ⟨hi, hz0, hz1, hz2⟩
  have HW : Hid (IntKind.u64.wrap (s.size : Int) = s.size) := (by rw [IntKind.wrap_u64]; omega : IntKind.u64.wrap (s.size : Int) = s.size)
  clear hi hz0 hz1 hz2
  go_enter Try.func58, Try.ntmps58
  go_wp2_with fail
  refine (putInt_any s.size _).mono ?_
  rintro e w1 ⟨v, rfl, ho, hB⟩
  rw [HW.out] at ho
  have HO : Hid _ := ho
  clear ho
  go_wp2_with (at_builtin; refine Lib.wpList_append_own_string _ rfl (.tmp 5) (.tmp 6) 23 9 rfl w.heap.size 5 i0 Try.underlying23 Try.underlying9 HI.out.1 HI.out.2.1 HI.out.2.2.1 HI.out.2.2.2 _ _ _ rfl HO.out s rfl ?c1 ?c2 ?c3 ?_)
  case c1 => unfold maxLen; omega
  case c2 => omega
  case c3 => exact hB.size
  intro v2 w2 ho2 hg _
  have HO2 : Hid _ := OwnB.join ho2 (sNums_cells s)
  have hB2 : Below w.heap.size w w2 := hB.grown hg hB.size (OwnB.block HO.out)
  clear ho2 hg
  go_wp2_with fail
  go_ret
  exact ⟨v2, rfl, HO2.out, hB2⟩

theorem getLong_any {w : World} {a : Option Addr} {len cap : Nat} {zs : List Int} (h : IsB w a len cap zs) (hsm : len ≤ 140737488351232) :
    Calls Try.prog 39 #[.slice a len cap] w fun e w' => ∃ r lr cr, e = .returned (.tuple #[.string (strOfNums (longA zs).bytes), .slice r lr cr, .int .i64 (longA zs).err]) ∧ Hid (Behind w' a r lr cr zs (longA zs).done (longA zs).err) ∧ Below w.heap.size w w' := by
  obtain ⟨h1, h2, h3, h4, h5⟩ := h
  subst h1
  by_cases hl : zs.length < 4
  · simp only [longA, if_pos hl]
    refine (getLong_short0 a _ cap w hl).mono ?_
    rintro e w' ⟨rfl, hB⟩
    exact ⟨none, 0, 0, by rw [str_nil], .inl ⟨by decide, rfl⟩, hB⟩
  · obtain ⟨b, off, rfl, hR⟩ := h5 (by omega)
    have hb := hR.lt (by omega)
    simp only [longA, if_neg hl]
    by_cases hg : int4 zs < 0
    · simp only [if_pos hg]
      refine (getLong_neg hR (by omega) hg).mono ?_
      rintro e w' ⟨rfl, hB⟩
      exact ⟨none, 0, 0, by rw [str_nil], .inl ⟨by decide, rfl⟩, hB⟩
    · simp only [if_neg hg]
      by_cases hn : ((zs.length - 4 : Nat) : Int) < int4 zs
      · simp only [if_pos hn]
        refine (getLong_short hR (by omega) hn).mono ?_
        rintro e w' ⟨rfl, hB⟩
        exact ⟨none, 0, 0, by rw [str_nil], .inl ⟨by decide, rfl⟩, hB⟩
      · simp only [if_neg hn]
        obtain ⟨n, hn2⟩ := Int.eq_ofNat_of_zero_le (show 0 ≤ int4 zs by omega)
        rw [hn2, Int.toNat_natCast]
        refine (getLong_yes hR hsm n (by omega) hn2).mono ?_
        rintro e w' ⟨off', rfl, hR', hB⟩
        exact ⟨_, _, _, rfl, .inr ⟨rfl, by omega, by omega, b, off, off', rfl, rfl, Nat.lt_of_lt_of_le hb hB.size, hR'⟩, hB⟩

theorem long_told_neg (N : Int) (Z : List Int) (h0 : 0 ≤ N) (h1 : N < 4294967296) (h : sig N < 0) : longA (putL N 4 ++ Z) = ⟨0, [], 0, 11⟩ := by
  unfold longA
  rw [told_len, told_int4 N Z h0 h1, if_neg (by omega), if_pos h]

theorem long_told_no (N : Int) (Z : List Int) (h0 : 0 ≤ N) (h1 : N < 4294967296) (h : (Z.length : Int) < sig N) : longA (putL N 4 ++ Z) = ⟨0, [], 0, 10⟩ := by
  unfold longA
  rw [told_len, told_int4 N Z h0 h1, if_neg (by omega), if_neg (by omega), if_pos (by omega)]

theorem long_told_yes (N : Int) (Z : List Int) (K : Nat) (h0 : 0 ≤ N) (h1 : N < 4294967296) (hK : sig N = K) (h : K ≤ Z.length) : longA (putL N 4 ++ Z) = ⟨0, Z.take K, 4 + K, 0⟩ := by
  unfold longA
  rw [told_len, told_int4 N Z h0 h1, hK, if_neg (by omega), if_neg (by omega), if_neg (by omega), told_front, Int.toNat_natCast]
end Go.Proofs.Ytcecdklgiocbaaa
