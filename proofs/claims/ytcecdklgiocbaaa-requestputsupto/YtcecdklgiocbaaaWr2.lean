/-
  The writer's methods number, count, long, id, kind; prims.Consistency.
-/
import Derived.Test.YtcecdklgiocbaaaLo3
namespace Go.Proofs.Ytcecdklgiocbaaa
open Go.RowKit
set_option maxRecDepth 100000
set_option linter.unusedVariables false
set_option linter.unusedSimpArgs false

theorem wpart_new {w w1 : World} {p : Nat} {v : Value} {S : BE} (h : Wr w p v S) (hB : Below w.heap.size w w1) {a : Option Addr} {len cap : Nat} {zs : List Int} (hI : IsB w1 a len cap zs) (hbd : S.1.length + len ≤ 140737488355328) (e : Int) :
    Calls Try.prog 16 #[.pointer (some ⟨p, 0, none⟩), .slice a len cap, .int .i64 e] w1 fun r w' => r = .returned (.tuple #[]) ∧ ∃ v', Hid (Wr w' p v' (seqB S (zs, e))) ∧ Hid (Chg p v v' w w') := by
  refine (wpart (h.new hB) hI hbd e).mono ?_
  rintro r w2 ⟨rfl, v2, HW, HC⟩
  exact ⟨rfl, v2, HW, (chg_new hB).trans HC.out⟩

set_option maxHeartbeats 400000 in
theorem wnumber {w : World} {p : Nat} {v : Value} {S : BE} (h : Wr w p v S) (x : Int) (n : Nat) (h1 : 1 ≤ n) (h2 : n ≤ 8) (hx : 0 ≤ x) (hbd : S.1.length + n ≤ 140737488355328) (m : Int) (hm : m = n) :
    Calls Try.prog 61 #[.pointer (some ⟨p, 0, none⟩), .int .u64 x, .int .i64 m] w fun r w' => r = .returned (.tuple #[]) ∧ ∃ v', Hid (Wr w' p v' (seqB S (numB x n))) ∧ Hid (Chg p v v' w w') := by
  have H : Hid (Wr w p v S) := h
  have HBD : Hid (S.1.length + (putL x n).length ≤ 140737488355328) := by show _ ≤ _; rw [putL_length]; exact hbd
  have HM : Hid (m = n) := hm
  clear h hbd hm
  go_enter Try.func61, Try.ntmps61
  go_wp2_with fail
  refine (put_own x n _ h1 h2 hx _ HM.out).mono ?_
  rintro e w1 ⟨v1, rfl, ho, hB⟩
  obtain ⟨a, cp, rfl, hp⟩ := ho.put (putL_range x n)
  have HP : Hid (IsB w1 a (putL x n).length cp (putL x n)) := hp.2
  have HB : Hid (Below w.heap.size w w1) := hB
  clear ho hp hB
  go_wp2_with fail
  refine (wpart_new H.out HB.out HP.out HBD.out 0).mono ?_
  rintro r w2 ⟨rfl, v2, HW, HC⟩
  go_wp2_with fail
  go_end0
  exact ⟨rfl, v2, HW, HC⟩

theorem seq_count (S : BE) (n : Nat) (h : ¬ n ≤ 65535) (B : BE) : seqB (seqB S ([], 12)) B = seqB S (countB n) := by
  rw [seqB_assoc, countB, if_neg h, seqB_err B (by decide : ((12 : Int)) ≠ 0)]

set_option maxHeartbeats 400000 in
theorem wcount {w : World} {p : Nat} {v : Value} {S : BE} (h : Wr w p v S) (n : Nat) (hn : n ≤ maxLen) (hbd : S.1.length + 2 ≤ 140737488355328) :
    Calls Try.prog 63 #[.pointer (some ⟨p, 0, none⟩), .int .i64 n] w fun r w' => r = .returned (.tuple #[]) ∧ ∃ v', Hid (Wr w' p v' (seqB S (countB n))) ∧ Hid (Chg p v v' w w') := by
  have H : Hid (Wr w p v S) := h
  have HBD : Hid (S.1.length + 2 ≤ 140737488355328) := hbd
  unfold maxLen at hn
  clear h hbd
  by_cases hl : n ≤ 65535
  · have HE : Hid (countB n = numB n 2) := by show _ = _; rw [countB, if_pos hl]; rfl
    go_enter Try.func63, Try.ntmps63
    go_wp2_with fail
    refine (wnumber H.out n 2 (by omega) (by omega) (by omega) HBD.out _ rfl).mono ?_
    rintro r w2 ⟨rfl, v2, HW, HC⟩
    go_wp2_with fail
    go_end0
    exact ⟨rfl, v2, by rw [HE.out]; exact HW, HC⟩
  · have HL : Hid (¬ n ≤ 65535) := hl
    go_enter Try.func63, Try.ntmps63
    go_wp2_with fail
    refine (wfail H.out 12).mono ?_
    rintro r w1 ⟨rfl, h1, hK1⟩
    have H1 : Hid (Wr w1 p v (seqB S ([], 12))) := h1
    have HC1 : Hid (Chg p v v w w1) := ⟨⟨hK1.os, hK1.tape, hK1.output, hK1.size, fun k h1 h2 => hK1.block k h1 (fun e => h2 (.inl e))⟩, fun k hk => .inl hk⟩
    have HBD1 : Hid ((seqB S ([], 12)).1.length + 2 ≤ 140737488355328) := by
      show _ ≤ _
      have h0 : (seqB S ([], 12)).1 = [] := by
        by_cases h0 : S.2 = 0
        · rw [seqB_no h0 (by decide : ((12 : Int)) ≠ 0)]
        · rw [seqB_err _ h0]
      rw [h0]; simp
    clear h1 hK1
    go_wp2_with fail
    refine (wnumber H1.out n 2 (by omega) (by omega) (by omega) HBD1.out _ rfl).mono ?_
    rintro r w2 ⟨rfl, v2, HW, HC⟩
    go_wp2_with fail
    go_end0
    exact ⟨rfl, v2, by rw [← seq_count S n HL.out]; exact HW, HC1.out.trans HC.out⟩

set_option maxHeartbeats 400000 in
theorem wlong {w : World} {p : Nat} {v : Value} {S : BE} (h : Wr w p v S) (s : ByteArray) (hbd : S.1.length + s.size ≤ 140737488351232) :
    Calls Try.prog 18 #[.pointer (some ⟨p, 0, none⟩), .string s] w fun r w' => r = .returned (.tuple #[]) ∧ ∃ v', Hid (Wr w' p v' (seqB S (longB s))) ∧ Hid (Chg p v v' w w') := by
  have H : Hid (Wr w p v S) := h
  have HBD : Hid (S.1.length + (putL s.size 4 ++ sNums s).length ≤ 140737488355328) := by show _ ≤ _; rw [List.length_append, putL_length, sNums_length]; omega
  have HS : Hid (s.size ≤ 140737488351232) := by show _ ≤ _; omega
  clear h hbd
  go_enter Try.func18, Try.ntmps18
  go_wp2_with fail
  refine (long_yes s _ HS.out).mono ?_
  rintro e w1 ⟨v1, rfl, ho, hB⟩
  obtain ⟨X, hX⟩ : ∃ X, X = putL (s.size : Int) 4 ++ sNums s := ⟨_, rfl⟩
  rw [← hX] at ho HBD
  obtain ⟨a, cp, rfl, hp⟩ := ho.put (by rw [hX]; exact range_append (putL_range _ _) (sNums_range s))
  have HP : Hid (IsB w1 a X.length cp X) := hp.2
  have HB : Hid (Below w.heap.size w w1) := hB
  have HX : Hid (longB s = (X, 0)) := by show _ = _; rw [hX]; rfl
  clear ho hp hB hX
  go_wp2_with fail
  refine (wpart_new H.out HB.out HP.out HBD.out 0).mono ?_
  rintro r w2 ⟨rfl, v2, HW, HC⟩
  go_wp2_with fail
  go_end0
  exact ⟨rfl, v2, by rw [HX.out]; exact HW, HC⟩

theorem text_seq (s : ByteArray) : seqB (countB s.size) (sNums s, 0) = textB s := by
  unfold countB textB
  by_cases h : s.size ≤ 65535
  · rw [if_pos h, if_pos h, seqB_ok rfl rfl]
  · rw [if_neg h, if_neg h, seqB_err _ (by decide : ((12 : Int)) ≠ 0)]

theorem seqB_len (A B : BE) : (seqB A B).1.length ≤ A.1.length + B.1.length := by
  unfold seqB
  split
  · split
    · simp
    · simp
  · simp

theorem countB_len (n : Nat) : (countB n).1.length ≤ 2 := by
  unfold countB
  split
  · simp [putL_length]
  · simp

theorem IsB.len_max {w : World} {a : Option Addr} {len cap : Nat} {zs : List Int} (h : IsB w a len cap zs) : len ≤ maxLen := Nat.le_trans h.2.1 h.2.2.1

/-- Bytes that are read stay, whatever a writer does, if they do not lie in its row. -/
theorem Chg.isB {p : Nat} {v v' : Value} {w w' : World} (hC : Chg p v v' w w') {a : Option Addr} {len cap : Nat} {zs : List Int} (hI : IsB w a len cap zs) (hn : ∀ q, a = some q → 0 < len → q.block ≠ p ∧ v.ownBlock ≠ some q.block) : IsB w' a len cap zs :=
  hI.kept hC.1 (fun q hq hl e => by
    obtain ⟨h1, h2⟩ := hn q hq hl
    rcases e with e | e
    · exact h1 e
    · exact h2 e)

set_option maxHeartbeats 400000 in
/-- id: the bytes lie below the writer. -/
theorem wid {w : World} {p : Nat} {v : Value} {S : BE} (h : Wr w p v S) {a : Option Addr} {len cap : Nat} {s : ByteArray} (hI : IsB w a len cap (sNums s)) (hlow : ∀ q, a = some q → 0 < len → q.block < p) (hbd : S.1.length + s.size ≤ 140737488351232) :
    Calls Try.prog 20 #[.pointer (some ⟨p, 0, none⟩), .slice a len cap] w fun r w' => r = .returned (.tuple #[]) ∧ ∃ v', Hid (Wr w' p v' (seqB S (textB s))) ∧ Hid (Chg p v v' w w') := by
  have hl : s.size = len := by rw [← sNums_length]; exact hI.1
  have H : Hid (Wr w p v S) := h
  have HI : Hid (IsB w a len cap (sNums s)) := hI
  have HL : Hid (∀ q, a = some q → 0 < len → q.block < p) := hlow
  have HBD : Hid (S.1.length + s.size ≤ 140737488351232) := hbd
  have HLS : Hid (s.size = len) := hl
  have HM : Hid (len ≤ maxLen) := hI.len_max
  clear h hI hlow hbd hl
  go_enter Try.func20, Try.ntmps20
  go_wp2_with fail
  refine (wcount H.out len HM.out (by have := HBD.out; omega)).mono ?_
  rintro r w1 ⟨rfl, v1, HW1, HC1⟩
  have HI1 : Hid (IsB w1 a len cap (sNums s)) := HC1.out.isB HI.out (fun q hq hl => by
    have h1 := HL.out q hq hl
    exact ⟨by omega, fun e => by have := (H.out.far _ e).1; omega⟩)
  have HBD1 : Hid ((seqB S (countB len)).1.length + len ≤ 140737488355328) := by
    show _ ≤ _
    have h1 := seqB_len S (countB len)
    have h2 := countB_len len
    have h3 := HBD.out
    have h4 := HLS.out
    omega
  go_wp2_with fail
  refine (wpart HW1.out HI1.out HBD1.out 0).mono ?_
  rintro r w2 ⟨rfl, v2, HW, HC⟩
  go_wp2_with fail
  go_end0
  refine ⟨rfl, v2, ?_, HC1.out.trans HC.out⟩
  rw [← text_seq, ← seqB_assoc, HLS.out]
  exact HW

set_option maxHeartbeats 400000 in
theorem wkind {w : World} {p : Nat} {v : Value} {S : BE} (h : Wr w p v S) (k : Int) (h0 : 0 ≤ k) (h1 : k ≤ 255) (hbd : S.1.length + 1 ≤ 140737488355328) :
    Calls Try.prog 23 #[.pointer (some ⟨p, 0, none⟩), .int .u8 k] w fun r w' => r = .returned (.tuple #[]) ∧ ∃ v', Hid (Wr w' p v' (seqB S (kindB k))) ∧ Hid (Chg p v v' w w') := by
  have H : Hid (Wr w p v S) := h
  have HBD : Hid (S.1.length + 1 ≤ 140737488355328) := hbd
  clear h hbd
  by_cases hl : k ≤ 2
  · have HE : Hid (kindB k = numB k 1) := by show _ = _; rw [kindB, if_pos hl]; rfl
    go_enter Try.func23, Try.ntmps23
    go_wp2_with fail
    refine (wnumber H.out k 1 (by omega) (by omega) (by omega) HBD.out _ rfl).mono ?_
    rintro r w2 ⟨rfl, v2, HW, HC⟩
    go_wp2_with fail
    go_end0
    exact ⟨rfl, v2, by rw [HE.out]; exact HW, HC⟩
  · have HE : Hid (∀ B, seqB (seqB S ([], 1)) B = seqB S (kindB k)) := by
      intro B
      rw [seqB_assoc, kindB, if_neg hl, seqB_err B (by decide : ((1 : Int)) ≠ 0)]
    go_enter Try.func23, Try.ntmps23
    go_wp2_with fail
    refine (wfail H.out 1).mono ?_
    rintro r w1 ⟨rfl, h1, hK1⟩
    have H1 : Hid (Wr w1 p v (seqB S ([], 1))) := h1
    have HC1 : Hid (Chg p v v w w1) := ⟨⟨hK1.os, hK1.tape, hK1.output, hK1.size, fun k h1 h2 => hK1.block k h1 (fun e => h2 (.inl e))⟩, fun k hk => .inl hk⟩
    have HBD1 : Hid ((seqB S ([], 1)).1.length + 1 ≤ 140737488355328) := by
      show _ ≤ _
      have := seqB_len S ([], 1)
      have h3 := HBD.out
      simp only [List.length_nil] at this
      omega
    clear h1 hK1
    go_wp2_with fail
    refine (wnumber H1.out k 1 (by omega) (by omega) (by omega) HBD1.out _ rfl).mono ?_
    rintro r w2 ⟨rfl, v2, HW, HC⟩
    go_wp2_with fail
    go_end0
    exact ⟨rfl, v2, by rw [← HE.out]; exact HW, HC1.out.trans HC.out⟩

set_option maxHeartbeats 400000 in
theorem isCons_any (c : Int) (w : World) : Calls Try.prog 97 #[.int .u64 c] w fun e w' => e = .returned (.bool (decide (c ≤ 10))) ∧ w' = w := by
  go_enter Try.func97, Try.ntmps97
  go_wp2
  go_ret
  exact ⟨rfl, rfl⟩

set_option maxHeartbeats 400000 in
theorem cons_any (c : Int) (h0 : 0 ≤ c) (h1 : c ≤ 65535) (w : World) {B : BE} (hB : B = consB c) :
    Calls Try.prog 59 #[.int .u16 c] w fun e w' => ∃ a cp, e = .returned (.tuple #[.slice a B.1.length cp, .int .i64 B.2]) ∧ Hid (Put w' w.heap.size a cp B.1) ∧ Hid (Below w.heap.size w w') := by
  by_cases hl : c ≤ 10
  · rw [consB, if_pos hl] at hB
    subst hB
    have td : decide (c ≤ 10) = true := by simpa using hl
    go_enter Try.func59, Try.ntmps59
    go_wp2_with fail
    refine (isCons_any c _).mono ?_
    rintro e w1 ⟨rfl, rfl⟩
    rw [td]
    go_wp2_with fail
    refine (put_own c 2 _ (by omega) (by omega) h0 _ rfl).mono ?_
    rintro e w2 ⟨v1, rfl, ho, hB⟩
    obtain ⟨a, cp, rfl, hp⟩ := ho.put (putL_range c 2)
    have HP : Hid (Put w2 w1.heap.size a cp (putL c 2)) := hp
    have HB : Hid (Below w1.heap.size w1 w2) := hB
    clear ho hp hB
    go_wp2_with fail
    go_ret2
    exact ⟨a, cp, rfl, HP, HB⟩
  · rw [consB, if_neg hl] at hB
    subst hB
    have td : decide (c ≤ 10) = false := by simpa using hl
    go_enter Try.func59, Try.ntmps59
    go_wp2_with fail
    refine (isCons_any c _).mono ?_
    rintro e w1 ⟨rfl, rfl⟩
    rw [td]
    go_wp2_with fail
    go_ret2
    exact ⟨none, 0, rfl, put_nil _ _, Below.refl _ _⟩
end Go.Proofs.Ytcecdklgiocbaaa
