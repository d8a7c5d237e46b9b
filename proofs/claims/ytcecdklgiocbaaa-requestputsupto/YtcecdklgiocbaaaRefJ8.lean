/-
  The document's joining of bytes, counts, consistencies, texts, numbers: what they answer, as bytes and an error.
-/
import Derived.Test.YtcecdklgiocbaaaRefP
import Derived.Test.YtcecdklgiocbaaaLo3
import Derived.Test.YtcecdklgiocbaaaRd3
namespace Go.Proofs.Ytcecdklgiocbaaa
open Go.RowKit
set_option maxRecDepth 100000
set_option linter.unusedVariables false
set_option linter.unusedSimpArgs false

theorem kept_nil_below {w w' : World} (h : Kept (fun k => (Value.slice none 0 0).ownBlock = some k) w w') : Below w.heap.size w w' := h.below (Nat.le_refl _) (fun k hk e => by simp [Value.ownBlock] at e)

set_option maxHeartbeats 1000000 in
theorem join_any {w : World} {a1 : Option Addr} {l1 c1 : Nat} {X : List Int} (h1 : IsB w a1 l1 c1 X) {e f : Int} {a2 : Option Addr} {l2 c2 : Nat} {Z : List Int} (h2 : IsB w a2 l2 c2 Z) (hbd : l1 + l2 ≤ 140737488355328) {R : BE} (hR : R = seqB (X, e) (Z, f)) :
    Calls Try.prog 30 #[.slice a1 l1 c1, .int .i64 e, .slice a2 l2 c2, .int .i64 f] w fun r w' => ∃ a cp, r = .returned (.tuple #[.slice a R.1.length cp, .int .i64 R.2]) ∧ Hid (Put w' w.heap.size a cp R.1) ∧ Below w.heap.size w w' := by
  have H1 : Hid (IsB w a1 l1 c1 X) := h1
  have H2 : Hid (IsB w a2 l2 c2 Z) := h2
  have HR : Hid (R = seqB (X, e) (Z, f)) := hR
  clear h1 h2 hR
  by_cases he : e = 0
  · by_cases hf : f = 0
    · subst he hf
      have HO : Hid (OwnB w w.heap.size (.slice none 0 0) 0 []) := World.ownsRow_nil _ _ _ _
      have HBD : Hid (0 + l1 ≤ 140737488355328) := by show _ ≤ _; omega
      have HBD2 : Hid (l1 + l2 ≤ 140737488355328) := by show _ ≤ _; omega
      have HS : Hid (w.heap.size ≤ w.heap.size) := Nat.le_refl _
      go_enter Try.func30, Try.ntmps30
      go_wp2_with (at_builtin; refine wpList_append_own rfl (.tmp 17) (.tmp 18) rfl rfl HO.out rfl H1.out HBD.out HS.out ?_)
      intro v4 w4 ho4 hK4 hv4
      have hB4 := kept_nil_below hK4
      have HB4 : Hid (Below w.heap.size w w4) := hB4
      have HO4 : Hid (OwnB w4 w.heap.size v4 l1 X) := ho4
      have H24 : Hid (IsB w4 a2 l2 c2 Z) := H2.out.old hB4
      have HS4 : Hid (w.heap.size ≤ w4.heap.size) := hB4.size
      clear ho4 hK4 hv4 hB4
      go_wp2_with (at_builtin; refine wpList_append_own rfl (.tmp 20) (.tmp 21) rfl rfl HO4.out rfl H24.out HBD2.out HS4.out ?_)
      intro v5 w5 ho5 hK5 hv5
      have HB5 : Hid (Below w.heap.size w w5) := HB4.out.trans (hK5.below HS4.out (fun k hk e => (OwnB.block HO4.out k e)))
      obtain ⟨ya, yc, hv, hp5⟩ := OwnB.put ho5 (range_append H1.out.range H2.out.range)
      subst hv
      have HP5 : Hid (Put w5 w.heap.size ya yc (X ++ Z)) := hp5
      have HE : Hid (R = (X ++ Z, 0)) := by show _ = _; rw [HR.out]; exact seqB_ok rfl rfl
      obtain ⟨n, hn⟩ : ∃ n, n = (X ++ Z).length := ⟨_, rfl⟩
      have HN : Hid (n = (X ++ Z).length) := hn
      rw [← hn]
      clear ho5 hK5 hv5 hp5 hn
      go_wp2_with fail
      go_ret2
      exact ⟨ya, yc, by rw [HE.out, HN.out]; rfl, by rw [HE.out]; exact HP5.out, HB5.out⟩
    · subst he
      have t : (f != 0) = true := by simpa using hf
      have t' : (f == 0) = false := by simpa using hf
      have HE : Hid (R = ([], f)) := by show _ = _; rw [HR.out]; exact seqB_no rfl hf
      clear hf
      go_enter Try.func30, Try.ntmps30
      go_wp2_with fail
      go_ret2
      exact ⟨none, 0, by rw [HE.out]; rfl, by rw [HE.out]; exact put_nil _ _, Below.refl _ _⟩
  · have t : (e != 0) = true := by simpa using he
    have t' : (e == 0) = false := by simpa using he
    have HE : Hid (R = ([], e)) := by show _ = _; rw [HR.out]; exact seqB_err _ he
    clear he
    go_enter Try.func30, Try.ntmps30
    go_wp2_with fail
    go_ret2
    exact ⟨none, 0, by rw [HE.out]; rfl, by rw [HE.out]; exact put_nil _ _, Below.refl _ _⟩

/-- ref01.Put, as bytes. -/
theorem rnum_put (x : Int) (n : Nat) (w : World) (h1 : 1 ≤ n) (h2 : n ≤ 8) (hx : 0 ≤ x) (hx2 : x < 18446744073709551616) (m : Int) (hm : m = n) :
    Calls Try.prog 68 #[.int .u64 x, .int .i64 m] w fun e w' => ∃ a cp, e = .returned (.slice a n cp) ∧ Hid (Put w' w.heap.size a cp (putL x n)) ∧ Below w.heap.size w w' := by
  subst hm
  refine (rput_yes x n w h1 h2 hx hx2).mono ?_
  rintro e w' ⟨v, rfl, ho, hB⟩
  have ho' : OwnB w' w.heap.size v n (putL x n) := ho
  obtain ⟨a, cp, rfl, hp⟩ := ho'.put (putL_range _ _)
  exact ⟨a, cp, by rw [putL_length], hp, hB⟩

theorem rlong_put (s : ByteArray) (w : World) (hs : s.size ≤ 140737488351232) :
    Calls Try.prog 27 #[.string s] w fun e w' => ∃ a cp, e = .returned (.slice a (longB s).1.length cp) ∧ Hid (Put w' w.heap.size a cp (longB s).1) ∧ Below w.heap.size w w' := by
  refine (rlong_yes s w hs).mono ?_
  rintro e w' ⟨v, rfl, ho, hB⟩
  obtain ⟨a, cp, rfl, hp⟩ := ho.put (range_append (putL_range _ _) (sNums_range s))
  exact ⟨a, cp, rfl, hp, hB⟩

set_option maxHeartbeats 400000 in
theorem rcount_any (n : Nat) (w : World) (hn : n ≤ maxLen) :
    Calls Try.prog 32 #[.int .i64 n] w fun e w' => ∃ a cp, e = .returned (.tuple #[.slice a (countB n).1.length cp, .int .i64 (countB n).2]) ∧ Hid (Put w' w.heap.size a cp (countB n).1) ∧ Below w.heap.size w w' := by
  unfold maxLen at hn
  by_cases h : n ≤ 65535
  · have HE : Hid (countB n = (putL n 2, 0)) := by show _ = _; unfold countB; rw [if_pos h]
    go_enter Try.func32, Try.ntmps32
    go_wp2_with fail
    refine (rnum_put (n : Int) 2 w (by omega) (by omega) (by omega) (by omega) _ rfl).mono ?_
    rintro e w1 ⟨a, cp, rfl, HP, HB⟩
    have HB1 : Hid (Below w.heap.size w w1) := HB
    clear HB
    go_wp2_with fail
    go_ret2
    exact ⟨a, cp, by rw [HE.out, show (((putL (n : Int) 2, (0 : Int)) : BE).1.length) = 2 from putL_length _ _]; rfl, by rw [HE.out]; exact HP, HB1.out⟩
  · have HE : Hid (countB n = ([], 12)) := by show _ = _; unfold countB; rw [if_neg h]
    have h2 : 65535 < n := by omega
    go_enter Try.func32, Try.ntmps32
    go_wp2_with fail
    go_ret2
    exact ⟨none, 0, by rw [HE.out]; rfl, by rw [HE.out]; exact put_nil _ _, Below.refl _ _⟩

theorem cons_two {c : Int} (h0 : 0 ≤ c) (h : c ≤ 10) : putL c 2 = [0, c] := by
  simp [putL, byteAt, List.range_succ]
  omega

/-- A new row of two bytes. -/
theorem own_two {w : World} {c : Int} (h : 0 ≤ c) : OwnB (w.alloc (.cells #[.int .u8 0, .int .u8 c] 5)) w.heap.size (.slice (some ⟨w.heap.size, 0, none⟩) 2 2) 2 [0, c] :=
  ⟨rfl, .inr ⟨w.heap.size, 2, #[.int .u8 0, .int .u8 c], rfl, Nat.le_refl _, heap_alloc_new _ _, Nat.le_refl _, by unfold maxLen; omega, rfl, rfl⟩⟩

set_option maxHeartbeats 400000 in
theorem rcons_any (c : Int) (w : World) (hc : 0 ≤ c ∧ c ≤ 65535) :
    Calls Try.prog 70 #[.int .u16 c] w fun e w' => ∃ a cp, e = .returned (.tuple #[.slice a (consB c).1.length cp, .int .i64 (consB c).2]) ∧ Hid (Put w' w.heap.size a cp (consB c).1) ∧ Below w.heap.size w w' := by
  by_cases h : c ≤ 10
  · have HE : Hid (consB c = ([0, c], 0)) := by show _ = _; unfold consB; rw [if_pos h, cons_two hc.1 h]
    have hw : IntKind.u8.wrap c = c := wrap_u8 c (by omega) (by omega)
    have hd : ¬ 10 < c := by omega
    go_enter Try.func70, Try.ntmps70
    go_wp2_with fail
    go_ret2
    refine ⟨some ⟨w.heap.size, 0, none⟩, 2, by rw [HE.out]; rfl, ?_, below_one _ _⟩
    rw [HE.out]
    have hr : Rng [0, c] := by
      intro j
      rcases j with _ | _ | j
      · simp
      · simp; omega
      · simp
    have ho := own_two (w := w) hc.1
    obtain ⟨ya, yc, hv, hp⟩ := ho.put hr
    cases hv
    exact hp
  · have HE : Hid (consB c = ([], 1)) := by show _ = _; unfold consB; rw [if_neg h]
    have h2 : 10 < c := by omega
    go_enter Try.func70, Try.ntmps70
    go_wp2_with fail
    go_ret2
    exact ⟨none, 0, by rw [HE.out]; rfl, by rw [HE.out]; exact put_nil _ _, Below.refl _ _⟩
end Go.Proofs.Ytcecdklgiocbaaa
