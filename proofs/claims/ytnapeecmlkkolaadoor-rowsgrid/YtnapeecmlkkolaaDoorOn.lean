/-
  What is put behind bytes that are there: the contracts of putText and putCount.
-/
import Derived.Test.YtnapeecmlkkolaaDoorParts
import Derived.Maps.AppendAt
import Derived.Maps.Range
import Derived.Deep.AppendLies
namespace Go.Proofs.YtnapeecmlkkolaaDoor
open Go.RowKit
set_option linter.unusedVariables false
set_option linter.unusedSimpArgs false

/-- The bytes, and the error. -/
def textB (s : ByteArray) : List Int × Int := if s.size ≤ 65535 then (putL s.size 2 ++ sNums s, 0) else ([], 12)
def countB (n : Nat) : List Int × Int := if n ≤ 65535 then (putL n 2, 0) else ([], 12)
def cat (a b : List Int × Int) : List Int × Int := if a.2 = 0 then if b.2 = 0 then (a.1 ++ b.1, 0) else ([], b.2) else ([], a.2)
def goB {α : Type} (f : α → List Int × Int) : List α → List Int × Int
  | [] => ([], 0)
  | x :: r => cat (f x) (goB f r)

theorem textB_range (s : ByteArray) : ∀ j : Nat, 0 ≤ (textB s).1[j]?.getD 0 ∧ (textB s).1[j]?.getD 0 ≤ 255 := by
  unfold textB
  split
  · exact range_append (putL_range _ _) (sNums_range s)
  · intro j; simp

theorem textB_len (s : ByteArray) : (textB s).1.length ≤ 65537 := by
  unfold textB
  split
  · rw [List.length_append, putL_length, sNums_length]; omega
  · simp

theorem isB_own {w : World} {base : Nat} {v : Value} {n : Nat} {X : List Int} (h : OwnB w base v n X) (hr : ∀ j : Nat, 0 ≤ X[j]?.getD 0 ∧ X[j]?.getD 0 ≤ 255) : ∃ a cp, v = .slice a n cp ∧ IsB w a n cp X := by
  have hl := h.len
  subst hl
  rcases h.2 with ⟨rfl, h0⟩ | ⟨g, cap, cur, rfl, hg, hh, hnc, hm, hs, htake⟩
  · obtain rfl : X = [] := List.eq_nil_of_length_eq_zero h0
    exact ⟨none, 0, rfl, isB_nil _⟩
  · refine ⟨_, cap, rfl, rfl, hnc, hm, (fun e => by cases e), fun hp => ?_⟩
    obtain ⟨g', cap', hv, _, _, hR⟩ := h.row hp hr
    cases hv
    exact ⟨g, 0, rfl, hR⟩

set_option maxHeartbeats 400000 in
theorem text_long (s : ByteArray) (w : World) (hs : 65535 < s.size) (hm : s.size ≤ maxLen) :
    Calls Tryd.prog 82 #[.string s] w fun e w' => e = .returned (.tuple #[.slice none 0 0, .int .i64 12]) ∧ w' = w := by
  unfold maxLen at hm
  go_enter Tryd.func82, Tryd.ntmps82
  go_wp2_with fail
  go_ret2
  exact ⟨rfl, rfl⟩

theorem text_any (s : ByteArray) (w : World) (hm : s.size ≤ maxLen) {B : List Int × Int} (hB : B = textB s) :
    Calls Tryd.prog 82 #[.string s] w fun e w' => ∃ a cp, e = .returned (.tuple #[.slice a B.1.length cp, .int .i64 B.2]) ∧ Hid (IsB w' a B.1.length cp B.1) ∧ Below w.heap.size w w' := by
  subst hB
  by_cases hs : s.size ≤ 65535
  · refine (text_yes s w hs).mono ?_
    rintro e w' ⟨v, rfl, ho, hB⟩
    have hl := ho.len
    rw [← hl] at ho
    obtain ⟨a, cp, rfl, hp⟩ := isB_own ho (range_append (putL_range _ _) (sNums_range s))
    simp only [textB, if_pos hs]
    exact ⟨a, cp, rfl, hp, hB⟩
  · refine (text_long s w (by omega) hm).mono ?_
    rintro e w' ⟨rfl, rfl⟩
    simp only [textB, if_neg hs]
    exact ⟨none, 0, rfl, isB_nil _, Below.refl _ _⟩

theorem OwnB.grown {w W : World} {base : Nat} {v : Value} {n : Nat} {X : List Int} (h : OwnB w base v n X) (hB : Below w.heap.size w W) : OwnB W base v n X := by
  refine ⟨h.1, ?_⟩
  rcases h.2 with h2 | ⟨g, cap, cur, hv, hg, hh, r⟩
  · exact .inl h2
  · exact .inr ⟨g, cap, cur, hv, hg, by rw [hB.block g (Array.getElem?_eq_some_iff.1 hh).1]; exact hh, r⟩

/-- A slice that owns just the bytes X. -/
def Acc (w : World) (base : Nat) (v : Value) (X : List Int) : Prop := OwnB w base v X.length X

theorem Acc.grown {w W : World} {base : Nat} {v : Value} {X : List Int} (h : Acc w base v X) (hB : Below w.heap.size w W) : Acc W base v X := OwnB.grown h hB
theorem Acc.lt {w : World} {base : Nat} {v : Value} {X : List Int} (h : Acc w base v X) : ∀ k, v.ownBlock = some k → base ≤ k ∧ k < w.heap.size := World.ownsRow.lt h
theorem acc_nil (w : World) (base : Nat) : Acc w base (.slice none 0 0) [] := World.ownsRow_nil _ _ _ _

theorem below_grownBy {w W : World} (h : Below w.heap.size w W) (row : Option Nat) : w.grownBy W row := ⟨h.os, h.tape, h.output, h.size, fun k hk _ => h.block k hk⟩

/-- A slice is where it was, or in a new block. -/
def Moved (w : World) (v v' : Value) : Prop := v'.ownBlock = v.ownBlock ∨ ∃ g, v'.ownBlock = some g ∧ w.heap.size ≤ g

theorem Moved.refl (w : World) (v : Value) : Moved w v v := .inl rfl
theorem Moved.trans {w w1 : World} {v v1 v2 : Value} (h : Moved w v v1) (k : Moved w1 v1 v2) (hs : w.heap.size ≤ w1.heap.size) : Moved w v v2 := by
  rcases k with k | ⟨g, hg, hl⟩
  · unfold Moved; rw [k]; exact h
  · exact .inr ⟨g, hg, Nat.le_trans hs hl⟩

theorem grownBy_then {w w1 w2 : World} {v v1 : Value} (h : w.grownBy w1 v.ownBlock) (hm : Moved w v v1) (k : w1.grownBy w2 v1.ownBlock) : w.grownBy w2 v.ownBlock := by
  refine h.andThen k fun j hj => ?_
  rcases hm with hm | ⟨g, hg, hl⟩
  · exact .inr (by rw [← hm, hj])
  · rw [hg] at hj; cases hj; exact .inl hl

/-- B is put behind acc. -/
structure On (base : Nat) (w : World) (v : Value) (acc : List Int) (B : List Int × Int) (w' : World) (v' : Value) : Prop where
  grown : w.grownBy w' v.ownBlock
  ok : B.2 = 0 → Acc w' base v' (acc ++ B.1) ∧ Moved w v v'
  no : B.2 ≠ 0 → v' = .slice none 0 0

theorem On.cell {base : Nat} {w : World} {v : Value} {acc : List Int} {B : List Int × Int} {w' : World} {v' : Value} (h : On base w v acc B w' v') {a : Addr} (hb : a.block < w.heap.size) (hv : v.ownBlock ≠ some a.block) : w'.cell? a = w.cell? a :=
  h.grown.cell_far a hb (fun e => hv e.symm)

theorem append_on_run {w : World} {base : Nat} {v : Value} {X : List Int} (hown : Acc w base v X) {xa : Option Addr} {len cap : Nat} {zs : List Int} (hB : IsB w xa len cap zs) (hbd : X.length + len ≤ 140737488355328) (hbase : base ≤ w.heap.size) (ty : TypeId) :
    ∃ v' w', (Builtin.append_ #[22, 22] ty #[v, .slice xa len cap]).run Tryd.prog w = .ok v' w' ∧ Acc w' base v' (X ++ zs) ∧ w.grownBy w' v.ownBlock ∧ Moved w v v' := by
  obtain ⟨i0, hi, hz0, hz1, hz2⟩ := info_parts Tryd.info5
  cases xa with
  | none =>
    obtain ⟨h1, h2, h3, h4, h5⟩ := hB
    obtain ⟨rfl, rfl⟩ := h4 rfl
    obtain rfl : zs = [] := List.eq_nil_of_length_eq_zero h1
    refine ⟨v, w, run_append_owned_none (P := Tryd.prog) (w := w) base 22 ty 5 i0 1 Tryd.underlying22 hi v _ _ hown, ?_, World.grownBy.refl _ _, .inl rfl⟩
    rw [List.append_nil]; exact hown
  | some x =>
    have hl : (zs.map (Value.int .u8)).length = len * 1 := by rw [List.length_map, hB.1, Nat.mul_one]
    obtain ⟨v', w', hr, h2, h3, h4, h5⟩ := run_append_own_at (P := Tryd.prog) w base 22 ty 5 i0 (.int .u8 0) 1 1 Tryd.underlying22 hi hz0 hz1 hz2 rfl (by decide) v _ _ hown x len cap _ hl hB.news (bytes_one zs) (by unfold maxLen; omega) (by omega) hbase
    refine ⟨v', w', hr, ?_, h3, ?_⟩
    · have := OwnB.join h2 rfl
      show OwnB _ _ _ _ _
      rw [List.length_append, hB.1]; exact this
    · rcases h5 with h5 | h5
      · exact .inl h5
      · exact .inr ⟨_, h5, Nat.le_refl _⟩

theorem wpList_append_on {ops : Array Oper} {rest : List Oper} {o : Oper} {a : Act} {w : World} {Q : Exit → Act → World → Prop} (hgd : o.guard = none) (s x : Operand)
    (ho : o.op = .call { callee := .builtin .append, args := #[s, x], argTypes := #[22, 22] })
    {base : Nat} {v : Value} {X : List Int} (hs : a.eval s = v) (hown : Acc w base v X) {xa : Option Addr} {len cap : Nat} {zs : List Int} (hx : a.eval x = .slice xa len cap) (hB : IsB w xa len cap zs) (hbd : X.length + len ≤ 140737488355328) (hbase : base ≤ w.heap.size)
    (h : ∀ v' w', Hid (Acc w' base v' (X ++ zs)) → w.grownBy w' v.ownBlock → Moved w v v' → wpList Tryd.prog ops Q rest (a.put o.dst v') w') : wpList Tryd.prog ops Q (o :: rest) a w := by
  refine wpList_plain hgd fun K hK => ?_
  obtain ⟨v', w', hr, h2, h3, h4⟩ := append_on_run hown hB hbd hbase o.type
  unfold Oper.wp
  simp [execOp, ho, resolve, invoke, builtin, hs, hx, hr, Result.andThen]
  exact hK _ _ (h v' w' h2 h3 h4)

set_option maxHeartbeats 400000 in
theorem putText_any {base : Nat} {w : World} {v : Value} {acc : List Int} (h : Acc w base v acc) (hb : base ≤ w.heap.size) (hbd : acc.length + 65537 ≤ 140737488355328) (s : ByteArray) (hm : s.size ≤ maxLen) {B : List Int × Int} (hB : B = textB s) :
    Calls Tryd.prog 95 #[v, .string s] w fun e w' => ∃ v', e = .returned (.tuple #[v', .int .i64 B.2]) ∧ On base w v acc B w' v' := by
  have H : Hid (Acc w base v acc) := h
  have HB : Hid _ := hB
  have HM : Hid _ := hm
  have HBD : Hid (acc.length + B.1.length ≤ 140737488355328) := by show _ ≤ _; have := textB_len s; rw [hB]; omega
  clear h hB hm hbd
  go_enter Tryd.func95, Tryd.ntmps95
  go_wp2_with fail
  refine (text_any s _ HM.out HB.out).mono ?_
  rintro e w1 ⟨a, cp, rfl, HP, hB⟩
  by_cases he : B.2 = 0
  · have hs1 := hB.size
    rw [he]
    go_wp2_with (at_builtin; refine wpList_append_on rfl (.tmp 16) (.tmp 17) rfl rfl (H.out.grown hB) rfl HP.out HBD.out (by omega) ?_)
    intro v2 w2 HO2 hg2 hm2
    go_wp2_with fail
    go_ret2
    refine ⟨v2, by rw [he]; rfl, (below_grownBy hB _).trans hg2, fun _ => ⟨HO2.out, ?_⟩, fun h => absurd he h⟩
    exact (Moved.refl w v).trans hm2 hs1
  · have t : (B.2 == 0) = false := by simpa using he
    have HE : Hid _ := he
    clear he
    go_wp2_with fail
    go_ret2
    exact ⟨_, rfl, below_grownBy hB _, fun h => absurd h HE.out, fun _ => rfl⟩

theorem countB_len (n : Nat) : (countB n).1.length ≤ 2 := by
  unfold countB
  split
  · rw [putL_length]; omega
  · simp

set_option maxHeartbeats 400000 in
theorem putCount_any {base : Nat} {w : World} {v : Value} {acc : List Int} (h : Acc w base v acc) (hb : base ≤ w.heap.size) (hbd : acc.length + 2 ≤ 140737488355328) (n : Nat) (hm : n ≤ maxLen) {B : List Int × Int} (hB : B = countB n) :
    Calls Tryd.prog 99 #[v, .int .i64 n] w fun e w' => ∃ v', e = .returned (.tuple #[v', .int .i64 B.2]) ∧ On base w v acc B w' v' := by
  unfold maxLen at hm
  have H : Hid (Acc w base v acc) := h
  by_cases hn : n ≤ 65535
  · have hd : decide ((65535 : Int) < n) = false := by simp; omega
    rw [countB, if_pos hn] at hB
    have HB : Hid _ := hB
    clear h hB
    go_enter Tryd.func99, Tryd.ntmps99
    go_wp2_with fail
    refine (put_own n 2 _ (by omega) (by omega) (by omega) _ rfl).mono ?_
    rintro e w1 ⟨v1, rfl, ho, hB⟩
    have hl := ho.len
    obtain ⟨a, cp, rfl, hp⟩ := isB_own ho (putL_range _ _)
    have HP : Hid (IsB _ _ _ _ _) := hp
    have hs1 := hB.size
    clear ho hp hl
    go_wp2_with (at_builtin; refine wpList_append_on rfl (.tmp 8) (.tmp 11) rfl rfl (H.out.grown hB) rfl HP.out hbd (by omega) ?_)
    intro v2 w2 HO2 hg2 hm2
    go_wp2_with fail
    go_ret2
    refine ⟨v2, by rw [HB.out]; rfl, (below_grownBy hB _).trans hg2, fun _ => ⟨by rw [HB.out]; exact HO2.out, ?_⟩, fun h => absurd (by rw [HB.out]) h⟩
    exact (Moved.refl w v).trans hm2 hs1
  · rw [countB, if_neg hn] at hB
    have HB : Hid _ := hB
    have hn2 : (65535 : Int) < n := by omega
    clear h hB hn
    go_enter Tryd.func99, Tryd.ntmps99
    go_wp2_with fail
    go_ret2
    exact ⟨_, by rw [HB.out]; rfl, World.grownBy.refl _ _, fun h => absurd h (by rw [HB.out]; decide), fun _ => rfl⟩
end Go.Proofs.YtnapeecmlkkolaaDoor
