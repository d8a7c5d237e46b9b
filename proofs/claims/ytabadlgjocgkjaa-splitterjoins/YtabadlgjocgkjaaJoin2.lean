/-
  The contract of the document's Join, and Join said by one answer.
-/
import Derived.Test.YtabadlgjocgkjaaAddsMath
import Derived.Test.YtabadlgjocgkjaaRefPutH
namespace Go.Proofs.Ytabadlgjocgkjaa
open Go.RowKit
set_option linter.unusedVariables false
set_option linter.unusedSimpArgs false

theorem str_size (zs : List Int) : (strOfNums zs).size = zs.length := by
  show (strOfNums zs).data.size = _
  simp [strOfNums]

theorem sNums_strOfNums {zs : List Int} (h : Bs zs) : sNums (strOfNums zs) = zs := by
  apply List.ext_getElem?
  intro j
  by_cases hj : j < zs.length
  · have hh := h j
    rw [List.getElem?_eq_getElem hj, Option.getD_some] at hh
    simp only [sNums, strOfNums]
    simp [hj]
    omega
  · rw [List.getElem?_eq_none (by rw [sNums_length, str_size]; omega), List.getElem?_eq_none (by omega)]

theorem own_text {w : World} {base : Nat} {v : Value} {n : Nat} {S : ByteArray} {X : List Int} (h : w.ownsRow base 5 1 v (n + S.size) (X.map (Value.int .u8) ++ Lib.strCells S)) : OwnB w base v (n + S.size) (X ++ sNums S) := by
  rw [sNums_cells, ← List.map_append] at h; exact h

theorem append_text_run {w : World} {base : Nat} {v : Value} {n : Nat} {X : List Int} (hown : OwnB w base v n X) (S : ByteArray) (hbd : n + S.size ≤ 140737488355328) (hbase : base ≤ w.heap.size) (ty : TypeId) :
    ∃ v' w', (Builtin.append_ #[26, 9] ty #[v, .string S]).run Try.prog w = .ok v' w' ∧ OwnB w' base v' (n + S.size) (X ++ sNums S) ∧ Below base w w' := by
  obtain ⟨i0, hi, hz0, hz1, hz2⟩ := info_parts Try.info5
  obtain ⟨v', w', hr, h2, h3, _⟩ := Lib.run_append_own_string (P := Try.prog) w base 26 9 ty 5 i0 Try.underlying26 Try.underlying9 hi hz0 hz1 hz2 v n _ hown S (by unfold maxLen; omega) hbd hbase
  exact ⟨v', w', hr, own_text h2, (Below.refl _ _).grown h3 hbase hown.block⟩

theorem wpList_append_text {ops : Array Oper} {rest : List Oper} {o : Oper} {a : Act} {w : World} {Q : Exit → Act → World → Prop} (hgd : o.guard = none) (s x : Operand)
    (ho : o.op = .call { callee := .builtin .append, args := #[s, x], argTypes := #[26, 9] })
    {base : Nat} {v : Value} {n : Nat} {X : List Int} (hs : a.eval s = v) (hown : OwnB w base v n X) {S : ByteArray} (hx : a.eval x = .string S) (hbd : n + S.size ≤ 140737488355328) (hbase : base ≤ w.heap.size)
    (h : ∀ v' w', OwnB w' base v' (n + S.size) (X ++ sNums S) → Below base w w' → wpList Try.prog ops Q rest (a.put o.dst v') w') : wpList Try.prog ops Q (o :: rest) a w := by
  refine wpList_plain hgd fun K hK => ?_
  obtain ⟨v', w', hr, h2, h3⟩ := append_text_run hown S hbd hbase o.type
  unfold Oper.wp
  simp [execOp, ho, resolve, invoke, builtin, hs, hx, hr, Result.andThen]
  exact hK _ _ (h v' w' h2 h3)

/-- The value of the document's frame. -/
abbrev fV (v f s o l : Int) (S : ByteArray) : Value := .agg #[.int .u8 v, .int .u8 f, .int .i16 s, .int .u8 o, .int .u32 l, .string S]

set_option maxHeartbeats 400000 in
theorem rjoin_len (v f s o l : Int) (S : ByteArray) (n : Nat) (hSn : S.size = n) (w : World) (h0 : 0 ≤ l) (h1 : l ≤ 4294967295) (hn : n ≤ 1000000) (h : l ≠ n) :
    Calls Try.prog 18 #[fV v f s o l S] w fun e w' => e = .returned (.tuple #[.slice none 0 0, .int .i64 23]) ∧ Below w.heap.size w w' := by
  have t : (l != (n : Int)) = true := by simpa using h
  clear h
  go_enter Try.func18, Try.ntmps18
  go_wp2_with fail
  go_ret2
  exact ⟨rfl, below_one _ _⟩

set_option maxHeartbeats 400000 in
theorem rjoin_err (v f s o l : Int) (S : ByteArray) (n : Nat) (hSn : S.size = n) (w : World) (ok : HOk v f s o l) (hn : n ≤ 1000000) (h : l = n) (hc : chk v f o l ≠ 0) :
    Calls Try.prog 18 #[fV v f s o l S] w fun e w' => e = .returned (.tuple #[.slice none 0 0, .int .i64 (chk v f o l)]) ∧ Below w.heap.size w w' := by
  have h0 := ok.l0
  have h1 := ok.l1
  have t : (l != (n : Int)) = false := by simpa using h
  have HC : Hid _ := rput_err v f s o l (w.alloc (.cells #[.int .u8 v, .int .u8 f, .int .i16 s, .int .u8 o, .int .u32 l, .string S] 50)) ok hc
  obtain ⟨E, hE⟩ : ∃ E, E = chk v f o l := ⟨_, rfl⟩
  rw [← hE] at HC hc ⊢
  have t2 : (E != 0) = true := by simpa using hc
  clear h hc ok hE
  go_enter Try.func18, Try.ntmps18
  go_wp2_with fail
  refine Calls.mono HC.out ?_
  rintro e w1 ⟨rfl, hB1⟩
  go_wp2_with fail
  go_ret2
  exact ⟨rfl, (below_one _ _).trans (hB1.mono (by simp))⟩

set_option maxHeartbeats 400000 in
theorem rjoin_ok (v f s o l : Int) (S : ByteArray) (n : Nat) (hSn : S.size = n) (w : World) (ok : HOk v f s o l) (hn : n ≤ 1000000) (h : l = n) (hc : chk v f o l = 0) :
    Calls Try.prog 18 #[fV v f s o l S] w fun e w' => ∃ val, e = .returned (.tuple #[val, .int .i64 0]) ∧ OwnB w' w.heap.size val (9 + n) (hdB v f s o l ++ sNums S) ∧ Below w.heap.size w w' := by
  have h0 := ok.l0
  have h1 := ok.l1
  have t : (l != (n : Int)) = false := by simpa using h
  have HC : Hid _ := rput_ok v f s o l (w.alloc (.cells #[.int .u8 v, .int .u8 f, .int .i16 s, .int .u8 o, .int .u32 l, .string S] 50)) ok hc
  have HSn : Hid (S.size = n) := hSn
  clear h hc ok
  go_enter Try.func18, Try.ntmps18
  go_wp2_with fail
  refine Calls.mono HC.out ?_
  rintro e w1 ⟨u, rfl, ho, hB1⟩
  have hB1' : Below (w.heap.size + 1) (w.alloc (.cells #[.int .u8 v, .int .u8 f, .int .i16 s, .int .u8 o, .int .u32 l, .string S] 50)) w1 := hB1.mono (by simp)
  obtain ⟨c5, hz⟩ := box6 hB1'
  have HO : Hid (OwnB w1 (w.heap.size + 1) u 9 (hdB v f s o l)) := ho.mono (by simp)
  clear ho hB1 HC hSn
  go_wp2_with (at_builtin; refine wpList_append_text rfl (.tmp 23) (.tmp 25) rfl rfl HO.out rfl (by rw [HSn.out]; omega) (by omega) ?_)
  rintro u2 w2 ho2 hB2
  have HO2 : Hid (OwnB w2 (w.heap.size + 1) u2 (9 + n) (hdB v f s o l ++ sNums S)) := by rw [HSn.out] at ho2; exact ho2
  clear ho2
  go_wp2_with fail
  go_ret2
  exact ⟨_, rfl, HO2.out.mono (by omega), (below_one _ _).trans ((hB1'.trans hB2).mono (by omega))⟩

/-- What is joined: nothing at an error. -/
def jR (x : Fr) : List Int := if jE x = 0 then jB x else []

theorem join_any {w : World} {x : Fr} {a : Option Addr} {n c : Nat} (hI : IsB w a n c x.b) (ok : HOk x.v x.f x.s x.o x.l) (hn : n ≤ 1000000) :
    Calls Try.prog 17 #[frV x.v x.f x.s x.o x.l a n c] w fun e w' => ∃ ax m cx, e = .returned (.tuple #[.slice ax m cx, .int .i64 (jE x)]) ∧ Hid (IsB w' ax m cx (jR x)) ∧ Below w.heap.size w w' := by
  have hl := hI.1
  by_cases h1 : x.l = n
  · by_cases h2 : chk x.v x.f x.o x.l = 0
    · have hE : jE x = 0 := by unfold jE; rw [if_pos (by rw [hl]; exact h1)]; exact h2
      refine (join_ok x.v x.f x.s x.o x.l a n c x.b w hI ok hn h1 h2).mono ?_
      rintro e w' ⟨val, rfl, ho, hB⟩
      obtain ⟨ax, cx, rfl, hI', _⟩ := ho.isB0 (range_append (hdB_range ok) hI.range)
      refine ⟨ax, 9 + n, cx, by rw [hE], ?_, hB⟩
      unfold jR; rw [if_pos hE]; exact hI'
    · have hE : jE x = chk x.v x.f x.o x.l := by unfold jE; rw [if_pos (by rw [hl]; exact h1)]
      refine (join_err x.v x.f x.s x.o x.l a n c w ok (by omega) h1 h2).mono ?_
      rintro e w' ⟨rfl, hB⟩
      refine ⟨none, 0, 0, by rw [hE], ?_, hB⟩
      unfold jR; rw [if_neg (by rw [hE]; exact h2)]; exact isB_nil _
  · have hE : jE x = 23 := by unfold jE; rw [if_neg (by rw [hl]; exact h1)]
    refine (join_len x.v x.f x.s x.o x.l a n c w ok.l0 ok.l1 (by omega) h1).mono ?_
    rintro e w' ⟨rfl, hB⟩
    refine ⟨none, 0, 0, by rw [hE], ?_, hB⟩
    unfold jR; rw [if_neg (by rw [hE]; decide)]; exact isB_nil _

theorem rjoin_any {w : World} {x : Fr} (hr : Bs x.b) (ok : HOk x.v x.f x.s x.o x.l) (hn : x.b.length ≤ 1000000) :
    Calls Try.prog 18 #[fV x.v x.f x.s x.o x.l (strOfNums x.b)] w fun e w' => ∃ ax m cx, e = .returned (.tuple #[.slice ax m cx, .int .i64 (jE x)]) ∧ Hid (IsB w' ax m cx (jR x)) ∧ Below w.heap.size w w' := by
  have hsz := str_size x.b
  by_cases h1 : x.l = x.b.length
  · by_cases h2 : chk x.v x.f x.o x.l = 0
    · have hE : jE x = 0 := by unfold jE; rw [if_pos h1]; exact h2
      refine (rjoin_ok x.v x.f x.s x.o x.l _ x.b.length hsz w ok hn h1 h2).mono ?_
      rintro e w' ⟨val, rfl, ho, hB⟩
      rw [sNums_strOfNums hr] at ho
      obtain ⟨ax, cx, rfl, hI', _⟩ := ho.isB0 (range_append (hdB_range ok) hr)
      refine ⟨ax, 9 + x.b.length, cx, by rw [hE], ?_, hB⟩
      unfold jR; rw [if_pos hE]; exact hI'
    · have hE : jE x = chk x.v x.f x.o x.l := by unfold jE; rw [if_pos h1]
      refine (rjoin_err x.v x.f x.s x.o x.l _ x.b.length hsz w ok hn h1 h2).mono ?_
      rintro e w' ⟨rfl, hB⟩
      refine ⟨none, 0, 0, by rw [hE], ?_, hB⟩
      unfold jR; rw [if_neg (by rw [hE]; exact h2)]; exact isB_nil _
  · have hE : jE x = 23 := by unfold jE; rw [if_neg h1]
    refine (rjoin_len x.v x.f x.s x.o x.l _ x.b.length hsz w ok.l0 ok.l1 hn h1).mono ?_
    rintro e w' ⟨rfl, hB⟩
    refine ⟨none, 0, 0, by rw [hE], ?_, hB⟩
    unfold jR; rw [if_neg (by rw [hE]; decide)]; exact isB_nil _
end Go.Proofs.Ytabadlgjocgkjaa
