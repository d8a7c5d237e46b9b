/-
  The contract of splitter.Join.
-/
import Derived.Test.YtabadlgjocgkjaaAdd
namespace Go.Proofs.Ytabadlgjocgkjaa
open Go.RowKit
set_option linter.unusedVariables false
set_option linter.unusedSimpArgs false

/-- The value of a frame. -/
abbrev frV (v f s o l : Int) (a : Option Addr) (n c : Nat) : Value := .agg #[.int .u8 v, .int .u8 f, .int .i16 s, .int .u8 o, .int .u32 l, .slice a n c]

/-- The error of joining. -/
def jE (x : Fr) : Int := if x.l = x.b.length then chk x.v x.f x.o x.l else 23

theorem u64_ne (l : Int) (n : Nat) (h0 : 0 ≤ l) (h1 : l ≤ 4294967295) (hn : n ≤ 9223372036854775807) (h : l ≠ n) : (l != IntKind.u64.wrap n) = true := by
  rw [IntKind.wrap_u64]; simp; omega

/-- The last cell of a box of six that stays. -/
theorem box6 {w W : World} {a b c d e f : Value} {t : TypeId} (hB : Below (w.heap.size + 1) (w.alloc (.cells #[a, b, c, d, e, f] t)) W) : W.cell? ⟨w.heap.size, 5, none⟩ = some f ∧ w.heap.size < W.heap.size := by
  have hs := hB.size
  simp at hs
  refine ⟨?_, by omega⟩
  rw [hB.cell (by simp)]; simp [go_sem]

set_option maxHeartbeats 400000 in
theorem join_len (v f s o l : Int) (a : Option Addr) (n c : Nat) (w : World) (h0 : 0 ≤ l) (h1 : l ≤ 4294967295) (hn : n ≤ 9223372036854775807) (h : l ≠ n) :
    Calls Try.prog 17 #[frV v f s o l a n c] w fun e w' => e = .returned (.tuple #[.slice none 0 0, .int .i64 23]) ∧ Below w.heap.size w w' := by
  have t : (l != (n : Int)) = true := by simpa using h
  clear h
  go_enter Try.func17, Try.ntmps17
  go_wp2_with fail
  go_ret2
  exact ⟨rfl, below_one _ _⟩

set_option maxHeartbeats 400000 in
theorem join_err (v f s o l : Int) (a : Option Addr) (n c : Nat) (w : World) (ok : HOk v f s o l) (hn : n ≤ 9223372036854775807) (h : l = n) (hc : chk v f o l ≠ 0) :
    Calls Try.prog 17 #[frV v f s o l a n c] w fun e w' => e = .returned (.tuple #[.slice none 0 0, .int .i64 (chk v f o l)]) ∧ Below w.heap.size w w' := by
  have h0 := ok.l0
  have h1 := ok.l1
  have t : (l != (n : Int)) = false := by simpa using h
  have HC : Hid _ := put_err v f s o l (w.alloc (.cells #[.int .u8 v, .int .u8 f, .int .i16 s, .int .u8 o, .int .u32 l, .slice a n c] 44)) ok hc
  obtain ⟨E, hE⟩ : ∃ E, E = chk v f o l := ⟨_, rfl⟩
  rw [← hE] at HC hc ⊢
  have t2 : (E != 0) = true := by simpa using hc
  clear h hc ok hE
  go_enter Try.func17, Try.ntmps17
  go_wp2_with fail
  refine Calls.mono HC.out ?_
  rintro e w1 ⟨rfl, hB1⟩
  go_wp2_with fail
  go_ret2
  exact ⟨rfl, (below_one _ _).trans (hB1.mono (by simp))⟩

set_option maxHeartbeats 400000 in
theorem join_ok (v f s o l : Int) (a : Option Addr) (n c : Nat) (X : List Int) (w : World) (hI : IsB w a n c X) (ok : HOk v f s o l) (hn : n ≤ 1000000) (h : l = n) (hc : chk v f o l = 0) :
    Calls Try.prog 17 #[frV v f s o l a n c] w fun e w' => ∃ val, e = .returned (.tuple #[val, .int .i64 0]) ∧ OwnB w' w.heap.size val (9 + n) (hdB v f s o l ++ X) ∧ Below w.heap.size w w' := by
  have h0 := ok.l0
  have h1 := ok.l1
  have t : (l != (n : Int)) = false := by simpa using h
  have HC : Hid _ := put_ok v f s o l (w.alloc (.cells #[.int .u8 v, .int .u8 f, .int .i16 s, .int .u8 o, .int .u32 l, .slice a n c] 44)) ok hc
  have HI : Hid (IsB w a n c X) := hI
  clear h hc ok hI
  go_enter Try.func17, Try.ntmps17
  go_wp2_with fail
  refine Calls.mono HC.out ?_
  rintro e w1 ⟨u, rfl, ho, hB1⟩
  have hB1' : Below (w.heap.size + 1) (w.alloc (.cells #[.int .u8 v, .int .u8 f, .int .i16 s, .int .u8 o, .int .u32 l, .slice a n c] 44)) w1 := hB1.mono (by simp)
  obtain ⟨c5, hz⟩ := box6 hB1'
  have HO : Hid (OwnB w1 (w.heap.size + 1) u 9 (hdB v f s o l)) := ho.mono (by simp)
  have HI1 : Hid (IsB w1 a n c X) := HI.out.old ((below_one _ _).trans (hB1'.mono (by omega)))
  clear ho hB1 HC
  go_wp2_with (at_builtin; refine wpList_append_bytes rfl (.tmp 24) (.tmp 26) rfl rfl HO.out rfl HI1.out (by omega) (by omega) ?_)
  rintro u2 w2 ho2 hB2
  have HO2 : Hid (OwnB w2 (w.heap.size + 1) u2 (9 + n) (hdB v f s o l ++ X)) := ho2
  clear ho2
  go_wp2_with fail
  go_ret2
  exact ⟨_, rfl, HO2.out.mono (by omega), (below_one _ _).trans ((hB1'.trans hB2).mono (by omega))⟩
end Go.Proofs.Ytabadlgjocgkjaa
