/-
  The bytes of a header (P5.2), and the contracts of header.Put and of the document's own Put.
-/
import Derived.Test.YtabadlgjocgkjaaRefCheck
namespace Go.Proofs.Ytabadlgjocgkjaa
open Go.RowKit
set_option linter.unusedVariables false
set_option linter.unusedSimpArgs false

theorem OwnB.old {w W : World} {base : Nat} {v : Value} {n : Nat} {X : List Int} (h : OwnB w base v n X) (hB : Below w.heap.size w W) : OwnB W base v n X := by
  refine ⟨h.1, ?_⟩
  rcases h.2 with h2 | ⟨g, cap, cur, hv, hg, hh, r⟩
  · exact .inl h2
  · exact .inr ⟨g, cap, cur, hv, hg, by rw [hB.block g (Array.getElem?_eq_some_iff.1 hh).1]; exact hh, r⟩

theorem OwnB.isB {w : World} {base : Nat} {v : Value} {n : Nat} {X : List Int} (h : OwnB w base v n X) (hp : 0 < n) (hr : ∀ j : Nat, 0 ≤ X[j]?.getD 0 ∧ X[j]?.getD 0 ≤ 255) :
    ∃ x cap, v = .slice x n cap ∧ Hid (IsB w x n cap X) := by
  obtain ⟨g, cap, hv, _, _, hR⟩ := h.row hp hr
  exact ⟨_, cap, hv, hR.isB⟩

/-- The nine bytes of a header. -/
def hdB (v f s o l : Int) : List Int := [v, f, s % 65536 / 256, s % 256, o, l / 16777216 % 256, l / 65536 % 256, l / 256 % 256, l % 256]

theorem hdB_len (v f s o l : Int) : (hdB v f s o l).length = 9 := rfl

theorem hdB_range {v f s o l : Int} (h : HOk v f s o l) : ∀ j : Nat, 0 ≤ (hdB v f s o l)[j]?.getD 0 ∧ (hdB v f s o l)[j]?.getD 0 ≤ 255 := by
  have := h.v0; have := h.v1; have := h.f0; have := h.f1; have := h.o0; have := h.o1
  intro j
  rcases j with _ | _ | _ | _ | _ | _ | _ | _ | _ | j <;> simp [hdB] <;> omega

theorem put_one (x : Int) (h0 : 0 ≤ x) (h1 : x ≤ 255) : putL x 1 = [x] := by
  simp [putL, byteAt, List.range_succ]; omega

theorem put_two (s : Int) : putL (s % 65536) 2 = [s % 65536 / 256, s % 256] := by
  simp [putL, byteAt, List.range_succ]; omega

theorem wrap_stream (s : Int) : IntKind.u64.wrap (IntKind.u16.wrap s) = s % 65536 := by
  rw [IntKind.wrap_u16, IntKind.wrap_u64]; omega

theorem put_four (l : Int) (h0 : 0 ≤ l) (h1 : l ≤ 4294967295) : putL l 4 = [l / 16777216 % 256, l / 65536 % 256, l / 256 % 256, l % 256] := by
  simp [putL, byteAt, List.range_succ]

/-- octets.Put, as a slice that is read. -/
theorem put_isB (x : Int) (n : Nat) (w : World) (h1 : 1 ≤ n) (h2 : n ≤ 8) (hx : 0 ≤ x) (m : Int) (hm : m = n) (X : List Int) (hX : putL x n = X) :
    Calls Try.prog 31 #[.int .u64 x, .int .i64 m] w fun e w' => ∃ a c, e = .returned (.slice a n c) ∧ Hid (IsB w' a n c X) ∧ Below w.heap.size w w' := by
  subst hX
  refine (put_own x n w h1 h2 hx m hm).mono ?_
  rintro e w' ⟨v, rfl, ho, hB⟩
  obtain ⟨a, c, rfl, HI⟩ := ho.isB (by omega) (putL_range _ _)
  exact ⟨a, c, rfl, HI, hB⟩

/-- The cells of the box of a struct of five that stay, whatever is made later. -/
theorem box5 {w W : World} {a b c d e : Value} {t : TypeId} (hB : Below (w.heap.size + 1) (w.alloc (.cells #[a, b, c, d, e] t)) W) :
    W.cell? ⟨w.heap.size, 0, none⟩ = some a ∧ W.cell? ⟨w.heap.size, 1, none⟩ = some b ∧ W.cell? ⟨w.heap.size, 2, none⟩ = some c ∧ W.cell? ⟨w.heap.size, 3, none⟩ = some d ∧ W.cell? ⟨w.heap.size, 4, none⟩ = some e ∧ w.heap.size < W.heap.size := by
  have hs := hB.size
  simp at hs
  refine ⟨?_, ?_, ?_, ?_, ?_, by omega⟩ <;> (rw [hB.cell (by simp)]; simp [go_sem])

set_option maxHeartbeats 400000 in
theorem put_err (v f s o l : Int) (w : World) (h : HOk v f s o l) (hc : chk v f o l ≠ 0) :
    Calls Try.prog 25 #[.agg #[.int .u8 v, .int .u8 f, .int .i16 s, .int .u8 o, .int .u32 l]] w fun e w' => e = .returned (.tuple #[.slice none 0 0, .int .i64 (chk v f o l)]) ∧ Below w.heap.size w w' := by
  have t : (chk v f o l != 0) = true := by simpa using hc
  have H : Hid (HOk v f s o l) := h
  clear h hc
  go_enter Try.func25, Try.ntmps25
  go_wp2_with fail
  refine (check_any v f s o l _ H.out).mono ?_
  rintro e w1 ⟨rfl, hB1⟩
  go_wp2_with fail
  go_ret2
  exact ⟨rfl, (below_one _ _).trans (hB1.mono (by simp))⟩

set_option maxHeartbeats 1000000 in
theorem put_ok (v f s o l : Int) (w : World) (h : HOk v f s o l) (hc : chk v f o l = 0) :
    Calls Try.prog 25 #[.agg #[.int .u8 v, .int .u8 f, .int .i16 s, .int .u8 o, .int .u32 l]] w fun e w' => ∃ val, e = .returned (.tuple #[val, .int .i64 0]) ∧ OwnB w' w.heap.size val 9 (hdB v f s o l) ∧ Below w.heap.size w w' := by
  have H : Hid (HOk v f s o l) := h
  have HC : Hid (chk v f o l = 0) := hc
  obtain ⟨v0, v1, f0, f1, s0, s1, o0, o1, l0, l1⟩ := h
  clear hc
  go_enter Try.func25, Try.ntmps25
  go_wp2_with fail
  refine (check_any v f s o l _ H.out).mono ?_
  rintro e w1 ⟨rfl, hB1⟩
  rw [HC.out]
  have hB1' : Below (w.heap.size + 1) (w.alloc (.cells #[.int .u8 v, .int .u8 f, .int .i16 s, .int .u8 o, .int .u32 l] 42)) w1 := hB1.mono (by simp)
  obtain ⟨c0, c1, c2, c3, c4, hz⟩ := box5 hB1'
  go_wp2_with fail
  refine (put_own v 1 _ (by omega) (by omega) v0 _ rfl).mono ?_
  rintro e w2 ⟨u2, rfl, ho2, hB2⟩
  rw [put_one v v0 v1] at ho2
  have HO2 : Hid (OwnB w2 (w.heap.size + 1) u2 1 [v]) := ho2.mono (by omega)
  have hB2' := hB1'.trans (hB2.mono (by omega))
  obtain ⟨d0, d1, d2, d3, d4, hz2⟩ := box5 hB2'
  clear ho2 hB1 hB1' hB2 c0 c1 c2 c3 c4 hz
  go_wp2_with fail
  refine (put_isB f 1 _ (by omega) (by omega) f0 _ rfl _ (put_one f f0 f1)).mono ?_
  rintro e w3 ⟨a3, p3, rfl, HI3, hB3⟩
  have HO3 : Hid (OwnB w3 (w.heap.size + 1) u2 1 [v]) := HO2.out.old hB3
  have hB3' := hB2'.trans (hB3.mono (by omega))
  obtain ⟨c0, c1, c2, c3, c4, hz⟩ := box5 hB3'
  clear HO2 hB2' hB3 d0 d1 d2 d3 d4 hz2
  go_wp2_with (at_builtin; refine wpList_append_bytes rfl (.tmp 15) (.tmp 19) rfl rfl HO3.out rfl HI3.out (by omega) (by omega) ?_)
  rintro u4 w4 ho4 hB4
  have HO4 : Hid (OwnB w4 (w.heap.size + 1) u4 2 [v, f]) := ho4
  have hB4' := hB3'.trans hB4
  obtain ⟨d0, d1, d2, d3, d4, hz2⟩ := box5 hB4'
  clear ho4 HO3 HI3 hB4 hB3' c0 c1 c2 c3 c4 hz
  go_wp2_with fail
  rw [wrap_stream s]
  refine (put_isB (s % 65536) 2 _ (by omega) (by omega) (by omega) _ rfl _ (put_two s)).mono ?_
  rintro e w5 ⟨a5, p5, rfl, HI5, hB5⟩
  have HO5 : Hid (OwnB w5 (w.heap.size + 1) u4 2 [v, f]) := HO4.out.old hB5
  have hB5' := hB4'.trans (hB5.mono (by omega))
  clear d0 d1 d2 d3 d4 hz2 HO4 hB4'
  obtain ⟨c0, c1, c2, c3, c4, hz⟩ := box5 hB5'
  clear hB5
  go_wp2_with (at_builtin; refine wpList_append_bytes rfl (.tmp 21) (.tmp 26) rfl rfl HO5.out rfl HI5.out (by omega) (by omega) ?_)
  rintro u6 w6 ho6 hB6
  have HO6 : Hid (OwnB w6 (w.heap.size + 1) u6 4 [v, f, s % 65536 / 256, s % 256]) := ho6
  have hB6' := hB5'.trans hB6
  clear c0 c1 c2 c3 c4 hz ho6 HO5 HI5 hB6 hB5'
  obtain ⟨d0, d1, d2, d3, d4, hz2⟩ := box5 hB6'
  go_wp2_with fail
  refine (put_isB o 1 _ (by omega) (by omega) o0 _ rfl _ (put_one o o0 o1)).mono ?_
  rintro e w7 ⟨a7, p7, rfl, HI7, hB7⟩
  have HO7 : Hid (OwnB w7 (w.heap.size + 1) u6 4 [v, f, s % 65536 / 256, s % 256]) := HO6.out.old hB7
  have hB7' := hB6'.trans (hB7.mono (by omega))
  clear d0 d1 d2 d3 d4 hz2 HO6 hB6'
  obtain ⟨c0, c1, c2, c3, c4, hz⟩ := box5 hB7'
  clear hB7
  go_wp2_with (at_builtin; refine wpList_append_bytes rfl (.tmp 28) (.tmp 32) rfl rfl HO7.out rfl HI7.out (by omega) (by omega) ?_)
  rintro u8 w8 ho8 hB8
  have HO8 : Hid (OwnB w8 (w.heap.size + 1) u8 5 [v, f, s % 65536 / 256, s % 256, o]) := ho8
  have hB8' := hB7'.trans hB8
  clear c0 c1 c2 c3 c4 hz ho8 HO7 HI7 hB8 hB7'
  obtain ⟨d0, d1, d2, d3, d4, hz2⟩ := box5 hB8'
  go_wp2_with fail
  refine (put_isB l 4 _ (by omega) (by omega) l0 _ rfl _ (put_four l l0 l1)).mono ?_
  rintro e w9 ⟨a9, p9, rfl, HI9, hB9⟩
  have HO9 : Hid (OwnB w9 (w.heap.size + 1) u8 5 [v, f, s % 65536 / 256, s % 256, o]) := HO8.out.old hB9
  have hB9' := hB8'.trans (hB9.mono (by omega))
  clear d0 d1 d2 d3 d4 hz2 HO8 hB8'
  obtain ⟨c0, c1, c2, c3, c4, hz⟩ := box5 hB9'
  clear hB9
  go_wp2_with (at_builtin; refine wpList_append_bytes rfl (.tmp 34) (.tmp 38) rfl rfl HO9.out rfl HI9.out (by omega) (by omega) ?_)
  rintro u10 w10 ho10 hB10
  have HO10 : Hid (OwnB w10 (w.heap.size + 1) u10 9 (hdB v f s o l)) := ho10
  have hB10' := hB9'.trans hB10
  clear c0 c1 c2 c3 c4 hz ho10 HO9 HI9 hB10 hB9'
  obtain ⟨d0, d1, d2, d3, d4, hz2⟩ := box5 hB10'
  go_wp2_with fail
  go_ret2
  exact ⟨_, rfl, HO10.out.mono (by omega), (below_one _ _).trans (hB10'.mono (by omega))⟩
end Go.Proofs.Ytabadlgjocgkjaa
