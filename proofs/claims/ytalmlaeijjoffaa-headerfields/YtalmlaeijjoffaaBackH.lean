/-
  HeaderBack walked: it answers true, and turns nothing that was there.
-/
import Derived.Test.YtalmlaeijjoffaaBackMath
import Derived.Deep.RegionHeld
namespace Go.Proofs.Ytalmlaeijjoffaa
open Go.RowKit
set_option linter.unusedVariables false
set_option linter.unusedSimpArgs false

/-- Put, of a header that may be: its nine bytes, owned, and as they are read. -/
theorem put_own9 (v f s o l : Int) (w : World) (h : HOk v f s o l) (hc : chk v f o l = 0) :
    Calls Try.prog 9 #[.agg #[.int .u8 v, .int .u8 f, .int .i16 s, .int .u8 o, .int .u32 l]] w fun e w' => ∃ x c, e = .returned (.tuple #[.slice x 9 c, .int .i64 0]) ∧ Hid (OwnB w' w.heap.size (.slice x 9 c) 9 (hdB v f s o l)) ∧ Hid (IsB w' x 9 c (hdB v f s o l)) ∧ Below w.heap.size w w' := by
  refine (put_ok v f s o l w h hc).mono ?_
  rintro e w' ⟨val, rfl, ho, hB⟩
  have ho' := ho
  obtain ⟨x, c, rfl, HI⟩ := ho'.isB (by omega) (hdB_range h)
  exact ⟨x, c, rfl, ho, HI, hB⟩

/-- Get, of what was put with something behind. -/
theorem get_back {w : World} {x : Option Addr} {n c : Nat} {v f s o l : Int} {Z : List Int} (h : HOk v f s o l) (hc : chk v f o l = 0) (hI : IsB w x n c (hdB v f s o l ++ Z)) :
    Calls Try.prog 14 #[.slice x n c] w fun e w' => e = .returned (.tuple #[.agg #[.int .u8 v, .int .u8 f, .int .i16 s, .int .u8 o, .int .u32 l], .int .i64 0]) ∧ Below w.heap.size w w' := by
  refine (get_any hI).mono ?_
  rintro e w' ⟨rfl, hB⟩
  obtain ⟨e0, e1, e2, e3, e4, e5⟩ := got_put h hc Z
  exact ⟨by rw [e0, e1, e2, e3, e4, e5], hB⟩

/-- Get, of bytes that are no header. -/
theorem get_no9 {w : World} {a : Option Addr} {len cap : Nat} {Z : List Int} (hI : IsB w a len cap Z) {E : Int} (hE : E = gE Z) (hn : E ≠ 0) :
    Calls Try.prog 14 #[.slice a len cap] w fun e w' => e = .returned (.tuple #[.agg #[.int .u8 0, .int .u8 0, .int .i16 0, .int .u8 0, .int .u32 0], .int .i64 E]) ∧ Below w.heap.size w w' := by
  subst hE
  refine (get_any hI).mono ?_
  rintro e w' ⟨rfl, hB⟩
  obtain ⟨e1, e2, e3, e4, e5⟩ := got_none hn
  exact ⟨by rw [e1, e2, e3, e4, e5], hB⟩

/-- Get, of bytes that are one. -/
theorem get_yes9 {w : World} {a : Option Addr} {len cap : Nat} {Z : List Int} (hI : IsB w a len cap Z) (hE : gE Z = 0) :
    Calls Try.prog 14 #[.slice a len cap] w fun e w' => ∃ v f s o l, e = .returned (.tuple #[.agg #[.int .u8 v, .int .u8 f, .int .i16 s, .int .u8 o, .int .u32 l], .int .i64 0]) ∧ Hid (hdB v f s o l = Z.take 9 ∧ chk v f o l = 0 ∧ HOk v f s o l) ∧ Below w.heap.size w w' := by
  have hl : 9 ≤ Z.length := by
    by_cases h : 9 ≤ Z.length
    · exact h
    · exfalso; revert hE; unfold gE; rw [if_pos (by omega)]; decide
  refine (get_any hI).mono ?_
  rintro e w' ⟨rfl, hB⟩
  exact ⟨gV Z, gF Z, gS Z, gO Z, gL Z, by rw [hE], put_got hl hI.range hE, hB⟩

theorem isB_take9 {w : World} {a : Option Addr} {len cap : Nat} {Z : List Int} (hI : IsB w a len cap Z) (hl : 9 ≤ len) : ∃ b off, a = some ⟨b, off, none⟩ ∧ IsB w (some ⟨b, off, none⟩) 9 cap (Z.take 9) := by
  obtain ⟨h1, h2, h3, h4, h5⟩ := hI
  obtain ⟨b, off, rfl, hR⟩ := h5 (by omega)
  refine ⟨b, off, rfl, BRow.isB ⟨by simp; omega, by omega, h3, fun _ => hR.lt (by omega), fun i hi => ?_, range_take hR.rng 9⟩⟩
  rw [hR.cell i (by omega), List.getD_eq_getElem?_getD, List.getD_eq_getElem?_getD, List.getElem?_take_of_lt hi]

set_option maxHeartbeats 4000000 in
theorem back_nn (v f s o l : Int) (a : Option Addr) (len cap : Nat) (Z : List Int) (w : World) (h : HOk v f s o l) (hI : IsB w a len cap Z) (hbd : 9 + len ≤ 140737488355328) (hm : cap ≤ 9223372036854775807) (hc : chk v f o l ≠ 0) (hE : gE Z ≠ 0) :
    Calls Try.prog 5 #[.agg #[.int .u8 v, .int .u8 f, .int .i16 s, .int .u8 o, .int .u32 l], .slice a len cap] w fun e w' => e = .returned (.bool true) ∧ Below w.heap.size w w' := by
  have H : Hid (HOk v f s o l) := h
  have HI : Hid (IsB w a len cap Z) := hI
  have HE : Hid (gE Z ≠ 0) := hE
  have HBD : Hid (9 + len ≤ 140737488355328) := hbd
  have t : (chk v f o l == 0) = false := by simpa using hc
  have HC : Hid (chk v f o l ≠ 0) := hc
  clear h hI hE hbd hc
  obtain ⟨E, hE⟩ : ∃ E, E = gE Z := ⟨_, rfl⟩
  have HEE : Hid (E = gE Z) := hE
  have hn : E ≠ 0 := by rw [hE]; exact HE.out
  have HN : Hid (E ≠ 0) := hn
  have tE : (E != 0) = true := by simpa using hn
  clear hE hn
  go_enter Try.func5, Try.ntmps5
  go_wp2_with fail
  refine (awake_any _).mono ?_
  rintro e w1 ⟨rfl, hB1⟩
  have hC1 : Below (w.heap.size + 1) (w.alloc (.cells #[.int .u8 v, .int .u8 f, .int .i16 s, .int .u8 o, .int .u32 l] 25)) w1 := hB1.mono (by simp)
  obtain ⟨c0, c1, c2, c3, c4, hz⟩ := box5 hC1
  go_wp2_with fail
  refine (put_err v f s o l _ H.out HC.out).mono ?_
  rintro e w2 ⟨rfl, hB2⟩
  have hC2 := hC1.trans (hB2.mono (by omega))
  have hA : Below w.heap.size w w2 := (below_one _ _).trans (hC2.mono (by omega))
  clear c0 c1 c2 c3 c4 hC1 hB1 hB2 hC2 hz
  go_wp2_with fail
  refine (get_no9 (HI.out.old hA) HEE.out HN.out).mono ?_
  rintro e w5 ⟨rfl, hB5⟩
  have hA5 : Below w.heap.size w w5 := hA.trans (hB5.mono hA.size)
  clear hA hB5 
  go_wp2_with fail
  go_ret
  exact ⟨rfl, hA5.alloc hA5.size _⟩

set_option maxHeartbeats 4000000 in
theorem back_ny (v f s o l : Int) (a : Option Addr) (len cap : Nat) (Z : List Int) (w : World) (h : HOk v f s o l) (hI : IsB w a len cap Z) (hbd : 9 + len ≤ 140737488355328) (hm : cap ≤ 9223372036854775807) (hc : chk v f o l ≠ 0) (hE : gE Z = 0) :
    Calls Try.prog 5 #[.agg #[.int .u8 v, .int .u8 f, .int .i16 s, .int .u8 o, .int .u32 l], .slice a len cap] w fun e w' => e = .returned (.bool true) ∧ Below w.heap.size w w' := by
  have H : Hid (HOk v f s o l) := h
  have HI : Hid (IsB w a len cap Z) := hI
  have HE : Hid (gE Z = 0) := hE
  have HBD : Hid (9 + len ≤ 140737488355328) := hbd
  have t : (chk v f o l == 0) = false := by simpa using hc
  have HC : Hid (chk v f o l ≠ 0) := hc
  clear h hI hE hbd hc
  go_enter Try.func5, Try.ntmps5
  go_wp2_with fail
  refine (awake_any _).mono ?_
  rintro e w1 ⟨rfl, hB1⟩
  have hC1 : Below (w.heap.size + 1) (w.alloc (.cells #[.int .u8 v, .int .u8 f, .int .i16 s, .int .u8 o, .int .u32 l] 25)) w1 := hB1.mono (by simp)
  obtain ⟨c0, c1, c2, c3, c4, hz⟩ := box5 hC1
  go_wp2_with fail
  refine (put_err v f s o l _ H.out HC.out).mono ?_
  rintro e w2 ⟨rfl, hB2⟩
  have hC2 := hC1.trans (hB2.mono (by omega))
  have hA : Below w.heap.size w w2 := (below_one _ _).trans (hC2.mono (by omega))
  clear c0 c1 c2 c3 c4 hC1 hB1 hB2 hC2 hz
  go_wp2_with fail
  refine (get_yes9 (HI.out.old hA) HE.out).mono ?_
  rintro e w5 ⟨v', f', s', o', l', rfl, HK, hB5⟩
  have hA5 : Below w.heap.size w w5 := hA.trans (hB5.mono hA.size)
  clear hA hB5 
  go_wp2_with fail
  refine (put_own9 v' f' s' o' l' _ HK.out.2.2 HK.out.2.1).mono ?_
  rintro e w6 ⟨x6, p6, rfl, HO6, HI6, hB6⟩
  have hA5' : Below w.heap.size w (w5.alloc (.cells #[.int .u8 v', .int .u8 f', .int .i16 s', .int .u8 o', .int .u32 l'] 25)) := hA5.alloc hA5.size _
  have hA6 : Below w.heap.size w w6 := hA5'.trans (hB6.mono hA5'.size)
  have hl9 : 9 ≤ len := by
    have e := HI.out.1
    by_cases h : 9 ≤ len
    · exact h
    · exfalso; have := HE.out; unfold gE at this; rw [if_pos (by omega)] at this; revert this; decide
  obtain ⟨b, off, rfl, hT⟩ := isB_take9 (HI.out.old hA6) hl9
  obtain ⟨T, hT9⟩ : ∃ T, T = strOfNums (Z.take 9) := ⟨_, rfl⟩
  have hv1 := HI6.out.conv
  have hv2 := hT.conv
  have hv3 := (HI6.out.old ((Below.refl w6.heap.size w6).drew)).conv
  have hv4 := (hT.old ((Below.refl w6.heap.size w6).drew)).conv
  rw [HK.out.1] at hv1 hv3
  rw [← hT9] at hv1 hv2 hv3 hv4
  have hlc : len ≤ cap := HI.out.2.1
  clear hT9 hT HO6 HI6 HK hA5 hA5' hB6 HI HE HBD
  go_wp2_with fail
  go_region_held (fun W => (convert 27 9 (.slice x6 9 p6)).run Try.prog W = .ok (.string T) W ∧ (convert 27 9 (.slice (some ⟨b, off, none⟩) 9 cap)).run Try.prog W = .ok (.string T) W)
    (exact ⟨by assumption, by assumption⟩) (fail)
  all_goals
    go_wp2_with fail
    go_ret
    exact ⟨rfl, hA6.drew⟩

set_option maxHeartbeats 4000000 in
theorem back_yn (v f s o l : Int) (a : Option Addr) (len cap : Nat) (Z : List Int) (w : World) (h : HOk v f s o l) (hI : IsB w a len cap Z) (hbd : 9 + len ≤ 140737488355328) (hm : cap ≤ 9223372036854775807) (hc : chk v f o l = 0) (hE : gE Z ≠ 0) :
    Calls Try.prog 5 #[.agg #[.int .u8 v, .int .u8 f, .int .i16 s, .int .u8 o, .int .u32 l], .slice a len cap] w fun e w' => e = .returned (.bool true) ∧ Below w.heap.size w w' := by
  have H : Hid (HOk v f s o l) := h
  have HI : Hid (IsB w a len cap Z) := hI
  have HE : Hid (gE Z ≠ 0) := hE
  have HBD : Hid (9 + len ≤ 140737488355328) := hbd
  have HC : Hid (chk v f o l = 0) := hc
  clear h hI hE hbd hc
  obtain ⟨E, hE⟩ : ∃ E, E = gE Z := ⟨_, rfl⟩
  have HEE : Hid (E = gE Z) := hE
  have hn : E ≠ 0 := by rw [hE]; exact HE.out
  have HN : Hid (E ≠ 0) := hn
  have tE : (E != 0) = true := by simpa using hn
  clear hE hn
  go_enter Try.func5, Try.ntmps5
  go_wp2_with fail
  refine (awake_any _).mono ?_
  rintro e w1 ⟨rfl, hB1⟩
  have hC1 : Below (w.heap.size + 1) (w.alloc (.cells #[.int .u8 v, .int .u8 f, .int .i16 s, .int .u8 o, .int .u32 l] 25)) w1 := hB1.mono (by simp)
  obtain ⟨c0, c1, c2, c3, c4, hz⟩ := box5 hC1
  go_wp2_with fail
  refine (put_own9 v f s o l _ H.out HC.out).mono ?_
  rintro e w2 ⟨x2, p2, rfl, HO2, HI2, hB2⟩
  have hC2 := hC1.trans (hB2.mono (by omega))
  have hA2 : Below w.heap.size w w2 := (below_one _ _).trans (hC2.mono (by omega))
  have HIb : Hid (IsB w2 a len cap Z) := HI.out.old hA2
  clear c0 c1 c2 c3 c4
  go_wp2_with (at_builtin; refine wpList_append_bytes rfl (.tmp 25) (.tmp 26) rfl rfl HO2.out rfl HIb.out HBD.out hB2.size ?_)
  rintro u3 w3 ho3 hB3
  have hC3 := hC2.trans (hB3.mono (by omega))
  obtain ⟨x3, p3, rfl, HI3⟩ := ho3.isB (by omega) (range_append (hdB_range H.out) HI.out.range)
  clear ho3 HO2 HI2 HIb
  go_wp2_with fail
  refine (get_back H.out HC.out HI3.out).mono ?_
  rintro e w4 ⟨rfl, hB4⟩
  have hs3 : w.heap.size < w3.heap.size := by have := hC3.size; simp at this; omega
  have hC4 := hC3.trans (hB4.mono (by omega))
  obtain ⟨c0, c1, c2, c3, c4, hz4⟩ := box5 hC4
  have hA4 : Below w.heap.size w w4 := (below_one _ _).trans (hC4.mono (by omega))
  have hA : Below w.heap.size w (w4.alloc (.cells #[.int .u8 v, .int .u8 f, .int .i16 s, .int .u8 o, .int .u32 l] 25)) := hA4.alloc hA4.size _
  clear hC1 hC2 hC3 hC4 hB1 hB2 hB3 hB4 hA2 hA4 HI3 hs3 hz
  go_wp2_with fail
  refine (get_no9 (HI.out.old hA) HEE.out HN.out).mono ?_
  rintro e w5 ⟨rfl, hB5⟩
  have hA5 : Below w.heap.size w w5 := hA.trans (hB5.mono hA.size)
  clear hA hB5 c0 c1 c2 c3 c4 hz4
  go_wp2_with fail
  go_ret
  exact ⟨rfl, hA5.alloc hA5.size _⟩

set_option maxHeartbeats 4000000 in
theorem back_yy (v f s o l : Int) (a : Option Addr) (len cap : Nat) (Z : List Int) (w : World) (h : HOk v f s o l) (hI : IsB w a len cap Z) (hbd : 9 + len ≤ 140737488355328) (hm : cap ≤ 9223372036854775807) (hc : chk v f o l = 0) (hE : gE Z = 0) :
    Calls Try.prog 5 #[.agg #[.int .u8 v, .int .u8 f, .int .i16 s, .int .u8 o, .int .u32 l], .slice a len cap] w fun e w' => e = .returned (.bool true) ∧ Below w.heap.size w w' := by
  have H : Hid (HOk v f s o l) := h
  have HI : Hid (IsB w a len cap Z) := hI
  have HE : Hid (gE Z = 0) := hE
  have HBD : Hid (9 + len ≤ 140737488355328) := hbd
  have HC : Hid (chk v f o l = 0) := hc
  clear h hI hE hbd hc
  go_enter Try.func5, Try.ntmps5
  go_wp2_with fail
  refine (awake_any _).mono ?_
  rintro e w1 ⟨rfl, hB1⟩
  have hC1 : Below (w.heap.size + 1) (w.alloc (.cells #[.int .u8 v, .int .u8 f, .int .i16 s, .int .u8 o, .int .u32 l] 25)) w1 := hB1.mono (by simp)
  obtain ⟨c0, c1, c2, c3, c4, hz⟩ := box5 hC1
  go_wp2_with fail
  refine (put_own9 v f s o l _ H.out HC.out).mono ?_
  rintro e w2 ⟨x2, p2, rfl, HO2, HI2, hB2⟩
  have hC2 := hC1.trans (hB2.mono (by omega))
  have hA2 : Below w.heap.size w w2 := (below_one _ _).trans (hC2.mono (by omega))
  have HIb : Hid (IsB w2 a len cap Z) := HI.out.old hA2
  clear c0 c1 c2 c3 c4
  go_wp2_with (at_builtin; refine wpList_append_bytes rfl (.tmp 25) (.tmp 26) rfl rfl HO2.out rfl HIb.out HBD.out hB2.size ?_)
  rintro u3 w3 ho3 hB3
  have hC3 := hC2.trans (hB3.mono (by omega))
  obtain ⟨x3, p3, rfl, HI3⟩ := ho3.isB (by omega) (range_append (hdB_range H.out) HI.out.range)
  clear ho3 HO2 HI2 HIb
  go_wp2_with fail
  refine (get_back H.out HC.out HI3.out).mono ?_
  rintro e w4 ⟨rfl, hB4⟩
  have hs3 : w.heap.size < w3.heap.size := by have := hC3.size; simp at this; omega
  have hC4 := hC3.trans (hB4.mono (by omega))
  obtain ⟨c0, c1, c2, c3, c4, hz4⟩ := box5 hC4
  have hA4 : Below w.heap.size w w4 := (below_one _ _).trans (hC4.mono (by omega))
  have hA : Below w.heap.size w (w4.alloc (.cells #[.int .u8 v, .int .u8 f, .int .i16 s, .int .u8 o, .int .u32 l] 25)) := hA4.alloc hA4.size _
  clear hC1 hC2 hC3 hC4 hB1 hB2 hB3 hB4 hA2 hA4 HI3 hs3 hz
  go_wp2_with fail
  refine (get_yes9 (HI.out.old hA) HE.out).mono ?_
  rintro e w5 ⟨v', f', s', o', l', rfl, HK, hB5⟩
  have hA5 : Below w.heap.size w w5 := hA.trans (hB5.mono hA.size)
  clear hA hB5 c0 c1 c2 c3 c4 hz4
  go_wp2_with fail
  refine (put_own9 v' f' s' o' l' _ HK.out.2.2 HK.out.2.1).mono ?_
  rintro e w6 ⟨x6, p6, rfl, HO6, HI6, hB6⟩
  have hA5' : Below w.heap.size w (w5.alloc (.cells #[.int .u8 v', .int .u8 f', .int .i16 s', .int .u8 o', .int .u32 l'] 25)) := hA5.alloc hA5.size _
  have hA6 : Below w.heap.size w w6 := hA5'.trans (hB6.mono hA5'.size)
  have hl9 : 9 ≤ len := by
    have e := HI.out.1
    by_cases h : 9 ≤ len
    · exact h
    · exfalso; have := HE.out; unfold gE at this; rw [if_pos (by omega)] at this; revert this; decide
  obtain ⟨b, off, rfl, hT⟩ := isB_take9 (HI.out.old hA6) hl9
  obtain ⟨T, hT9⟩ : ∃ T, T = strOfNums (Z.take 9) := ⟨_, rfl⟩
  have hv1 := HI6.out.conv
  have hv2 := hT.conv
  have hv3 := (HI6.out.old ((Below.refl w6.heap.size w6).drew)).conv
  have hv4 := (hT.old ((Below.refl w6.heap.size w6).drew)).conv
  rw [HK.out.1] at hv1 hv3
  rw [← hT9] at hv1 hv2 hv3 hv4
  have hlc : len ≤ cap := HI.out.2.1
  clear hT9 hT HO6 HI6 HK hA5 hA5' hB6 HI HE HBD
  go_wp2_with fail
  go_region_held (fun W => (convert 27 9 (.slice x6 9 p6)).run Try.prog W = .ok (.string T) W ∧ (convert 27 9 (.slice (some ⟨b, off, none⟩) 9 cap)).run Try.prog W = .ok (.string T) W)
    (exact ⟨by assumption, by assumption⟩) (fail)
  all_goals
    go_wp2_with fail
    go_ret
    exact ⟨rfl, hA6.drew⟩

theorem back_walk (v f s o l : Int) (a : Option Addr) (len cap : Nat) (zs : List Int) (w : World) (h : HOk v f s o l) (hr : IsRow .u8 w a len cap zs) (hrc : cap * 1 ≤ 140737488351232) :
    Calls Try.prog 5 #[.agg #[.int .u8 v, .int .u8 f, .int .i16 s, .int .u8 o, .int .u32 l], .slice a len cap] w fun e w' => e = .returned (.bool true) ∧ Below w.heap.size w w' := by
  have hle := hr.le
  by_cases hc : chk v f o l = 0
  · by_cases hE : gE (zs.take len) = 0
    · exact back_yy v f s o l a len cap _ w h hr.isB (by omega) (by omega) hc hE
    · exact back_yn v f s o l a len cap _ w h hr.isB (by omega) (by omega) hc hE
  · by_cases hE : gE (zs.take len) = 0
    · exact back_ny v f s o l a len cap _ w h hr.isB (by omega) (by omega) hc hE
    · exact back_nn v f s o l a len cap _ w h hr.isB (by omega) (by omega) hc hE
end Go.Proofs.Ytalmlaeijjoffaa
