/-
  The contract of header.Get.
-/
import Derived.Test.YtabadlgjocgkjaaGet
namespace Go.Proofs.Ytabadlgjocgkjaa
open Go.RowKit
set_option linter.unusedVariables false
set_option linter.unusedSimpArgs false

/-- What is told of the header of bytes: the error, and its fields (noughts at an error). -/
def gE (zs : List Int) : Int := if zs.length < 9 then 10 else chk (zs.getD 0 0) (zs.getD 1 0) (zs.getD 4 0) (leng zs)
def gV (zs : List Int) : Int := if gE zs = 0 then zs.getD 0 0 else 0
def gF (zs : List Int) : Int := if gE zs = 0 then zs.getD 1 0 else 0
def gS (zs : List Int) : Int := if gE zs = 0 then strm zs else 0
def gO (zs : List Int) : Int := if gE zs = 0 then zs.getD 4 0 else 0
def gL (zs : List Int) : Int := if gE zs = 0 then leng zs else 0

theorem gE_long {zs : List Int} (h : 9 ≤ zs.length) : gE zs = chk (zs.getD 0 0) (zs.getD 1 0) (zs.getD 4 0) (leng zs) := by unfold gE; rw [if_neg (by omega)]

set_option maxHeartbeats 400000 in
theorem get_less (a : Option Addr) (len cap : Nat) (w : World) (hl : len < 9) :
    Calls Try.prog 28 #[.slice a len cap] w fun e w' => e = .returned (.tuple #[.agg #[.int .u8 0, .int .u8 0, .int .i16 0, .int .u8 0, .int .u32 0], .int .i64 10]) ∧ Below w.heap.size w w' := by
  go_enter Try.func28, Try.ntmps28
  go_wp2_with fail
  exact bodyPost_ret (v := .tuple #[.agg #[.int .u8 0, .int .u8 0, .int .i16 0, .int .u8 0, .int .u32 0], .int .i64 10]) (by simp [results, Try.results28, go_sem]) rfl ⟨rfl, below_one _ _⟩

theorem read_at {w : World} {b off len cap : Nat} {zs : List Int} (h : BRow w b off len cap zs) (hl : 9 ≤ len) {z0 z1 S z4 L : Int} (e0 : z0 = zs.getD 0 0) (e1 : z1 = zs.getD 1 0) (e2 : S = strm zs) (e4 : z4 = zs.getD 4 0) (e5 : L = leng zs) :
    Calls Try.prog 32 #[.slice (some ⟨b, off, none⟩) len cap] w fun e w' => e = .returned (.agg #[.int .u8 z0, .int .u8 z1, .int .i16 S, .int .u8 z4, .int .u32 L]) ∧ Below w.heap.size w w' := by
  subst e0 e1 e2 e4 e5; exact read_any h hl

set_option maxHeartbeats 1000000 in
theorem get_ok {w : World} {b off len cap : Nat} {zs : List Int} (h : BRow w b off len cap zs) (hl : 9 ≤ len) (hm : len ≤ 9223372036854775807) {z0 z1 S z4 L : Int} (e0 : z0 = zs.getD 0 0) (e1 : z1 = zs.getD 1 0) (e2 : S = strm zs) (e4 : z4 = zs.getD 4 0) (e5 : L = leng zs)
    (hk : HOk z0 z1 S z4 L) (hc : chk z0 z1 z4 L = 0) :
    Calls Try.prog 28 #[.slice (some ⟨b, off, none⟩) len cap] w fun e w' => e = .returned (.tuple #[.agg #[.int .u8 z0, .int .u8 z1, .int .i16 S, .int .u8 z4, .int .u32 L], .int .i64 0]) ∧ Below w.heap.size w w' := by
  have H : Hid (BRow (w.alloc (.cells #[.int .u8 0, .int .u8 0, .int .i16 0, .int .u8 0, .int .u32 0] 42)) b off len cap zs) := h.old (below_one _ _)
  have HR : Hid _ := @read_at _ _ _ _ _ _ H.out hl _ _ _ _ _ e0 e1 e2 e4 e5
  have HK : Hid (HOk z0 z1 S z4 L) := hk
  have HC : Hid _ := hc
  clear h e0 e1 e2 e4 e5 hk hc H
  go_enter Try.func28, Try.ntmps28
  go_wp2_with fail
  refine Calls.mono HR.out ?_
  rintro e w1 ⟨rfl, hB1⟩
  have hB1' : Below (w.heap.size + 1) (w.alloc (.cells #[.int .u8 0, .int .u8 0, .int .i16 0, .int .u8 0, .int .u32 0] 42)) w1 := hB1.mono (by simp)
  have hs1 : w.heap.size < w1.heap.size := by have := hB1.size; simp at this; omega
  go_wp2_with fail
  refine (check_any _ _ _ _ _ _ HK.out).mono ?_
  rintro e w2 ⟨rfl, hB2⟩
  rw [HC.out]
  have hB2' : Below (w1.heap.size + 1) (w1.alloc (.cells #[.int .u8 z0, .int .u8 z1, .int .i16 S, .int .u8 z4, .int .u32 L] 42)) w2 := hB2.mono (by simp)
  have hB3 : Below (w.heap.size + 1) (w.alloc (.cells #[.int .u8 0, .int .u8 0, .int .i16 0, .int .u8 0, .int .u32 0] 42)) w2 := (hB1'.alloc (by omega) _).trans (hB2'.mono (by omega))
  obtain ⟨c0, c1, c2, c3, c4, hz⟩ := box5 hB3
  obtain ⟨g0, g1, g2, g3, g4⟩ := box5f hB3
  obtain ⟨d0, d1, d2, d3, d4, hz2⟩ := box5 hB2'
  clear hB1 hB1' hB2 hB2' HR
  go_wp2_with fail
  exact bodyPost_ret (v := .tuple #[.agg #[.int .u8 z0, .int .u8 z1, .int .i16 S, .int .u8 z4, .int .u32 L], .int .i64 0]) (by simp [results, Try.results28, go_sem, c0, c1, c2, c3, c4, hz]) rfl ⟨rfl, below_five hB3 _ _ _ _ _⟩

set_option maxHeartbeats 1000000 in
theorem get_err {w : World} {b off len cap : Nat} {zs : List Int} (h : BRow w b off len cap zs) (hl : 9 ≤ len) (hm : len ≤ 9223372036854775807) {z0 z1 S z4 L : Int} (e0 : z0 = zs.getD 0 0) (e1 : z1 = zs.getD 1 0) (e2 : S = strm zs) (e4 : z4 = zs.getD 4 0) (e5 : L = leng zs)
    (hk : HOk z0 z1 S z4 L) (hc : chk z0 z1 z4 L ≠ 0) :
    Calls Try.prog 28 #[.slice (some ⟨b, off, none⟩) len cap] w fun e w' => e = .returned (.tuple #[.agg #[.int .u8 0, .int .u8 0, .int .i16 0, .int .u8 0, .int .u32 0], .int .i64 (chk z0 z1 z4 L)]) ∧ Below w.heap.size w w' := by
  have H : Hid (BRow (w.alloc (.cells #[.int .u8 0, .int .u8 0, .int .i16 0, .int .u8 0, .int .u32 0] 42)) b off len cap zs) := h.old (below_one _ _)
  have HR : Hid _ := @read_at _ _ _ _ _ _ H.out hl _ _ _ _ _ e0 e1 e2 e4 e5
  have HK : Hid (HOk z0 z1 S z4 L) := hk
  have t : (chk z0 z1 z4 L != 0) = true := by simpa using hc
  clear h e0 e1 e2 e4 e5 hk hc H
  go_enter Try.func28, Try.ntmps28
  go_wp2_with fail
  refine Calls.mono HR.out ?_
  rintro e w1 ⟨rfl, hB1⟩
  have hB1' : Below (w.heap.size + 1) (w.alloc (.cells #[.int .u8 0, .int .u8 0, .int .i16 0, .int .u8 0, .int .u32 0] 42)) w1 := hB1.mono (by simp)
  have hs1 : w.heap.size < w1.heap.size := by have := hB1.size; simp at this; omega
  go_wp2_with fail
  refine (check_any _ _ _ _ _ _ HK.out).mono ?_
  rintro e w2 ⟨rfl, hB2⟩
  have hB2' : Below (w1.heap.size + 1) (w1.alloc (.cells #[.int .u8 z0, .int .u8 z1, .int .i16 S, .int .u8 z4, .int .u32 L] 42)) w2 := hB2.mono (by simp)
  have hB3 : Below (w.heap.size + 1) (w.alloc (.cells #[.int .u8 0, .int .u8 0, .int .i16 0, .int .u8 0, .int .u32 0] 42)) w2 := (hB1'.alloc (by omega) _).trans (hB2'.mono (by omega))
  obtain ⟨c0, c1, c2, c3, c4, hz⟩ := box5 hB3
  obtain ⟨g0, g1, g2, g3, g4⟩ := box5f hB3
  clear hB1 hB1' hB2 hB2' HR
  go_wp2_with fail
  exact bodyPost_ret (v := .tuple #[.agg #[.int .u8 0, .int .u8 0, .int .i16 0, .int .u8 0, .int .u32 0], .int .i64 (chk z0 z1 z4 L)]) (by simp [results, Try.results28, go_sem, c0, c1, c2, c3, c4, hz]) rfl ⟨rfl, below_five hB3 _ _ _ _ _⟩

theorem get_any {w : World} {a : Option Addr} {len cap : Nat} {zs : List Int} (h : IsB w a len cap zs) :
    Calls Try.prog 28 #[.slice a len cap] w fun e w' => e = .returned (.tuple #[.agg #[.int .u8 (gV zs), .int .u8 (gF zs), .int .i16 (gS zs), .int .u8 (gO zs), .int .u32 (gL zs)], .int .i64 (gE zs)]) ∧ Below w.heap.size w w' := by
  obtain ⟨h1, h2, h3, h4, h5⟩ := h
  unfold maxLen at h3
  by_cases hl : 9 ≤ len
  · obtain ⟨b, off, rfl, hR⟩ := h5 (by omega)
    have hE := gE_long (zs := zs) (by omega)
    by_cases hc : chk (zs.getD 0 0) (zs.getD 1 0) (zs.getD 4 0) (leng zs) = 0
    · have hE0 : gE zs = 0 := hE.trans hc
      unfold gV gF gS gO gL
      simp only [if_pos hE0]
      rw [hE0]
      exact get_ok hR hl (by omega) rfl rfl rfl rfl rfl (hok_of hR.rng) hc
    · have hE0 : ¬ gE zs = 0 := by rw [hE]; exact hc
      unfold gV gF gS gO gL
      simp only [if_neg hE0]
      rw [hE]
      exact get_err hR hl (by omega) rfl rfl rfl rfl rfl (hok_of hR.rng) hc
  · have hE : gE zs = 10 := by unfold gE; rw [if_pos (by omega)]
    have hE0 : ¬ gE zs = 0 := by rw [hE]; decide
    unfold gV gF gS gO gL
    simp only [if_neg hE0]
    rw [hE]
    exact get_less a len cap w (by omega)
end Go.Proofs.Ytabadlgjocgkjaa
