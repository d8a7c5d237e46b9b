/-
  The contract of splitter.head.
-/
import Derived.Test.YtabadlgjocgkjaaSpl
namespace Go.Proofs.Ytabadlgjocgkjaa
open Go.RowKit
set_option linter.unusedVariables false
set_option linter.unusedSimpArgs false

abbrev hdrV (v f s o l : Int) : Value := .agg #[.int .u8 v, .int .u8 f, .int .i16 s, .int .u8 o, .int .u32 l]

theorem spl_keepc {w W : World} {s : Nat} {ver : Int} {kv : Value} {K : List Int} {flt : Int} (h : Spl w s ver kv K flt) (hB : Below w.heap.size w W) :
    W.cell? ⟨s, 0, none⟩ = some (.int .u8 ver) ∧ W.cell? ⟨s, 1, none⟩ = some kv ∧ W.cell? ⟨s, 2, none⟩ = some (.int .i64 flt) ∧ W.frozen? ⟨s, 1, none⟩ = false ∧ W.frozen? ⟨s, 2, none⟩ = false := (h.old hB).cells

set_option maxHeartbeats 400000 in
theorem head_ok {w : World} {s : Nat} {ver : Int} {a : Option Addr} {cap : Nat} {K : List Int} {flt : Int} (h : Spl w s ver (.slice a K.length cap) K flt) (hI : IsB w a K.length cap K) (hE0 : hE ver K = 0) :
    Calls Try.prog 20 #[.pointer (some ⟨s, 0, none⟩)] w fun e w' => e = .returned (.tuple #[hdrV (K.getD 0 0) (K.getD 1 0) (strm K) (K.getD 4 0) (leng K), .int .i64 0]) ∧ Below w.heap.size w w' := by
  have hg : gE K = 0 := by unfold hE at hE0; by_cases hg : gE K = 0; exact hg; rw [if_neg hg] at hE0; exact hE0
  have hv : K.getD 0 0 = ver := by unfold hE at hE0; rw [if_pos hg] at hE0; by_cases hv : K.getD 0 0 = ver; exact hv; rw [if_neg hv] at hE0; omega
  have HG := @get_any (w.alloc (.cells #[.int .u8 0, .int .u8 0, .int .i16 0, .int .u8 0, .int .u32 0] 42)) a K.length cap K (hI.old (below_one _ _))
  unfold gV gF gS gO gL at HG
  simp only [if_pos hg] at HG
  rw [hg, hv] at HG
  rw [hv]
  have H : Hid _ := h
  have HG' : Hid _ := HG
  obtain ⟨c0, c1, c2, f1, f2⟩ := h.cells
  have hlt := h.lt
  obtain ⟨z1, hz1⟩ : ∃ z, z = K.getD 1 0 := ⟨_, rfl⟩
  obtain ⟨z2, hz2⟩ : ∃ z, z = strm K := ⟨_, rfl⟩
  obtain ⟨z4, hz4⟩ : ∃ z, z = K.getD 4 0 := ⟨_, rfl⟩
  obtain ⟨z5, hz5⟩ : ∃ z, z = leng K := ⟨_, rfl⟩
  rw [← hz1, ← hz2, ← hz4, ← hz5] at HG' ⊢
  generalize hn : K.length = n at *
  clear hE0 hg hv HG h hI hz1 hz2 hz4 hz5
  go_enter Try.func20, Try.ntmps20
  go_wp2_with fail
  refine Calls.mono HG'.out ?_
  rintro e w1 ⟨rfl, hB1⟩
  have hB1' : Below (w.heap.size + 1) (w.alloc (.cells #[.int .u8 0, .int .u8 0, .int .i16 0, .int .u8 0, .int .u32 0] 42)) w1 := hB1.mono (by simp)
  have hB : Below w.heap.size w w1 := (below_one _ _).trans (hB1'.mono (by omega))
  obtain ⟨d0, d1, d2, g1, g2⟩ := spl_keepc H.out hB
  obtain ⟨p0, p1, p2, p3, p4, hz⟩ := box5 hB1'
  obtain ⟨q0, q1, q2, q3, q4⟩ := box5f hB1'
  have hs1 : s < w1.heap.size := by omega
  clear HG' hB1 c0 c1 c2 f1 f2
  go_wp2_with fail
  go_quiet (fail)
  go_wp2_with fail
  refine bodyPost_ret (v := .tuple #[hdrV ver z1 z2 z4 z5, .int .i64 0]) (by simp [results, Try.results20, go_sem, p0, p1, p2, p3, p4, hz]) rfl ⟨rfl, ?_⟩
  exact below_five (below_drewN (hB1'.alloc (by omega) _) _) _ _ _ _ _

set_option maxHeartbeats 400000 in
theorem head_bad {w : World} {s : Nat} {ver : Int} {a : Option Addr} {cap : Nat} {K : List Int} {flt : Int} (h : Spl w s ver (.slice a K.length cap) K flt) (hI : IsB w a K.length cap K) (hg : gE K ≠ 0) :
    Calls Try.prog 20 #[.pointer (some ⟨s, 0, none⟩)] w fun e w' => e = .returned (.tuple #[hdrV 0 0 0 0 0, .int .i64 (gE K)]) ∧ Below w.heap.size w w' := by
  have HG := @get_any (w.alloc (.cells #[.int .u8 0, .int .u8 0, .int .i16 0, .int .u8 0, .int .u32 0] 42)) a K.length cap K (hI.old (below_one _ _))
  unfold gV gF gS gO gL at HG
  simp only [if_neg hg] at HG
  have t : (gE K != 0) = true := by simpa using hg
  have H : Hid _ := h
  have HG' : Hid _ := HG
  obtain ⟨c0, c1, c2, f1, f2⟩ := h.cells
  have hlt := h.lt
  obtain ⟨E, hEE⟩ : ∃ E, E = gE K := ⟨_, rfl⟩
  rw [← hEE] at HG' t ⊢
  generalize hn : K.length = n at *
  clear hg HG h hI hEE
  go_enter Try.func20, Try.ntmps20
  go_wp2_with fail
  refine Calls.mono HG'.out ?_
  rintro e w1 ⟨rfl, hB1⟩
  have hB1' : Below (w.heap.size + 1) (w.alloc (.cells #[.int .u8 0, .int .u8 0, .int .i16 0, .int .u8 0, .int .u32 0] 42)) w1 := hB1.mono (by simp)
  obtain ⟨p0, p1, p2, p3, p4, hz⟩ := box5 hB1'
  obtain ⟨q0, q1, q2, q3, q4⟩ := box5f hB1'
  clear HG' hB1 c0 c1 c2 f1 f2
  go_wp2_with fail
  refine bodyPost_ret (v := .tuple #[hdrV 0 0 0 0 0, .int .i64 E]) (by simp [results, Try.results20, go_sem, p0, p1, p2, p3, p4, hz]) rfl ⟨rfl, ?_⟩
  exact (below_five hB1' _ _ _ _ _).alloc (by simp; omega) _

set_option maxHeartbeats 400000 in
theorem head_other {w : World} {s : Nat} {ver : Int} {a : Option Addr} {cap : Nat} {K : List Int} {flt : Int} (h : Spl w s ver (.slice a K.length cap) K flt) (hI : IsB w a K.length cap K) (hg : gE K = 0) (hv : K.getD 0 0 ≠ ver) :
    Calls Try.prog 20 #[.pointer (some ⟨s, 0, none⟩)] w fun e w' => e = .returned (.tuple #[hdrV 0 0 0 0 0, .int .i64 20]) ∧ Below w.heap.size w w' := by
  have HG := @get_any (w.alloc (.cells #[.int .u8 0, .int .u8 0, .int .i16 0, .int .u8 0, .int .u32 0] 42)) a K.length cap K (hI.old (below_one _ _))
  unfold gV gF gS gO gL at HG
  simp only [if_pos hg] at HG
  rw [hg] at HG
  have t : (K.getD 0 0 != ver) = true := by simpa using hv
  have H : Hid _ := h
  have HG' : Hid _ := HG
  obtain ⟨c0, c1, c2, f1, f2⟩ := h.cells
  have hlt := h.lt
  obtain ⟨z0, hz0⟩ : ∃ z, z = K.getD 0 0 := ⟨_, rfl⟩
  obtain ⟨z1, hz1⟩ : ∃ z, z = K.getD 1 0 := ⟨_, rfl⟩
  obtain ⟨z2, hz2⟩ : ∃ z, z = strm K := ⟨_, rfl⟩
  obtain ⟨z4, hz4⟩ : ∃ z, z = K.getD 4 0 := ⟨_, rfl⟩
  obtain ⟨z5, hz5⟩ : ∃ z, z = leng K := ⟨_, rfl⟩
  rw [← hz0] at t
  rw [← hz0, ← hz1, ← hz2, ← hz4, ← hz5] at HG'
  generalize hn : K.length = n at *
  clear hg hv HG h hI hz0 hz1 hz2 hz4 hz5
  go_enter Try.func20, Try.ntmps20
  go_wp2_with fail
  refine Calls.mono HG'.out ?_
  rintro e w1 ⟨rfl, hB1⟩
  have hB1' : Below (w.heap.size + 1) (w.alloc (.cells #[.int .u8 0, .int .u8 0, .int .i16 0, .int .u8 0, .int .u32 0] 42)) w1 := hB1.mono (by simp)
  have hB : Below w.heap.size w w1 := (below_one _ _).trans (hB1'.mono (by omega))
  obtain ⟨d0, d1, d2, g1, g2⟩ := spl_keepc H.out hB
  obtain ⟨p0, p1, p2, p3, p4, hz⟩ := box5 hB1'
  obtain ⟨q0, q1, q2, q3, q4⟩ := box5f hB1'
  have hs1 : s < w1.heap.size := by omega
  clear HG' hB1 c0 c1 c2 f1 f2
  go_wp2_with fail
  go_quiet (fail)
  go_wp2_with fail
  refine bodyPost_ret (v := .tuple #[hdrV 0 0 0 0 0, .int .i64 20]) (by simp [results, Try.results20, go_sem, p0, p1, p2, p3, p4, hz]) rfl ⟨rfl, ?_⟩
  exact below_five (below_drewN (hB1'.alloc (by omega) _) _) _ _ _ _ _

theorem head_err {w : World} {s : Nat} {ver : Int} {a : Option Addr} {cap : Nat} {K : List Int} {flt : Int} (h : Spl w s ver (.slice a K.length cap) K flt) (hI : IsB w a K.length cap K) (he : hE ver K ≠ 0) :
    Calls Try.prog 20 #[.pointer (some ⟨s, 0, none⟩)] w fun e w' => e = .returned (.tuple #[hdrV 0 0 0 0 0, .int .i64 (hE ver K)]) ∧ Below w.heap.size w w' := by
  by_cases hg : gE K = 0
  · by_cases hv : K.getD 0 0 = ver
    · exact absurd (by unfold hE; rw [if_pos hg, if_pos hv]) he
    · have e : hE ver K = 20 := by unfold hE; rw [if_pos hg, if_neg hv]
      rw [e]; exact head_other h hI hg hv
  · have e : hE ver K = gE K := by unfold hE; rw [if_neg hg]
    rw [e]; exact head_bad h hI hg
end Go.Proofs.Ytabadlgjocgkjaa
