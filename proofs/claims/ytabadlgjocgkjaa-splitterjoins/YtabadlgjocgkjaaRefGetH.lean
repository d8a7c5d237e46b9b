/-
  The contract of the document's own Get.
-/
import Derived.Test.YtabadlgjocgkjaaGetH
namespace Go.Proofs.Ytabadlgjocgkjaa
open Go.RowKit
set_option linter.unusedVariables false
set_option linter.unusedSimpArgs false

theorem strm_eq {zs : List Int} (h : ∀ j : Nat, 0 ≤ zs[j]?.getD 0 ∧ zs[j]?.getD 0 ≤ 255) : strm zs = if 32768 ≤ zs.getD 2 0 * 256 + zs.getD 3 0 then zs.getD 2 0 * 256 + zs.getD 3 0 - 65536 else zs.getD 2 0 * 256 + zs.getD 3 0 := by
  have h2 := getD_rng h 2; have h3 := getD_rng h 3
  unfold strm sgn
  simp only [show 8 * 2 - 1 = 15 from rfl, show 8 * 2 = 16 from rfl]
  generalize zs.getD 2 0 = a at *; generalize zs.getD 3 0 = b at *
  split <;> split <;> omega

theorem leng_eq {zs : List Int} (h : 9 ≤ zs.length) : leng zs = numTo (zs.drop 5) 4 := by
  rw [numTo_four _ (by simp; omega)]
  simp only [getD_drop]
  rfl

theorem numTo_small {zs : List Int} (hr : ∀ j : Nat, 0 ≤ zs[j]?.getD 0 ∧ zs[j]?.getD 0 ≤ 255) (hl : 9 ≤ zs.length) (j : Nat) (hj : j ≤ 3) : 0 ≤ numTo (zs.drop 5) j ∧ numTo (zs.drop 5) j ≤ 16777215 := by
  have hb := numTo_bound (zs.drop 5) (range_drop hr 5) j (by simp; omega)
  have e : ∀ k : Fin 4, (256 : Int) ^ (k : Nat) ≤ 16777216 := by decide
  have := e ⟨j, by omega⟩
  simp only at this
  omega

set_option maxHeartbeats 400000 in
theorem rget_less (a : Option Addr) (len cap : Nat) (w : World) (hl : len < 9) :
    Calls Try.prog 19 #[.slice a len cap] w fun e w' => e = .returned (.tuple #[.agg #[.int .u8 0, .int .u8 0, .int .i16 0, .int .u8 0, .int .u32 0], .int .i64 10]) ∧ Below w.heap.size w w' := by
  go_enter Try.func19, Try.ntmps19
  go_wp2_with fail
  exact bodyPost_ret (v := .tuple #[.agg #[.int .u8 0, .int .u8 0, .int .i16 0, .int .u8 0, .int .u32 0], .int .i64 10]) (by simp [results, Try.results19, go_sem]) rfl ⟨rfl, below_one _ _⟩

/-- Behind two boxes of a struct of five, whatever is made later. -/
theorem tail5 {w w2 : World} {n : Nat} {a b c d e a' b' c' d' e' : Value} {t : TypeId}
    (hB : Below (((w.alloc (.cells #[a, b, c, d, e] t)).drewN n).alloc (.cells #[a', b', c', d', e'] t)).heap.size (((w.alloc (.cells #[a, b, c, d, e] t)).drewN n).alloc (.cells #[a', b', c', d', e'] t)) w2) :
    Below (w.heap.size + 1) (w.alloc (.cells #[a, b, c, d, e] t)) w2 ∧ w2.cell? ⟨w.heap.size + 1, 0, none⟩ = some a' ∧ w2.cell? ⟨w.heap.size + 1, 1, none⟩ = some b' ∧ w2.cell? ⟨w.heap.size + 1, 2, none⟩ = some c' ∧ w2.cell? ⟨w.heap.size + 1, 3, none⟩ = some d' ∧ w2.cell? ⟨w.heap.size + 1, 4, none⟩ = some e' ∧ w.heap.size + 1 < w2.heap.size := by
  have hs : ((w.alloc (.cells #[a, b, c, d, e] t)).drewN n).heap.size = w.heap.size + 1 := by simp
  have h1 : Below (((w.alloc (.cells #[a, b, c, d, e] t)).drewN n).heap.size + 1) (((w.alloc (.cells #[a, b, c, d, e] t)).drewN n).alloc (.cells #[a', b', c', d', e'] t)) w2 := hB.mono (by simp)
  have h2 := box5 h1
  rw [hs] at h2
  refine ⟨?_, h2⟩
  exact ((below_drewN (Below.refl (w.heap.size + 1) (w.alloc (.cells #[a, b, c, d, e] t))) n).alloc (by simp) _).trans (h1.mono (by simp))

set_option maxHeartbeats 2000000 in
theorem rget_ok {w : World} {b off len cap : Nat} {zs : List Int} (h : BRow w b off len cap zs) (hl : 9 ≤ len) (hm : len ≤ 9223372036854775807) {z0 z1 z2 z3 z4 S L : Int} (e0 : z0 = zs.getD 0 0) (e1 : z1 = zs.getD 1 0) (e2 : z2 = zs.getD 2 0) (e3 : z3 = zs.getD 3 0) (e4 : z4 = zs.getD 4 0)
    (eS : S = if 32768 ≤ z2 * 256 + z3 then z2 * 256 + z3 - 65536 else z2 * 256 + z3) (eL : L = numTo (zs.drop 5) 4)
    (hk : HOk z0 z1 S z4 L) (hc : chk z0 z1 z4 L = 0) :
    Calls Try.prog 19 #[.slice (some ⟨b, off, none⟩) len cap] w fun e w' => e = .returned (.tuple #[.agg #[.int .u8 z0, .int .u8 z1, .int .i16 S, .int .u8 z4, .int .u32 L], .int .i64 0]) ∧ Below w.heap.size w w' := by
  have hb := h.lt (by omega)
  have hr := h.rng
  have hW := h.old (below_one w (.cells #[.int .u8 0, .int .u8 0, .int .i16 0, .int .u8 0, .int .u32 0] 48))
  have k0 := hW.cell 0 (by omega)
  have k1 := hW.cell 1 (by omega)
  have k2 := hW.cell 2 (by omega)
  have k3 := hW.cell 3 (by omega)
  have k4 := hW.cell 4 (by omega)
  rw [← e0, Nat.add_zero] at k0
  rw [← e1] at k1
  rw [← e2] at k2
  rw [← e3] at k3
  rw [← e4] at k4
  have r2 : 0 ≤ z2 ∧ z2 ≤ 255 := by rw [e2]; exact getD_rng hr 2
  have r3 : 0 ≤ z3 ∧ z3 ≤ 255 := by rw [e3]; exact getD_rng hr 3
  have HW : Hid (BRow (w.alloc (.cells #[.int .u8 0, .int .u8 0, .int .i16 0, .int .u8 0, .int .u32 0] 48)) b off len cap zs) := hW
  have HC : Hid (chk z0 z1 z4 L = 0) := hc
  have HL : Hid (L = numTo (zs.drop 5) 4) := eL
  obtain ⟨r20, r21⟩ := r2
  obtain ⟨r30, r31⟩ := r3
  clear h hW e0 e1 e2 e3 e4 hc eL hr
  by_cases hs : 32768 ≤ z2 * 256 + z3
  all_goals
    first | rw [if_pos hs] at eS | rw [if_neg hs] at eS
    subst eS
    have HK : Hid (HOk z0 z1 _ z4 L) := hk
    clear hk
    go_enter Try.func19, Try.ntmps19
    go_wp2_with fail
    go_quiet (fail)
    go_wp2_with fail
    go_loop [5, 6] (fun n i => ∃ k : Nat, 5 ≤ k ∧ k ≤ 9 ∧ i = .int .i64 k ∧ n = .int .u32 (numTo (zs.drop 5) (k - 5))) (fun _ i => 9 - (intOf i).toNat)
    case atStart => exact ⟨5, by omega, by omega, rfl, rfl⟩
    case round =>
      obtain ⟨k, hk5, hk9, rfl, rfl⟩ := hrel
      by_cases hlt : k < 9
      · obtain ⟨N, hN⟩ : ∃ N, N = numTo (zs.drop 5) (k - 5) := ⟨_, rfl⟩
        obtain ⟨z, hz⟩ : ∃ z, z = zs.getD k 0 := ⟨_, rfl⟩
        have hck := HW.out.cell k (by omega)
        rw [← hz] at hck
        have hrz : 0 ≤ z ∧ z ≤ 255 := by rw [hz]; exact getD_rng HW.out.rng k
        have hNb := numTo_small HW.out.rng (by have := HW.out.len_eq; omega) (k - 5) (by omega)
        have HN : Hid (numTo (zs.drop 5) (k + 1 - 5) = N * 256 + z) := by
          show numTo (zs.drop 5) (k + 1 - 5) = N * 256 + z
          rw [show k + 1 - 5 = (k - 5) + 1 from by omega, numTo_succ _ _ (by have := HW.out.len_eq; simp; omega), ← hN, hz, ← List.getD_eq_getElem?_getD, getD_drop, show 5 + (k - 5) = k from by omega]
        rw [← hN] at hNb ⊢
        obtain ⟨hN0, hN1⟩ := hNb
        obtain ⟨hz0, hz1⟩ := hrz
        clear hN hz
        go_wp2_with fail
        go_round
        case rel => exact ⟨k + 1, by omega, by omega, by go_num, by rw [HN.out]⟩
        case measure => simp [intOf]; omega
      · obtain rfl : k = 9 := by omega
        rw [show 9 - 5 = 4 from rfl, ← HL.out]
        clear hk5 hk9 hlt
        go_wp2_with fail
        go_region
        go_wp2_with fail
        refine (rcheck_any _ _ _ _ _ _ HK.out).mono ?_
        rintro e w2 ⟨rfl, hB2⟩
        rw [HC.out]
        obtain ⟨hB3, d0, d1, d2, d3, d4, hz2⟩ := tail5 hB2
        obtain ⟨c0, c1, c2, c3, c4, hz⟩ := box5 hB3
        obtain ⟨g0, g1, g2, g3, g4⟩ := box5f hB3
        clear hB2 k0 k1 k2 k3 k4 HW
        go_wp2_with fail
        exact bodyPost_ret (v := .tuple #[.agg #[.int .u8 z0, .int .u8 z1, .int .i16 _, .int .u8 z4, .int .u32 L], .int .i64 0]) (by simp [results, Try.results19, go_sem, c0, c1, c2, c3, c4, hz]) rfl ⟨rfl, below_five hB3 _ _ _ _ _⟩

set_option maxHeartbeats 2000000 in
theorem rget_err {w : World} {b off len cap : Nat} {zs : List Int} (h : BRow w b off len cap zs) (hl : 9 ≤ len) (hm : len ≤ 9223372036854775807) {z0 z1 z2 z3 z4 S L : Int} (e0 : z0 = zs.getD 0 0) (e1 : z1 = zs.getD 1 0) (e2 : z2 = zs.getD 2 0) (e3 : z3 = zs.getD 3 0) (e4 : z4 = zs.getD 4 0)
    (eS : S = if 32768 ≤ z2 * 256 + z3 then z2 * 256 + z3 - 65536 else z2 * 256 + z3) (eL : L = numTo (zs.drop 5) 4)
    (hk : HOk z0 z1 S z4 L) (hc : chk z0 z1 z4 L ≠ 0) :
    Calls Try.prog 19 #[.slice (some ⟨b, off, none⟩) len cap] w fun e w' => e = .returned (.tuple #[.agg #[.int .u8 0, .int .u8 0, .int .i16 0, .int .u8 0, .int .u32 0], .int .i64 (chk z0 z1 z4 L)]) ∧ Below w.heap.size w w' := by
  have hb := h.lt (by omega)
  have hr := h.rng
  have hW := h.old (below_one w (.cells #[.int .u8 0, .int .u8 0, .int .i16 0, .int .u8 0, .int .u32 0] 48))
  have k0 := hW.cell 0 (by omega)
  have k1 := hW.cell 1 (by omega)
  have k2 := hW.cell 2 (by omega)
  have k3 := hW.cell 3 (by omega)
  have k4 := hW.cell 4 (by omega)
  rw [← e0, Nat.add_zero] at k0
  rw [← e1] at k1
  rw [← e2] at k2
  rw [← e3] at k3
  rw [← e4] at k4
  have r2 : 0 ≤ z2 ∧ z2 ≤ 255 := by rw [e2]; exact getD_rng hr 2
  have r3 : 0 ≤ z3 ∧ z3 ≤ 255 := by rw [e3]; exact getD_rng hr 3
  have HW : Hid (BRow (w.alloc (.cells #[.int .u8 0, .int .u8 0, .int .i16 0, .int .u8 0, .int .u32 0] 48)) b off len cap zs) := hW
  have HC : (chk z0 z1 z4 L != 0) = true := by simpa using hc
  have HL : Hid (L = numTo (zs.drop 5) 4) := eL
  obtain ⟨r20, r21⟩ := r2
  obtain ⟨r30, r31⟩ := r3
  clear h hW e0 e1 e2 e3 e4 hc eL hr
  by_cases hs : 32768 ≤ z2 * 256 + z3
  all_goals
    first | rw [if_pos hs] at eS | rw [if_neg hs] at eS
    subst eS
    have HK : Hid (HOk z0 z1 _ z4 L) := hk
    clear hk
    go_enter Try.func19, Try.ntmps19
    go_wp2_with fail
    go_quiet (fail)
    go_wp2_with fail
    go_loop [5, 6] (fun n i => ∃ k : Nat, 5 ≤ k ∧ k ≤ 9 ∧ i = .int .i64 k ∧ n = .int .u32 (numTo (zs.drop 5) (k - 5))) (fun _ i => 9 - (intOf i).toNat)
    case atStart => exact ⟨5, by omega, by omega, rfl, rfl⟩
    case round =>
      obtain ⟨k, hk5, hk9, rfl, rfl⟩ := hrel
      by_cases hlt : k < 9
      · obtain ⟨N, hN⟩ : ∃ N, N = numTo (zs.drop 5) (k - 5) := ⟨_, rfl⟩
        obtain ⟨z, hz⟩ : ∃ z, z = zs.getD k 0 := ⟨_, rfl⟩
        have hck := HW.out.cell k (by omega)
        rw [← hz] at hck
        have hrz : 0 ≤ z ∧ z ≤ 255 := by rw [hz]; exact getD_rng HW.out.rng k
        have hNb := numTo_small HW.out.rng (by have := HW.out.len_eq; omega) (k - 5) (by omega)
        have HN : Hid (numTo (zs.drop 5) (k + 1 - 5) = N * 256 + z) := by
          show numTo (zs.drop 5) (k + 1 - 5) = N * 256 + z
          rw [show k + 1 - 5 = (k - 5) + 1 from by omega, numTo_succ _ _ (by have := HW.out.len_eq; simp; omega), ← hN, hz, ← List.getD_eq_getElem?_getD, getD_drop, show 5 + (k - 5) = k from by omega]
        rw [← hN] at hNb ⊢
        obtain ⟨hN0, hN1⟩ := hNb
        obtain ⟨hz0, hz1⟩ := hrz
        clear hN hz
        go_wp2_with fail
        go_round
        case rel => exact ⟨k + 1, by omega, by omega, by go_num, by rw [HN.out]⟩
        case measure => simp [intOf]; omega
      · obtain rfl : k = 9 := by omega
        rw [show 9 - 5 = 4 from rfl, ← HL.out]
        clear hk5 hk9 hlt
        go_wp2_with fail
        go_region
        go_wp2_with fail
        refine (rcheck_any _ _ _ _ _ _ HK.out).mono ?_
        rintro e w2 ⟨rfl, hB2⟩
        obtain ⟨hB3, d0, d1, d2, d3, d4, hz2⟩ := tail5 hB2
        obtain ⟨c0, c1, c2, c3, c4, hz⟩ := box5 hB3
        obtain ⟨g0, g1, g2, g3, g4⟩ := box5f hB3
        clear hB2 k0 k1 k2 k3 k4 HW
        go_wp2_with fail
        exact bodyPost_ret (v := .tuple #[.agg #[.int .u8 0, .int .u8 0, .int .i16 0, .int .u8 0, .int .u32 0], .int .i64 (chk z0 z1 z4 L)]) (by simp [results, Try.results19, go_sem, c0, c1, c2, c3, c4, hz]) rfl ⟨rfl, below_five hB3 _ _ _ _ _⟩

theorem rget_any {w : World} {a : Option Addr} {len cap : Nat} {zs : List Int} (h : IsB w a len cap zs) :
    Calls Try.prog 19 #[.slice a len cap] w fun e w' => e = .returned (.tuple #[.agg #[.int .u8 (gV zs), .int .u8 (gF zs), .int .i16 (gS zs), .int .u8 (gO zs), .int .u32 (gL zs)], .int .i64 (gE zs)]) ∧ Below w.heap.size w w' := by
  obtain ⟨h1, h2, h3, h4, h5⟩ := h
  unfold maxLen at h3
  by_cases hl : 9 ≤ len
  · obtain ⟨b, off, rfl, hR⟩ := h5 (by omega)
    have hE := gE_long (zs := zs) (by omega)
    by_cases hc : chk (zs.getD 0 0) (zs.getD 1 0) (zs.getD 4 0) (leng zs) = 0
    · have hE0 : gE zs = 0 := hE.trans hc
      unfold gV gF gS gO gL
      simp only [if_pos hE0]
      rw [hE0]
      exact rget_ok hR hl (by omega) rfl rfl rfl rfl rfl (strm_eq hR.rng) (leng_eq (by omega)) (hok_of hR.rng) hc
    · have hE0 : ¬ gE zs = 0 := by rw [hE]; exact hc
      unfold gV gF gS gO gL
      simp only [if_neg hE0]
      rw [hE]
      exact rget_err hR hl (by omega) rfl rfl rfl rfl rfl (strm_eq hR.rng) (leng_eq (by omega)) (hok_of hR.rng) hc
  · have hE : gE zs = 10 := by unfold gE; rw [if_pos (by omega)]
    have hE0 : ¬ gE zs = 0 := by rw [hE]; decide
    unfold gV gF gS gO gL
    simp only [if_neg hE0]
    rw [hE]
    exact rget_less a len cap w (by omega)
end Go.Proofs.Ytabadlgjocgkjaa
