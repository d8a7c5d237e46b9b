/-
  PrefixFlags walked: it answers true, and turns nothing that was there.
-/
import Derived.Test.YtkcnmmlakimonaaReads
namespace Go.Proofs.Ytkcnmmlakimonaa
open Go.RowKit
set_option maxRecDepth 100000
set_option linter.unusedVariables false
set_option linter.unusedSimpArgs false

theorem and14_2 : ∀ n : Fin 256, (bits .and .u8 (bits .and .u8 (n.val : Int) 14) 2 == 0) = (bits .and .u8 (n.val : Int) 2 == 0) := by decide +kernel
theorem and14_4 : ∀ n : Fin 256, (bits .and .u8 (bits .and .u8 (n.val : Int) 14) 4 == 0) = (bits .and .u8 (n.val : Int) 4 == 0) := by decide +kernel
theorem and14_8 : ∀ n : Fin 256, (bits .and .u8 (bits .and .u8 (n.val : Int) 14) 8 == 0) = (bits .and .u8 (n.val : Int) 8 == 0) := by decide +kernel
theorem not4_4 : ∀ n : Fin 256, (bits .and .u8 (bits .andNot .u8 (n.val : Int) 4) 4 == 0) = true := by decide +kernel

theorem rest0_mask {f : Int} (h0 : 0 ≤ f) (h1 : f ≤ 255) (zs : List Int) : rest0 (bits .and .u8 f 14) zs = rest0 f zs := by
  obtain ⟨n, rfl⟩ := Int.eq_ofNat_of_zero_le h0
  have e2 : bitB (bits .and .u8 (n : Int) 14) 2 = bitB (n : Int) 2 := by rw [bitB, bitB, and14_2 ⟨n, by omega⟩]
  have e4 : bitB (bits .and .u8 (n : Int) 14) 4 = bitB (n : Int) 4 := by rw [bitB, bitB, and14_4 ⟨n, by omega⟩]
  have e8 : bitB (bits .and .u8 (n : Int) 14) 8 = bitB (n : Int) 8 := by rw [bitB, bitB, and14_8 ⟨n, by omega⟩]
  have r2 : ∀ T ws d, rest2 (bits .and .u8 (n : Int) 14) zs T ws d = rest2 (n : Int) zs T ws d := fun T ws d => by unfold rest2; rw [e4]
  have r1 : ∀ T d, rest1 (bits .and .u8 (n : Int) 14) zs T d = rest1 (n : Int) zs T d := fun T d => by unfold rest1; rw [e8]; simp only [r2]
  show rest0 (bits .and .u8 (n : Int) 14) zs = rest0 (n : Int) zs
  unfold rest0
  rw [e2]
  simp only [r1]

theorem rest0_none (zs : List Int) : rest0 0 zs = ⟨([], [], []), 0, 0⟩ := by
  have e2 : bitB 0 2 = false := by decide +kernel
  have e4 : bitB 0 4 = false := by decide +kernel
  have e8 : bitB 0 8 = false := by decide +kernel
  simp [rest0, rest1, rest2, rest3, opt, e2, e4, e8]
  exact ⟨rfl, rfl, rfl⟩

theorem rest2_none {f : Int} (h0 : 0 ≤ f) (h1 : f ≤ 255) (zs : List Int) : rest2 (bits .andNot .u8 f 4) zs [] [] 0 = ⟨([], [], []), 0, 0⟩ := by
  obtain ⟨n, rfl⟩ := Int.eq_ofNat_of_zero_le h0
  have e4 : bitB (bits .andNot .u8 (n : Int) 4) 4 = false := by rw [bitB, not4_4 ⟨n, by omega⟩]; rfl
  show rest2 (bits .andNot .u8 (n : Int) 4) zs [] [] 0 = _
  simp [rest2, rest3, opt, e4]
  rfl

theorem flags_long (f : Int) (a : Option Addr) (len cap : Nat) (w : World) (h : 1000 < len) : Calls Try.prog 5 #[.int .u8 f, .slice a len cap] w fun e w' => e = .returned (.bool true) ∧ Below w.heap.size w w' := by
  have t0 : decide ((1000 : Int) < len) = true := by simp; omega
  clear h
  go_enter Try.func5, Try.ntmps5
  go_wp2_with fail
  refine (awake7 _).mono ?_
  rintro e w1 ⟨rfl, HB1⟩
  go_wp2_with fail
  go_ret
  exact ⟨rfl, HB1.out⟩

/-- What the blocks of the four answers and of none hold. -/
theorem cells15 {w W : World} {j1 j2 j3 j4 j5 : Nat} {x1 x2 x3 y1 y2 y3 u1 u2 u3 z1 z2 z3 n1 n2 n3 : Value} {t1 t2 t3 t4 t5 : TypeId} (h1 : w.heap[j1]? = some (.cells #[x1, x2, x3] t1 (0, 0))) (h2 : w.heap[j2]? = some (.cells #[y1, y2, y3] t2 (0, 0))) (h3 : w.heap[j3]? = some (.cells #[u1, u2, u3] t3 (0, 0))) (h4 : w.heap[j4]? = some (.cells #[z1, z2, z3] t4 (0, 0))) (h5 : w.heap[j5]? = some (.cells #[n1, n2, n3] t5 (0, 0))) (hB : Below w.heap.size w W) :
    (W.cell? ⟨j1, 0, none⟩ = some x1 ∧ W.cell? ⟨j1, 1, none⟩ = some x2 ∧ W.cell? ⟨j1, 2, none⟩ = some x3) ∧ (W.cell? ⟨j2, 0, none⟩ = some y1 ∧ W.cell? ⟨j2, 1, none⟩ = some y2 ∧ W.cell? ⟨j2, 2, none⟩ = some y3) ∧
    (W.cell? ⟨j3, 0, none⟩ = some u1 ∧ W.cell? ⟨j3, 1, none⟩ = some u2 ∧ W.cell? ⟨j3, 2, none⟩ = some u3) ∧ (W.cell? ⟨j4, 0, none⟩ = some z1 ∧ W.cell? ⟨j4, 1, none⟩ = some z2 ∧ W.cell? ⟨j4, 2, none⟩ = some z3) ∧ (W.cell? ⟨j5, 0, none⟩ = some n1 ∧ W.cell? ⟨j5, 1, none⟩ = some n2 ∧ W.cell? ⟨j5, 2, none⟩ = some n3) :=
  ⟨cells3_of h1 hB, cells3_of h2 hB, cells3_of h3 hB, cells3_of h4 hB, cells3_of h5 hB⟩

/-- What is left of a reading: bytes, and what they read as. -/
theorem lft_conv {w w6 : World} {r : Option Addr} {lr cr : Nat} {zs : List Int} {d : Nat} {er : Int} (h : Lft w r lr cr zs d er) (h6 : Below w.heap.size w w6) {R : ByteArray} (hR : R = (if er = 0 then strOfNums (zs.drop d) else ⟨#[]⟩)) {W : World} (hW : Below w6.heap.size w6 W) :
    (convert 22 9 (.slice r lr cr)).run Try.prog W = .ok (.string R) W := by
  by_cases he : er = 0
  · rw [if_pos he] at hR
    exact conv_old ((h.1 he).1.old h6) hR hW
  · rw [if_neg he] at hR
    obtain ⟨rfl, rfl, rfl⟩ := h.2 he
    exact conv_old (isB_nil w6) hR hW

set_option maxHeartbeats 40000000 in
theorem flags_walk (f : Int) (h0 : 0 ≤ f) (h1 : f ≤ 255) (a : Option Addr) (len cap : Nat) (zs : List Int) (w : World) (h : IsB w a len cap zs) (hl : len ≤ 1000) :
    Calls Try.prog 5 #[.int .u8 f, .slice a len cap] w fun e w' => e = .returned (.bool true) ∧ Below w.heap.size w w' := by
  have t0 : decide ((1000 : Int) < len) = false := by simp; omega
  have H : Hid (IsB w a len cap zs) := h
  have HL : Hid (len ≤ 140737488351232) := (by omega : len ≤ 140737488351232)
  obtain ⟨Y, hY⟩ : ∃ Y, Y = rest0 f zs := ⟨_, rfl⟩
  have HY : Hid (Y = rest0 f zs) := hY
  have HY2 : Hid (Y = rest0 (bits .and .u8 f 14) zs) := by
    show _ = _
    rw [hY, rest0_mask h0 h1]
  have HY3 : Hid ((⟨([], [], []), 0, 0⟩ : Res Pre) = rest0 0 zs) := (rest0_none zs).symm
  have HY4 : Hid ((⟨([], [], []), 0, 0⟩ : Res Pre) = rest2 (bits .andNot .u8 f 4) zs [] [] 0) := (rest2_none h0 h1 zs).symm
  obtain ⟨s, hs⟩ : ∃ s, s = strOfNums Y.val.1 := ⟨_, rfl⟩
  obtain ⟨I1, hI1⟩ : ∃ I, I = Y.val.2.1.map keyIt := ⟨_, rfl⟩
  obtain ⟨I2, hI2⟩ : ∃ I, I = Y.val.2.2.map entryIt := ⟨_, rfl⟩
  have HS : Hid (s = strOfNums Y.val.1 ∧ I1 = Y.val.2.1.map keyIt ∧ I2 = Y.val.2.2.map entryIt) := ⟨hs, hI1, hI2⟩
  clear h hl h0 h1 hY hs hI1 hI2
  go_enter Try.func5, Try.ntmps5
  go_wp2_with fail
  refine (awake7 _).mono ?_
  rintro e w1 ⟨rfl, HB1⟩
  go_wp2_with fail
  refine (resp_pv f (H.out.old HB1.out) HL.out HY.out).mono ?_
  rintro e w2 ⟨t, lt, ct, v1, l1, c1, v2, l2, c2, r, lr, cr, rfl, HV2, HN2, HL2, HB2⟩
  have HB02 : Hid (Below w.heap.size w w2) := HB1.out.trans (HB2.out.mono HB1.out.size)
  clear HB1 HB2
  go_wp2_with fail
  refine (resp_pv _ (H.out.old (HB02.out.alloc HB02.out.size _)) HL.out HY2.out).mono ?_
  rintro e w3 ⟨t', lt', ct', v1', l1', c1', v2', l2', c2', r', lr', cr', rfl, HV3, HN3, HL3, HB3⟩
  have HC3 : Hid (Below w2.heap.size w2 w3) := (below_one w2 _).trans (HB3.out.mono (by simp))
  have HQ3 : Hid (w3.heap[w2.heap.size]? = some (.cells #[.slice t lt ct, .slice v1 l1 c1, .slice v2 l2 c2] 27 (0, 0))) := blk_old (heap_alloc_new w2 _) HB3.out
  have HB03 : Hid (Below w.heap.size w w3) := HB02.out.trans (HC3.out.mono HB02.out.size)
  clear HB3
  go_wp2_with fail
  refine (resp_pv 0 (H.out.old (HB03.out.alloc HB03.out.size _)) HL.out HY3.out).mono ?_
  rintro e w4 ⟨t3, lt3, ct3, v13, l13, c13, v23, l23, c23, r3, lr3, cr3, rfl, HV4, HN4, HL4, HB4⟩
  have HC4 : Hid (Below w3.heap.size w3 w4) := (below_one w3 _).trans (HB4.out.mono (by simp))
  have HQ4 : Hid (w4.heap[w3.heap.size]? = some (.cells #[.slice t' lt' ct', .slice v1' l1' c1', .slice v2' l2' c2'] 27 (0, 0))) := blk_old (heap_alloc_new w3 _) HB4.out
  have HB04 : Hid (Below w.heap.size w w4) := HB03.out.trans (HC4.out.mono HB03.out.size)
  clear HB4
  go_wp2_with fail
  refine (req_pv _ (H.out.old (HB04.out.alloc HB04.out.size _)) HL.out HY4.out).mono ?_
  rintro e w5 ⟨t4, lt4, ct4, v14, l14, c14, v24, l24, c24, r4, lr4, cr4, rfl, HV5, HN5, HL5, HB5⟩
  have HC5 : Hid (Below w4.heap.size w4 w5) := (below_one w4 _).trans (HB5.out.mono (by simp))
  have HQ5 : Hid (w5.heap[w4.heap.size]? = some (.cells #[.slice t3 lt3 ct3, .slice v13 l13 c13, .slice v23 l23 c23] 27 (0, 0))) := blk_old (heap_alloc_new w4 _) HB5.out
  have HB05 : Hid (Below w.heap.size w w5) := HB04.out.trans (HC5.out.mono HB04.out.size)
  clear HB5
  obtain ⟨w6, hw6⟩ : ∃ w6, w6 = (w5.alloc (.cells #[.slice t4 lt4 ct4, .slice v14 l14 c14, .slice v24 l24 c24] 27)).alloc (.cells #[.string ⟨#[]⟩, .slice none 0 0, .slice none 0 0] 33) := ⟨_, rfl⟩
  have HC6 : Hid (Below w5.heap.size w5 w6) := by rw [hw6]; exact (below_one w5 _).alloc (by simp) _
  have HD4 : Hid (Below w4.heap.size w4 w6) := HC5.out.trans (HC6.out.mono HC5.out.size)
  have HD3 : Hid (Below w3.heap.size w3 w6) := HC4.out.trans (HD4.out.mono HC4.out.size)
  have HD2 : Hid (Below w2.heap.size w2 w6) := HC3.out.trans (HD3.out.mono HC3.out.size)
  have HB06 : Hid (Below w.heap.size w w6) := HB05.out.trans (HC6.out.mono HB05.out.size)
  have HQ6 : Hid (w6.heap[w5.heap.size]? = some (.cells #[.slice t4 lt4 ct4, .slice v14 l14 c14, .slice v24 l24 c24] 27 (0, 0))) := by rw [hw6]; exact blk_old (heap_alloc_new w5 _) (below_one _ _)
  have HQ7 : Hid (w6.heap[w5.heap.size + 1]? = some (.cells #[.string ⟨#[]⟩, .slice none 0 0, .slice none 0 0] 33 (0, 0))) := by
    rw [hw6]
    have := heap_alloc_new (w5.alloc (.cells #[.slice t4 lt4 ct4, .slice v14 l14 c14, .slice v24 l24 c24] 27)) (.cells #[.string ⟨#[]⟩, .slice none 0 0, .slice none 0 0] 33)
    simpa [Hid] using this
  obtain ⟨R0, hR0⟩ : ∃ R, R = strOfNums zs := ⟨_, rfl⟩
  obtain ⟨R, hR⟩ : ∃ R, R = (if Y.err = 0 then strOfNums (zs.drop Y.done) else ⟨#[]⟩) := ⟨_, rfl⟩
  have HRR : Hid (R = (if Y.err = 0 then strOfNums (zs.drop Y.done) else ⟨#[]⟩)) := hR
  have HF : Hid (∀ W, Below w6.heap.size w6 W → (((W.cell? ⟨w2.heap.size, 0, none⟩ = some (.slice t lt ct) ∧ W.cell? ⟨w2.heap.size, 1, none⟩ = some (.slice v1 l1 c1) ∧ W.cell? ⟨w2.heap.size, 2, none⟩ = some (.slice v2 l2 c2)) ∧ (W.cell? ⟨w3.heap.size, 0, none⟩ = some (.slice t' lt' ct') ∧ W.cell? ⟨w3.heap.size, 1, none⟩ = some (.slice v1' l1' c1') ∧ W.cell? ⟨w3.heap.size, 2, none⟩ = some (.slice v2' l2' c2')) ∧
      (W.cell? ⟨w4.heap.size, 0, none⟩ = some (.slice t3 lt3 ct3) ∧ W.cell? ⟨w4.heap.size, 1, none⟩ = some (.slice v13 l13 c13) ∧ W.cell? ⟨w4.heap.size, 2, none⟩ = some (.slice v23 l23 c23)) ∧ (W.cell? ⟨w5.heap.size, 0, none⟩ = some (.slice t4 lt4 ct4) ∧ W.cell? ⟨w5.heap.size, 1, none⟩ = some (.slice v14 l14 c14) ∧ W.cell? ⟨w5.heap.size, 2, none⟩ = some (.slice v24 l24 c24)) ∧ (W.cell? ⟨w5.heap.size + 1, 0, none⟩ = some (.string ⟨#[]⟩) ∧ W.cell? ⟨w5.heap.size + 1, 1, none⟩ = some (.slice none 0 0) ∧ W.cell? ⟨w5.heap.size + 1, 2, none⟩ = some (.slice none 0 0))) ∧
      (convert 22 9 (.slice r lr cr)).run Try.prog W = .ok (.string R) W ∧ (convert 22 9 (.slice r' lr' cr')).run Try.prog W = .ok (.string R) W ∧ (convert 22 9 (.slice r3 lr3 cr3)).run Try.prog W = .ok (.string R0) W ∧ (convert 22 9 (.slice r4 lr4 cr4)).run Try.prog W = .ok (.string R0) W ∧ (convert 22 9 (.slice a len cap)).run Try.prog W = .ok (.string R0) W)) := by
    intro W hW
    refine ⟨cells15 (blk_old HQ3.out HD3.out) (blk_old HQ4.out HD4.out) (blk_old HQ5.out HC6.out) HQ6.out HQ7.out hW, ?_, ?_, ?_, ?_, ?_⟩
    · exact lft_conv HL2.out HD2.out hR hW
    · exact lft_conv HL3.out HD3.out hR hW
    · exact conv_old (((HL4.out.1 rfl).1).old HD4.out) (by rw [hR0]; rfl) hW
    · exact conv_old (((HL5.out.1 rfl).1).old HC6.out) (by rw [hR0]; rfl) hW
    · exact conv_old (H.out.old HB06.out) hR0 hW
  have HPV : Hid (PV w6 t lt ct v1 l1 c1 v2 l2 c2 Y.val) := HV2.out.old HD2.out
  have HPV' : Hid (PV w6 t' lt' ct' v1' l1' c1' v2' l2' c2' Y.val) := HV3.out.old HD3.out
  have HPV3 : Hid (PV w6 t3 lt3 ct3 v13 l13 c13 v23 l23 c23 ([], [], [])) := HV4.out.old HD4.out
  have HPV4 : Hid (PV w6 t4 lt4 ct4 v14 l14 c14 v24 l24 c24 ([], [], [])) := HV5.out.old HC6.out
  have HNO : Hid (∀ W, View 5 VI W none ([] : List It).length 0 ([] : List It) ∧ View 5 VI W none ([] : List It).length 0 ([] : List It)) := fun W => ⟨view_nil _ _ _, view_nil _ _ _⟩
  have hD : Hid (Below w6.heap.size w6 w6.drew) := (Below.refl w6.heap.size w6).drew
  have hF6 := HF.out w6 (Below.refl _ _)
  have hFd := HF.out _ hD.out
  have tE : (Y.err == Y.err) = true := by simp
  clear HQ3 HQ4 HQ5 HQ6 HQ7 HC3 HC4 HC5 HC6 HD4 HD3 HD2 HB05 HB04 HB03 HB02 HV2 HV3 HV4 HV5 HL2 HL3 HL4 HL5 hR hR0
  go_upto_region 11 with fail
  rw [← hw6]
  clear hw6
  go_region_held3 (fun W => ((W.cell? ⟨w2.heap.size, 0, none⟩ = some (.slice t lt ct) ∧ W.cell? ⟨w2.heap.size, 1, none⟩ = some (.slice v1 l1 c1) ∧ W.cell? ⟨w2.heap.size, 2, none⟩ = some (.slice v2 l2 c2)) ∧ (W.cell? ⟨w3.heap.size, 0, none⟩ = some (.slice t' lt' ct') ∧ W.cell? ⟨w3.heap.size, 1, none⟩ = some (.slice v1' l1' c1') ∧ W.cell? ⟨w3.heap.size, 2, none⟩ = some (.slice v2' l2' c2')) ∧ (W.cell? ⟨w4.heap.size, 0, none⟩ = some (.slice t3 lt3 ct3) ∧ W.cell? ⟨w4.heap.size, 1, none⟩ = some (.slice v13 l13 c13) ∧ W.cell? ⟨w4.heap.size, 2, none⟩ = some (.slice v23 l23 c23)) ∧ (W.cell? ⟨w5.heap.size, 0, none⟩ = some (.slice t4 lt4 ct4) ∧ W.cell? ⟨w5.heap.size, 1, none⟩ = some (.slice v14 l14 c14) ∧ W.cell? ⟨w5.heap.size, 2, none⟩ = some (.slice v24 l24 c24)) ∧ (W.cell? ⟨w5.heap.size + 1, 0, none⟩ = some (.string ⟨#[]⟩) ∧ W.cell? ⟨w5.heap.size + 1, 1, none⟩ = some (.slice none 0 0) ∧ W.cell? ⟨w5.heap.size + 1, 2, none⟩ = some (.slice none 0 0))) ∧ (convert 22 9 (.slice r lr cr)).run Try.prog W = .ok (.string R) W ∧ (convert 22 9 (.slice r' lr' cr')).run Try.prog W = .ok (.string R) W ∧ (convert 22 9 (.slice r3 lr3 cr3)).run Try.prog W = .ok (.string R0) W ∧ (convert 22 9 (.slice r4 lr4 cr4)).run Try.prog W = .ok (.string R0) W ∧ (convert 22 9 (.slice a len cap)).run Try.prog W = .ok (.string R0) W) (assumption) (first
    | (go_at_call 11; refine (same_here HBg.out ⟨#[]⟩ HVg.out (HNO.out _)).mono ?_; rintro e wh ⟨rfl, HBh⟩; have hh := HF.out _ HBh.out)
    | (go_at_call 12; refine (pof_from HBf.out HPV4.out HN5.out rfl rfl rfl).mono ?_; rintro e wg ⟨p7, m7, p8, m8, rfl, HVg, HBg⟩; have hg := HF.out _ HBg.out)
    | (go_at_call 11; refine (same_here HBd.out ⟨#[]⟩ HVd.out (HNO.out _)).mono ?_; rintro e wf ⟨rfl, HBf⟩; have hf := HF.out _ HBf.out)
    | (go_at_call 12; refine (pof_from HBc.out HPV3.out HN4.out rfl rfl rfl).mono ?_; rintro e wd ⟨p5, m5, p6, m6, rfl, HVd, HBd⟩; have hd := HF.out _ HBd.out)
    | (go_at_call 11; refine (same_here HBb.out s HVa'.out HVb.out).mono ?_; rintro e wc ⟨rfl, HBc⟩; have hc := HF.out _ HBc.out)
    | (go_at_call 12; refine (pof_from2 HBa.out HPV'.out HN3.out HS.out.1 HS.out.2.1 HS.out.2.2 HVa.out).mono ?_; rintro e wb ⟨p3, m3, p4, m4, rfl, HVb, HVa', HBb⟩; have hb := HF.out _ HBb.out)
    | (go_at_call 12; refine (pof_from hD.out HPV.out HN2.out HS.out.1 HS.out.2.1 HS.out.2.2).mono ?_; rintro e wa ⟨p1, m1, p2, m2, rfl, HVa, HBa⟩; have ha := HF.out _ HBa.out))
  all_goals (go_wp2_with fail; go_ret; exact ⟨by simp, HB06.out.trans (HBh.out.mono HB06.out.size)⟩)

theorem flags_any (f : Int) (a : Option Addr) (len cap : Nat) (zs : List Int) (w : World) (hf : (Lit.int .u8 f).wf = true) (h : IsRow .u8 w a len cap zs) :
    Calls Try.prog 5 #[.int .u8 f, .slice a len cap] w fun e w' => e = .returned (.bool true) ∧ Below w.heap.size w w' := by
  by_cases hl : len ≤ 1000
  · have hf' : 0 ≤ f ∧ f ≤ 255 := range_of_wf (zs := [f]) (fun n hn => by simp at hn; subst hn; exact hf) 0
    exact flags_walk f hf'.1 hf'.2 a len cap _ w h.isB hl
  · exact flags_long f a len cap w (by omega)
end Go.Proofs.Ytkcnmmlakimonaa
