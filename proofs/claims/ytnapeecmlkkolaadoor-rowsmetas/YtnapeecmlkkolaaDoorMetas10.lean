/-
  How long what is told is; the walk of RowsMetas.
-/
import Derived.Test.YtnapeecmlkkolaaDoorRMeta10
import Derived.Test.YtnapeecmlkkolaaDoorGets10
namespace Go.Proofs.YtnapeecmlkkolaaDoor
open Go.RowKit
set_option maxRecDepth 100000
set_option linter.unusedVariables false
set_option linter.unusedSimpArgs false

theorem meta_len {Z : List Int} {Y : Res (List Int × Tb × Tb)} (hY : Y = metaR Z) (h : Y.err = 0) : Y.val.2.1.2.1.length ≤ 4096 ∧ Y.val.2.2.2.1.length ≤ 4096 := by
  have hR : Reads Y Z 0 (bindR headR fun h => bindR (keysR h.2) fun k => bindR (tableR h.1 h.2) fun t => bindR headR fun h2 => bindR (tableR h2.1 h2.2) fun u => pureR (k, t, u)) 0 id := reads_start metaR (by simpa using hY)
  by_cases h1 : (headR (Z.drop 0)).err = 0
  case neg => exact absurd (h.symm.trans (reads_err hR h1)).symm h1
  obtain ⟨hn0, hn1⟩ := head_n rfl h1
  have hR2 := reads_ok hR h1
  generalize (headR (Z.drop 0)).val = hv at hR2 hn0 hn1
  generalize 0 + (headR (Z.drop 0)).done = p1 at hR2
  by_cases h2 : (keysR hv.2 (Z.drop p1)).err = 0
  case neg => exact absurd (h.symm.trans (reads_err hR2 h2)).symm h2
  have hR3 := reads_ok hR2 h2
  generalize (keysR hv.2 (Z.drop p1)).val = kv at hR3
  generalize p1 + (keysR hv.2 (Z.drop p1)).done = p2 at hR3
  by_cases h3 : (tableR hv.1 hv.2 (Z.drop p2)).err = 0
  case neg => exact absurd (h.symm.trans (reads_err hR3 h3)).symm h3
  have k3 := table_len rfl h3
  have hR4 := reads_ok hR3 h3
  generalize (tableR hv.1 hv.2 (Z.drop p2)).val = tv at hR4 k3
  generalize p2 + (tableR hv.1 hv.2 (Z.drop p2)).done = p3 at hR4
  by_cases h4 : (headR (Z.drop p3)).err = 0
  case neg => exact absurd (h.symm.trans (reads_err hR4 h4)).symm h4
  obtain ⟨hm0, hm1⟩ := head_n rfl h4
  have hR5 := reads_ok hR4 h4
  generalize (headR (Z.drop p3)).val = hw at hR5 hm0 hm1
  generalize p3 + (headR (Z.drop p3)).done = p4 at hR5
  by_cases h5 : (tableR hw.1 hw.2 (Z.drop p4)).err = 0
  case neg => exact absurd (h.symm.trans (reads_err hR5 h5)).symm h5
  have k5 := table_len rfl h5
  have hR6 := reads_ok hR5 h5
  obtain ⟨_, _, h7⟩ := reads_pure hR6
  rw [h7]
  constructor
  · show tv.2.1.length ≤ 4096
    omega
  · show (tableR hw.1 hw.2 (Z.drop p4)).val.2.1.length ≤ 4096
    omega

theorem metaT_len {zs : List Int} {T : List Int × Tb × Tb} (hT : T = if endE metaR zs = 0 then (metaR zs).val else ([], tb0, tb0)) : T.2.1.2.1.length ≤ 4096 ∧ T.2.2.2.1.length ≤ 4096 := by
  by_cases h : endE metaR zs = 0
  · rw [if_pos h] at hT
    subst hT
    refine meta_len rfl ?_
    unfold endE at h
    by_cases h1 : (metaR zs).err = 0
    · exact h1
    · rw [if_neg h1] at h; exact h
  · rw [if_neg h] at hT
    subst hT
    exact ⟨Nat.zero_le _, Nat.zero_le _⟩

theorem Sees.key {F : Nat → Prop} {w : World} {a : Option Addr} {len cap : Nat} {xs : List Int} (h : Sees 1 F (VKey F w) w a len cap xs) {k : Nat} (hk : k < len) :
    ∃ x b off, xs[k]? = some x ∧ a = some ⟨b, off, none⟩ ∧ b < w.heap.size ∧ w.cell? ⟨b, off + k, none⟩ = some (.int .u16 x) := by
  obtain ⟨x, b, off, c, hx, ha, hb, hF, hcell, h0⟩ := h.at hk
  refine ⟨x, b, off, hx, ha, hb, ?_⟩
  have := hcell 0 (by omega); rw [h0, Nat.mul_one] at this; exact this

theorem own_keys {w : World} {F : Nat → Prop} {a : Option Addr} {l c : Nat} {ks : List Int} (h : OwnI 51 1 VKey w F (.slice a l c) ks) : Sees 1 F (VKey F w) w a l c ks := by
  obtain ⟨a', cap, e, hs⟩ := h.sees (U := VKey F w) (fun _ _ _ hv => hv) stays_key
  cases e
  exact hs

theorem own_nilrow {w : World} {F : Nat → Prop} {Q : List (List Vl)} (h : OwnI 65 1 VRow w F (.slice none 0 0) Q) : Q = [] := by
  obtain ⟨a, cap, e⟩ := h.shape
  cases Q with
  | nil => rfl
  | cons q l => simp at e

theorem cell13 {w : World} {p : Nat} {c0 c1 c2 c3 c4 c5 c6 c7 c8 c9 c10 c11 c12 : Value} {t : TypeId} (h : w.heap[p]? = some (.cells #[c0, c1, c2, c3, c4, c5, c6, c7, c8, c9, c10, c11, c12] t (0, 0))) :
    w.cell? ⟨p, 0, none⟩ = some c0 ∧ w.cell? ⟨p, 1, none⟩ = some c1 ∧ w.cell? ⟨p, 2, none⟩ = some c2 ∧ w.cell? ⟨p, 3, none⟩ = some c3 ∧ w.cell? ⟨p, 4, none⟩ = some c4 ∧ w.cell? ⟨p, 5, none⟩ = some c5 ∧ w.cell? ⟨p, 6, none⟩ = some c6 ∧ w.cell? ⟨p, 7, none⟩ = some c7 ∧ w.cell? ⟨p, 8, none⟩ = some c8 ∧ w.cell? ⟨p, 9, none⟩ = some c9 ∧ w.cell? ⟨p, 10, none⟩ = some c10 ∧ w.cell? ⟨p, 11, none⟩ = some c11 ∧ w.cell? ⟨p, 12, none⟩ = some c12 :=
  ⟨blk_cell h 0, blk_cell h 1, blk_cell h 2, blk_cell h 3, blk_cell h 4, blk_cell h 5, blk_cell h 6, blk_cell h 7, blk_cell h 8, blk_cell h 9, blk_cell h 10, blk_cell h 11, blk_cell h 12⟩

set_option maxHeartbeats 8000000 in
theorem metas_any {w : World} (hT : Tab w) {a : Option Addr} {len cap : Nat} {zs : List Int} (h : IsB w a len cap zs) :
    Calls Tryd.prog 4 #[.slice a len cap] w fun e w' => e = .returned (.bool true) ∧ Below w.heap.size w w' := by
  have HI0 : Hid (IsB w a len cap zs) := h
  have HT0 : Hid (Tab w) := hT
  have hlm : len ≤ maxLen := Nat.le_trans h.2.1 h.2.2.1
  unfold maxLen at hlm
  clear h hT
  go_enter Tryd.func4, Tryd.ntmps4
  go_wp2_with fail
  refine (awake_any _ HT0.out).mono ?_
  rintro e w1 ⟨rfl, HB1⟩
  have HI1 : Hid (IsB w1 a len cap zs) := HI0.out.old HB1.out
  have HT1 : Hid (Tab w1) := HT0.out.old HB1.out
  by_cases hl : 2000 < len
  case pos =>
    have hld : decide ((2000 : Int) < len) = true := by simp; omega
    go_wp2_with fail
    go_ret
    exact ⟨rfl, HB1.out⟩
  case neg =>
    have hld : decide ((2000 : Int) < len) = false := by simp; omega
    go_wp2_with fail
    refine (getMeta_any HI1.out HT1.out (by omega)).mono ?_
    rintro e w2 ⟨ks, T, U, ka, kl, kc, ca, cl, cc, x, lx, cx, ca2, cl2, cc2, x2, lx2, cx2, rfl, HK2, HO2, HP2, HT2, HB2⟩
    have HTE : Hid ((ks, T, U) = if endE metaR zs = 0 then (metaR zs).val else ([], tb0, tb0)) := HT2
    have HBw2 : Hid (Below w.heap.size w w2) := HB1.out.trans (HB2.out.mono HB1.out.size)
    obtain ⟨cnt, L, mo, ⟨vk, vb⟩, Q⟩ := T
    obtain ⟨cnt2, L2, mo2, ⟨vk2, vb2⟩, Q2⟩ := U
    obtain rfl : Q = [] := own_nilrow HO2.out.2.2
    obtain rfl : Q2 = [] := own_nilrow HP2.out.2.2
    obtain rfl : kl = ks.length := by obtain ⟨a', cap', e⟩ := HK2.out.shape; cases e; rfl
    have HV2 : Hid (TbV (19 + 1) (fun z => w1.heap.size ≤ z) w2 ((cnt, L, mo, (vk, vb), []) : Tb) ca cl cc x lx cx none 0 0) := TbO.view HO2.out
    have HU2 : Hid (TbV (19 + 1) (fun z => w1.heap.size ≤ z) w2 ((cnt2, L2, mo2, (vk2, vb2), []) : Tb) ca2 cl2 cc2 x2 lx2 cx2 none 0 0) := TbO.view HP2.out
    obtain ⟨g, hg⟩ : ∃ g, g = w2.heap.size := ⟨_, rfl⟩
    have HGE : Hid (w2.heap.size = g) := hg.symm
    obtain ⟨w3, hw3⟩ : ∃ w3, w3 = w2.alloc (.cells #[.slice ka ks.length kc, .int .i64 cnt, .slice ca cl cc, .bool mo, .int .i64 vk, .slice x lx cx, .slice none 0 0, .int .i64 cnt2, .slice ca2 cl2 cc2, .bool mo2, .int .i64 vk2, .slice x2 lx2 cx2, .slice none 0 0] 46) := ⟨_, rfl⟩
    have HW3 : Hid (w2.alloc (.cells #[.slice ka ks.length kc, .int .i64 cnt, .slice ca cl cc, .bool mo, .int .i64 vk, .slice x lx cx, .slice none 0 0, .int .i64 cnt2, .slice ca2 cl2 cc2, .bool mo2, .int .i64 vk2, .slice x2 lx2 cx2, .slice none 0 0] 46) = w3) := hw3.symm
    have HG3 : Hid (w3.heap[g]? = some (.cells #[.slice ka ks.length kc, .int .i64 cnt, .slice ca cl cc, .bool mo, .int .i64 vk, .slice x lx cx, .slice none 0 0, .int .i64 cnt2, .slice ca2 cl2 cc2, .bool mo2, .int .i64 vk2, .slice x2 lx2 cx2, .slice none 0 0] 46 (0, 0))) := by rw [hw3, hg]; exact heap_alloc_new w2 _
    have hb3 : Below w2.heap.size w2 w3 := by rw [hw3]; exact below_one _ _
    have HV3 : Hid (TbV (19 + 1) (fun z => w1.heap.size ≤ z) w3 ((cnt, L, mo, (vk, vb), []) : Tb) ca cl cc x lx cx none 0 0) := HV2.out.old hb3
    have HU3 : Hid (TbV (19 + 1) (fun z => w1.heap.size ≤ z) w3 ((cnt2, L2, mo2, (vk2, vb2), []) : Tb) ca2 cl2 cc2 x2 lx2 cx2 none 0 0) := HU2.out.old hb3
    have HK3 : Hid (OwnI 51 1 VKey w3 (fun z => w1.heap.size ≤ z) (.slice ka ks.length kc) ks) := HK2.out.old stays_key hb3
    have HBw3 : Hid (Below w.heap.size w w3) := HBw2.out.trans (hb3.mono HBw2.out.size)
    have HI3 : Hid (IsB w3 a len cap zs) := HI0.out.old HBw3.out
    clear hg hw3 hb3 HT2 HO2 HP2 HV2 HU2 HK2
    go_upto_region 7 with fail
    rw [HW3.out]
    (try rw [HGE.out])
    clear HW3 HGE
    go_wp2_with fail
    refine (mget_any HI3.out (by omega)).mono ?_
    rintro e w4 ⟨ks', T', U', ca', cc', ca2', cc2', ja, jc, rfl, HD4, HE4, HJ4, HT4, HB4⟩
    have hq := HT4.out.trans HTE.out.symm
    simp only [Prod.mk.injEq] at hq
    obtain ⟨rfl, hT', hU'⟩ := hq
    obtain rfl : T' = (cnt, L, mo, (vk, vb), []) := hT'
    obtain rfl : U' = (cnt2, L2, mo2, (vk2, vb2), []) := hU'
    have HG4 : Hid (w4.heap[g]? = some (.cells #[.slice ka ks'.length kc, .int .i64 cnt, .slice ca cl cc, .bool mo, .int .i64 vk, .slice x lx cx, .slice none 0 0, .int .i64 cnt2, .slice ca2 cl2 cc2, .bool mo2, .int .i64 vk2, .slice x2 lx2 cx2, .slice none 0 0] 46 (0, 0))) := (HB4.out.block g (block_lt HG3.out)).trans HG3.out
    have HV4 : Hid (TbV (19 + 1) (fun z => w1.heap.size ≤ z) w4 ((cnt, L, mo, (vk, vb), []) : Tb) ca cl cc x lx cx none 0 0) := HV3.out.old HB4.out
    have HU4 : Hid (TbV (19 + 1) (fun z => w1.heap.size ≤ z) w4 ((cnt2, L2, mo2, (vk2, vb2), []) : Tb) ca2 cl2 cc2 x2 lx2 cx2 none 0 0) := HU3.out.old HB4.out
    have HK4 : Hid (OwnI 51 1 VKey w4 (fun z => w1.heap.size ≤ z) (.slice ka ks'.length kc) ks') := HK3.out.old stays_key HB4.out
    have HBw4 : Hid (Below w.heap.size w w4) := HBw3.out.trans (HB4.out.mono HBw3.out.size)
    obtain ⟨k, hk⟩ : ∃ k, k = w4.heap.size := ⟨_, rfl⟩
    have HKE : Hid (w4.heap.size = k) := hk.symm
    obtain ⟨k2, hk2⟩ : ∃ k2, k2 = k + 1 := ⟨_, rfl⟩
    have HK2E : Hid (k + 1 = k2) := hk2.symm
    obtain ⟨w5, hw5⟩ : ∃ w5, w5 = (w4.alloc (.cells #[.int .i64 cnt, .slice ca' L.length cc', .bool mo, .int .i64 vk, .string vb, .slice none 0 0] 38)).alloc (.cells #[.int .i64 cnt2, .slice ca2' L2.length cc2', .bool mo2, .int .i64 vk2, .string vb2, .slice none 0 0] 38) := ⟨_, rfl⟩
    have HW5 : Hid ((w4.alloc (.cells #[.int .i64 cnt, .slice ca' L.length cc', .bool mo, .int .i64 vk, .string vb, .slice none 0 0] 38)).alloc (.cells #[.int .i64 cnt2, .slice ca2' L2.length cc2', .bool mo2, .int .i64 vk2, .string vb2, .slice none 0 0] 38) = w5) := hw5.symm
    have hb5 : Below w4.heap.size w4 w5 := by rw [hw5]; exact (below_one _ _).alloc (by simp) _
    have HK5 : Hid (w5.heap[k]? = some (.cells #[.int .i64 cnt, .slice ca' L.length cc', .bool mo, .int .i64 vk, .string vb, .slice none 0 0] 38 (0, 0))) := by
      show _ = _
      rw [hw5, hk]
      exact ((below_one (w4.alloc (.cells #[.int .i64 cnt, .slice ca' L.length cc', .bool mo, .int .i64 vk, .string vb, .slice none 0 0] 38)) _).block w4.heap.size (by simp)).trans (heap_alloc_new w4 _)
    have HL5 : Hid (w5.heap[k2]? = some (.cells #[.int .i64 cnt2, .slice ca2' L2.length cc2', .bool mo2, .int .i64 vk2, .string vb2, .slice none 0 0] 38 (0, 0))) := by
      show _ = _
      rw [hw5, hk2, hk]
      have hsz : (w4.alloc (.cells #[.int .i64 cnt, .slice ca' L.length cc', .bool mo, .int .i64 vk, .string vb, .slice none 0 0] 38)).heap.size = w4.heap.size + 1 := by simp
      rw [← hsz]
      exact heap_alloc_new _ _
    have HG5 : Hid (w5.heap[g]? = some (.cells #[.slice ka ks'.length kc, .int .i64 cnt, .slice ca cl cc, .bool mo, .int .i64 vk, .slice x lx cx, .slice none 0 0, .int .i64 cnt2, .slice ca2 cl2 cc2, .bool mo2, .int .i64 vk2, .slice x2 lx2 cx2, .slice none 0 0] 46 (0, 0))) := (hb5.block g (block_lt HG4.out)).trans HG4.out
    have HBw5 : Hid (Below w.heap.size w w5) := HBw4.out.trans (hb5.mono HBw4.out.size)
    have HLE : Hid (L.length ≤ 4096 ∧ L2.length ≤ 4096) := metaT_len HTE.out
    have HTF : Hid (∀ W, Below w5.heap.size w5 W → Calls Tryd.prog 13 #[.agg #[.int .i64 cnt, .slice ca cl cc, .bool mo, .int .i64 vk, .slice x lx cx, .slice none 0 0]] W fun e w' => TofR (19 + 1) (fun z => w1.heap.size ≤ z) W cnt L mo vk vb [] e w') := fun W hW => tof_any (HV4.out.old (hb5.trans (hW.mono hb5.size))) HLE.out.1 (Nat.zero_le _) (fun r hr => by cases hr)
    have HUF : Hid (∀ W, Below w5.heap.size w5 W → Calls Tryd.prog 13 #[.agg #[.int .i64 cnt2, .slice ca2 cl2 cc2, .bool mo2, .int .i64 vk2, .slice x2 lx2 cx2, .slice none 0 0]] W fun e w' => TofR (19 + 1) (fun z => w1.heap.size ≤ z) W cnt2 L2 mo2 vk2 vb2 [] e w') := fun W hW => tof_any (HU4.out.old (hb5.trans (hW.mono hb5.size))) HLE.out.2 (Nat.zero_le _) (fun r hr => by cases hr)
    have HDV : Hid (∀ W, Below w5.heap.size w5 W → DtS (19 + 1) (fun z => w3.heap.size ≤ z) W L [] ca' L.length cc' none 0 0) := fun W hW => (DtO.view (T := (L, [])) ⟨HD4.out, ownI_nil _ _ _ _ _⟩).old (hb5.trans (hW.mono hb5.size))
    have HEV : Hid (∀ W, Below w5.heap.size w5 W → DtS (19 + 1) (fun z => w3.heap.size ≤ z) W L2 [] ca2' L2.length cc2' none 0 0) := fun W hW => (DtO.view (T := (L2, [])) ⟨HE4.out, ownI_nil _ _ _ _ _⟩).old (hb5.trans (hW.mono hb5.size))
    have HSK : Hid (∀ W, Below w5.heap.size w5 W → Sees 1 (fun z => w1.heap.size ≤ z) (VKey (fun z => w1.heap.size ≤ z) W) W ka ks'.length kc ks') := fun W hW => own_keys (HK4.out.old stays_key (hb5.trans (hW.mono hb5.size)))
    have HSJ : Hid (∀ W, Below w5.heap.size w5 W → Sees 1 (fun z => w3.heap.size ≤ z) (VKey (fun z => w3.heap.size ≤ z) W) W ja ks'.length jc ks') := fun W hW => own_keys (HJ4.out.old stays_key (hb5.trans (hW.mono hb5.size)))
    have HKP : Hid (∀ W, Below w5.heap.size w5 W → (W.cell? ⟨g, 0, none⟩ = some (.slice ka ks'.length kc) ∧ W.cell? ⟨g, 1, none⟩ = some (.int .i64 cnt) ∧ W.cell? ⟨g, 2, none⟩ = some (.slice ca cl cc) ∧ W.cell? ⟨g, 3, none⟩ = some (.bool mo) ∧ W.cell? ⟨g, 4, none⟩ = some (.int .i64 vk) ∧ W.cell? ⟨g, 5, none⟩ = some (.slice x lx cx) ∧ W.cell? ⟨g, 6, none⟩ = some (.slice none 0 0) ∧ W.cell? ⟨g, 7, none⟩ = some (.int .i64 cnt2) ∧ W.cell? ⟨g, 8, none⟩ = some (.slice ca2 cl2 cc2) ∧ W.cell? ⟨g, 9, none⟩ = some (.bool mo2) ∧ W.cell? ⟨g, 10, none⟩ = some (.int .i64 vk2) ∧ W.cell? ⟨g, 11, none⟩ = some (.slice x2 lx2 cx2) ∧ W.cell? ⟨g, 12, none⟩ = some (.slice none 0 0)) ∧ (W.cell? ⟨k, 0, none⟩ = some (.int .i64 cnt) ∧ W.cell? ⟨k, 1, none⟩ = some (.slice ca' L.length cc') ∧ W.cell? ⟨k, 2, none⟩ = some (.bool mo) ∧ W.cell? ⟨k, 3, none⟩ = some (.int .i64 vk) ∧ W.cell? ⟨k, 4, none⟩ = some (.string vb) ∧ W.cell? ⟨k, 5, none⟩ = some (.slice none 0 0)) ∧ (W.cell? ⟨k2, 0, none⟩ = some (.int .i64 cnt2) ∧ W.cell? ⟨k2, 1, none⟩ = some (.slice ca2' L2.length cc2') ∧ W.cell? ⟨k2, 2, none⟩ = some (.bool mo2) ∧ W.cell? ⟨k2, 3, none⟩ = some (.int .i64 vk2) ∧ W.cell? ⟨k2, 4, none⟩ = some (.string vb2) ∧ W.cell? ⟨k2, 5, none⟩ = some (.slice none 0 0)) ∧ Below w5.heap.size w5 W) :=
      fun W hW => ⟨cell13 ((hW.block g (block_lt HG5.out)).trans HG5.out), (blk6 ((hW.block k (block_lt HK5.out)).trans HK5.out)).1, (blk6 ((hW.block k2 (block_lt HL5.out)).trans HL5.out)).1, hW⟩
    have hkm : ks'.length ≤ maxLen := by have := (HSK.out w5 (Below.refl _ _)).max; omega
    unfold maxLen at hkm
    obtain ⟨ee, hee⟩ : ∃ ee, ee = endE metaR zs := ⟨_, rfl⟩
    rw [← hee]
    have r0 : (ee != ee) = false := by simp
    have r1 : ((ks'.length : Int) != (ks'.length : Int)) = false := by simp
    clear hk hk2 hw5 hb5 hee HT4 HD4 HE4 HJ4 HB4 HV3 HV4 HU3 HU4 HK3 HK4 HG3 HG4 HTE HLE HI3
    go_upto_region 8 with fail
    rw [HW5.out]
    (try rw [HKE.out])
    (try rw [HK2E.out])
    clear HW5 HKE
    obtain ⟨⟨m0, m1, m2, m3, m4, m5, m6, m7, m8, m9, m10, m11, m12⟩, ⟨n0, n1, n2, n3, n4, n5⟩, ⟨o0, o1, o2, o3, o4, o5⟩, hbz⟩ := HKP.out w5 (Below.refl _ _)
    go_cut [55] (fun v wc => v = .bool false ∧ Below w5.heap.size w5 wc)
    case first =>
      go_region_held3 (fun W => (W.cell? ⟨g, 0, none⟩ = some (.slice ka ks'.length kc) ∧ W.cell? ⟨g, 1, none⟩ = some (.int .i64 cnt) ∧ W.cell? ⟨g, 2, none⟩ = some (.slice ca cl cc) ∧ W.cell? ⟨g, 3, none⟩ = some (.bool mo) ∧ W.cell? ⟨g, 4, none⟩ = some (.int .i64 vk) ∧ W.cell? ⟨g, 5, none⟩ = some (.slice x lx cx) ∧ W.cell? ⟨g, 6, none⟩ = some (.slice none 0 0) ∧ W.cell? ⟨g, 7, none⟩ = some (.int .i64 cnt2) ∧ W.cell? ⟨g, 8, none⟩ = some (.slice ca2 cl2 cc2) ∧ W.cell? ⟨g, 9, none⟩ = some (.bool mo2) ∧ W.cell? ⟨g, 10, none⟩ = some (.int .i64 vk2) ∧ W.cell? ⟨g, 11, none⟩ = some (.slice x2 lx2 cx2) ∧ W.cell? ⟨g, 12, none⟩ = some (.slice none 0 0)) ∧ (W.cell? ⟨k, 0, none⟩ = some (.int .i64 cnt) ∧ W.cell? ⟨k, 1, none⟩ = some (.slice ca' L.length cc') ∧ W.cell? ⟨k, 2, none⟩ = some (.bool mo) ∧ W.cell? ⟨k, 3, none⟩ = some (.int .i64 vk) ∧ W.cell? ⟨k, 4, none⟩ = some (.string vb) ∧ W.cell? ⟨k, 5, none⟩ = some (.slice none 0 0)) ∧ (W.cell? ⟨k2, 0, none⟩ = some (.int .i64 cnt2) ∧ W.cell? ⟨k2, 1, none⟩ = some (.slice ca2' L2.length cc2') ∧ W.cell? ⟨k2, 2, none⟩ = some (.bool mo2) ∧ W.cell? ⟨k2, 3, none⟩ = some (.int .i64 vk2) ∧ W.cell? ⟨k2, 4, none⟩ = some (.string vb2) ∧ W.cell? ⟨k2, 5, none⟩ = some (.slice none 0 0)) ∧ Below w5.heap.size w5 W)
        (first | (refine HKP.out _ (by repeat' (first | assumption | exact Below.refl _ _ | exact Below.size (by assumption) | exact Nat.le_refl _ | refine Below.drew ?_ | refine Below.alloc ?_ ?_ _))))
        (first
          | (go_at_call 13; (fail_if_success (have := w6)); refine (HTF.out _ (by repeat' (first | assumption | exact Below.refl _ _ | exact Below.size (by assumption) | exact Nat.le_refl _ | refine Below.drew ?_ | refine Below.alloc ?_ ?_ _))).mono ?_; rintro e w6 ⟨ua, uc, va, vc, rfl, HDT, HB6⟩; have HST : Hid (DtS (19 + 1) (fun z => w1.heap.size ≤ z ∨ _ ≤ z) w6 L [] ua L.length uc va 0 vc) := DtO.view HDT.out; have hB6 : Below w5.heap.size w5 w6 := Below.trans (by repeat' (first | assumption | exact Below.refl _ _ | exact Below.size (by assumption) | exact Nat.le_refl _ | refine Below.drew ?_ | refine Below.alloc ?_ ?_ _)) (HB6.out.mono (Below.size (w := w5) (B := w5.heap.size) (by repeat' (first | assumption | exact Below.refl _ _ | exact Below.size (by assumption) | exact Nat.le_refl _ | refine Below.drew ?_ | refine Below.alloc ?_ ?_ _)))))
          | (go_at_call 13; refine (HUF.out _ (by repeat' (first | assumption | exact Below.refl _ _ | exact Below.size (by assumption) | exact Nat.le_refl _ | refine Below.drew ?_ | refine Below.alloc ?_ ?_ _))).mono ?_; rintro e w8 ⟨ua2, uc2, va2, vc2, rfl, HDU, HB8⟩; have HSU : Hid (DtS (19 + 1) (fun z => w1.heap.size ≤ z ∨ _ ≤ z) w8 L2 [] ua2 L2.length uc2 va2 0 vc2) := DtO.view HDU.out; have hB8 : Below w5.heap.size w5 w8 := Below.trans (by repeat' (first | assumption | exact Below.refl _ _ | exact Below.size (by assumption) | exact Nat.le_refl _ | refine Below.drew ?_ | refine Below.alloc ?_ ?_ _)) (HB8.out.mono (Below.size (w := w5) (B := w5.heap.size) (by repeat' (first | assumption | exact Below.refl _ _ | exact Below.size (by assumption) | exact Nat.le_refl _ | refine Below.drew ?_ | refine Below.alloc ?_ ?_ _)))))
          | (go_at_call 12; (fail_if_success (have := w7)); refine (sameT (DtS.old HST.out (by repeat' (first | assumption | exact Below.refl _ _ | exact Below.size (by assumption) | exact Nat.le_refl _ | refine Below.drew ?_ | refine Below.alloc ?_ ?_ _))) (HDV.out _ (by repeat' (first | assumption | exact Below.refl _ _ | exact Below.size (by assumption) | exact Nat.le_refl _ | refine Below.drew ?_ | refine Below.alloc ?_ ?_ _)))).mono ?_; rintro e w7 ⟨rfl, HB7⟩; have hB7 : Below w5.heap.size w5 w7 := Below.trans (by repeat' (first | assumption | exact Below.refl _ _ | exact Below.size (by assumption) | exact Nat.le_refl _ | refine Below.drew ?_ | refine Below.alloc ?_ ?_ _)) (HB7.mono (Below.size (w := w5) (B := w5.heap.size) (by repeat' (first | assumption | exact Below.refl _ _ | exact Below.size (by assumption) | exact Nat.le_refl _ | refine Below.drew ?_ | refine Below.alloc ?_ ?_ _)))))
          | (go_at_call 12; refine (sameT (DtS.old HSU.out (by repeat' (first | assumption | exact Below.refl _ _ | exact Below.size (by assumption) | exact Nat.le_refl _ | refine Below.drew ?_ | refine Below.alloc ?_ ?_ _))) (HEV.out _ (by repeat' (first | assumption | exact Below.refl _ _ | exact Below.size (by assumption) | exact Nat.le_refl _ | refine Below.drew ?_ | refine Below.alloc ?_ ?_ _)))).mono ?_; rintro e w9 ⟨rfl, HB9⟩; have hB9 : Below w5.heap.size w5 w9 := Below.trans (by repeat' (first | assumption | exact Below.refl _ _ | exact Below.size (by assumption) | exact Nat.le_refl _ | refine Below.drew ?_ | refine Below.alloc ?_ ?_ _)) (HB9.mono (Below.size (w := w5) (B := w5.heap.size) (by repeat' (first | assumption | exact Below.refl _ _ | exact Below.size (by assumption) | exact Nat.le_refl _ | refine Below.drew ?_ | refine Below.alloc ?_ ?_ _))))))
      all_goals
        go_wp2_with fail
        go_meet
        exact ⟨rfl, by repeat' (first | assumption | exact Below.refl _ _ | exact Below.size (by assumption) | exact Nat.le_refl _ | refine Below.drew ?_ | refine Below.alloc ?_ ?_ _)⟩
    case rest =>
      obtain ⟨rfl, hBc⟩ := hcut
      have HBC : Hid (Below w5.heap.size w5 wc) := hBc
      clear hBc hbz m0 m1 m2 m3 m4 m5 m6 m7 m8 m9 m10 m11 m12 n0 n1 n2 n3 n4 n5 o0 o1 o2 o3 o4 o5 HTF HUF HDV HEV
      go_wp2_with fail
      go_loopw [10] (fun t wr => ∃ i : Nat, i ≤ ks'.length ∧ t = .int .i64 i ∧ Hid (Below w5.heap.size w5 wr)) (fun t _ => ks'.length - (intOf t).toNat)
      case atStart => exact ⟨0, by omega, rfl, HBC⟩
      case round =>
        obtain ⟨i, hi, rfl, HBi⟩ := hrel
        clear HBC
        obtain ⟨w6, hw6⟩ : ∃ x, x = wr := ⟨_, rfl⟩
        subst hw6
        by_cases hlt : i < ks'.length
        case pos =>
          obtain ⟨u, b, off, hu, rfl, hb, c0⟩ := (HSK.out _ HBi.out).key hlt
          obtain ⟨u', b', off', hu', rfl, hb', c0'⟩ := (HSJ.out _ HBi.out).key hlt
          obtain rfl : u = u' := Option.some.inj (hu.symm.trans hu')
          obtain ⟨⟨m0, _⟩, _⟩ := HKP.out _ HBi.out
          have q1 : (u != u) = false := by simp
          have q2 : (u == u) = true := by simp
          clear hu hu'
          go_upto_region 13 with fail
          go_quiet (fail)
          go_wp2_with fail
          go_roundw
          case rel => exact ⟨i + 1, by omega, by go_num, below_drewN HBi.out _⟩
          case measure => simp [intOf]; omega
        case neg =>
          have HBE : Hid (Below w.heap.size w w6) := HBw5.out.trans (HBi.out.mono HBw5.out.size)
          go_wp2_with fail
          go_ret
          exact ⟨rfl, HBE.out⟩
end Go.Proofs.YtnapeecmlkkolaaDoor
