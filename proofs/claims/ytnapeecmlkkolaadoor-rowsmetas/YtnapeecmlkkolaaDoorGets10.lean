/-
  How long what is told is; the walk of RowsGets.
-/
import Derived.Test.YtnapeecmlkkolaaDoorSame10
import Derived.Test.YtnapeecmlkkolaaDoorAwake10
namespace Go.Proofs.YtnapeecmlkkolaaDoor
open Go.RowKit
set_option maxRecDepth 100000
set_option linter.unusedVariables false
set_option linter.unusedSimpArgs false

theorem loop_len {α : Type} {p : Ps α} : ∀ (n : Nat) {Z : List Int} {Y : Res (List α)}, Y = loopR p n Z → Y.err = 0 → Y.val.length = n
  | 0, Z, Y, hY, h => by subst hY; rfl
  | n + 1, Z, Y, hY, h => by
      have hR : Reads Y Z 0 (bindR p fun x => bindR (loopR p n) fun l => pureR (x :: l)) 0 id := reads_start (loopR p (n + 1)) (by simpa using hY)
      by_cases h1 : (p (Z.drop 0)).err = 0
      · have hR2 := reads_ok hR h1
        by_cases h2 : (loopR p n (Z.drop (0 + (p (Z.drop 0)).done))).err = 0
        · have hR3 := reads_ok hR2 h2
          obtain ⟨_, _, h5⟩ := reads_pure hR3
          rw [h5]
          show (loopR p n _).val.length + 1 = n + 1
          rw [loop_len n rfl h2]
        · exact absurd (h.symm.trans (reads_err hR2 h2)).symm h2
      · exact absurd (h.symm.trans (reads_err hR h1)).symm h1

theorem loop_all {α : Type} {p : Ps α} {P : α → Prop} (hp : ∀ Z, (p Z).err = 0 → P (p Z).val) : ∀ (n : Nat) {Z : List Int} {Y : Res (List α)}, Y = loopR p n Z → Y.err = 0 → ∀ x ∈ Y.val, P x
  | 0, Z, Y, hY, h => by subst hY; intro x hx; cases hx
  | n + 1, Z, Y, hY, h => by
      have hR : Reads Y Z 0 (bindR p fun x => bindR (loopR p n) fun l => pureR (x :: l)) 0 id := reads_start (loopR p (n + 1)) (by simpa using hY)
      by_cases h1 : (p (Z.drop 0)).err = 0
      · have hR2 := reads_ok hR h1
        by_cases h2 : (loopR p n (Z.drop (0 + (p (Z.drop 0)).done))).err = 0
        · have hR3 := reads_ok hR2 h2
          obtain ⟨_, _, h5⟩ := reads_pure hR3
          rw [h5]
          intro x hx
          rcases List.mem_cons.mp hx with rfl | hx
          · exact hp _ h1
          · exact loop_all hp n rfl h2 x hx
        · exact absurd (h.symm.trans (reads_err hR2 h2)).symm h2
      · exact absurd (h.symm.trans (reads_err hR h1)).symm h1

theorem cols_le {n : Nat} {b : Bool} {Z : List Int} {Y : Res (List Col)} (hY : Y = colsR n b Z) (h : Y.err = 0) : Y.val.length = n := by
  have hR : Reads Y Z 0 (bindR (optR b (ByteArray.empty, ByteArray.empty) ownerR) fun o => loopR (colR b o) n) 0 id := reads_start (colsR n b) (by simpa using hY)
  by_cases h1 : (optR b (ByteArray.empty, ByteArray.empty) ownerR (Z.drop 0)).err = 0
  · have hR2 := reads_ok hR h1
    obtain ⟨e1, e2⟩ := hR2
    rw [(e2 h).2]
    exact loop_len n rfl (e1.symm.trans h)
  · exact absurd (h.symm.trans (reads_err hR h1)).symm h1

theorem table_len {f n : Int} {Z : List Int} {Y : Res Tb} (hY : Y = tableR f n Z) (h : Y.err = 0) : Y.val.2.1.length ≤ n.toNat := by
  have hR : Reads Y Z 0 (bindR (optR (bitX f 2) v0 valueR) fun s => bindR (optR (!bitX f 4) [] (colsR n.toNat (bitX f 1))) fun l => pureR ((n, l, bitX f 2, s, []) : Tb)) 0 id := reads_start (tableR f n) (by simpa using hY)
  by_cases h1 : (optR (bitX f 2) v0 valueR (Z.drop 0)).err = 0
  · have hR2 := reads_ok hR h1
    by_cases h2 : (optR (!bitX f 4) [] (colsR n.toNat (bitX f 1)) (Z.drop (0 + (optR (bitX f 2) v0 valueR (Z.drop 0)).done))).err = 0
    · have hR3 := reads_ok hR2 h2
      obtain ⟨_, _, h5⟩ := reads_pure hR3
      rw [h5]
      show (optR (!bitX f 4) [] (colsR n.toNat (bitX f 1)) _).val.length ≤ _
      revert h2
      cases bitX f 4 with
      | true => intro _; exact Nat.zero_le _
      | false => intro h2; exact Nat.le_of_eq (cols_le rfl h2)
    · exact absurd (h.symm.trans (reads_err hR2 h2)).symm h2
  · exact absurd (h.symm.trans (reads_err hR h1)).symm h1

theorem rows_len {n : Nat} {Z : List Int} {Y : Res (List (List Vl))} (hY : Y = rowsR n Z) (h : Y.err = 0) : Y.val.length ≤ 4096 ∧ ∀ r ∈ Y.val, r.length = n := by
  have hR : Reads Y Z 0 (bindR manyR fun m => loopR (loopR setR n) m.toNat) 0 id := reads_start (rowsR n) (by simpa using hY)
  by_cases h1 : (manyR (Z.drop 0)).err = 0
  · obtain ⟨_, hm0, hm1⟩ := manyR_done rfl h1
    obtain ⟨e1, e2⟩ := reads_ok hR h1
    rw [(e2 h).2]
    refine ⟨?_, loop_all (P := fun r : List Vl => r.length = n) (fun Z hZ => loop_len n rfl hZ) _ rfl (e1.symm.trans h)⟩
    show (loopR _ _ _).val.length ≤ _
    rw [loop_len _ rfl (e1.symm.trans h)]
    omega
  · exact absurd (h.symm.trans (reads_err hR h1)).symm h1

theorem tab_len {Z : List Int} {Y : Res Tb} (hY : Y = tabR Z) (h : Y.err = 0) : Y.val.2.1.length ≤ 4096 ∧ Y.val.2.2.2.2.length ≤ 4096 ∧ ∀ r ∈ Y.val.2.2.2.2, r.length ≤ 4096 := by
  have hR : Reads Y Z 0 (bindR headR fun h => bindR (tableR h.1 h.2) fun t => bindR (rowsR h.2.toNat) fun r => pureR ((t.1, t.2.1, t.2.2.1, t.2.2.2.1, r) : Tb)) 0 id := reads_start tabR (by simpa using hY)
  by_cases h1 : (headR (Z.drop 0)).err = 0
  · obtain ⟨hn0, hn1⟩ := head_n rfl h1
    have hR2 := reads_ok hR h1
    by_cases h2 : (tableR (headR (Z.drop 0)).val.1 (headR (Z.drop 0)).val.2 (Z.drop (0 + (headR (Z.drop 0)).done))).err = 0
    · have hR3 := reads_ok hR2 h2
      have k2 := table_len rfl h2
      by_cases h3 : (rowsR (headR (Z.drop 0)).val.2.toNat (Z.drop (0 + (headR (Z.drop 0)).done + (tableR (headR (Z.drop 0)).val.1 (headR (Z.drop 0)).val.2 (Z.drop (0 + (headR (Z.drop 0)).done))).done))).err = 0
      · have hR4 := reads_ok hR3 h3
        obtain ⟨_, _, h5⟩ := reads_pure hR4
        obtain ⟨k3, k4⟩ := rows_len rfl h3
        rw [h5]
        refine ⟨?_, k3, fun r hr => ?_⟩
        · show (tableR _ _ _).val.2.1.length ≤ 4096
          omega
        · have := k4 r hr
          omega
      · exact absurd (h.symm.trans (reads_err hR3 h3)).symm h3
    · exact absurd (h.symm.trans (reads_err hR2 h2)).symm h2
  · exact absurd (h.symm.trans (reads_err hR h1)).symm h1

theorem tabT_len {zs : List Int} {T : Tb} (hT : T = if endE tabR zs = 0 then (tabR zs).val else tb0) : T.2.1.length ≤ 4096 ∧ T.2.2.2.2.length ≤ 4096 ∧ ∀ r ∈ T.2.2.2.2, r.length ≤ 4096 := by
  by_cases h : endE tabR zs = 0
  · rw [if_pos h] at hT
    subst hT
    refine tab_len rfl ?_
    unfold endE at h
    by_cases h1 : (tabR zs).err = 0
    · exact h1
    · rw [if_neg h1] at h; exact h
  · rw [if_neg h] at hT
    subst hT
    exact ⟨Nat.zero_le _, Nat.zero_le _, fun r hr => by cases hr⟩

set_option maxHeartbeats 8000000 in
theorem gets_any {w : World} (hT : Tab w) {a : Option Addr} {len cap : Nat} {zs : List Int} (h : IsB w a len cap zs) :
    Calls Tryd.prog 3 #[.slice a len cap] w fun e w' => e = .returned (.bool true) ∧ Below w.heap.size w w' := by
  have HI0 : Hid (IsB w a len cap zs) := h
  have HT0 : Hid (Tab w) := hT
  have hlm : len ≤ maxLen := Nat.le_trans h.2.1 h.2.2.1
  unfold maxLen at hlm
  clear h hT
  go_enter Tryd.func3, Tryd.ntmps3
  go_wp2_with fail
  refine (awake_any _ HT0.out).mono ?_
  rintro e w1 ⟨rfl, HB1⟩
  have HI1 : Hid (IsB w1 a len cap zs) := HI0.out.old HB1.out
  have HT1 : Hid (Tab w1) := HT0.out.old HB1.out
  by_cases hl : 2000 < len
  case pos =>
    have hld : decide ((2000 : Int) < len) = true := by simp; omega
    go_wp2_with fail
    go_ret
    exact ⟨rfl, HB1.out⟩
  case neg =>
    have hld : decide ((2000 : Int) < len) = false := by simp; omega
    go_wp2_with fail
    refine (get_any HI1.out HT1.out (by omega)).mono ?_
    rintro e w2 ⟨T, ca, cl, cc, x, lx, cx, ra, rl, rc, rfl, HO2, HT2, HB2⟩
    have HTE : Hid (T = if endE tabR zs = 0 then (tabR zs).val else tb0) := HT2
    have HBw2 : Hid (Below w.heap.size w w2) := HB1.out.trans (HB2.out.mono HB1.out.size)
    have HV2 : Hid (TbV (19 + 1) (fun z => w1.heap.size ≤ z) w2 T ca cl cc x lx cx ra rl rc) := TbO.view HO2.out
    obtain ⟨cnt, L, mo, ⟨vk, vb⟩, Q⟩ := T
    obtain ⟨g, hg⟩ : ∃ g, g = w2.heap.size := ⟨_, rfl⟩
    have HGE : Hid (w2.heap.size = g) := hg.symm
    obtain ⟨w3, hw3⟩ : ∃ w3, w3 = w2.alloc (.cells #[.int .i64 cnt, .slice ca cl cc, .bool mo, .int .i64 vk, .slice x lx cx, .slice ra rl rc] 29) := ⟨_, rfl⟩
    have HW3 : Hid (w2.alloc (.cells #[.int .i64 cnt, .slice ca cl cc, .bool mo, .int .i64 vk, .slice x lx cx, .slice ra rl rc] 29) = w3) := hw3.symm
    have HG3 : Hid (w3.heap[g]? = some (.cells #[.int .i64 cnt, .slice ca cl cc, .bool mo, .int .i64 vk, .slice x lx cx, .slice ra rl rc] 29 (0, 0))) := by rw [hw3, hg]; exact heap_alloc_new w2 _
    have hb3 : Below w2.heap.size w2 w3 := by rw [hw3]; exact below_one _ _
    have HV3 : Hid (TbV (19 + 1) (fun z => w1.heap.size ≤ z) w3 ((cnt, L, mo, (vk, vb), Q) : Tb) ca cl cc x lx cx ra rl rc) := HV2.out.old hb3
    have HBw3 : Hid (Below w.heap.size w w3) := HBw2.out.trans (hb3.mono HBw2.out.size)
    have HI3 : Hid (IsB w3 a len cap zs) := HI0.out.old HBw3.out
    clear hg hw3 hb3 HT2 HO2 HV2
    go_upto_region 7 with fail
    rw [HW3.out]
    (try rw [HGE.out])
    clear HW3 HGE
    go_wp2_with fail
    refine (rget_any HI3.out (by omega)).mono ?_
    rintro e w4 ⟨T', ca', cc', ra', rc', rfl, HD4, HT4, HB4⟩
    obtain rfl : T' = (cnt, L, mo, (vk, vb), Q) := HT4.out.trans HTE.out.symm
    have HG4 : Hid (w4.heap[g]? = some (.cells #[.int .i64 cnt, .slice ca cl cc, .bool mo, .int .i64 vk, .slice x lx cx, .slice ra rl rc] 29 (0, 0))) := (HB4.out.block g (block_lt HG3.out)).trans HG3.out
    have HV4 : Hid (TbV (19 + 1) (fun z => w1.heap.size ≤ z) w4 ((cnt, L, mo, (vk, vb), Q) : Tb) ca cl cc x lx cx ra rl rc) := HV3.out.old HB4.out
    have HBw4 : Hid (Below w.heap.size w w4) := HBw3.out.trans (HB4.out.mono HBw3.out.size)
    obtain ⟨k, hk⟩ : ∃ k, k = w4.heap.size := ⟨_, rfl⟩
    have HKE : Hid (w4.heap.size = k) := hk.symm
    obtain ⟨w5, hw5⟩ : ∃ w5, w5 = w4.alloc (.cells #[.int .i64 cnt, .slice ca' L.length cc', .bool mo, .int .i64 vk, .string vb, .slice ra' Q.length rc'] 38) := ⟨_, rfl⟩
    have HW5 : Hid (w4.alloc (.cells #[.int .i64 cnt, .slice ca' L.length cc', .bool mo, .int .i64 vk, .string vb, .slice ra' Q.length rc'] 38) = w5) := hw5.symm
    have HK5 : Hid (w5.heap[k]? = some (.cells #[.int .i64 cnt, .slice ca' L.length cc', .bool mo, .int .i64 vk, .string vb, .slice ra' Q.length rc'] 38 (0, 0))) := by rw [hw5, hk]; exact heap_alloc_new w4 _
    have hb5 : Below w4.heap.size w4 w5 := by rw [hw5]; exact below_one _ _
    have HG5 : Hid (w5.heap[g]? = some (.cells #[.int .i64 cnt, .slice ca cl cc, .bool mo, .int .i64 vk, .slice x lx cx, .slice ra rl rc] 29 (0, 0))) := (hb5.block g (block_lt HG4.out)).trans HG4.out
    have HBw5 : Hid (Below w.heap.size w w5) := HBw4.out.trans (hb5.mono HBw4.out.size)
    have HLE : Hid (L.length ≤ 4096 ∧ Q.length ≤ 4096 ∧ ∀ r ∈ Q, r.length ≤ 4096) := tabT_len HTE.out
    have HTF : Hid (∀ W, Below w5.heap.size w5 W → Calls Tryd.prog 13 #[.agg #[.int .i64 cnt, .slice ca cl cc, .bool mo, .int .i64 vk, .slice x lx cx, .slice ra rl rc]] W fun e w' => TofR (19 + 1) (fun z => w1.heap.size ≤ z) W cnt L mo vk vb Q e w') := fun W hW => tof_any (HV4.out.old (hb5.trans (hW.mono hb5.size))) HLE.out.1 HLE.out.2.1 HLE.out.2.2
    have HDV : Hid (∀ W, Below w5.heap.size w5 W → DtS (19 + 1) (fun z => w3.heap.size ≤ z) W L Q ca' L.length cc' ra' Q.length rc') := fun W hW => (DtO.view HD4.out).old (hb5.trans (hW.mono hb5.size))
    have HKP : Hid (∀ W, Below w5.heap.size w5 W → (W.cell? ⟨g, 0, none⟩ = some (.int .i64 cnt) ∧ W.cell? ⟨g, 1, none⟩ = some (.slice ca cl cc) ∧ W.cell? ⟨g, 2, none⟩ = some (.bool mo) ∧ W.cell? ⟨g, 3, none⟩ = some (.int .i64 vk) ∧ W.cell? ⟨g, 4, none⟩ = some (.slice x lx cx) ∧ W.cell? ⟨g, 5, none⟩ = some (.slice ra rl rc)) ∧ (W.cell? ⟨k, 0, none⟩ = some (.int .i64 cnt) ∧ W.cell? ⟨k, 1, none⟩ = some (.slice ca' L.length cc') ∧ W.cell? ⟨k, 2, none⟩ = some (.bool mo) ∧ W.cell? ⟨k, 3, none⟩ = some (.int .i64 vk) ∧ W.cell? ⟨k, 4, none⟩ = some (.string vb) ∧ W.cell? ⟨k, 5, none⟩ = some (.slice ra' Q.length rc')) ∧ Below w5.heap.size w5 W) :=
      fun W hW => ⟨(blk6 ((hW.block g (block_lt HG5.out)).trans HG5.out)).1, (blk6 ((hW.block k (block_lt HK5.out)).trans HK5.out)).1, hW⟩
    obtain ⟨ee, hee⟩ : ∃ ee, ee = endE tabR zs := ⟨_, rfl⟩
    rw [← hee]
    have r0 : (ee == ee) = true := by simp
    clear hk hw5 hb5 hee HT4 HD4 HB4 HV3 HV4 HG3 HG4 HTE HLE HI3
    go_upto_region 8 with fail
    rw [HW5.out]
    (try rw [HKE.out])
    clear HW5 HKE
    obtain ⟨⟨m0, m1, m2, m3, m4, m5⟩, ⟨n0, n1, n2, n3, n4, n5⟩, hbz⟩ := HKP.out w5 (Below.refl _ _)
    go_region_held3 (fun W => (W.cell? ⟨g, 0, none⟩ = some (.int .i64 cnt) ∧ W.cell? ⟨g, 1, none⟩ = some (.slice ca cl cc) ∧ W.cell? ⟨g, 2, none⟩ = some (.bool mo) ∧ W.cell? ⟨g, 3, none⟩ = some (.int .i64 vk) ∧ W.cell? ⟨g, 4, none⟩ = some (.slice x lx cx) ∧ W.cell? ⟨g, 5, none⟩ = some (.slice ra rl rc)) ∧ (W.cell? ⟨k, 0, none⟩ = some (.int .i64 cnt) ∧ W.cell? ⟨k, 1, none⟩ = some (.slice ca' L.length cc') ∧ W.cell? ⟨k, 2, none⟩ = some (.bool mo) ∧ W.cell? ⟨k, 3, none⟩ = some (.int .i64 vk) ∧ W.cell? ⟨k, 4, none⟩ = some (.string vb) ∧ W.cell? ⟨k, 5, none⟩ = some (.slice ra' Q.length rc')) ∧ Below w5.heap.size w5 W)
      (first | (refine HKP.out _ (by repeat' (first | assumption | exact Below.refl _ _ | exact Below.size (by assumption) | exact Nat.le_refl _ | refine Below.drew ?_ | refine Below.alloc ?_ ?_ _))))
      (first
        | (go_at_call 13; refine (HTF.out _ (by repeat' (first | assumption | exact Below.refl _ _ | exact Below.size (by assumption) | exact Nat.le_refl _ | refine Below.drew ?_ | refine Below.alloc ?_ ?_ _))).mono ?_; rintro e w6 ⟨ua, uc, va, vc, rfl, HD6, HB6⟩; have hB6 : Below w5.heap.size w5 w6 := Below.trans (by repeat' (first | assumption | exact Below.refl _ _ | exact Below.size (by assumption) | exact Nat.le_refl _ | refine Below.drew ?_ | refine Below.alloc ?_ ?_ _)) (HB6.out.mono (Below.size (w := w5) (B := w5.heap.size) (by repeat' (first | assumption | exact Below.refl _ _ | exact Below.size (by assumption) | exact Nat.le_refl _ | refine Below.drew ?_ | refine Below.alloc ?_ ?_ _)))))
        | (go_at_call 12; refine (sameT ((DtO.view HD6.out).old (by repeat' (first | assumption | exact Below.refl _ _ | exact Below.size (by assumption) | exact Nat.le_refl _ | refine Below.drew ?_ | refine Below.alloc ?_ ?_ _))) (HDV.out _ (by repeat' (first | assumption | exact Below.refl _ _ | exact Below.size (by assumption) | exact Nat.le_refl _ | refine Below.drew ?_ | refine Below.alloc ?_ ?_ _)))).mono ?_; rintro e w7 ⟨rfl, HB7⟩; have hB7 : Below w5.heap.size w5 w7 := Below.trans (by repeat' (first | assumption | exact Below.refl _ _ | exact Below.size (by assumption) | exact Nat.le_refl _ | refine Below.drew ?_ | refine Below.alloc ?_ ?_ _)) (HB7.mono (Below.size (w := w5) (B := w5.heap.size) (by repeat' (first | assumption | exact Below.refl _ _ | exact Below.size (by assumption) | exact Nat.le_refl _ | refine Below.drew ?_ | refine Below.alloc ?_ ?_ _))))))
    all_goals
      go_wp2_with fail
      go_ret
      exact ⟨rfl, HBw5.out.trans ((by repeat' (first | assumption | exact Below.refl _ _ | exact Below.size (by assumption) | exact Nat.le_refl _ | refine Below.drew ?_ | refine Below.alloc ?_ ?_ _) : Below w5.heap.size w5 _).mono HBw5.out.size)⟩
end Go.Proofs.YtnapeecmlkkolaaDoor
