/-
  The document's own Get at a Udt.
-/
import Derived.Test.YtnapeecmlkkolaaDoorRefGetC
namespace Go.Proofs.YtnapeecmlkkolaaDoor
open Go.RowKit
set_option linter.unusedVariables false
set_option linter.unusedSimpArgs false

set_option maxHeartbeats 4000000 in
set_option maxRecDepth 20000 in
theorem getr_udt (f : Nat) (hf20 : f ≤ 19) (ih : GetsRef f) {w : World} {b off len cap : Nat} {zs : List Int} (h : BRow w b off len cap zs) (hsm : len ≤ 140737488351232) (d : Nat) (hd : d + 2 ≤ len) (hid : numTo (zs.drop d) 2 = 48) {Y U : Res Ty} (hU : U = udtR (tyR f) (zs.drop (d + 2))) (hY : Y = if U.err = 0 then ⟨U.val, 2 + U.done, 0⟩ else ⟨tyNil, 0, U.err⟩) (p q : Int) (hp : p = d) (hq : q = 20 - f) :
    Calls Tryd.prog 54 #[.slice (some ⟨b, off, none⟩) len cap, .int .i64 p, .int .i64 q] w fun e w' => ∃ na nl nc ka kl kc, e = .returned (.tuple #[.agg #[.int .u16 Y.val.id, .string Y.val.space, .string Y.val.name, .slice na nl nc, .slice ka kl kc], .int .i64 (place d Y), .int .i64 Y.err]) ∧
      Hid (TyAt f (New w.heap.size w') w' Y.val na nl nc ka kl kc) ∧ Hid (Y.err = 0 → d + Y.done ≤ len) ∧ Below w.heap.size w w' := by
  obtain ⟨A, hA⟩ : ∃ A, A = textR (zs.drop (d + 2)) := ⟨_, rfl⟩
  obtain ⟨C, hC⟩ : ∃ C, C = textR (zs.drop (d + 2 + A.done)) := ⟨_, rfl⟩
  rw [udtR, List.drop_drop, ← hA, ← hC, List.drop_drop] at hU
  have HY : Hid _ := hY
  have HU : Hid _ := hU
  have HA : Hid _ := hA
  have HC : Hid _ := hC
  clear hA hC hU hY
  have hq1 : 0 ≤ q := by omega
  have hq2 : q ≤ 20 := by omega
  have HQ : Hid (q + 1 = 21 - f) := by show _ = _; omega
  have HSM : Hid _ := hsm
  have H : Hid (BRow w b off len cap zs) := h
  have IH : Hid (GetsRef f) := ih
  have HID : Hid _ := hid
  have HP : Hid _ := hp
  have hdd := hd
  have HIB : Hid ((0 : Int) ≤ 48 ∧ (48 : Int) < 65536) := (by decide : (0 : Int) ≤ 48 ∧ (48 : Int) < 65536)
  have HLZ : Hid (zs.length = len) := h.len_eq
  clear h hsm ih hid hp hq
  go_enter Tryd.func54, Tryd.ntmps54
  go_wp2_with fail
  refine (rget_at_yes (H.out.old ((below_one w _).trans ((below_one _ _).mono (by simp)))) d 2 (by omega) (by omega) hdd _ _ HP.out rfl).mono ?_
  rintro e w1 ⟨rfl, rfl⟩
  rw [HID.out]
  obtain ⟨pt0, hpt0⟩ : ∃ pt0, pt0 = ((d + 2 : Nat) : Int) := ⟨_, rfl⟩
  rw [← hpt0]
  have HPT00 : Hid (pt0 = ((d + 2 : Nat) : Int)) := hpt0
  clear hpt0
  go_wp2_with fail
  refine (many_any _ 48 HIB.out.1 HIB.out.2 (m := (-1)) rfl).mono ?_
  rintro e wm ⟨rfl, hBl⟩
  have hBl2 : Below (w.heap.size + 1) _ wm := hBl.mono (by simp)
  have hB00 : Below (w.heap.size + 1) (w.alloc zeroTy) _ := (below_two w 48).mono (by simp)
  have hBm : Below (w.heap.size + 1) (w.alloc zeroTy) wm := hB00.trans hBl2
  have HOBm : Hid (RBox wm (w.heap.size + 1) 48 ⟨#[]⟩ ⟨#[]⟩ (.slice none 0 0) (.slice none 0 0)) := (RBox.start w 48).keep (hBl.block _ (by simp)) hBl.size
  have HBM : Hid (Below w.heap.size w wm) := (below_one w _).trans (hBm.mono (by omega))
  obtain ⟨a0, a1, a2, _, _, g1, g2, _, _, hal⟩ := HOBm.out
  clear hBl hB00 hBl2
  go_wp2_with fail
  refine (rgetText_at (H.out.isB.old HBM.out) (d + 2) hdd _ HPT00.out HA.out).mono ?_
  rintro e w2 ⟨rfl, rfl⟩
  obtain ⟨pt1, hpt1⟩ : ∃ pt1, pt1 = place (d + 2) A := ⟨_, rfl⟩
  rw [← hpt1]
  have HPT1 : Hid _ := hpt1
  clear hpt1
  obtain ⟨w3, hw3⟩ : ∃ w3, w3 = w2.setCell ⟨w.heap.size + 1, 1, .none⟩ (.string A.val) := ⟨_, rfl⟩
  have HOB3 : Hid (RBox w3 (w.heap.size + 1) 48 A.val ⟨#[]⟩ (.slice none 0 0) (.slice none 0 0)) := by show RBox _ _ _ _ _ _ _; rw [hw3]; exact HOBm.out.set1 _
  have hB3 : Below (w.heap.size + 1) (w.alloc zeroTy) w3 := by rw [hw3]; exact hBm.setCell (p := ⟨w.heap.size + 1, 1, .none⟩) (Nat.le_refl _) _
  have hL3 : w2.setCell ⟨w.heap.size + 1, 1, .none⟩ (.string A.val) = w3 := hw3.symm
  clear hw3 hBm
  by_cases he : A.err = 0
  · have HE1 : Hid (d + 2 + A.done ≤ len) := by
      show _ ≤ _
      have := textR_done he HA.out
      rw [List.length_drop, HLZ.out] at this
      omega
    have HPT1' : Hid (pt1 = ((d + 2 + A.done : Nat) : Int)) := by show _ = _; rw [HPT1.out, place, if_pos he]
    have HB3 : Hid (Below w.heap.size w w3) := (below_one w _).trans (hB3.mono (by omega))
    obtain ⟨l0, _, l2, _, _, _, m2, _, _, _⟩ := HOB3.out
    rw [he]
    go_wp2_with fail
    refine (rgetText_at (H.out.isB.old HB3.out) (d + 2 + A.done) HE1.out _ HPT1'.out HC.out).mono ?_
    rintro e w4 ⟨rfl, rfl⟩
    obtain ⟨pt2, hpt2⟩ : ∃ pt2, pt2 = place (d + 2 + A.done) C := ⟨_, rfl⟩
    rw [← hpt2]
    have HPT2 : Hid _ := hpt2
    clear hpt2
    obtain ⟨w5, hw5⟩ : ∃ w5, w5 = w4.setCell ⟨w.heap.size + 1, 2, .none⟩ (.string C.val) := ⟨_, rfl⟩
    have HOB5 : Hid (RBox w5 (w.heap.size + 1) 48 A.val C.val (.slice none 0 0) (.slice none 0 0)) := by show RBox _ _ _ _ _ _ _; rw [hw5]; exact HOB3.out.set2 _
    have hB5 : Below (w.heap.size + 1) (w.alloc zeroTy) w5 := by rw [hw5]; exact hB3.setCell (p := ⟨w.heap.size + 1, 2, .none⟩) (Nat.le_refl _) _
    have hL5 : w4.setCell ⟨w.heap.size + 1, 2, .none⟩ (.string C.val) = w5 := hw5.symm
    clear hw5 hB3
    by_cases he2 : C.err = 0
    · obtain ⟨D, hD⟩ : ∃ D, D = A.done + C.done := ⟨_, rfl⟩
      have HD : Hid _ := hD
      have HE2 : Hid (d + 2 + D ≤ len) := by
        show _ ≤ _
        have := textR_done he2 HC.out
        rw [List.length_drop, HLZ.out] at this
        have := HE1.out
        omega
      have HPT2' : Hid (pt2 = ((d + 2 + D : Nat) : Int)) := by show _ = _; rw [HPT2.out, place, if_pos he2, hD, Nat.add_assoc (d + 2)]
      have HB5 : Hid (Below w.heap.size w w5) := (below_one w _).trans (hB5.mono (by omega))
      have HU2 : Hid (U = if (zs.drop (d + 2 + D)).length < 2 then ⟨tyNil, 0, 10⟩ else
          if (goR (fieldR (tyR f)) (zs.drop (d + 2)) (numTo (zs.drop (d + 2 + D)) 2).toNat (D + 2) []).err = 0 then ⟨⟨48, A.val, C.val, (goR (fieldR (tyR f)) (zs.drop (d + 2)) (numTo (zs.drop (d + 2 + D)) 2).toNat (D + 2) []).val.map (·.1), (goR (fieldR (tyR f)) (zs.drop (d + 2)) (numTo (zs.drop (d + 2 + D)) 2).toNat (D + 2) []).val.map (·.2)⟩, (goR (fieldR (tyR f)) (zs.drop (d + 2)) (numTo (zs.drop (d + 2 + D)) 2).toNat (D + 2) []).done, 0⟩ else ⟨tyNil, 0, (goR (fieldR (tyR f)) (zs.drop (d + 2)) (numTo (zs.drop (d + 2 + D)) 2).toNat (D + 2) []).err⟩) := by
        show _ = _
        rw [HU.out, if_pos he, if_pos he2, ← hD, List.drop_drop]
      obtain ⟨l0, l1, l2, _, _, _, _, _, _, _⟩ := HOB5.out
      clear hD
      rw [he2]
      go_wp2_with fail
      by_cases hl : len < d + 2 + D + 2
      · refine (rget_at_short _ len cap (d + 2 + D) 2 _ (by omega) (by omega) HE2.out (by unfold maxLen; have := HSM.out; omega) hl _ _ HPT2'.out rfl).mono ?_
        rintro e w6 ⟨rfl, rfl⟩
        have HE : Hid (Y = ⟨tyNil, 0, 10⟩) := by
          show _ = _
          have hu : U = ⟨tyNil, 0, 10⟩ := by rw [HU2.out, if_pos (by rw [List.length_drop, HLZ.out]; omega)]
          rw [HY.out, hu, if_neg (by show ¬ (10 : Int) = 0; decide)]
        have HNE : Hid ((10 : Int) ≠ 0) := (by decide : (10 : Int) ≠ 0)
        have hBx := hB5
        clear hB5
        obtain ⟨hc, hf⟩ := bcell (hBx.mono (by simp) : Below (w.alloc zeroTy).heap.size (w.alloc zeroTy) w6)
        have hs : w.heap.size < w6.heap.size := by have := hBx.size; simp at this; omega
        have HPL : Hid (place d Y = 0) := by show _ = _; rw [HE.out, place, if_neg (by exact HNE.out)]
        have HBX : Hid (Below w.heap.size w w6) := (below_one w _).trans (hBx.mono (by omega))
        clear hBx
        go_wp2_with fail
        exact bodyPost_ret (v := .tuple #[.agg #[.int .u16 0, .string ⟨#[]⟩, .string ⟨#[]⟩, .slice none 0 0, .slice none 0 0], .int .i64 0, .int .i64 10]) (by simp [results, Tryd.results54, go_sem, hc, hs]) rfl
          ⟨none, 0, 0, none, 0, 0, by rw [HPL.out, HE.out]; rfl, by rw [HE.out]; exact tyAt_nil _ _ _, (fun e => absurd (by rw [HE.out] at e; exact e) HNE.out), HBX.out.trans ((below_five _ _ _ _ _ _ _).mono (Nat.le_refl _))⟩
      · have hE2 := HE2.out
        obtain ⟨N, hNN⟩ := Int.eq_ofNat_of_zero_le (numTo_bound (zs.drop (d + 2 + D)) (range_drop H.out.rng _) 2 (by rw [List.length_drop, HLZ.out]; omega)).1
        have hN2 := (numTo_bound (zs.drop (d + 2 + D)) (range_drop H.out.rng _) 2 (by rw [List.length_drop, HLZ.out]; omega)).2
        rw [hNN] at hN2
        have hN : N < 65536 := by have h4 : (256 : Int) ^ 2 = 65536 := by decide
                                  omega
        refine (rget_at_yes (H.out.old HB5.out) (d + 2 + D) 2 (by omega) (by omega) (by omega) _ _ HPT2'.out rfl).mono ?_
        rintro e wl ⟨rfl, rfl⟩
        rw [hNN]
        obtain ⟨G, hG⟩ : ∃ G, G = goR (fieldR (tyR f)) (zs.drop (d + 2)) N (D + 2) [] := ⟨_, rfl⟩
        have HG : Hid _ := hG
        have HY2 : Hid (Y = if G.err = 0 then ⟨⟨48, A.val, C.val, G.val.map (·.1), G.val.map (·.2)⟩, 2 + G.done, 0⟩ else ⟨tyNil, 0, G.err⟩) := by
          have hu := HU2.out
          rw [if_neg (by rw [List.length_drop, HLZ.out]; omega), hNN, Int.toNat_natCast, ← hG] at hu
          show _ = _
          rw [HY.out, hu]
          by_cases hg : G.err = 0
          · rw [if_pos hg, if_pos (by rfl), if_pos hg]
          · rw [if_neg hg, if_neg (by exact hg), if_neg hg]
        obtain ⟨pt3, hpt3⟩ : ∃ pt3, pt3 = ((d + 2 + D + 2 : Nat) : Int) := ⟨_, rfl⟩
        rw [← hpt3]
        have HPT0 : Hid (pt3 = ((d + 2 + (D + 2) : Nat) : Int)) := hpt3
        have HE0 : Hid (d + 2 + (D + 2) ≤ len) := by show _ ≤ _; omega
        have HSZ : Hid (A.val.size ≤ maxLen ∧ C.val.size ≤ maxLen) := by
          have := HSM.out
          exact ⟨by rw [HA.out]; exact textR_size _ (by unfold maxLen; rw [List.length_drop, HLZ.out]; omega), by rw [HC.out]; exact textR_size _ (by unfold maxLen; rw [List.length_drop, HLZ.out]; omega)⟩
        have hB0 := hB5
        have HOB0 := HOB5
        clear hpt3 hG hNN hN2 hl hB5 hE2
        go_wp2_with fail
        go_loopw [11, 15] (fun tq i wr => ∃ (k e : Nat) (pt : Int) (ns : List ByteArray) (ks : List Ty) (vn vk : Value), k ≤ N ∧ i = .int .i64 k ∧ tq = .int .i64 pt ∧ Hid (pt = ((d + 2 + e : Nat) : Int)) ∧ Hid (d + 2 + e ≤ len) ∧ Hid (RBox wr (w.heap.size + 1) 48 A.val C.val vn vk) ∧
            Hid (OwnS wr (w.heap.size + 2) vn vk ns) ∧ Hid (OwnK f wr (w.heap.size + 2) vk vn ks) ∧ ns.length = k ∧ ks.length = k ∧ Hid (goR (fieldR (tyR f)) (zs.drop (d + 2)) (N - k) e (ns.zip ks) = G) ∧ Below (w.heap.size + 1) (w.alloc zeroTy) wr) (fun _ i _ => N - (intOf i).toNat)
        case atStart => exact ⟨0, D + 2, _, [], [], _, _, by omega, rfl, rfl, HPT0.out, HE0.out, HOB0.out, ownS_nil _ _ _, ownK_nil _ _ _ _, rfl, rfl, HG.out.symm, hB0⟩
        case round =>
          obtain ⟨k, e, pt, ns, ks, vn, vk, hk, rfl, rfl, HPT, HDL, HOB, HOS, HOK, hns, hks, HGO, hBr⟩ := hrel
          have hob := HOB.out.lt
          by_cases hlt : k < N
          · obtain ⟨X, hX⟩ : ∃ X, X = textR (zs.drop (d + 2 + e)) := ⟨_, rfl⟩
            obtain ⟨Z, hZ⟩ : ∃ Z, Z = tyR f (zs.drop (d + 2 + e + X.done)) := ⟨_, rfl⟩
            have HX : Hid _ := hX
            have HZ : Hid _ := hZ
            have HFR : Hid (fieldR (tyR f) ((zs.drop (d + 2)).drop e) = if X.err = 0 then if Z.err = 0 then ⟨(X.val, Z.val), X.done + Z.done, 0⟩ else ⟨(ByteArray.empty, tyNil), 0, Z.err⟩ else ⟨(ByteArray.empty, tyNil), 0, X.err⟩) := by
              show _ = _
              rw [fieldR, List.drop_drop, ← hX, List.drop_drop, ← hZ]
            have HXS : Hid (X.val.size ≤ maxLen) := by show _ ≤ _; have := HSM.out; rw [hX]; exact textR_size _ (by unfold maxLen; rw [List.length_drop, HLZ.out]; omega)
            clear hX hZ
            obtain ⟨c0, _, _, c3, _, _, _, f3, _, _⟩ := HOB.out
            have HBW : Hid (Below w.heap.size w wr) := (below_one w _).trans (hBr.mono (by omega))
            go_wp2_with fail
            refine (rgetText_at (H.out.isB.old HBW.out) (d + 2 + e) HDL.out _ HPT.out HX.out).mono ?_
            rintro e4 w4 ⟨rfl, rfl⟩
            obtain ⟨pt1, hpt1⟩ : ∃ pt1, pt1 = place (d + 2 + e) X := ⟨_, rfl⟩
            rw [← hpt1]
            by_cases he4 : X.err = 0
            · have HPT1 : Hid (pt1 = ((d + 2 + e + X.done : Nat) : Int)) := by show _ = _; rw [hpt1, place, if_pos he4]
              have HDL1 : Hid (d + 2 + e + X.done ≤ len) := by
                show _ ≤ _
                have := textR_done he4 HX.out
                rw [List.length_drop, HLZ.out] at this
                have := HDL.out
                omega
              clear hpt1
              rw [he4]
              go_wp2_with (at_builtin; refine wpList_append_name (base := w.heap.size + 2) (v := vn) (u := vk) (ss := ns) rfl (.tmp 111) (.tmp 113) rfl rfl ?c0 rfl (heap_alloc_new w4 _) HXS.out ?c3 ?c4 ?c5 ?_)
              case c0 => exact HOS.out.old (below_one _ _)
              case c3 => intro q hq; have := (HOK.out.lt q hq).2; simp; omega
              case c4 => omega
              case c5 => simp; omega
              intro v7 w7 HOS7 HG7 HM7
              have hfar : ∀ q, q ≤ w.heap.size + 1 → vn.ownBlock ≠ some q := fun q hq e => by have := (HOS.out.lt q e).1; omega
              have hbl7 : ∀ q, q < w4.heap.size → vn.ownBlock ≠ some q → w7.heap[q]? = w4.heap[q]? := fun q hq hne => by
                rw [HG7.out.block q (by simp; omega) (fun e => hne e.symm)]; exact (below_one w4 _).block q hq
              have hs7 := HG7.out.size
              simp at hs7
              have HOB7 : Hid (RBox w7 (w.heap.size + 1) 48 A.val C.val vn vk) := HOB.out.keep (hbl7 _ HOB.out.lt (hfar _ (Nat.le_refl _))) (by omega)
              have HOK7 : Hid (OwnK f w7 (w.heap.size + 2) vk v7 ks) := (HOK.out.old (below_one _ _)).other HG7.out HM7.out
              have hB7 : Below (w.heap.size + 1) (w.alloc zeroTy) w7 := (hBr.trans ((below_one w4 _).mono (by omega))).grown HG7.out (by simp; omega) (fun q hq => by have := (HOS.out.lt q hq).1; omega)
              obtain ⟨a7, c7, hv7, hsee7⟩ := HOS7.out.sees
              obtain ⟨L7, hL7⟩ : ∃ L7, L7 = (ns ++ [X.val]).length := ⟨_, rfl⟩
              rw [← hL7] at hv7
              subst hv7
              obtain ⟨w8, hw8⟩ : ∃ w8, w8 = w7.setCell ⟨w.heap.size + 1, 3, .none⟩ (.slice a7 L7 c7) := ⟨_, rfl⟩
              have hs8 : w8.heap.size = w7.heap.size := by rw [hw8]; simp
              have HOB8 : Hid (RBox w8 (w.heap.size + 1) 48 A.val C.val (.slice a7 L7 c7) vk) := by show RBox _ _ _ _ _ _ _; rw [hw8]; exact HOB7.out.set3 _
              have HOK8 : Hid (OwnK f w8 (w.heap.size + 2) vk (.slice a7 L7 c7) ks) := by show OwnK _ _ _ _ _ _; rw [hw8]; exact HOK7.out.set (by omega) _
              have HOS8 : Hid (OwnS w8 (w.heap.size + 2) (.slice a7 L7 c7) vk (ns ++ [X.val])) := by show OwnS _ _ _ _ _; rw [hw8]; exact HOS7.out.set (by omega) _
              have hB8 : Below (w.heap.size + 1) (w.alloc zeroTy) w8 := by rw [hw8]; exact hB7.setCell (p := ⟨w.heap.size + 1, 3, .none⟩) (Nat.le_refl _) _
              have HBW8 : Hid (Below w.heap.size w w8) := (below_one w _).trans (hB8.mono (by omega))
              have HVL : Hid (∀ q, (Value.slice a7 L7 c7).ownBlock = some q → q < w8.heap.size) := fun q hq => (HOS8.out.lt q hq).2
              have hL8 : w7.setCell ⟨w.heap.size + 1, 3, .none⟩ (.slice a7 L7 c7) = w8 := hw8.symm
              have c73 := HOB7.out.c3
              have f73 := HOB7.out.f3
              have hob8 := HOB8.out.lt
              clear hw8 hbl7 hfar hL7 hsee7 hs7 hs8 hB7 c0 c3 f3
              go_wp2_with fail
              refine (IH.out _ _ len cap zs ((H.out.isB.old HBW8.out).old (below_one _ _)) HSM.out (d + 2 + e + X.done) HDL1.out Z HZ.out _ _ HPT1.out HQ.out).mono ?_
              rintro e5 w5 ⟨na, nl, nc, ka, kl, kc, rfl, HTY, HDZ, hB5⟩
              have hs5 := hB5.size
              simp at hs5
              obtain ⟨hc5, hf5⟩ := bcell hB5
              have hs45 : w8.heap.size < w5.heap.size := by omega
              have hB45 : Below w8.heap.size w8 w5 := (below_one w8 _).trans (hB5.mono (by simp))
              obtain ⟨w6, hw6⟩ : ∃ w6, w6 = five w5 w8.heap.size (.int .u16 Z.val.id) (.string Z.val.space) (.string Z.val.name) (.slice na nl nc) (.slice ka kl kc) := ⟨_, rfl⟩
              have hbl : ∀ q, q ≠ w8.heap.size → w6.heap[q]? = w5.heap[q]? := fun q hq => by rw [hw6]; exact five_heap _ _ _ _ _ _ _ q hq
              have hsz6 : w6.heap.size = w5.heap.size := by rw [hw6]; exact five_size _ _ _ _ _ _ _
              have hB6 : Below (w.heap.size + 1) (w.alloc zeroTy) w6 := (hB8.trans (hB45.mono (by omega))).trans (by rw [hw6]; exact (below_five _ _ _ _ _ _ _).mono (by omega))
              have hL6 : ((((w5.setCell ⟨w8.heap.size, 0, .none⟩ (.int .u16 Z.val.id)).setCell ⟨w8.heap.size, 1, .none⟩ (.string Z.val.space)).setCell ⟨w8.heap.size, 2, .none⟩ (.string Z.val.name)).setCell ⟨w8.heap.size, 3, .none⟩ (.slice na nl nc)).setCell ⟨w8.heap.size, 4, .none⟩ (.slice ka kl kc) = w6 := hw6.symm
              by_cases he5 : Z.err = 0
              · have HGO2 : Hid (goR (fieldR (tyR f)) (zs.drop (d + 2)) (N - (k + 1)) (e + (X.done + Z.done)) ((ns ++ [X.val]).zip (ks ++ [Z.val])) = G) := by
                  have hfr := HFR.out
                  rw [if_pos he4, if_pos he5] at hfr
                  have := goR_step HGO.out hlt (by rw [hfr])
                  rw [hfr] at this
                  show _ = _
                  rw [List.zip_append (by omega)]
                  exact this
                obtain ⟨f', hf'⟩ : ∃ f', f = f' + 1 := by
                  cases f with
                  | zero => rw [HZ.out] at he5; exact absurd (show (13 : Int) = 0 from he5) (by decide)
                  | succ f' => exact ⟨f', rfl⟩
                have HF' : Hid _ := hf'
                have HDL2 : Hid (d + 2 + (e + (X.done + Z.done)) ≤ len) := by show _ ≤ _; have := HDZ.out he5; omega
                obtain ⟨pt2, hpt2⟩ : ∃ pt2, pt2 = place (d + 2 + e + X.done) Z := ⟨_, rfl⟩
                have HPT2 : Hid (pt2 = ((d + 2 + (e + (X.done + Z.done)) : Nat) : Int)) := by show _ = _; rw [hpt2, place, if_pos he5]; simp only [Nat.add_assoc]
                have HOB6 : Hid (RBox w6 (w.heap.size + 1) 48 A.val C.val (.slice a7 L7 c7) vk) := HOB8.out.keep (by rw [hbl _ (by omega)]; exact hB45.block _ hob8) (by rw [hsz6]; exact hB45.size)
                have HOS6 : Hid (OwnS w6 (w.heap.size + 2) (.slice a7 L7 c7) vk (ns ++ [X.val])) := HOS8.out.keep (fun q _ hq _ => by rw [hbl _ (by omega)]; exact hB45.block q hq) (fun _ _ e => e)
                have HOK6 : Hid (OwnK f w6 (w.heap.size + 2) vk (.slice a7 L7 c7) ks) := HOK8.out.keep (fun q _ hq _ => by rw [hbl _ (by omega)]; exact hB45.block q hq) (by rw [hsz6]; exact hB45.size) (fun _ _ e => e)
                have HTY6 : Hid (TyAt (f - 1) (New (w8.heap.size + 1) w5) w6 Z.val na nl nc ka kl kc) := by
                  refine HTY.out.mono (fun q hq hF => ?_) (by rw [hsz6]; exact Nat.le_refl _)
                  have hF1 : w8.heap.size + 1 ≤ q := by have := hF.1; simpa using this
                  exact ⟨⟨hF1, hq⟩, hbl q (by omega)⟩
                have k0 : w6.cell? ⟨w8.heap.size, 0, .none⟩ = some (.int .u16 Z.val.id) := by rw [hw6]; simp [five, go_sem, hc5, hs45]
                have k1 : w6.cell? ⟨w8.heap.size, 1, .none⟩ = some (.string Z.val.space) := by rw [hw6]; simp [five, go_sem, hc5, hs45]
                have k2 : w6.cell? ⟨w8.heap.size, 2, .none⟩ = some (.string Z.val.name) := by rw [hw6]; simp [five, go_sem, hc5, hs45]
                have k3 : w6.cell? ⟨w8.heap.size, 3, .none⟩ = some (.slice na nl nc) := by rw [hw6]; simp [five, go_sem, hc5, hs45]
                have k4 : w6.cell? ⟨w8.heap.size, 4, .none⟩ = some (.slice ka kl kc) := by rw [hw6]; simp [five, go_sem, hc5, hs45]
                have c64 := HOB6.out.c4
                have f64 := HOB6.out.f4
                have hs6a : w6.heap.size ≤ w5.heap.size := by omega
                have hs6b : w5.heap.size ≤ w6.heap.size := by omega
                clear hw6 hbl hsz6 hf'
                rw [he5, ← hpt2]
                clear hpt2
                go_wp2_with (at_builtin; refine wpList_append_kid (n := f) (base := w.heap.size + 2) (v := vk) (u := .slice a7 L7 c7) (xs := ks) (news := [.int .u16 Z.val.id, .string Z.val.space, .string Z.val.name, .slice na nl nc, .slice ka kl kc]) rfl (.tmp 130) (.tmp 132) rfl rfl ?d0 rfl (heap_alloc_new w6 _) rfl (five_one _ _ _ _ _ _ _ _ _) Z.val ?d2 ?d3 ?d4 ?d5 ?_)
                case d0 => exact HOK6.out.old (below_one _ _)
                case d2 =>
                  have h1 := (HF'.out ▸ HTY6.out : TyAt (f' + 1 - 1) (New (w8.heap.size + 1) w5) w6 Z.val na nl nc ka kl kc).vt
                  rw [Nat.add_sub_cancel, ← HF'.out] at h1
                  refine VT.mono (fun q hq hF => ?_) (by simp) h1
                  have hF1 : w8.heap.size + 1 ≤ q := hF.1
                  have h2 : vk.ownBlock ≠ some q := fun e => by have := (HOK8.out.lt q e).2; omega
                  have h3 : (Value.slice a7 L7 c7).ownBlock ≠ some q := fun e => by have := HVL.out q e; omega
                  exact ⟨⟨by omega, by simp; omega, h2, h3⟩, (below_one w6 _).block q hq⟩
                case d3 => intro q hq; have := HVL.out q hq; simp; omega
                case d4 => omega
                case d5 => simp; omega
                intro v9 w9 HOK9 HG9 HM9
                have hfar : ∀ q, q ≤ w.heap.size + 1 → vk.ownBlock ≠ some q := fun q hq e => by have := (HOK8.out.lt q e).1; omega
                have hbl9 : ∀ q, q < w6.heap.size → vk.ownBlock ≠ some q → w9.heap[q]? = w6.heap[q]? := fun q hq hne => by
                  rw [HG9.out.block q (by simp; omega) (fun e => hne e.symm)]; exact (below_one w6 _).block q hq
                have hs9 := HG9.out.size
                simp at hs9
                have HOB9 : Hid (RBox w9 (w.heap.size + 1) 48 A.val C.val (.slice a7 L7 c7) vk) := HOB6.out.keep (hbl9 _ HOB6.out.lt (hfar _ (Nat.le_refl _))) (by omega)
                have HOS9 : Hid (OwnS w9 (w.heap.size + 2) (.slice a7 L7 c7) v9 (ns ++ [X.val])) := (HOS6.out.old (below_one _ _)).other HG9.out HM9.out
                have hB9 : Below (w.heap.size + 1) (w.alloc zeroTy) w9 := (hB6.trans ((below_one w6 _).mono (by omega))).grown HG9.out (by simp; omega) (fun q hq => by have := (HOK8.out.lt q hq).1; omega)
                obtain ⟨a9, c9, hv9, hsee9⟩ := HOK9.out.sees
                obtain ⟨L9, hL9⟩ : ∃ L9, L9 = (ks ++ [Z.val]).length := ⟨_, rfl⟩
                rw [← hL9] at hv9
                subst hv9
                obtain ⟨w10, hw10⟩ : ∃ w10, w10 = w9.setCell ⟨w.heap.size + 1, 4, .none⟩ (.slice a9 L9 c9) := ⟨_, rfl⟩
                have HOB10 : Hid (RBox w10 (w.heap.size + 1) 48 A.val C.val (.slice a7 L7 c7) (.slice a9 L9 c9)) := by show RBox _ _ _ _ _ _ _; rw [hw10]; exact HOB9.out.set4 _
                have HOK10 : Hid (OwnK f w10 (w.heap.size + 2) (.slice a9 L9 c9) (.slice a7 L7 c7) (ks ++ [Z.val])) := by show OwnK _ _ _ _ _ _; rw [hw10]; exact HOK9.out.set (by omega) _
                have HOS10 : Hid (OwnS w10 (w.heap.size + 2) (.slice a7 L7 c7) (.slice a9 L9 c9) (ns ++ [X.val])) := by show OwnS _ _ _ _ _; rw [hw10]; exact HOS9.out.set (by omega) _
                have hB10 : Below (w.heap.size + 1) (w.alloc zeroTy) w10 := by rw [hw10]; exact hB9.setCell (p := ⟨w.heap.size + 1, 4, .none⟩) (Nat.le_refl _) _
                have hL10 : w9.setCell ⟨w.heap.size + 1, 4, .none⟩ (.slice a9 L9 c9) = w10 := hw10.symm
                have c94 := HOB9.out.c4
                have f94 := HOB9.out.f4
                have hk2 : k ≤ 65536 := by omega
                clear hw10 hbl9 hfar hL9 hsee9 k0 k1 k2 k3 k4 hL6 c64 f64 hq1 hq2 hdd hN hs6a hs6b hs9 hs5 hs45 hB5 hB45 hc5 hf5 hB6 hB9 hL8 c73 f73 hob8 hB8
                go_wp2_with fail
                go_roundw
                case rel => exact ⟨k + 1, e + (X.done + Z.done), pt2, ns ++ [X.val], ks ++ [Z.val], _, _, by omega, by go_num, rfl, HPT2, HDL2, HOB10, HOS10, HOK10, by simp [hns], by simp [hks], HGO2, hB10⟩
                case measure => simp [intOf]; omega
              · have t5 : (Z.err == 0) = false := by simpa using he5
                have HE : Hid (Y = ⟨tyNil, 0, Z.err⟩) := by
                  have hfr := HFR.out
                  rw [if_pos he4, if_neg he5] at hfr
                  have := goR_stop HGO.out hlt (by rw [hfr]; exact he5)
                  rw [hfr] at this
                  show _ = _
                  rw [HY2.out, this, if_neg (by exact he5)]
                have HNE : Hid (Z.err ≠ 0) := he5
                have hBx := hB6
                clear he5 hw6 hbl hsz6 hB6 hB5 hB45 hBr hB8
                obtain ⟨hc, hf⟩ := bcell (hBx.mono (by simp) : Below (w.alloc zeroTy).heap.size (w.alloc zeroTy) w6)
                have hs : w.heap.size < w6.heap.size := by have := hBx.size; simp at this; omega
                have HPL : Hid (place d Y = 0) := by show _ = _; rw [HE.out, place, if_neg (by exact HNE.out)]
                have HBX : Hid (Below w.heap.size w w6) := (below_one w _).trans (hBx.mono (by omega))
                clear hBx
                go_wp2_with fail
                exact bodyPost_ret (v := .tuple #[.agg #[.int .u16 0, .string ⟨#[]⟩, .string ⟨#[]⟩, .slice none 0 0, .slice none 0 0], .int .i64 0, .int .i64 Z.err]) (by simp [results, Tryd.results54, go_sem, hc, hs]) rfl
                  ⟨none, 0, 0, none, 0, 0, by rw [HPL.out, HE.out]; rfl, by rw [HE.out]; exact tyAt_nil _ _ _, (fun e => absurd (by rw [HE.out] at e; exact e) HNE.out), HBX.out.trans ((below_five _ _ _ _ _ _ _).mono (Nat.le_refl _))⟩
            · have t4 : (X.err == 0) = false := by simpa using he4
              have HE : Hid (Y = ⟨tyNil, 0, X.err⟩) := by
                have hfr := HFR.out
                rw [if_neg he4] at hfr
                have := goR_stop HGO.out hlt (by rw [hfr]; exact he4)
                rw [hfr] at this
                show _ = _
                rw [HY2.out, this, if_neg (by exact he4)]
              have HNE : Hid (X.err ≠ 0) := he4
              have hBx := hBr
              clear he4 hBr hpt1
              obtain ⟨hc, hf⟩ := bcell (hBx.mono (by simp) : Below (w.alloc zeroTy).heap.size (w.alloc zeroTy) w4)
              have hs : w.heap.size < w4.heap.size := by have := hBx.size; simp at this; omega
              have HPL : Hid (place d Y = 0) := by show _ = _; rw [HE.out, place, if_neg (by exact HNE.out)]
              have HBX : Hid (Below w.heap.size w w4) := (below_one w _).trans (hBx.mono (by omega))
              clear hBx
              go_wp2_with fail
              exact bodyPost_ret (v := .tuple #[.agg #[.int .u16 0, .string ⟨#[]⟩, .string ⟨#[]⟩, .slice none 0 0, .slice none 0 0], .int .i64 0, .int .i64 X.err]) (by simp [results, Tryd.results54, go_sem, hc, hs]) rfl
                ⟨none, 0, 0, none, 0, 0, by rw [HPL.out, HE.out]; rfl, by rw [HE.out]; exact tyAt_nil _ _ _, (fun e => absurd (by rw [HE.out] at e; exact e) HNE.out), HBX.out.trans ((below_five _ _ _ _ _ _ _).mono (Nat.le_refl _))⟩
          · have HE := goR_end HGO.out (by omega)
            obtain ⟨an, cn, hvn, hSn⟩ := (HOS.out).sees
            obtain ⟨ak, ck, hvk, hSk⟩ := (HOK.out).sees
            obtain ⟨ln, hln⟩ : ∃ ln, ln = ns.length := ⟨_, rfl⟩
            obtain ⟨lk, hlk⟩ : ∃ lk, lk = ks.length := ⟨_, rfl⟩
            rw [← hln] at hvn hSn
            rw [← hlk] at hvk hSk
            subst hvn hvk
            have HYE : Hid (Y = ⟨⟨48, A.val, C.val, ns, ks⟩, 2 + e, 0⟩) := by
              show _ = _
              rw [HY2.out, HE, if_pos (by rfl)]
              simp only [Res.mk.injEq, Ty.mk.injEq, true_and, and_true]
              exact ⟨List.map_fst_zip (by omega), List.map_snd_zip (by omega)⟩
            have HPL : Hid (place d Y = pt) := by show _ = _; rw [HPT.out, HYE.out, place, if_pos (by rfl), Nat.add_assoc]
            obtain ⟨o0, o1, o2, o3, o4, _, _, _, _, _⟩ := HOB.out
            have HSn : Hid (Sees 1 (fun q => w.heap.size + 2 ≤ q ∧ q < wr.heap.size) VS wr an ln cn ns) := hSn
            have HSk : Hid (Sees 5 (fun q => w.heap.size + 2 ≤ q ∧ q < wr.heap.size) (VT f (fun q => w.heap.size + 2 ≤ q ∧ q < wr.heap.size) wr) wr ak lk ck ks) := hSk
            obtain ⟨hc, hf⟩ := bcell (hBr.mono (by simp) : Below (w.alloc zeroTy).heap.size (w.alloc zeroTy) wr)
            have hs : w.heap.size < wr.heap.size := by omega
            have HBX : Hid (Below w.heap.size w wr) := (below_one w _).trans (hBr.mono (by omega))
            clear HE hSn hSk hln hlk hBr
            go_wp2_with fail
            refine bodyPost_ret (v := .tuple #[.agg #[.int .u16 48, .string A.val, .string C.val, .slice an ln cn, .slice ak lk ck], .int .i64 pt, .int .i64 0]) (by simp [results, Tryd.results54, go_sem, hc, hs]) rfl
              ⟨an, ln, cn, ak, lk, ck, by rw [HPL.out, HYE.out], ?_, (fun _ => by rw [HYE.out]; show d + (2 + e) ≤ len; have := HDL.out; omega), HBX.out.trans ((below_five _ _ _ _ _ _ _).mono (Nat.le_refl _))⟩
            rw [HYE.out]
            exact tyAt_of HIB.out.1 HIB.out.2 HSZ.out.1 HSZ.out.2 HSn.out HSk.out
    · have t : (C.err == 0) = false := by simpa using he2
      have HE : Hid (Y = ⟨tyNil, 0, C.err⟩) := by
        have hu := HU.out
        rw [if_pos he, if_neg he2] at hu
        show _ = _
        rw [HY.out, hu, if_neg (by exact he2)]
      have HNE : Hid (C.err ≠ 0) := he2
      have hBx := hB5
      clear he2 hB5
      obtain ⟨hc, hf⟩ := bcell (hBx.mono (by simp) : Below (w.alloc zeroTy).heap.size (w.alloc zeroTy) w5)
      have hs : w.heap.size < w5.heap.size := by have := hBx.size; simp at this; omega
      have HPL : Hid (place d Y = 0) := by show _ = _; rw [HE.out, place, if_neg (by exact HNE.out)]
      have HBX : Hid (Below w.heap.size w w5) := (below_one w _).trans (hBx.mono (by omega))
      clear hBx
      go_wp2_with fail
      exact bodyPost_ret (v := .tuple #[.agg #[.int .u16 0, .string ⟨#[]⟩, .string ⟨#[]⟩, .slice none 0 0, .slice none 0 0], .int .i64 0, .int .i64 C.err]) (by simp [results, Tryd.results54, go_sem, hc, hs]) rfl
        ⟨none, 0, 0, none, 0, 0, by rw [HPL.out, HE.out]; rfl, by rw [HE.out]; exact tyAt_nil _ _ _, (fun e => absurd (by rw [HE.out] at e; exact e) HNE.out), HBX.out.trans ((below_five _ _ _ _ _ _ _).mono (Nat.le_refl _))⟩
  · have t : (A.err == 0) = false := by simpa using he
    have HE : Hid (Y = ⟨tyNil, 0, A.err⟩) := by
      have hu := HU.out
      rw [if_neg he] at hu
      show _ = _
      rw [HY.out, hu, if_neg (by exact he)]
    have HNE : Hid (A.err ≠ 0) := he
    have hBx := hB3
    clear he hB3
    obtain ⟨hc, hf⟩ := bcell (hBx.mono (by simp) : Below (w.alloc zeroTy).heap.size (w.alloc zeroTy) w3)
    have hs : w.heap.size < w3.heap.size := by have := hBx.size; simp at this; omega
    have HPL : Hid (place d Y = 0) := by show _ = _; rw [HE.out, place, if_neg (by exact HNE.out)]
    have HBX : Hid (Below w.heap.size w w3) := (below_one w _).trans (hBx.mono (by omega))
    clear hBx
    go_wp2_with fail
    exact bodyPost_ret (v := .tuple #[.agg #[.int .u16 0, .string ⟨#[]⟩, .string ⟨#[]⟩, .slice none 0 0, .slice none 0 0], .int .i64 0, .int .i64 A.err]) (by simp [results, Tryd.results54, go_sem, hc, hs]) rfl
      ⟨none, 0, 0, none, 0, 0, by rw [HPL.out, HE.out]; rfl, by rw [HE.out]; exact tyAt_nil _ _ _, (fun e => absurd (by rw [HE.out] at e; exact e) HNE.out), HBX.out.trans ((below_five _ _ _ _ _ _ _).mono (Nat.le_refl _))⟩
end Go.Proofs.YtnapeecmlkkolaaDoor
