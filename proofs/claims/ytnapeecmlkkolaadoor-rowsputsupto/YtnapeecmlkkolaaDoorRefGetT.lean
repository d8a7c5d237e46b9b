/-
  The document's own Get at a Tuple.
-/
import Derived.Test.YtnapeecmlkkolaaDoorRefBox
namespace Go.Proofs.YtnapeecmlkkolaaDoor
open Go.RowKit
set_option linter.unusedVariables false
set_option linter.unusedSimpArgs false

set_option maxHeartbeats 4000000 in
set_option maxRecDepth 20000 in
theorem getr_tuple (f : Nat) (hf20 : f ≤ 19) (ih : GetsRef f) {w : World} {b off len cap : Nat} {zs : List Int} (h : BRow w b off len cap zs) (hsm : len ≤ 140737488351232) (d : Nat) (hd : d + 2 ≤ len) (hid : numTo (zs.drop d) 2 = 49) {Y : Res Ty} {T : Res (List Ty)} (hT : T = tupleR (tyR f) (zs.drop (d + 2))) (hY : Y = if T.err = 0 then ⟨⟨49, ⟨#[]⟩, ⟨#[]⟩, [], T.val⟩, 2 + T.done, 0⟩ else ⟨tyNil, 0, T.err⟩) (p q : Int) (hp : p = d) (hq : q = 20 - f) :
    Calls Tryd.prog 54 #[.slice (some ⟨b, off, none⟩) len cap, .int .i64 p, .int .i64 q] w fun e w' => ∃ na nl nc ka kl kc, e = .returned (.tuple #[.agg #[.int .u16 Y.val.id, .string Y.val.space, .string Y.val.name, .slice na nl nc, .slice ka kl kc], .int .i64 (place d Y), .int .i64 Y.err]) ∧
      Hid (TyAt f (New w.heap.size w') w' Y.val na nl nc ka kl kc) ∧ Hid (Y.err = 0 → d + Y.done ≤ len) ∧ Below w.heap.size w w' := by
  have HY : Hid _ := hY
  have HT : Hid _ := hT
  clear hT hY
  have hq1 : 0 ≤ q := by omega
  have hq2 : q ≤ 20 := by omega
  have HQ : Hid (q + 1 = 21 - f) := by show _ = _; omega
  have HSM : Hid _ := hsm
  have H : Hid (BRow w b off len cap zs) := h
  have IH : Hid (GetsRef f) := ih
  have HID : Hid _ := hid
  have HP : Hid _ := hp
  have hdd := hd
  have HIB : Hid ((0 : Int) ≤ 49 ∧ (49 : Int) < 65536) := (by decide : (0 : Int) ≤ 49 ∧ (49 : Int) < 65536)
  have HLZ : Hid (zs.length = len) := h.len_eq
  clear h hsm ih hid hp hq
  go_enter Tryd.func54, Tryd.ntmps54
  go_wp2_with fail
  refine (rget_at_yes (H.out.old ((below_one w _).trans ((below_one _ _).mono (by simp)))) d 2 (by omega) (by omega) hdd _ _ HP.out rfl).mono ?_
  rintro e w1 ⟨rfl, rfl⟩
  rw [HID.out]
  obtain ⟨pt0, hpt0⟩ : ∃ pt0, pt0 = ((d + 2 : Nat) : Int) := ⟨_, rfl⟩
  rw [← hpt0]
  have HPT00 : Hid (pt0 = ((d + 2 : Nat) : Int)) := hpt0
  clear hpt0
  go_wp2_with fail
  refine (many_any _ 49 HIB.out.1 HIB.out.2 (m := (-1)) rfl).mono ?_
  rintro e wm ⟨rfl, hBl⟩
  have hBl2 : Below (w.heap.size + 1) _ wm := hBl.mono (by simp)
  have hB00 : Below (w.heap.size + 1) (w.alloc zeroTy) _ := (below_two w 49).mono (by simp)
  have hBm : Below (w.heap.size + 1) (w.alloc zeroTy) wm := hB00.trans hBl2
  have HOBm : Hid (RBox wm (w.heap.size + 1) 49 ⟨#[]⟩ ⟨#[]⟩ (.slice none 0 0) (.slice none 0 0)) := (RBox.start w 49).keep (hBl.block _ (by simp)) hBl.size
  have HBM : Hid (Below w.heap.size w wm) := (below_one w _).trans (hBm.mono (by omega))
  obtain ⟨a0, a1, a2, _, _, g1, g2, _, _, hal⟩ := HOBm.out
  clear hBl hB00 hBl2
  go_wp2_with fail
  by_cases hl : len < d + 2 + 2
  · refine (rget_at_short _ len cap (d + 2) 2 _ (by omega) (by omega) hdd (by unfold maxLen; have := HSM.out; omega) hl _ _ HPT00.out rfl).mono ?_
    rintro e w2 ⟨rfl, rfl⟩
    have HE : Hid (Y = ⟨tyNil, 0, 10⟩) := by
      show _ = _
      have ht : T = ⟨[], 0, 10⟩ := by rw [HT.out, tupleR, if_pos (by rw [List.length_drop, HLZ.out]; omega)]
      rw [HY.out, ht, if_neg (by show ¬ (10 : Int) = 0; decide)]
    have HNE : Hid ((10 : Int) ≠ 0) := (by decide : (10 : Int) ≠ 0)
    have hBx := hBm
    clear hBm
    obtain ⟨hc, hf⟩ := bcell (hBx.mono (by simp) : Below (w.alloc zeroTy).heap.size (w.alloc zeroTy) w2)
    have hs : w.heap.size < w2.heap.size := by have := hBx.size; simp at this; omega
    have HPL : Hid (place d Y = 0) := by show _ = _; rw [HE.out, place, if_neg (by exact HNE.out)]
    have HBX : Hid (Below w.heap.size w w2) := (below_one w _).trans (hBx.mono (by omega))
    clear hBx
    go_wp2_with fail
    exact bodyPost_ret (v := .tuple #[.agg #[.int .u16 0, .string ⟨#[]⟩, .string ⟨#[]⟩, .slice none 0 0, .slice none 0 0], .int .i64 0, .int .i64 10]) (by simp [results, Tryd.results54, go_sem, hc, hs]) rfl
      ⟨none, 0, 0, none, 0, 0, by rw [HPL.out, HE.out]; rfl, by rw [HE.out]; exact tyAt_nil _ _ _, (fun e => absurd (by rw [HE.out] at e; exact e) HNE.out), HBX.out.trans ((below_five _ _ _ _ _ _ _).mono (Nat.le_refl _))⟩
  · obtain ⟨N, hNN⟩ := Int.eq_ofNat_of_zero_le (numTo_bound (zs.drop (d + 2)) (range_drop H.out.rng _) 2 (by rw [List.length_drop, HLZ.out]; omega)).1
    have hN2 := (numTo_bound (zs.drop (d + 2)) (range_drop H.out.rng _) 2 (by rw [List.length_drop, HLZ.out]; omega)).2
    rw [hNN] at hN2
    have hN : N < 65536 := by have h4 : (256 : Int) ^ 2 = 65536 := by decide
                              omega
    refine (rget_at_yes (H.out.old HBM.out) (d + 2) 2 (by omega) (by omega) (by omega) _ _ HPT00.out rfl).mono ?_
    rintro e wl ⟨rfl, rfl⟩
    rw [hNN]
    obtain ⟨G, hG⟩ : ∃ G, G = goR (tyR f) (zs.drop (d + 2)) N 2 [] := ⟨_, rfl⟩
    have HG : Hid _ := hG
    have HY2 : Hid (Y = if G.err = 0 then ⟨⟨49, ⟨#[]⟩, ⟨#[]⟩, [], G.val⟩, 2 + G.done, 0⟩ else ⟨tyNil, 0, G.err⟩) := by
      show _ = _
      have ht : T = G := by rw [HT.out, tupleR, if_neg (by rw [List.length_drop, HLZ.out]; omega), hNN, Int.toNat_natCast, ← hG]
      rw [HY.out, ht]
    obtain ⟨pt1, hpt1⟩ : ∃ pt1, pt1 = ((d + 2 + 2 : Nat) : Int) := ⟨_, rfl⟩
    rw [← hpt1]
    have HPT0 : Hid (pt1 = ((d + 2 + 2 : Nat) : Int)) := hpt1
    have HE0 : Hid (d + 2 + 2 ≤ len) := by show _ ≤ _; omega
    have HNS : Hid ((⟨#[]⟩ : ByteArray).size ≤ maxLen) := by show _ ≤ _; unfold maxLen; show 0 ≤ _; omega
    have hB0 := hBm
    have HOB0 := HOBm
    clear hpt1 hG hNN hN2 hl hBm
    go_wp2_with fail
    go_loopw [11, 15] (fun tq i wr => ∃ (k e : Nat) (pt : Int) (ks : List Ty) (vk : Value), k ≤ N ∧ i = .int .i64 k ∧ tq = .int .i64 pt ∧ Hid (pt = ((d + 2 + e : Nat) : Int)) ∧ Hid (d + 2 + e ≤ len) ∧ Hid (RBox wr (w.heap.size + 1) (49) ⟨#[]⟩ ⟨#[]⟩ (.slice none 0 0) vk) ∧
        Hid (OwnK f wr (w.heap.size + 2) vk (.slice none 0 0) ks) ∧ ks.length = k ∧ Hid (goR (tyR f) (zs.drop (d + 2)) (N - k) e ks = G) ∧ Below (w.heap.size + 1) (w.alloc zeroTy) wr) (fun _ i _ => N - (intOf i).toNat)
    case atStart => exact ⟨0, 2, _, [], _, by omega, rfl, rfl, HPT0.out, HE0.out, HOB0.out, ownK_nil _ _ _ _, rfl, HG.out.symm, hB0⟩
    case round =>
      obtain ⟨k, e, pt, ks, vk, hk, rfl, rfl, HPT, HDL, HOB, HOK, hks, HGO, hBr⟩ := hrel
      have hob := HOB.out.lt
      by_cases hlt : k < N
      · obtain ⟨Z, hZ⟩ : ∃ Z, Z = tyR f (zs.drop (d + 2 + e)) := ⟨_, rfl⟩
        have HZ : Hid _ := hZ
        have HZ2 : Hid (tyR f ((zs.drop (d + 2)).drop e) = Z) := by show _ = _; rw [hZ, List.drop_drop]
        clear hZ
        obtain ⟨c0, _, _, _, _, _, _, _, _, _⟩ := HOB.out
        have HBW : Hid (Below w.heap.size w wr) := (below_one w _).trans (hBr.mono (by omega))
        go_wp2_with fail
        refine (IH.out _ _ len cap zs ((H.out.isB.old HBW.out).old (below_one _ _)) HSM.out (d + 2 + e) HDL.out Z HZ.out _ _ HPT.out HQ.out).mono ?_
        rintro e5 w5 ⟨na, nl, nc, ka, kl, kc, rfl, HTY, HDZ, hB5⟩
        have hs5 := hB5.size
        simp at hs5
        obtain ⟨hc5, hf5⟩ := bcell hB5
        have hs45 : wr.heap.size < w5.heap.size := by omega
        have hB45 : Below wr.heap.size wr w5 := (below_one wr _).trans (hB5.mono (by simp))
        obtain ⟨w6, hw6⟩ : ∃ w6, w6 = five w5 wr.heap.size (.int .u16 Z.val.id) (.string Z.val.space) (.string Z.val.name) (.slice na nl nc) (.slice ka kl kc) := ⟨_, rfl⟩
        have hbl : ∀ q, q ≠ wr.heap.size → w6.heap[q]? = w5.heap[q]? := fun q hq => by rw [hw6]; exact five_heap _ _ _ _ _ _ _ q hq
        have hsz6 : w6.heap.size = w5.heap.size := by rw [hw6]; exact five_size _ _ _ _ _ _ _
        have hB6 : Below (w.heap.size + 1) (w.alloc zeroTy) w6 := (hBr.trans (hB45.mono (by omega))).trans (by rw [hw6]; exact (below_five _ _ _ _ _ _ _).mono (by omega))
        have hL6 : ((((w5.setCell ⟨wr.heap.size, 0, .none⟩ (.int .u16 Z.val.id)).setCell ⟨wr.heap.size, 1, .none⟩ (.string Z.val.space)).setCell ⟨wr.heap.size, 2, .none⟩ (.string Z.val.name)).setCell ⟨wr.heap.size, 3, .none⟩ (.slice na nl nc)).setCell ⟨wr.heap.size, 4, .none⟩ (.slice ka kl kc) = w6 := hw6.symm
        by_cases he5 : Z.err = 0
        · have HGO2 : Hid (goR (tyR f) (zs.drop (d + 2)) (N - (k + 1)) (e + Z.done) (ks ++ [Z.val]) = G) := by
            have := goR_step HGO.out hlt (by rw [HZ2.out]; exact he5)
            rw [HZ2.out] at this
            exact this
          obtain ⟨f', hf'⟩ : ∃ f', f = f' + 1 := by
            cases f with
            | zero => rw [HZ.out] at he5; exact absurd (show (13 : Int) = 0 from he5) (by decide)
            | succ f' => exact ⟨f', rfl⟩
          have HF' : Hid _ := hf'
          have HDL2 : Hid (d + 2 + (e + Z.done) ≤ len) := by show _ ≤ _; have := HDZ.out he5; omega
          obtain ⟨pt2, hpt2⟩ : ∃ pt2, pt2 = place (d + 2 + e) Z := ⟨_, rfl⟩
          have HPT2 : Hid (pt2 = ((d + 2 + (e + Z.done) : Nat) : Int)) := by show _ = _; rw [hpt2, place, if_pos he5, Nat.add_assoc (d + 2)]
          have HOB6 : Hid (RBox w6 (w.heap.size + 1) (49) ⟨#[]⟩ ⟨#[]⟩ (.slice none 0 0) vk) := HOB.out.keep (by rw [hbl _ (by omega)]; exact hB45.block _ hob) (by rw [hsz6]; exact hB45.size)
          have HOK6 : Hid (OwnK f w6 (w.heap.size + 2) vk (.slice none 0 0) ks) := HOK.out.keep (fun q _ hq _ => by rw [hbl _ (by omega)]; exact hB45.block q hq) (by rw [hsz6]; exact hB45.size) (fun _ _ e => e)
          have HTY6 : Hid (TyAt (f - 1) (New (wr.heap.size + 1) w5) w6 Z.val na nl nc ka kl kc) := by
            refine HTY.out.mono (fun q hq hF => ?_) (by rw [hsz6]; exact Nat.le_refl _)
            have hF1 : wr.heap.size + 1 ≤ q := by have := hF.1; simpa using this
            exact ⟨⟨hF1, hq⟩, hbl q (by omega)⟩
          have k0 : w6.cell? ⟨wr.heap.size, 0, .none⟩ = some (.int .u16 Z.val.id) := by rw [hw6]; simp [five, go_sem, hc5, hs45]
          have k1 : w6.cell? ⟨wr.heap.size, 1, .none⟩ = some (.string Z.val.space) := by rw [hw6]; simp [five, go_sem, hc5, hs45]
          have k2 : w6.cell? ⟨wr.heap.size, 2, .none⟩ = some (.string Z.val.name) := by rw [hw6]; simp [five, go_sem, hc5, hs45]
          have k3 : w6.cell? ⟨wr.heap.size, 3, .none⟩ = some (.slice na nl nc) := by rw [hw6]; simp [five, go_sem, hc5, hs45]
          have k4 : w6.cell? ⟨wr.heap.size, 4, .none⟩ = some (.slice ka kl kc) := by rw [hw6]; simp [five, go_sem, hc5, hs45]
          have c64 := HOB6.out.c4
          have f64 := HOB6.out.f4
          have hs6a : w6.heap.size ≤ w5.heap.size := by omega
          have hs6b : w5.heap.size ≤ w6.heap.size := by omega
          clear hw6 hbl hsz6 hf'
          rw [he5, ← hpt2]
          clear hpt2
          go_wp2_with (at_builtin; refine wpList_append_kid (n := f) (base := w.heap.size + 2) (v := vk) (u := .slice none 0 0) (xs := ks) (news := [.int .u16 Z.val.id, .string Z.val.space, .string Z.val.name, .slice na nl nc, .slice ka kl kc]) rfl (.tmp 130) (.tmp 132) rfl rfl ?d0 rfl (heap_alloc_new w6 _) rfl (five_one _ _ _ _ _ _ _ _ _) Z.val ?d2 ?d3 ?d4 ?d5 ?_)
          case d0 => exact HOK6.out.old (below_one _ _)
          case d2 =>
            have h1 := (HF'.out ▸ HTY6.out : TyAt (f' + 1 - 1) (New (wr.heap.size + 1) w5) w6 Z.val na nl nc ka kl kc).vt
            rw [Nat.add_sub_cancel, ← HF'.out] at h1
            refine VT.mono (fun q hq hF => ?_) (by simp) h1
            have hF1 : wr.heap.size + 1 ≤ q := hF.1
            have h2 : vk.ownBlock ≠ some q := fun e => by have := (HOK.out.lt q e).2; omega
            exact ⟨⟨by omega, by simp; omega, h2, fun e => by simp [Value.ownBlock] at e⟩, (below_one w6 _).block q hq⟩
          case d3 => intro q hq; simp [Value.ownBlock] at hq
          case d4 => omega
          case d5 => simp; omega
          intro v9 w9 HOK9 HG9 HM9
          have hfar : ∀ q, q ≤ w.heap.size + 1 → vk.ownBlock ≠ some q := fun q hq e => by have := (HOK.out.lt q e).1; omega
          have hbl9 : ∀ q, q < w6.heap.size → vk.ownBlock ≠ some q → w9.heap[q]? = w6.heap[q]? := fun q hq hne => by
            rw [HG9.out.block q (by simp; omega) (fun e => hne e.symm)]; exact (below_one w6 _).block q hq
          have hs9 := HG9.out.size
          simp at hs9
          have HOB9 : Hid (RBox w9 (w.heap.size + 1) (49) ⟨#[]⟩ ⟨#[]⟩ (.slice none 0 0) vk) := HOB6.out.keep (hbl9 _ HOB6.out.lt (hfar _ (Nat.le_refl _))) (by omega)
          have hB9 : Below (w.heap.size + 1) (w.alloc zeroTy) w9 := (hB6.trans ((below_one w6 _).mono (by omega))).grown HG9.out (by simp; omega) (fun q hq => by have := (HOK.out.lt q hq).1; omega)
          obtain ⟨a9, c9, hv9, hsee9⟩ := HOK9.out.sees
          obtain ⟨L9, hL9⟩ : ∃ L9, L9 = (ks ++ [Z.val]).length := ⟨_, rfl⟩
          rw [← hL9] at hv9
          subst hv9
          obtain ⟨w10, hw10⟩ : ∃ w10, w10 = w9.setCell ⟨w.heap.size + 1, 4, .none⟩ (.slice a9 L9 c9) := ⟨_, rfl⟩
          have HOB10 : Hid (RBox w10 (w.heap.size + 1) (49) ⟨#[]⟩ ⟨#[]⟩ (.slice none 0 0) (.slice a9 L9 c9)) := by show RBox _ _ _ _ _ _ _; rw [hw10]; exact HOB9.out.set4 _
          have HOK10 : Hid (OwnK f w10 (w.heap.size + 2) (.slice a9 L9 c9) (.slice none 0 0) (ks ++ [Z.val])) := by show OwnK _ _ _ _ _ _; rw [hw10]; exact HOK9.out.set (by omega) _
          have hB10 : Below (w.heap.size + 1) (w.alloc zeroTy) w10 := by rw [hw10]; exact hB9.setCell (p := ⟨w.heap.size + 1, 4, .none⟩) (Nat.le_refl _) _
          have hL10 : w9.setCell ⟨w.heap.size + 1, 4, .none⟩ (.slice a9 L9 c9) = w10 := hw10.symm
          have c94 := HOB9.out.c4
          have f94 := HOB9.out.f4
          have hk2 : k ≤ 65536 := by omega
          clear hw10 hbl9 hfar hL9 hsee9 k0 k1 k2 k3 k4 hL6 c64 f64 hq1 hq2 hdd hN hs6a hs6b hs9 hs5 hs45 c0 hB5 hB45 hc5 hf5 hB6 hB9
          go_wp2_with fail
          go_roundw
          case rel => exact ⟨k + 1, e + Z.done, pt2, ks ++ [Z.val], _, by omega, by go_num, rfl, HPT2, HDL2, HOB10, HOK10, by simp [hks], HGO2, hB10⟩
          case measure => simp [intOf]; omega
        · have t5 : (Z.err == 0) = false := by simpa using he5
          have HE : Hid (Y = ⟨tyNil, 0, Z.err⟩) := by
            have := goR_stop HGO.out hlt (by rw [HZ2.out]; exact he5)
            rw [HZ2.out] at this
            show _ = _
            rw [HY2.out, this, if_neg (by exact he5)]
          have HNE : Hid (Z.err ≠ 0) := he5
          have hBx := hB6
          clear he5 hw6 hbl hsz6 hB6 hB5 hB45 hBr
          obtain ⟨hc, hf⟩ := bcell (hBx.mono (by simp) : Below (w.alloc zeroTy).heap.size (w.alloc zeroTy) w6)
          have hs : w.heap.size < w6.heap.size := by have := hBx.size; simp at this; omega
          have HPL : Hid (place d Y = 0) := by show _ = _; rw [HE.out, place, if_neg (by exact HNE.out)]
          have HBX : Hid (Below w.heap.size w w6) := (below_one w _).trans (hBx.mono (by omega))
          clear hBx
          go_wp2_with fail
          exact bodyPost_ret (v := .tuple #[.agg #[.int .u16 0, .string ⟨#[]⟩, .string ⟨#[]⟩, .slice none 0 0, .slice none 0 0], .int .i64 0, .int .i64 Z.err]) (by simp [results, Tryd.results54, go_sem, hc, hs]) rfl
            ⟨none, 0, 0, none, 0, 0, by rw [HPL.out, HE.out]; rfl, by rw [HE.out]; exact tyAt_nil _ _ _, (fun e => absurd (by rw [HE.out] at e; exact e) HNE.out), HBX.out.trans ((below_five _ _ _ _ _ _ _).mono (Nat.le_refl _))⟩
      · have HE := goR_end HGO.out (by omega)
        obtain ⟨ak, ck, hvk, hSk⟩ := (HOK.out).sees
        obtain ⟨lk, hlk⟩ : ∃ lk, lk = ks.length := ⟨_, rfl⟩
        rw [← hlk] at hvk hSk
        subst hvk
        have HYE : Hid (Y = ⟨⟨49, ⟨#[]⟩, ⟨#[]⟩, [], ks⟩, 2 + e, 0⟩) := by
          show _ = _
          rw [HY2.out, HE, if_pos (by rfl)]
        have HPL : Hid (place d Y = pt) := by show _ = _; rw [HPT.out, HYE.out, place, if_pos (by rfl), Nat.add_assoc]
        obtain ⟨o0, o1, o2, o3, o4, _, _, _, _, _⟩ := HOB.out
        have HSk : Hid (Sees 5 (fun q => w.heap.size + 2 ≤ q ∧ q < wr.heap.size) (VT f (fun q => w.heap.size + 2 ≤ q ∧ q < wr.heap.size) wr) wr ak lk ck ks) := hSk
        obtain ⟨hc, hf⟩ := bcell (hBr.mono (by simp) : Below (w.alloc zeroTy).heap.size (w.alloc zeroTy) wr)
        have hs : w.heap.size < wr.heap.size := by omega
        have HBX : Hid (Below w.heap.size w wr) := (below_one w _).trans (hBr.mono (by omega))
        clear HE hSk hlk hBr
        go_wp2_with fail
        refine bodyPost_ret (v := .tuple #[.agg #[.int .u16 (49), .string ⟨#[]⟩, .string ⟨#[]⟩, .slice none 0 0, .slice ak lk ck], .int .i64 pt, .int .i64 0]) (by simp [results, Tryd.results54, go_sem, hc, hs]) rfl
          ⟨none, 0, 0, ak, lk, ck, by rw [HPL.out, HYE.out], ?_, (fun _ => by rw [HYE.out]; show d + (2 + e) ≤ len; have := HDL.out; omega), HBX.out.trans ((below_five _ _ _ _ _ _ _).mono (Nat.le_refl _))⟩
        rw [HYE.out]
        exact tyAt_of HIB.out.1 HIB.out.2 (by unfold maxLen; show 0 ≤ _; omega) HNS.out (sees_nil _ _ _ _) HSk.out
end Go.Proofs.YtnapeecmlkkolaaDoor
