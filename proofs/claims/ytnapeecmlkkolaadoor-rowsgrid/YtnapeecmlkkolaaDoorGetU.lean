/-
  The contract of getUdt.
-/
import Derived.Test.YtnapeecmlkkolaaDoorGetK
namespace Go.Proofs.YtnapeecmlkkolaaDoor
open Go.RowKit
set_option linter.unusedVariables false
set_option linter.unusedSimpArgs false

theorem bcell {W w1 : World} (hb : Below W.heap.size W w1) : (∀ b o, b < W.heap.size → w1.cell? ⟨b, o, none⟩ = W.cell? ⟨b, o, none⟩) ∧ (∀ b o, b < W.heap.size → w1.frozen? ⟨b, o, none⟩ = W.frozen? ⟨b, o, none⟩) :=
  ⟨fun b o h => hb.cell (p := ⟨b, o, none⟩) h, fun b o h => hb.frozen (p := ⟨b, o, none⟩) h⟩

/-- Five cells of one block are written. -/
def five (w : World) (s : Nat) (a b c d e : Value) : World := ((((w.setCell ⟨s, 0, none⟩ a).setCell ⟨s, 1, none⟩ b).setCell ⟨s, 2, none⟩ c).setCell ⟨s, 3, none⟩ d).setCell ⟨s, 4, none⟩ e

theorem below_five (w : World) (s : Nat) (a b c d e : Value) : Below s w (five w s a b c d e) :=
  (((((Below.refl s w).setCell (p := ⟨s, 0, none⟩) (Nat.le_refl _) a).setCell (p := ⟨s, 1, none⟩) (Nat.le_refl _) b).setCell (p := ⟨s, 2, none⟩) (Nat.le_refl _) c).setCell (p := ⟨s, 3, none⟩) (Nat.le_refl _) d).setCell (p := ⟨s, 4, none⟩) (Nat.le_refl _) e

theorem five_heap (w : World) (s : Nat) (a b c d e : Value) (k : Nat) (h : k ≠ s) : (five w s a b c d e).heap[k]? = w.heap[k]? := by
  unfold five
  rw [Below.heap_setCell _ _ _ _ (by exact h), Below.heap_setCell _ _ _ _ (by exact h), Below.heap_setCell _ _ _ _ (by exact h), Below.heap_setCell _ _ _ _ (by exact h), Below.heap_setCell _ _ _ _ (by exact h)]
theorem five_size (w : World) (s : Nat) (a b c d e : Value) : (five w s a b c d e).heap.size = w.heap.size := by simp [five]

/-- What is left: nothing at an error, else the bytes from a place on. -/
def Rest (w : World) (b : Nat) (r : Option Addr) (lr cr : Nat) (zs : List Int) (d : Nat) (er : Int) : Prop :=
  (er ≠ 0 ∧ lr = 0) ∨ (er = 0 ∧ d ≤ zs.length ∧ ∃ o, r = some ⟨b, o, none⟩ ∧ BRow w b o lr cr (zs.drop d))

theorem textR_size (zs : List Int) (h : zs.length ≤ maxLen) : (textR zs).val.size ≤ maxLen := by
  rw [textR, strOfNums_size]
  unfold textA
  split
  · simp
  · split
    · simp
    · simp only [List.length_take, List.length_drop]; omega

/-- The box of a Udt that is being got. -/
structure OBox (w : World) (ob : Nat) (sp nm : ByteArray) (vn vk : Value) : Prop where
  c0 : w.cell? ⟨ob, 0, none⟩ = some (.int .u16 48)
  c1 : w.cell? ⟨ob, 1, none⟩ = some (.string sp)
  c2 : w.cell? ⟨ob, 2, none⟩ = some (.string nm)
  c3 : w.cell? ⟨ob, 3, none⟩ = some vn
  c4 : w.cell? ⟨ob, 4, none⟩ = some vk
  f3 : w.frozen? ⟨ob, 3, none⟩ = false
  f4 : w.frozen? ⟨ob, 4, none⟩ = false
  lt : ob < w.heap.size

theorem OBox.keep {w W : World} {ob : Nat} {sp nm : ByteArray} {vn vk : Value} (h : OBox w ob sp nm vn vk) (hk : W.heap[ob]? = w.heap[ob]?) (hs : w.heap.size ≤ W.heap.size) : OBox W ob sp nm vn vk := by
  have hc : ∀ j, W.cell? ⟨ob, j, none⟩ = w.cell? ⟨ob, j, none⟩ := fun j => World.cell?_of_block (w := w) (w' := W) (a := ⟨ob, j, none⟩) hk
  have hf : ∀ j, W.frozen? ⟨ob, j, none⟩ = w.frozen? ⟨ob, j, none⟩ := fun j => World.frozen?_of_block (w := w) (w' := W) (a := ⟨ob, j, none⟩) hk
  exact ⟨(hc 0).trans h.c0, (hc 1).trans h.c1, (hc 2).trans h.c2, (hc 3).trans h.c3, (hc 4).trans h.c4, (hf 3).trans h.f3, (hf 4).trans h.f4, Nat.lt_of_lt_of_le h.lt hs⟩

theorem OBox.set3 {w : World} {ob : Nat} {sp nm : ByteArray} {vn vk : Value} (h : OBox w ob sp nm vn vk) (v : Value) : OBox (w.setCell ⟨ob, 3, none⟩ v) ob sp nm v vk := by
  refine ⟨?_, ?_, ?_, World.cell?_setCell_same _ _ _ h.c3, ?_, ?_, ?_, by simpa using h.lt⟩
  · rw [World.cell?_setCell_other _ _ _ _ (by intro e; cases e)]; exact h.c0
  · rw [World.cell?_setCell_other _ _ _ _ (by intro e; cases e)]; exact h.c1
  · rw [World.cell?_setCell_other _ _ _ _ (by intro e; cases e)]; exact h.c2
  · rw [World.cell?_setCell_other _ _ _ _ (by intro e; cases e)]; exact h.c4
  · rw [World.frozen?_setCell]; exact h.f3
  · rw [World.frozen?_setCell]; exact h.f4

theorem OBox.set4 {w : World} {ob : Nat} {sp nm : ByteArray} {vn vk : Value} (h : OBox w ob sp nm vn vk) (v : Value) : OBox (w.setCell ⟨ob, 4, none⟩ v) ob sp nm vn v := by
  refine ⟨?_, ?_, ?_, ?_, World.cell?_setCell_same _ _ _ h.c4, ?_, ?_, by simpa using h.lt⟩
  · rw [World.cell?_setCell_other _ _ _ _ (by intro e; cases e)]; exact h.c0
  · rw [World.cell?_setCell_other _ _ _ _ (by intro e; cases e)]; exact h.c1
  · rw [World.cell?_setCell_other _ _ _ _ (by intro e; cases e)]; exact h.c2
  · rw [World.cell?_setCell_other _ _ _ _ (by intro e; cases e)]; exact h.c3
  · rw [World.frozen?_setCell]; exact h.f3
  · rw [World.frozen?_setCell]; exact h.f4

theorem OBox.start (w : World) (sp nm : ByteArray) : OBox (w.alloc (.cells #[.int .u16 48, .string sp, .string nm, .slice none 0 0, .slice none 0 0] 62)) w.heap.size sp nm (.slice none 0 0) (.slice none 0 0) := by
  refine ⟨cell_box _ _ _ _ _ rfl, cell_box _ _ _ _ _ rfl, cell_box _ _ _ _ _ rfl, cell_box _ _ _ _ _ rfl, cell_box _ _ _ _ _ rfl, ?_, ?_, by simp⟩
  · simp [go_sem]
  · simp [go_sem]

abbrev zeroOb : Obj := .cells #[.int .u16 0, .string ⟨#[]⟩, .string ⟨#[]⟩, .slice none 0 0, .slice none 0 0] 62

set_option maxHeartbeats 4000000 in
theorem getUdt_any (f : Nat) (hf20 : f ≤ 19) (ih : GetsTy f) {w : World} {b off len cap : Nat} {zs : List Int} (h : BRow w b off len cap zs) (hb : b < w.heap.size) (hT : Tab w) (hsm : len ≤ 140737488351232) {Y : Res Ty} (hY : Y = udtR (tyR f) zs) (p : Int) (hp : p = 20 - f) :
    Calls Tryd.prog 91 #[.slice (some ⟨b, off, none⟩) len cap, .int .i64 p] w fun e w' => ∃ r lr cr na nl nc ka kl kc, e = .returned (.tuple #[.agg #[.int .u16 Y.val.id, .string Y.val.space, .string Y.val.name, .slice na nl nc, .slice ka kl kc], .slice r lr cr, .int .i64 Y.err]) ∧
      Hid (TyAt f (New w.heap.size w') w' Y.val na nl nc ka kl kc) ∧ Hid (Rest w' b r lr cr zs Y.done Y.err) ∧ Below w.heap.size w w' := by
  have hz := h.len_eq
  have hp1 : 0 ≤ p := by omega
  have hp2 : p ≤ 20 := by omega
  have HP : Hid (p + 1 = 21 - f) := by show _ = _; omega
  have HLM : Hid (zs.length ≤ 140737488351232) := by show _ ≤ _; omega
  have H : Hid (BRow w b off len cap zs) := h
  have HT : Hid (Tab w) := hT
  have IH : Hid (GetsTy f) := ih
  obtain ⟨A, hA⟩ : ∃ A, A = textR zs := ⟨_, rfl⟩
  obtain ⟨C, hC⟩ : ∃ C, C = textR (zs.drop A.done) := ⟨_, rfl⟩
  rw [udtR, ← hA, ← hC] at hY
  have HY : Hid _ := hY
  have HA : Hid _ := hA
  have HC : Hid _ := hC
  clear h hz hT hp hY hA hC ih
  go_enter Tryd.func91, Tryd.ntmps91
  go_wp2_with fail
  refine (getText_r (H.out.old (below_one _ _)).isB hsm HA.out).mono ?_
  rintro e w1 ⟨r1, lr1, cr1, rfl, HB1, hB1⟩
  by_cases he1 : A.err = 0
  · obtain ⟨hd1, off1, rfl, hR1⟩ := HB1.out.row he1
    have HR1 : Hid (BRow w1 b off1 lr1 cr1 (zs.drop A.done)) := hR1
    have HD1 : Hid _ := hd1
    have HL1 : Hid (lr1 ≤ 140737488351232) := by show _ ≤ _; have := HLM.out; rw [hR1.len_le, List.length_drop]; omega
    clear hR1 hd1
    rw [he1]
    go_wp2_with fail
    refine (getText_r HR1.out.isB HL1.out HC.out).mono ?_
    rintro e w2 ⟨r2, lr2, cr2, rfl, HB2, hB2a⟩
    have hB2 := hB1.trans (hB2a.mono hB1.size)
    by_cases he2 : C.err = 0
    · obtain ⟨hd2, off2, rfl, hR2⟩ := HB2.out.row he2
      rw [List.drop_drop] at hR2
      rw [List.length_drop] at hd2
      obtain ⟨D, hD⟩ : ∃ D, D = A.done + C.done := ⟨_, rfl⟩
      rw [← hD] at hR2
      have HR2 : Hid (BRow w2 b off2 lr2 cr2 (zs.drop D)) := hR2
      have HD : Hid _ := hD
      have HDL : Hid (D ≤ zs.length) := by show _ ≤ _; have := HD1.out; omega
      have HLL : Hid (lr2 = (zs.drop D).length) := hR2.len_le
      clear hR2 hd2 hD
      by_cases hl3 : lr2 < 2
      · have HE : Hid (Y = ⟨tyNil, 0, 10⟩) := by
          show _ = _
          rw [HY.out, if_pos he1, if_pos he2, ← HD.out, if_pos (by rw [← HLL.out]; exact hl3)]
        have HNE : Hid ((10 : Int) ≠ 0) := (by decide : (10 : Int) ≠ 0)
        rw [he2]
        go_wp2_with fail
        refine (bget_short _ lr2 cr2 2 _ (by omega) (by omega) hl3 _ rfl).mono ?_
        rintro e w3 ⟨rfl, rfl⟩
        obtain ⟨hc, hf⟩ := bcell hB2
        have hs : w.heap.size < w3.heap.size := by have := hB2.size; simp at this; omega
        go_wp2_with fail
        exact bodyPost_ret (v := .tuple #[.agg #[.int .u16 0, .string ⟨#[]⟩, .string ⟨#[]⟩, .slice none 0 0, .slice none 0 0], .slice none 0 0, .int .i64 10]) (by simp [results, Tryd.results91, go_sem, hc, hs]) rfl
          ⟨none, 0, 0, none, 0, 0, none, 0, 0, by rw [HE.out]; rfl, by rw [HE.out]; exact tyAt_nil _ _ _, by rw [HE.out]; exact .inl ⟨HNE.out, rfl⟩, ((below_one w _).trans (hB2.mono (by simp))).trans ((below_five _ _ _ _ _ _ _).mono (Nat.le_refl _))⟩
      · obtain ⟨N, hN⟩ := Int.eq_ofNat_of_zero_le (numTo_bound (zs.drop D) HR2.out.rng 2 (by have := HLL.out; omega)).1
        have hN2 := (numTo_bound (zs.drop D) HR2.out.rng 2 (by have := HLL.out; omega)).2
        rw [hN] at hN2
        have hN3 : N < 65536 := by have h4 : (256 : Int) ^ 2 = 65536 := by decide
                                   omega
        obtain ⟨G, hG⟩ : ∃ G, G = goR (fieldR (tyR f)) zs N (D + 2) [] := ⟨_, rfl⟩
        have HY2 : Hid (Y = if G.err = 0 then ⟨⟨48, A.val, C.val, G.val.map (·.1), G.val.map (·.2)⟩, G.done, 0⟩ else ⟨tyNil, 0, G.err⟩) := by
          show _ = _
          rw [HY.out, if_pos he1, if_pos he2, ← HD.out, if_neg (by rw [← HLL.out]; exact hl3), hG]
          simp only [hN, Int.toNat_natCast]
        have HG : Hid _ := hG
        have HN : Hid (numTo (zs.drop D) 2 = N) := hN
        have HSZ : Hid (A.val.size ≤ maxLen ∧ C.val.size ≤ maxLen) := by
          have := HLM.out
          exact ⟨by rw [HA.out]; exact textR_size _ (by unfold maxLen; omega), by rw [HC.out]; exact textR_size _ (by unfold maxLen; rw [List.length_drop]; omega)⟩
        clear hN hN2 hG
        rw [he2]
        go_wp2_with fail
        refine (bget HR2.out 2 (by omega) (by omega) (by omega) _ rfl).mono ?_
        rintro e w3 ⟨off3, rfl, hR3, hB3a⟩
        have hB3 := hB2.trans (hB3a.mono hB2.size)
        rw [List.drop_drop] at hR3
        rw [HN.out]
        have HR3 : Hid (BRow w3 b off3 (lr2 - 2) (cr2 - 2) (zs.drop (D + 2))) := hR3
        have hs3 : w.heap.size < w3.heap.size := by have := hB3.size; simp at this; omega
        have HT3 : Hid (Tab w3) := HT.out.old ((below_one w _).trans (hB3.mono (by simp)))
        have HB3 : Hid (Below (w.alloc zeroOb).heap.size (w.alloc zeroOb) w3) := hB3
        clear hR3 hB3a hB1 hB2 hB2a
        go_wp2_with fail
        go_loopw [8, 49] (fun r i wr => ∃ k d off lr cr ns ks vn vk, k ≤ N ∧ i = .int .u64 k ∧ r = .slice (some ⟨b, off, none⟩) lr cr ∧ Hid (BRow wr b off lr cr (zs.drop d)) ∧ Hid (d ≤ zs.length) ∧ Hid (OBox wr w3.heap.size A.val C.val vn vk) ∧
            Hid (OwnS wr (w3.heap.size + 1) vn vk ns) ∧ Hid (OwnK f wr (w3.heap.size + 1) vk vn ks) ∧ ns.length = k ∧ ks.length = k ∧ Hid (goR (fieldR (tyR f)) zs (N - k) d (ns.zip ks) = G) ∧ Below w3.heap.size w3 wr ∧ w3.heap.size + 1 ≤ wr.heap.size) (fun _ i _ => N - (intOf i).toNat)
        case atStart => exact ⟨0, D + 2, off3, _, _, [], [], _, _, by omega, rfl, rfl, HR3.out.old (below_one _ _), (by have := HLL.out; rw [List.length_drop] at this; show _ ≤ _; omega), OBox.start _ _ _, ownS_nil _ _ _, ownK_nil _ _ _ _, rfl, rfl, HG.out.symm, below_one _ _, by simp⟩
        case round =>
          obtain ⟨k, d, off', lr, cr, ns, ks, vn, vk, hk, rfl, rfl, HR, HDd, HOB, HOS, HOK, hns, hks, HGO, hBr, hsr⟩ := hrel
          have hbw : b < w3.heap.size := by omega
          by_cases hlt : k < N
          · obtain ⟨X, hX⟩ : ∃ X, X = textR (zs.drop d) := ⟨_, rfl⟩
            obtain ⟨Z, hZ⟩ : ∃ Z, Z = tyR f (zs.drop (d + X.done)) := ⟨_, rfl⟩
            have HX : Hid _ := hX
            have HZ : Hid _ := hZ
            have HFR : Hid (fieldR (tyR f) (zs.drop d) = if X.err = 0 then if Z.err = 0 then ⟨(X.val, Z.val), X.done + Z.done, 0⟩ else ⟨(ByteArray.empty, tyNil), 0, Z.err⟩ else ⟨(ByteArray.empty, tyNil), 0, X.err⟩) := by
              show _ = _
              rw [fieldR, ← hX, List.drop_drop, ← hZ]
            have HLR : Hid (lr ≤ 140737488351232) := by show _ ≤ _; have := HLM.out; rw [HR.out.len_le, List.length_drop]; omega
            have HXS : Hid (X.val.size ≤ maxLen) := by show _ ≤ _; have := HLM.out; rw [hX]; exact textR_size _ (by unfold maxLen; rw [List.length_drop]; omega)
            clear hX hZ
            go_wp2_with fail
            refine (getText_r HR.out.isB HLR.out HX.out).mono ?_
            rintro e w4 ⟨r4, lr4, cr4, rfl, HB4, hB4⟩
            have hB34 : Below w3.heap.size w3 w4 := hBr.trans (hB4.mono hBr.size)
            by_cases he4 : X.err = 0
            · obtain ⟨hd4, off4, rfl, hR4⟩ := HB4.out.row he4
              rw [List.drop_drop] at hR4
              rw [List.length_drop] at hd4
              have HD4 : Hid (d + X.done ≤ zs.length) := by show _ ≤ _; have := HDd.out; omega
              have HR4 : Hid (BRow w4 b off4 lr4 cr4 (zs.drop (d + X.done))) := hR4
              have HLR4 : Hid (lr4 ≤ 140737488351232) := by show _ ≤ _; have := HLM.out; rw [hR4.len_le, List.length_drop]; omega
              have hbs4 := hB4.size
              have h34 : w3.heap.size < w4.heap.size := by omega
              clear hR4 hd4
              rw [he4]
              go_wp2_with fail
              refine (IH.out _ _ lr4 cr4 _ (HR4.out.old (below_one _ _)).isB ((HT3.out.old hB34).old (below_one _ _)) HLR4.out Z HZ.out _ HP.out).mono ?_
              rintro e w5 ⟨r5, lr5, cr5, na, nl, nc, ka, kl, kc, rfl, HTY, HB5, hB5⟩
              have hs5 := hB5.size
              simp at hs5
              obtain ⟨hc5, hf5⟩ := bcell hB5
              have hs45 : w4.heap.size < w5.heap.size := by omega
              have hB45 : Below w4.heap.size w4 w5 := (below_one w4 _).trans (hB5.mono (by simp))
              have hBr5 : Below wr.heap.size wr w5 := hB4.trans (hB45.mono hbs4)
              by_cases he5 : Z.err = 0
              · obtain ⟨hd5, off5, rfl, hR5⟩ := HB5.out.row he5
                rw [List.drop_drop] at hR5
                rw [List.length_drop] at hd5
                have HD5 : Hid (d + X.done + Z.done ≤ zs.length) := by show _ ≤ _; have := HD4.out; omega
                have HR5 : Hid (BRow w5 b off5 lr5 cr5 (zs.drop (d + X.done + Z.done))) := hR5
                have HGO2 : Hid (goR (fieldR (tyR f)) zs (N - (k + 1)) (d + (X.done + Z.done)) (ns.zip ks ++ [(X.val, Z.val)]) = G) := by
                  have hfr := HFR.out
                  rw [if_pos he4, if_pos he5] at hfr
                  have := goR_step HGO.out hlt (by rw [hfr])
                  rw [hfr] at this
                  exact this
                obtain ⟨f', hf'⟩ : ∃ f', f = f' + 1 := by
                  cases f with
                  | zero => rw [HZ.out] at he5; exact absurd (show (13 : Int) = 0 from he5) (by decide)
                  | succ f' => exact ⟨f', rfl⟩
                have HF' : Hid _ := hf'
                clear hf' hR5 hd5
                -- the world with the kid in its box
                obtain ⟨w6, hw6⟩ : ∃ w6, w6 = five w5 w4.heap.size (.int .u16 Z.val.id) (.string Z.val.space) (.string Z.val.name) (.slice na nl nc) (.slice ka kl kc) := ⟨_, rfl⟩
                have hbl : ∀ q, q ≠ w4.heap.size → w6.heap[q]? = w5.heap[q]? := fun q hq => by rw [hw6]; exact five_heap _ _ _ _ _ _ _ q hq
                have hsz6 : w6.heap.size = w5.heap.size := by rw [hw6]; exact five_size _ _ _ _ _ _ _
                have HW6 : Hid _ := hw6
                have HBL : Hid _ := hbl
                have hob := HOB.out.lt
                have HOB6 : Hid (OBox w6 w3.heap.size A.val C.val vn vk) := HOB.out.keep (by rw [hbl _ (by omega)]; exact hBr5.block _ hob) (by rw [hsz6]; exact hBr5.size)
                have HOS6 : Hid (OwnS w6 (w3.heap.size + 1) vn vk ns) := HOS.out.keep (fun q _ hq _ => by rw [hbl _ (by omega)]; exact hBr5.block q hq) (fun _ _ e => e)
                have HOK6 : Hid (OwnK f w6 (w3.heap.size + 1) vk vn ks) := HOK.out.keep (fun q _ hq _ => by rw [hbl _ (by omega)]; exact hBr5.block q hq) (by rw [hsz6]; exact hBr5.size) (fun _ _ e => e)
                have hB36 : Below w3.heap.size w3 w6 := (hB34.trans (hB45.mono hB34.size)).trans (by rw [hw6]; exact (below_five _ _ _ _ _ _ _).mono hB34.size)
                have HTY6 : Hid (TyAt (f - 1) (New (w4.heap.size + 1) w5) w6 Z.val na nl nc ka kl kc) := by
                  refine HTY.out.mono (fun q hq hF => ?_) (by rw [hsz6]; exact Nat.le_refl _)
                  have hF1 : w4.heap.size + 1 ≤ q := by have := hF.1; simpa using this
                  exact ⟨⟨hF1, hq⟩, hbl q (by omega)⟩
                have HR6 : Hid (BRow w6 b off5 lr5 cr5 (zs.drop (d + X.done + Z.done))) := by
                  show BRow _ _ _ _ _ _
                  rw [hw6]
                  exact HR5.out.below (below_five _ _ _ _ _ _ _) (fun _ => by omega)
                have k0 : w6.cell? ⟨w4.heap.size, 0, .none⟩ = some (.int .u16 Z.val.id) := by rw [hw6]; simp [five, go_sem, hc5, hs45]
                have k1 : w6.cell? ⟨w4.heap.size, 1, .none⟩ = some (.string Z.val.space) := by rw [hw6]; simp [five, go_sem, hc5, hs45]
                have k2 : w6.cell? ⟨w4.heap.size, 2, .none⟩ = some (.string Z.val.name) := by rw [hw6]; simp [five, go_sem, hc5, hs45]
                have k3 : w6.cell? ⟨w4.heap.size, 3, .none⟩ = some (.slice na nl nc) := by rw [hw6]; simp [five, go_sem, hc5, hs45]
                have k4 : w6.cell? ⟨w4.heap.size, 4, .none⟩ = some (.slice ka kl kc) := by rw [hw6]; simp [five, go_sem, hc5, hs45]
                have hL6 : ((((w5.setCell ⟨w4.heap.size, 0, .none⟩ (.int .u16 Z.val.id)).setCell ⟨w4.heap.size, 1, .none⟩ (.string Z.val.space)).setCell ⟨w4.heap.size, 2, .none⟩ (.string Z.val.name)).setCell ⟨w4.heap.size, 3, .none⟩ (.slice na nl nc)).setCell ⟨w4.heap.size, 4, .none⟩ (.slice ka kl kc) = w6 := hw6.symm
                have c63 := HOB6.out.c3
                have f63 := HOB6.out.f3
                have hs6a : w6.heap.size ≤ w5.heap.size := by omega
                have hs6b : w5.heap.size ≤ w6.heap.size := by omega
                clear hw6 hbl hsz6
                rw [he5]
                go_wp2_with (at_builtin; refine wpList_append_name (base := w3.heap.size + 1) (v := vn) (u := vk) (ss := ns) rfl (.tmp 74) (.tmp 76) rfl rfl ?c0 rfl (heap_alloc_new w6 _) HXS.out ?c3 ?c4 ?c5 ?_)
                case c0 => exact HOS6.out.old (below_one _ _)
                case c3 => intro q hq; have := (HOK6.out.lt q hq).2; simp; omega
                case c4 => omega
                case c5 => simp; omega
                intro v7 w7 HOS7 HG7 HM7
                have hfar : ∀ q, q ≤ w3.heap.size → vn.ownBlock ≠ some q := fun q hq e => by have := (HOS.out.lt q e).1; omega
                have hfar2 : ∀ q, w4.heap.size ≤ q → vn.ownBlock ≠ some q := fun q hq e => by have := (HOS.out.lt q e).2; omega
                have hbl7 : ∀ q, q < w6.heap.size → vn.ownBlock ≠ some q → w7.heap[q]? = w6.heap[q]? := fun q hq hne => by
                  rw [HG7.out.block q (by simp; omega) (fun e => hne e.symm)]; exact (below_one w6 _).block q hq
                have hs7 := HG7.out.size
                simp at hs7
                have HOB7 : Hid (OBox w7 w3.heap.size A.val C.val vn vk) := HOB6.out.keep (hbl7 _ HOB6.out.lt (hfar _ (Nat.le_refl _))) (by omega)
                have HOK7 : Hid (OwnK f w7 (w3.heap.size + 1) vk v7 ks) := (HOK6.out.old (below_one _ _)).other HG7.out HM7.out
                have HTY7 : Hid (TyAt (f - 1) (New (w4.heap.size + 1) w5) w7 Z.val na nl nc ka kl kc) := by
                  refine HTY6.out.mono (fun q hq hF => ⟨hF, hbl7 q hq (hfar2 q (by have := hF.1; omega))⟩) (by omega)
                have hkb : w4.heap.size < w6.heap.size := by omega
                have hcb : ∀ j, w7.cell? ⟨w4.heap.size, j, .none⟩ = w6.cell? ⟨w4.heap.size, j, .none⟩ := fun j => World.cell?_of_block (w := w6) (w' := w7) (a := ⟨w4.heap.size, j, .none⟩) (hbl7 _ hkb (hfar2 _ (Nat.le_refl _)))
                have hB37 : Below w3.heap.size w3 w7 := (hB36.trans ((below_one w6 _).mono (by omega))).grown HG7.out (by simp; omega) (fun q hq => by have := (HOS.out.lt q hq).1; omega)
                have HR7 : Hid (BRow w7 b off5 lr5 cr5 (zs.drop (d + X.done + Z.done))) :=
                  (HR6.out.old (below_one w6 _)).below (base := w3.heap.size) ((Below.refl _ _).grown HG7.out (by simp; omega) (fun q hq => by have := (HOS.out.lt q hq).1; omega)) (fun _ => hbw)
                obtain ⟨a7, c7, hv7, hsee7⟩ := HOS7.out.sees
                obtain ⟨L7, hL7⟩ : ∃ L7, L7 = (ns ++ [X.val]).length := ⟨_, rfl⟩
                rw [← hL7] at hv7
                subst hv7
                obtain ⟨w8, hw8⟩ : ∃ w8, w8 = w7.setCell ⟨w3.heap.size, 3, .none⟩ (.slice a7 L7 c7) := ⟨_, rfl⟩
                have hne8 : ∀ q, q ≠ w3.heap.size → w8.heap[q]? = w7.heap[q]? := fun q hq => by rw [hw8]; exact Below.heap_setCell _ _ _ _ (by exact hq)
                have hs8 : w8.heap.size = w7.heap.size := by rw [hw8]; simp
                have HOB8 : Hid (OBox w8 w3.heap.size A.val C.val (.slice a7 L7 c7) vk) := by show OBox _ _ _ _ _ _; rw [hw8]; exact HOB7.out.set3 _
                have HOK8 : Hid (OwnK f w8 (w3.heap.size + 1) vk (.slice a7 L7 c7) ks) := by show OwnK _ _ _ _ _ _; rw [hw8]; exact HOK7.out.set (by omega) _
                have HOS8 : Hid (OwnS w8 (w3.heap.size + 1) (.slice a7 L7 c7) vk (ns ++ [X.val])) := by show OwnS _ _ _ _ _; rw [hw8]; exact HOS7.out.set (by omega) _
                have HTY8 : Hid (TyAt (f - 1) (New (w4.heap.size + 1) w5) w8 Z.val na nl nc ka kl kc) :=
                  HTY7.out.mono (fun q hq hF => ⟨hF, hne8 q (by have := hF.1; omega)⟩) (by omega)
                have hcb8 : ∀ j, w8.cell? ⟨w4.heap.size, j, .none⟩ = w6.cell? ⟨w4.heap.size, j, .none⟩ := fun j => (World.cell?_of_block (w := w7) (w' := w8) (a := ⟨w4.heap.size, j, .none⟩) (hne8 w4.heap.size (by omega))).trans (hcb j)
                have hB38 : Below w3.heap.size w3 w8 := by rw [hw8]; exact hB37.setCell (p := ⟨w3.heap.size, 3, .none⟩) (Nat.le_refl _) _
                have HR8 : Hid (BRow w8 b off5 lr5 cr5 (zs.drop (d + X.done + Z.done))) := by
                  show BRow _ _ _ _ _ _
                  rw [hw8]; exact HR7.out.below ((Below.refl w3.heap.size w7).setCell (p := ⟨w3.heap.size, 3, .none⟩) (Nat.le_refl _) _) (fun _ => hbw)
                have m0 := (hcb8 0).trans k0
                have m1 := (hcb8 1).trans k1
                have m2 := (hcb8 2).trans k2
                have m3 := (hcb8 3).trans k3
                have m4 := (hcb8 4).trans k4
                have c73 := HOB7.out.c3
                have f73 := HOB7.out.f3
                have c84 := HOB8.out.c4
                have hL8 : w7.setCell ⟨w3.heap.size, 3, .none⟩ (.slice a7 L7 c7) = w8 := hw8.symm
                have HVL : Hid (∀ q, (Value.slice a7 L7 c7).ownBlock = some q → q < w8.heap.size) := fun q hq => (HOS8.out.lt q hq).2
                have HL7 : Hid _ := hL7
                have hs8a : w8.heap.size ≤ w7.heap.size := by omega
                have hs8b : w7.heap.size ≤ w8.heap.size := by omega
                clear hs8
                clear hw8 hne8 hcb hcb8 hbl7 hfar hfar2 k0 k1 k2 k3 k4 hL6 c63 f63 hL7 hsee7
                go_wp2_with (at_builtin; refine wpList_append_kid (n := f) (base := w3.heap.size + 1) (v := vk) (u := .slice a7 L7 c7) (xs := ks) (news := [.int .u16 Z.val.id, .string Z.val.space, .string Z.val.name, .slice na nl nc, .slice ka kl kc]) rfl (.tmp 80) (.tmp 82) rfl rfl ?d0 rfl (heap_alloc_new w8 _) rfl (five_one _ _ _ _ _ _ _ _ _) Z.val ?d2 ?d3 ?d4 ?d5 ?_)
                case d0 => exact HOK8.out.old (below_one _ _)
                case d2 =>
                  have h1 := (HF'.out ▸ HTY8.out : TyAt (f' + 1 - 1) (New (w4.heap.size + 1) w5) w8 Z.val na nl nc ka kl kc).vt
                  rw [Nat.add_sub_cancel, ← HF'.out] at h1
                  refine VT.mono (fun q hq hF => ?_) (by simp) h1
                  have hF1 : w4.heap.size + 1 ≤ q := hF.1
                  have h2 : vk.ownBlock ≠ some q := fun e => by have := (HOK.out.lt q e).2; omega
                  have h3 : (Value.slice a7 L7 c7).ownBlock ≠ some q := fun e => by
                    rcases HM7.out with hm | ⟨g, hg, hl⟩
                    · rw [hm] at e
                      have := (HOS.out.lt q e).2
                      omega
                    · rw [hg] at e; cases e
                      simp at hl
                      have := hF.2
                      omega
                  exact ⟨⟨by omega, by simp; omega, h2, h3⟩, (below_one w8 _).block q hq⟩
                case d3 => intro q hq; have := HVL.out q hq; simp; omega
                case d4 => omega
                case d5 => simp; omega
                intro v9 w9 HOK9 HG9 HM9
                have hfar : ∀ q, q ≤ w3.heap.size → vk.ownBlock ≠ some q := fun q hq e => by have := (HOK.out.lt q e).1; omega
                have hbl9 : ∀ q, q < w8.heap.size → vk.ownBlock ≠ some q → w9.heap[q]? = w8.heap[q]? := fun q hq hne => by
                  rw [HG9.out.block q (by simp; omega) (fun e => hne e.symm)]; exact (below_one w8 _).block q hq
                have hs9 := HG9.out.size
                simp at hs9
                have HOB9 : Hid (OBox w9 w3.heap.size A.val C.val (.slice a7 L7 c7) vk) := HOB8.out.keep (hbl9 _ HOB8.out.lt (hfar _ (Nat.le_refl _))) (by omega)
                have HOS9 : Hid (OwnS w9 (w3.heap.size + 1) (.slice a7 L7 c7) v9 (ns ++ [X.val])) := (HOS8.out.old (below_one _ _)).other HG9.out HM9.out
                have hB39 : Below w3.heap.size w3 w9 := (hB38.trans ((below_one w8 _).mono (by omega))).grown HG9.out (by simp; omega) (fun q hq => by have := (HOK.out.lt q hq).1; omega)
                have HR9 : Hid (BRow w9 b off5 lr5 cr5 (zs.drop (d + X.done + Z.done))) :=
                  (HR8.out.old (below_one w8 _)).below (base := w3.heap.size) ((Below.refl _ _).grown HG9.out (by simp; omega) (fun q hq => by have := (HOK.out.lt q hq).1; omega)) (fun _ => hbw)
                obtain ⟨a9, c9, hv9, hsee9⟩ := HOK9.out.sees
                obtain ⟨L9, hL9⟩ : ∃ L9, L9 = (ks ++ [Z.val]).length := ⟨_, rfl⟩
                rw [← hL9] at hv9
                subst hv9
                obtain ⟨w10, hw10⟩ : ∃ w10, w10 = w9.setCell ⟨w3.heap.size, 4, .none⟩ (.slice a9 L9 c9) := ⟨_, rfl⟩
                have hs10 : w9.heap.size ≤ w10.heap.size := by rw [hw10]; simp
                have HOB10 : Hid (OBox w10 w3.heap.size A.val C.val (.slice a7 L7 c7) (.slice a9 L9 c9)) := by show OBox _ _ _ _ _ _; rw [hw10]; exact HOB9.out.set4 _
                have HOK10 : Hid (OwnK f w10 (w3.heap.size + 1) (.slice a9 L9 c9) (.slice a7 L7 c7) (ks ++ [Z.val])) := by show OwnK _ _ _ _ _ _; rw [hw10]; exact HOK9.out.set (by omega) _
                have HOS10 : Hid (OwnS w10 (w3.heap.size + 1) (.slice a7 L7 c7) (.slice a9 L9 c9) (ns ++ [X.val])) := by show OwnS _ _ _ _ _; rw [hw10]; exact HOS9.out.set (by omega) _
                have hB310 : Below w3.heap.size w3 w10 := by rw [hw10]; exact hB39.setCell (p := ⟨w3.heap.size, 4, .none⟩) (Nat.le_refl _) _
                have HR10 : Hid (BRow w10 b off5 lr5 cr5 (zs.drop (d + (X.done + Z.done)))) := by
                  show BRow _ _ _ _ _ _
                  rw [← Nat.add_assoc, hw10]; exact HR9.out.below ((Below.refl w3.heap.size w9).setCell (p := ⟨w3.heap.size, 4, .none⟩) (Nat.le_refl _) _) (fun _ => hbw)
                have HGO3 : Hid (goR (fieldR (tyR f)) zs (N - (k + 1)) (d + (X.done + Z.done)) ((ns ++ [X.val]).zip (ks ++ [Z.val])) = G) := by
                  show _ = _
                  rw [List.zip_append (by omega)]
                  exact HGO2.out
                have hL10 : w9.setCell ⟨w3.heap.size, 4, .none⟩ (.slice a9 L9 c9) = w10 := hw10.symm
                have c94 := HOB9.out.c4
                have f94 := HOB9.out.f4
                clear hw10 hbl9 hfar hL9 hsee9 m0 m1 m2 m3 m4 hL8 c73 f73 c84
                go_wp2_with fail
                go_roundw
                case rel => exact ⟨k + 1, d + (X.done + Z.done), off5, lr5, cr5, ns ++ [X.val], ks ++ [Z.val], _, _, by omega, by go_num, rfl, HR10, (by have := HD5.out; show _ ≤ _; omega), HOB10, HOS10, HOK10, by simp [hns], by simp [hks], HGO3, hB310, by omega⟩
                case measure => simp [intOf]; omega
              · have t5 : (Z.err == 0) = false := by simpa using he5
                have HE : Hid (Y = ⟨tyNil, 0, Z.err⟩) := by
                  have hfr := HFR.out
                  rw [if_pos he4, if_neg he5] at hfr
                  have := goR_stop HGO.out hlt (by rw [hfr]; exact he5)
                  rw [hfr] at this
                  show _ = _
                  rw [HY2.out, this, if_neg (by exact he5)]
                have HNE : Hid (Z.err ≠ 0) := he5
                obtain ⟨w6, hw6⟩ : ∃ w6, w6 = five w5 w4.heap.size (.int .u16 Z.val.id) (.string Z.val.space) (.string Z.val.name) (.slice na nl nc) (.slice ka kl kc) := ⟨_, rfl⟩
                have hB36 : Below w3.heap.size w3 w6 := (hB34.trans (hB45.mono hB34.size)).trans (by rw [hw6]; exact (below_five _ _ _ _ _ _ _).mono hB34.size)
                have hBx : Below (w.alloc zeroOb).heap.size (w.alloc zeroOb) w6 := HB3.out.trans (hB36.mono HB3.out.size)
                have hL6 : ((((w5.setCell ⟨w4.heap.size, 0, .none⟩ (.int .u16 Z.val.id)).setCell ⟨w4.heap.size, 1, .none⟩ (.string Z.val.space)).setCell ⟨w4.heap.size, 2, .none⟩ (.string Z.val.name)).setCell ⟨w4.heap.size, 3, .none⟩ (.slice na nl nc)).setCell ⟨w4.heap.size, 4, .none⟩ (.slice ka kl kc) = w6 := hw6.symm
                clear he5 hw6
                obtain ⟨hc, hf⟩ := bcell hBx
                have hs : w.heap.size < w6.heap.size := by have := hBx.size; simp at this; omega
                go_wp2_with fail
                exact bodyPost_ret (v := .tuple #[.agg #[.int .u16 0, .string ⟨#[]⟩, .string ⟨#[]⟩, .slice none 0 0, .slice none 0 0], .slice none 0 0, .int .i64 Z.err]) (by simp [results, Tryd.results91, go_sem, hc, hs]) rfl
                  ⟨none, 0, 0, none, 0, 0, none, 0, 0, by rw [HE.out]; rfl, by rw [HE.out]; exact tyAt_nil _ _ _, by rw [HE.out]; exact .inl ⟨HNE.out, rfl⟩, ((below_one w _).trans (hBx.mono (by simp))).trans ((below_five _ _ _ _ _ _ _).mono (Nat.le_refl _))⟩
            · have t4 : (X.err == 0) = false := by simpa using he4
              have HE : Hid (Y = ⟨tyNil, 0, X.err⟩) := by
                have hfr := HFR.out
                rw [if_neg he4] at hfr
                have := goR_stop HGO.out hlt (by rw [hfr]; exact he4)
                rw [hfr] at this
                show _ = _
                rw [HY2.out, this, if_neg (by exact he4)]
              have HNE : Hid (X.err ≠ 0) := he4
              have hBx : Below (w.alloc zeroOb).heap.size (w.alloc zeroOb) w4 := HB3.out.trans (hB34.mono HB3.out.size)
              clear he4
              obtain ⟨hc, hf⟩ := bcell hBx
              have hs : w.heap.size < w4.heap.size := by have := hBx.size; simp at this; omega
              go_wp2_with fail
              exact bodyPost_ret (v := .tuple #[.agg #[.int .u16 0, .string ⟨#[]⟩, .string ⟨#[]⟩, .slice none 0 0, .slice none 0 0], .slice none 0 0, .int .i64 X.err]) (by simp [results, Tryd.results91, go_sem, hc, hs]) rfl
                ⟨none, 0, 0, none, 0, 0, none, 0, 0, by rw [HE.out]; rfl, by rw [HE.out]; exact tyAt_nil _ _ _, by rw [HE.out]; exact .inl ⟨HNE.out, rfl⟩, ((below_one w _).trans (hBx.mono (by simp))).trans ((below_five _ _ _ _ _ _ _).mono (Nat.le_refl _))⟩
          · have HOBB := HOB.out
            have HE := goR_end HGO.out (by omega)
            obtain ⟨an, cn, hvn, hSn⟩ := (HOS.out).sees
            obtain ⟨ak, ck, hvk, hSk⟩ := (HOK.out).sees
            obtain ⟨ln, hln⟩ : ∃ ln, ln = ns.length := ⟨_, rfl⟩
            obtain ⟨lk, hlk⟩ : ∃ lk, lk = ks.length := ⟨_, rfl⟩
            rw [← hln] at hvn hSn
            rw [← hlk] at hvk hSk
            subst hvn hvk
            have HYE : Hid (Y = ⟨⟨48, A.val, C.val, ns, ks⟩, d, 0⟩) := by
              show _ = _
              rw [HY2.out, HE, if_pos (by rfl)]
              simp only [Res.mk.injEq, Ty.mk.injEq, true_and, and_true]
              exact ⟨List.map_fst_zip (by omega), List.map_snd_zip (by omega)⟩
            obtain ⟨o0, o1, o2, o3, o4, _, _, _⟩ := HOBB
            have HSn : Hid (Sees 1 (fun q => w3.heap.size + 1 ≤ q ∧ q < wr.heap.size) VS wr an ln cn ns) := hSn
            have HSk : Hid (Sees 5 (fun q => w3.heap.size + 1 ≤ q ∧ q < wr.heap.size) (VT f (fun q => w3.heap.size + 1 ≤ q ∧ q < wr.heap.size) wr) wr ak lk ck ks) := hSk
            have hBx : Below (w.alloc zeroOb).heap.size (w.alloc zeroOb) wr := HB3.out.trans (hBr.mono HB3.out.size)
            obtain ⟨hc, hf⟩ := bcell hBx
            have hs : w.heap.size < wr.heap.size := by omega
            clear HE hSn hSk hln hlk
            go_wp2_with fail
            refine bodyPost_ret (v := .tuple #[.agg #[.int .u16 48, .string A.val, .string C.val, .slice an ln cn, .slice ak lk ck], .slice (some ⟨b, off', none⟩) lr cr, .int .i64 0]) (by simp [results, Tryd.results91, go_sem, hc, hs]) rfl
              ⟨some ⟨b, off', none⟩, lr, cr, an, ln, cn, ak, lk, ck, by rw [HYE.out], ?_, by rw [HYE.out]; exact .inr ⟨rfl, HDd.out, off', rfl, HR.out.below (below_five _ _ _ _ _ _ _) (fun _ => hb)⟩, ((below_one w _).trans (hBx.mono (by simp))).trans ((below_five _ _ _ _ _ _ _).mono (Nat.le_refl _))⟩
            rw [HYE.out]
            refine ⟨⟨by show (0 : Int) ≤ 48; decide, by show (48 : Int) < 65536; decide⟩, HSZ.out.1, HSZ.out.2, HSn.out.mono (fun q hq hF => ?_) ?_ (fun _ _ _ h => h), HSk.out.mono (fun q hq hF => ?_) ?_ (fun _ _ _ h => VT.mono (fun q hq hF => ?_) ?_ h)⟩
            · exact ⟨⟨by have := hF.1; omega, by have := five_size wr w.heap.size (.int .u16 48) (.string A.val) (.string C.val) (.slice an ln cn) (.slice ak lk ck); show q < (five _ _ _ _ _ _ _).heap.size; omega⟩, five_heap _ _ _ _ _ _ _ q (by have := hF.1; omega)⟩
            · simp
            · exact ⟨⟨by have := hF.1; omega, by have := five_size wr w.heap.size (.int .u16 48) (.string A.val) (.string C.val) (.slice an ln cn) (.slice ak lk ck); show q < (five _ _ _ _ _ _ _).heap.size; omega⟩, five_heap _ _ _ _ _ _ _ q (by have := hF.1; omega)⟩
            · simp
            · exact ⟨⟨by have := hF.1; omega, by have := five_size wr w.heap.size (.int .u16 48) (.string A.val) (.string C.val) (.slice an ln cn) (.slice ak lk ck); show q < (five _ _ _ _ _ _ _).heap.size; omega⟩, five_heap _ _ _ _ _ _ _ q (by have := hF.1; omega)⟩
            · simp
    · have t2 : (C.err == 0) = false := by simpa using he2
      have HE : Hid (Y = ⟨tyNil, 0, C.err⟩) := by
        show _ = _
        rw [HY.out, if_pos he1, if_neg he2]
      have HNE : Hid (C.err ≠ 0) := he2
      clear he2
      obtain ⟨hc, hf⟩ := bcell hB2
      have hs : w.heap.size < w2.heap.size := by have := hB2.size; simp at this; omega
      go_wp2_with fail
      exact bodyPost_ret (v := .tuple #[.agg #[.int .u16 0, .string ⟨#[]⟩, .string ⟨#[]⟩, .slice none 0 0, .slice none 0 0], .slice none 0 0, .int .i64 C.err]) (by simp [results, Tryd.results91, go_sem, hc, hs]) rfl
        ⟨none, 0, 0, none, 0, 0, none, 0, 0, by rw [HE.out]; rfl, by rw [HE.out]; exact tyAt_nil _ _ _, by rw [HE.out]; exact .inl ⟨HNE.out, rfl⟩, ((below_one w _).trans (hB2.mono (by simp))).trans ((below_five _ _ _ _ _ _ _).mono (Nat.le_refl _))⟩
  · have t1 : (A.err == 0) = false := by simpa using he1
    have HE : Hid (Y = ⟨tyNil, 0, A.err⟩) := by
      show _ = _
      rw [HY.out, if_neg he1]
    have HNE : Hid (A.err ≠ 0) := he1
    clear he1
    obtain ⟨hc, hf⟩ := bcell hB1
    have hs : w.heap.size < w1.heap.size := by have := hB1.size; simp at this; omega
    go_wp2_with fail
    exact bodyPost_ret (v := .tuple #[.agg #[.int .u16 0, .string ⟨#[]⟩, .string ⟨#[]⟩, .slice none 0 0, .slice none 0 0], .slice none 0 0, .int .i64 A.err]) (by simp [results, Tryd.results91, go_sem, hc, hs]) rfl
      ⟨none, 0, 0, none, 0, 0, none, 0, 0, by rw [HE.out]; rfl, by rw [HE.out]; exact tyAt_nil _ _ _, by rw [HE.out]; exact .inl ⟨HNE.out, rfl⟩, ((below_one w _).trans (hB1.mono (by simp))).trans ((below_five _ _ _ _ _ _ _).mono (Nat.le_refl _))⟩
end Go.Proofs.YtnapeecmlkkolaaDoor
