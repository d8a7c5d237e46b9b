/-
  The document's own Get.
-/
import Derived.Test.YtnapeecmlkkolaaDoorRefGetU
import Derived.Test.YtnapeecmlkkolaaDoorRefGetT
import Derived.Test.YtnapeecmlkkolaaDoorRefGetF
namespace Go.Proofs.YtnapeecmlkkolaaDoor
open Go.RowKit
set_option linter.unusedVariables false
set_option linter.unusedSimpArgs false

set_option maxHeartbeats 1000000 in
set_option maxRecDepth 20000 in
theorem getr_zero : GetsRef 0 := by
  intro w a len cap zs h hsm d hd X hX p q hp hq
  have hq1 : q = 21 := by omega
  have HX : Hid (X = ⟨tyNil, 0, 13⟩) := hX
  have HPL : Hid (place d X = 0) := by show _ = _; rw [hX]; rfl
  clear hX hq h hp
  subst hq1
  go_enter Tryd.func54, Tryd.ntmps54
  go_wp2_with fail
  exact bodyPost_ret (v := .tuple #[.agg #[.int .u16 0, .string ⟨#[]⟩, .string ⟨#[]⟩, .slice none 0 0, .slice none 0 0], .int .i64 0, .int .i64 13]) (by simp [results, Tryd.results54, go_sem]) rfl
    ⟨none, 0, 0, none, 0, 0, by rw [HPL.out, HX.out]; rfl, by rw [HX.out]; exact tyAt_nil _ _ _, (fun e => absurd (by rw [HX.out] at e; exact e) (by decide : ¬ (13 : Int) = 0)), (below_one w _).trans ((below_one _ _).mono (by simp))⟩

set_option maxHeartbeats 1000000 in
set_option maxRecDepth 20000 in
theorem getr_short {f : Nat} (hf20 : f ≤ 19) {w : World} {a : Option Addr} {len cap : Nat} (hsm : len ≤ 140737488351232) (d : Nat) (hd : d ≤ len) (hl : len < d + 2) {Y : Res Ty} (hY : Y = ⟨tyNil, 0, 10⟩) (p q : Int) (hp : p = d) (hq : q = 20 - f) :
    Calls Tryd.prog 54 #[.slice a len cap, .int .i64 p, .int .i64 q] w fun e w' => ∃ na nl nc ka kl kc, e = .returned (.tuple #[.agg #[.int .u16 Y.val.id, .string Y.val.space, .string Y.val.name, .slice na nl nc, .slice ka kl kc], .int .i64 (place d Y), .int .i64 Y.err]) ∧
      Hid (TyAt f (New w.heap.size w') w' Y.val na nl nc ka kl kc) ∧ Hid (Y.err = 0 → d + Y.done ≤ len) ∧ Below w.heap.size w w' := by
  have hq1 : 0 ≤ q := by omega
  have hq2 : q ≤ 20 := by omega
  have HP : Hid _ := hp
  have HE : Hid (Y = ⟨tyNil, 0, 10⟩) := hY
  have HNE : Hid ((10 : Int) ≠ 0) := (by decide : (10 : Int) ≠ 0)
  have HPL : Hid (place d Y = 0) := by show _ = _; rw [hY]; rfl
  clear hY hp hq
  go_enter Tryd.func54, Tryd.ntmps54
  go_wp2_with fail
  refine (rget_at_short a len cap d 2 _ (by omega) (by omega) hd (by unfold maxLen; omega) hl _ _ HP.out rfl).mono ?_
  rintro e w1 ⟨rfl, rfl⟩
  go_wp2_with fail
  exact bodyPost_ret (v := .tuple #[.agg #[.int .u16 0, .string ⟨#[]⟩, .string ⟨#[]⟩, .slice none 0 0, .slice none 0 0], .int .i64 0, .int .i64 10]) (by simp [results, Tryd.results54, go_sem]) rfl
    ⟨none, 0, 0, none, 0, 0, by rw [HPL.out, HE.out]; rfl, by rw [HE.out]; exact tyAt_nil _ _ _, (fun e => absurd (by rw [HE.out] at e; exact e) HNE.out), (below_one w _).trans ((below_one _ _).mono (by simp))⟩

set_option maxHeartbeats 1000000 in
set_option maxRecDepth 20000 in
theorem getr_none {f : Nat} (hf20 : f ≤ 19) {w : World} {b off len cap : Nat} {zs : List Int} (h : BRow w b off len cap zs) (hsm : len ≤ 140737488351232) (d : Nat) (hd : d + 2 ≤ len) (id : Int) (hid : numTo (zs.drop d) 2 = id) (hi0 : 0 ≤ id) (hi1 : id < 65536) (hm : -2 = manyI id)
    {Y : Res Ty} (hY : Y = ⟨tyNil, 0, 11⟩) (p q : Int) (hp : p = d) (hq : q = 20 - f) :
    Calls Tryd.prog 54 #[.slice (some ⟨b, off, none⟩) len cap, .int .i64 p, .int .i64 q] w fun e w' => ∃ na nl nc ka kl kc, e = .returned (.tuple #[.agg #[.int .u16 Y.val.id, .string Y.val.space, .string Y.val.name, .slice na nl nc, .slice ka kl kc], .int .i64 (place d Y), .int .i64 Y.err]) ∧
      Hid (TyAt f (New w.heap.size w') w' Y.val na nl nc ka kl kc) ∧ Hid (Y.err = 0 → d + Y.done ≤ len) ∧ Below w.heap.size w w' := by
  have hq1 : 0 ≤ q := by omega
  have hq2 : q ≤ 20 := by omega
  have H : Hid (BRow w b off len cap zs) := h
  have HM : Hid _ := hm
  have HID : Hid _ := hid
  have HP : Hid _ := hp
  have HE : Hid (Y = ⟨tyNil, 0, 11⟩) := hY
  have HNE : Hid ((11 : Int) ≠ 0) := (by decide : (11 : Int) ≠ 0)
  have hdd := hd
  clear h hsm hm hid hp hq hY
  go_enter Tryd.func54, Tryd.ntmps54
  go_wp2_with fail
  refine (rget_at_yes (H.out.old ((below_one w _).trans ((below_one _ _).mono (by simp)))) d 2 (by omega) (by omega) hdd _ _ HP.out rfl).mono ?_
  rintro e w1 ⟨rfl, rfl⟩
  rw [HID.out]
  obtain ⟨pt0, hpt0⟩ : ∃ pt0, pt0 = ((d + 2 : Nat) : Int) := ⟨_, rfl⟩
  rw [← hpt0]
  clear hpt0
  go_wp2_with fail
  refine (many_any _ id hi0 hi1 HM.out).mono ?_
  rintro e wl ⟨rfl, hBl⟩
  have hBl2 : Below (w.heap.size + 1) _ wl := hBl.mono (by simp)
  have hB00 : Below (w.heap.size + 1) (w.alloc zeroTy) _ := (below_two w id).mono (by simp)
  have hBx : Below (w.heap.size + 1) (w.alloc zeroTy) wl := hB00.trans hBl2
  clear hBl hB00 hBl2
  obtain ⟨hc, hf⟩ := bcell (hBx.mono (by simp) : Below (w.alloc zeroTy).heap.size (w.alloc zeroTy) wl)
  have hs : w.heap.size < wl.heap.size := by have := hBx.size; simp at this; omega
  have HPL : Hid (place d Y = 0) := by show _ = _; rw [HE.out, place, if_neg (by exact HNE.out)]
  have HBX : Hid (Below w.heap.size w wl) := (below_one w _).trans (hBx.mono (by omega))
  clear hBx
  go_wp2_with fail
  exact bodyPost_ret (v := .tuple #[.agg #[.int .u16 0, .string ⟨#[]⟩, .string ⟨#[]⟩, .slice none 0 0, .slice none 0 0], .int .i64 0, .int .i64 11]) (by simp [results, Tryd.results54, go_sem, hc, hs]) rfl
    ⟨none, 0, 0, none, 0, 0, by rw [HPL.out, HE.out]; rfl, by rw [HE.out]; exact tyAt_nil _ _ _, (fun e => absurd (by rw [HE.out] at e; exact e) HNE.out), HBX.out.trans ((below_five _ _ _ _ _ _ _).mono (Nat.le_refl _))⟩

theorem getsRef : ∀ f : Nat, f ≤ 20 → GetsRef f
  | 0, _ => getr_zero
  | f + 1, hf => by
    have ih := getsRef f (by omega)
    intro w a len cap zs h hsm d hd X hX p q hp hq
    have hq' : q = 20 - f := by omega
    have hz : zs.length = len := h.1
    by_cases hl : len < d + 2
    · rw [tyR, if_pos (by rw [List.length_drop]; omega)] at hX
      exact getr_short (by omega) hsm d hd hl hX p q hp hq'
    · obtain ⟨b, off, rfl, hR⟩ := h.2.2.2.2 (by omega)
      have hb := numTo_bound (zs.drop d) (range_drop hR.rng _) 2 (by rw [List.length_drop]; omega)
      rw [tyR, if_neg (by rw [List.length_drop]; omega)] at hX
      obtain ⟨id, hid⟩ : ∃ id, numTo (zs.drop d) 2 = id := ⟨_, rfl⟩
      have h4 : (256 : Int) ^ 2 = 65536 := by decide
      rw [hid, h4] at hb
      simp only [hid, List.drop_drop] at hX
      by_cases e0 : id = 0
      · subst e0
        rw [if_pos rfl] at hX
        exact getr_custom f (by omega) ih hR hsm d (by omega) hid rfl hX p q hp hq'
      · rw [if_neg e0] at hX
        by_cases e48 : id = 48
        · subst e48
          rw [if_pos rfl] at hX
          exact getr_udt f (by omega) ih hR hsm d (by omega) hid rfl hX p q hp hq'
        · rw [if_neg e48] at hX
          by_cases e49 : id = 49
          · subst e49
            rw [if_pos (by simp), if_pos rfl] at hX
            exact getr_tuple f (by omega) ih hR hsm d (by omega) hid rfl hX p q hp hq'
          · by_cases e32 : id = 32
            · subst e32
              rw [if_pos (by simp)] at hX
              simp only [if_neg (show ¬ (32 : Int) = 49 by decide), if_neg (show ¬ (32 : Int) = 33 by decide)] at hX
              exact getr_fix f (by omega) ih hR hsm d (by omega) 32 hid (by decide) (by decide) 1 (by decide) (by decide) (by decide) (by decide) rfl hX p q hp hq'
            · by_cases e34 : id = 34
              · subst e34
                rw [if_pos (by simp)] at hX
                simp only [if_neg (show ¬ (34 : Int) = 49 by decide), if_neg (show ¬ (34 : Int) = 33 by decide)] at hX
                exact getr_fix f (by omega) ih hR hsm d (by omega) 34 hid (by decide) (by decide) 1 (by decide) (by decide) (by decide) (by decide) rfl hX p q hp hq'
              · by_cases e33 : id = 33
                · subst e33
                  rw [if_pos (by simp)] at hX
                  simp only [if_neg (show ¬ (33 : Int) = 49 by decide), if_pos (show (33 : Int) = 33 by rfl)] at hX
                  exact getr_fix f (by omega) ih hR hsm d (by omega) 33 hid (by decide) (by decide) 2 (by decide) (by decide) (by decide) (by decide) rfl hX p q hp hq'
                · rw [if_neg (by omega)] at hX
                  by_cases hpl : plainB id = true
                  · rw [if_pos hpl] at hX
                    exact getr_fix f (by omega) ih hR hsm d (by omega) id hid hb.1 hb.2 0 (by decide) (by rw [manyI, if_neg e0, if_pos hpl]; rfl) e48 e0 (G := ⟨[], 0, 0⟩) rfl (by rw [hX]; rfl) p q hp hq'
                  · rw [if_neg hpl] at hX
                    exact getr_none (by omega) hR hsm d (by omega) id hid hb.1 hb.2 (by rw [manyI, if_neg e0, if_neg hpl, if_neg e32, if_neg e34, if_neg e33, if_neg e48, if_neg e49]) hX p q hp hq'
end Go.Proofs.YtnapeecmlkkolaaDoor
