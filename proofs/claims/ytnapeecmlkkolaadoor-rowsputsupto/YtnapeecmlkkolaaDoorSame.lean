/-
  Two layings of one type are the same.
-/
import Derived.Test.YtnapeecmlkkolaaDoorAc
import Derived.Deep.DeepCutAuto
import Derived.Deep.RegionWith
namespace Go.Proofs.YtnapeecmlkkolaaDoor
open Go.RowKit
set_option linter.unusedVariables false
set_option linter.unusedSimpArgs false

def SameP (n : Nat) : Prop := ∀ (F G : Nat → Prop) (w : World) (t : Ty) (na : Option Addr) (nl nc : Nat) (ka : Option Addr) (kl kc : Nat) (ma : Option Addr) (ml mc : Nat) (ja : Option Addr) (jl jc : Nat), TyAt n F w t na nl nc ka kl kc → TyAt n G w t ma ml mc ja jl jc →
  Calls Tryd.prog 20 #[.agg #[.int .u16 t.id, .string t.space, .string t.name, .slice na nl nc, .slice ka kl kc], .agg #[.int .u16 t.id, .string t.space, .string t.name, .slice ma ml mc, .slice ja jl jc]] w fun e w' => e = .returned (.bool true) ∧ Below w.heap.size w w'

theorem no_kid {F : Nat → Prop} {w : World} {t : Ty} {na : Option Addr} {nl nc : Nat} {ka : Option Addr} {kl kc : Nat} (h : TyAt 0 F w t na nl nc ka kl kc) (hk : 0 < kl) : False := by
  obtain ⟨_, _, _, _, h1, h2, h3, h4, h5⟩ := h
  obtain ⟨b, off, _, _, _, hc⟩ := h5 hk
  obtain ⟨c, _, hv⟩ := hc 0 (t.kids[0]'(by omega)) (List.getElem?_eq_getElem (by omega))
  exact hv

set_option maxHeartbeats 4000000 in
set_option maxRecDepth 20000 in
theorem same_step (n : Nat) (ih : ∀ m, n = m + 1 → SameP m) : SameP n := by
  intro F G w t na nl nc ka kl kc ma ml mc ja jl jc h k
  have e1 : ml = nl := by rw [← h.nl_eq, ← k.nl_eq]
  have e2 : jl = kl := by rw [← h.kl_eq, ← k.kl_eq]
  subst e1 e2
  have hn1 := h.nl_le
  have hn2 := k.nl_le
  have hk1 := h.kl_le
  have hk2 := k.kl_le
  unfold maxLen at hn1 hn2 hk1 hk2
  have H : Hid (TyAt n F w t na ml nc ka jl kc) := h
  have K : Hid (TyAt n G w t ma ml mc ja jl jc) := k
  have IH : Hid _ := ih
  clear h k ih
  have HB0 : Hid (Below w.heap.size w ((w.alloc (.cells #[.int .u16 t.id, .string t.space, .string t.name, .slice na ml nc, .slice ka jl kc] 62)).alloc (.cells #[.int .u16 t.id, .string t.space, .string t.name, .slice ma ml mc, .slice ja jl jc] 62))) := (below_one w _).trans ((below_one _ _).mono (by simp))
  go_enter Tryd.func20, Tryd.ntmps20
  go_wp2_with fail
  go_loopw [5] (fun i wr => ∃ j : Nat, j ≤ ml ∧ i = .int .i64 j ∧ Below (w.heap.size + 2) ((w.alloc (.cells #[.int .u16 t.id, .string t.space, .string t.name, .slice na ml nc, .slice ka jl kc] 62)).alloc (.cells #[.int .u16 t.id, .string t.space, .string t.name, .slice ma ml mc, .slice ja jl jc] 62)) wr) (fun i _ => ml - (intOf i).toNat)
  case atStart => exact ⟨0, by omega, rfl, Below.refl _ _⟩
  case round =>
    obtain ⟨j, hj, rfl, hBr⟩ := hrel
    have HBR : Hid _ := hBr
    have hBw : Below w.heap.size w wr := HB0.out.trans (hBr.mono (by omega))
    obtain ⟨⟨a0, a1, a2, a3, a4⟩, ⟨b0, b1, b2, b3, b4⟩, hs⟩ := boxes hBr
    by_cases hlt : j < ml
    · obtain ⟨s, b, off, hs1, rfl, hb, hc, hz⟩ := (H.out.old hBw).name_at hlt
      obtain ⟨s', b', off', hs1', rfl, hb', hc', hz'⟩ := (K.out.old hBw).name_at hlt
      obtain rfl : s = s' := Option.some.inj (hs1.symm.trans hs1')
      have hji : (j : Int) < ml := by omega
      clear hs1 hs1' hz hz' hBr hBw
      go_wp2_with fail
      go_quiet (fail)
      go_wp2_with fail
      go_roundw
      case rel => exact ⟨j + 1, by omega, by go_num, below_drewN HBR.out _⟩
      case measure => simp [intOf]; omega
    · clear hBw
      go_wp2_with fail
      go_loopw [6] (fun i wr => ∃ j : Nat, j ≤ jl ∧ i = .int .i64 j ∧ Below (w.heap.size + 2) ((w.alloc (.cells #[.int .u16 t.id, .string t.space, .string t.name, .slice na ml nc, .slice ka jl kc] 62)).alloc (.cells #[.int .u16 t.id, .string t.space, .string t.name, .slice ma ml mc, .slice ja jl jc] 62)) wr) (fun i _ => jl - (intOf i).toNat)
      case atStart => exact ⟨0, by omega, rfl, HBR.out⟩
      case round =>
        clear a0 a1 a2 a3 a4 b0 b1 b2 b3 b4 hs
        obtain ⟨j2, hj2, rfl, hB2⟩ := hrel
        have HB2 : Hid _ := hB2
        have hB2w : Below w.heap.size w wr := HB0.out.trans (hB2.mono (by omega))
        obtain ⟨⟨a0, a1, a2, a3, a4⟩, ⟨b0, b1, b2, b3, b4⟩, hs⟩ := boxes hB2
        by_cases hlt2 : j2 < jl
        · obtain ⟨m, hm⟩ : ∃ m, n = m + 1 := by
            cases n with
            | zero => exact (no_kid H.out (by omega)).elim
            | succ m => exact ⟨m, rfl⟩
          have hH := H.out
          have hK := K.out
          rw [hm] at hH hK
          obtain ⟨x, b, off, xa, xl, xc, ya, yl, yc, hx, rfl, hb, c0, c1, c2, c3, c4, hin⟩ := (hH.old hB2w).kid hlt2
          obtain ⟨x', b', off', xa', xl', xc', ya', yl', yc', hx', rfl, hb', d0, d1, d2, d3, d4, hin'⟩ := (hK.old hB2w).kid hlt2
          obtain rfl : x = x' := Option.some.inj (hx.symm.trans hx')
          have HIN : Hid (TyAt m F wr x xa xl xc ya yl yc) := hin
          have HIN' : Hid (TyAt m G wr x xa' xl' xc' ya' yl' yc') := hin'
          have HP : Hid (SameP m) := IH.out m hm
          have hji : (j2 : Int) < jl := by omega
          clear hx hx' hin hin' hH hK hm hB2 hB2w
          go_upto_region 11 with fail
          go_cut [7] (fun s wc => s = .bool true ∧ Below wr.heap.size wr wc)
          case first =>
            go_region_with (go_at_call 20; refine (HP.out F G _ x _ _ _ _ _ _ _ _ _ _ _ _ (HIN.out.old ?_) (HIN'.out.old ?_)).mono ?_; (exact (Below.refl _ _).drew); (exact (Below.refl _ _).drew); rintro e w3 ⟨rfl, hB3⟩)
            all_goals (go_wp2_with fail; go_meet; exact ⟨rfl, (Below.refl _ _).drew.trans hB3⟩)
          case rest =>
            obtain ⟨rfl, hBc⟩ := hcut
            have HB3 : Hid (Below (w.heap.size + 2) ((w.alloc (.cells #[.int .u16 t.id, .string t.space, .string t.name, .slice na ml nc, .slice (some ⟨b, off, none⟩) jl kc] 62)).alloc (.cells #[.int .u16 t.id, .string t.space, .string t.name, .slice ma ml mc, .slice (some ⟨b', off', none⟩) jl jc] 62)) wc) := HB2.out.trans (hBc.mono (by omega))
            clear hBc
            go_wp2_with fail
            go_roundw
            case rel => exact ⟨j2 + 1, by omega, by go_num, HB3.out⟩
            case measure => simp [intOf]; omega
        · clear hB2
          go_wp2_with fail
          go_ret
          exact ⟨rfl, hB2w⟩

theorem same_any : ∀ n, SameP n
  | 0 => same_step 0 (fun m h => by omega)
  | n + 1 => same_step (n + 1) (fun m h => by obtain rfl : n = m := by omega
                                              exact same_any n)
end Go.Proofs.YtnapeecmlkkolaaDoor
