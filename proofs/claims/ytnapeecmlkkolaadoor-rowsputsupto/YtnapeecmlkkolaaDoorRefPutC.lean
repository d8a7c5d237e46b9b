/-
  The document's own put.
-/
import Derived.Test.YtnapeecmlkkolaaDoorRefOwn
import Derived.Test.YtnapeecmlkkolaaDoorRefPutE
namespace Go.Proofs.YtnapeecmlkkolaaDoor
open Go.RowKit
set_option linter.unusedVariables false
set_option linter.unusedSimpArgs false

theorem sees_str {F : Nat → Prop} {w : World} {a : Option Addr} {len cap : Nat} {ss : List ByteArray} (h : Sees 1 F VS w a len cap ss) {k : Nat} (hk : k < len) :
    ∃ s b off, ss[k]? = some s ∧ a = some ⟨b, off, .none⟩ ∧ b < w.heap.size ∧ w.cell? ⟨b, off + k, .none⟩ = some (.string s) ∧ s.size ≤ maxLen := by
  obtain ⟨h1, h2, h3, h4, h5⟩ := h
  obtain ⟨b, off, ha, hb, hFb, hc⟩ := h5 (by omega)
  have hx : ss[k]? = some ss[k] := List.getElem?_eq_getElem (by omega)
  obtain ⟨c, hcell, hv, hm⟩ := hc k _ hx
  refine ⟨_, b, off, hx, ha, hb, ?_, hm⟩
  rw [← hv]; have := hcell 0 (by omega); simpa using this

/-- Texts one behind the other, and what is behind them. -/
def chain : List ByteArray → List Int × Int → List Int × Int
  | [], r => r
  | s :: l, r => cat (textB s) (chain l r)

theorem chain_drop {ss : List ByteArray} {k : Nat} {s : ByteArray} (h : ss[k]? = some s) (r : List Int × Int) : chain (ss.drop k) r = cat (textB s) (chain (ss.drop (k + 1)) r) := by
  obtain ⟨hk, he⟩ := List.getElem?_eq_some_iff.1 h
  rw [List.drop_eq_getElem_cons hk, he, chain]

theorem text_nil (s : ByteArray) : cat (textB s) ([], 0) = textB s := by
  rw [cat_nil]
  by_cases h : s.size ≤ 65535
  · rw [textB, if_pos h, if_pos (by rfl)]
  · rw [textB, if_neg h, if_neg (by show ¬ (12 : Int) = 0; decide)]

set_option maxHeartbeats 4000000 in
set_option maxRecDepth 20000 in
theorem putq_custom (n : Nat) (ih : ∀ m, n = m + 1 → PutQ m) {F : Nat → Prop} {w : World} {t : Ty} {na : Option Addr} {nl nc : Nat} {ka : Option Addr} {kl kc : Nat} (h : TyAt n F w t na nl nc ka kl kc) (hbd : wgt (n + 1) t ≤ 140737488355328) (hh : hasB t.id kl nl = true) (q48 : (t.id == 48) = false) (q0 : (t.id == 0) = true) (h48 : t.id < 48) {B : List Int × Int} (hB : B = cat (putL t.id 2, 0) (textB t.name)) (hk0 : t.kids = []) (hrg : ∀ j : Nat, 0 ≤ B.1[j]?.getD 0 ∧ B.1[j]?.getD 0 ≤ 255) :
    Calls Tryd.prog 66 #[.agg #[.int .u16 t.id, .string t.space, .string t.name, .slice na nl nc, .slice ka kl kc]] w fun e w' => ∃ a cp, e = .returned (.tuple #[.slice a B.1.length cp, .int .i64 B.2]) ∧ Hid (IsB w' a B.1.length cp B.1) ∧ Below w.heap.size w w' := by
  have HRG : Hid _ := hrg
  clear hrg
  have HK0 : Hid _ := hk0
  clear hk0
  have hkl := h.kl_le
  have hnl := h.nl_le
  have hid := h.idr
  have HKM : Hid (kl ≤ maxLen ∧ nl ≤ maxLen) := ⟨by omega, by omega⟩
  unfold maxLen at hkl hnl
  have H : Hid (TyAt n F w t na nl nc ka kl kc) := h
  have IH : Hid _ := ih
  have HB : Hid _ := hB
  have HBD : Hid (131078 + 65537 * t.names.length + (t.kids.map (wgt n)).sum ≤ 140737488355328) := hbd
  have HH : Hid _ := hh
  have HKE : Hid _ := h.kl_eq
  have HNE : Hid _ := h.nl_eq
  have HSZ : Hid (t.space.size ≤ maxLen ∧ t.name.size ≤ maxLen) := ⟨h.2.1, h.2.2.1⟩
  clear h ih hB hbd hh
  go_enter Tryd.func66, Tryd.ntmps66
  go_wp2_with fail
  refine (own_any _ t.id t.space t.name na nl nc ka kl kc H.out.idr.1 H.out.idr.2 HKM.out.1 HKM.out.2 HH.out.symm).mono ?_
  rintro e w1 ⟨rfl, hB1⟩
  have hB0 : Below (w.heap.size + 1) (w.alloc (.cells #[.int .u16 t.id, .string t.space, .string t.name, .slice na nl nc, .slice ka kl kc] 62)) w1 := hB1.mono (by simp)
  have hbx1 : w1.heap[w.heap.size]? = some (.cells #[.int .u16 t.id, .string t.space, .string t.name, .slice na nl nc, .slice ka kl kc] 62 (0, 0)) := by rw [hB0.block _ (by omega)]; exact heap_alloc_new w _
  obtain ⟨b0, b1, b2, b3, b4⟩ := cells5 hbx1
  have hs1 : w.heap.size < w1.heap.size := by have := hB0.size; simp at this; omega
  clear hbx1 hB1
  go_wp2_with fail
  refine (rput_acc t.id w1 H.out.idr.1 H.out.idr.2).mono ?_
  rintro e w2 ⟨a2, cp2, rfl, HA2, HI2, hB12⟩
  have hB2 : Below (w.heap.size + 1) (w.alloc (.cells #[.int .u16 t.id, .string t.space, .string t.name, .slice na nl nc, .slice ka kl kc] 62)) w2 := hB0.trans (hB12.mono (by omega))
  have hbx2 : w2.heap[w.heap.size]? = some (.cells #[.int .u16 t.id, .string t.space, .string t.name, .slice na nl nc, .slice ka kl kc] 62 (0, 0)) := by rw [hB2.block _ (by omega)]; exact heap_alloc_new w _
  have hs12 := hB12.size
  obtain ⟨v2, hv2⟩ : ∃ v2, v2 = Value.slice a2 2 cp2 := ⟨_, rfl⟩
  rw [← hv2] at HA2 ⊢
  clear b0 b1 b2 b3 b4 hB0 hB12 hv2 HI2
  obtain ⟨b0, b1, b2, b3, b4⟩ := cells5 hbx2
  clear hbx2
  have HOS2 : Hid (OwnS w2 w1.heap.size (.slice none 0 0) v2 []) := ownS_nil _ _ _
  go_wp2_with (at_builtin; refine wpList_append_name (base := w1.heap.size) (v := .slice none 0 0) (u := v2) (ss := []) rfl (.tmp 37) (.tmp 40) rfl rfl ?c0 rfl (heap_alloc_new w2 _) HSZ.out.2 ?c3 ?c4 ?c5 ?_)
  case c0 => exact HOS2.out.old (below_one _ _)
  case c3 => intro q hq; have := (HA2.out.lt q hq).2; simp; omega
  case c4 => simp
  case c5 => simp; omega
  intro v3 w3 HOS3 HG3 HM3
  have hB23 : Below w2.heap.size w2 w3 := ((Below.refl _ _).alloc (Nat.le_refl _) _).grown HG3.out (by simp) (fun q hq => by simp [Value.ownBlock] at hq)
  have HA3 : Hid (Acc w3 w1.heap.size v2 (putL t.id 2)) := HA2.out.grown hB23
  have hs23 := hB23.size
  have hB03 : Below (w.heap.size + 1) (w.alloc (.cells #[.int .u16 t.id, .string t.space, .string t.name, .slice na nl nc, .slice ka kl kc] 62)) w3 := hB2.trans (hB23.mono (by omega))
  obtain ⟨ss, hss⟩ : ∃ ss, ss = [t.name] := ⟨_, rfl⟩
  rw [← hss] at HOS3
  obtain ⟨al, cl, hv3, _⟩ := HOS3.out.sees
  obtain ⟨L, hL⟩ : ∃ L, L = ss.length := ⟨_, rfl⟩
  rw [← hL] at hv3
  have HSL : Hid (ss.length = L) := hL.symm
  have HLE : Hid (L = 1) := by show _ = _; rw [hL, hss]; rfl
  have hL1 : L ≤ 2 := by have := HLE.out; omega
  subst hv3
  have HB3 : Hid (B = cat (putL t.id 2, 0) (chain (ss.drop 0) (([], 0)))) := by show _ = _; rw [HB.out, hss]; show _ = cat _ (cat (textB t.name) ([], 0)); rw [text_nil]
  clear hss hL HG3 HM3 hB2 HA2 b0 b1 b2 b3 b4 hB23
  go_wp2_with fail
  go_loopw [4, 6] (fun out i wr => ∃ (k : Nat) (dn : List Int), k ≤ L ∧ i = .int .i64 k ∧ Hid (Acc wr w1.heap.size out dn) ∧ Hid (OwnS wr w1.heap.size (.slice al L cl) out ss) ∧ Hid (B = cat (dn, 0) (chain (ss.drop k) (([], 0)))) ∧ Hid (dn.length ≤ 2 + 65537 * k) ∧ w1.heap.size ≤ wr.heap.size ∧ Below (w.heap.size + 1) (w.alloc (.cells #[.int .u16 t.id, .string t.space, .string t.name, .slice na nl nc, .slice ka kl kc] 62)) wr) (fun _ i _ => L - (intOf i).toNat)
  case atStart => exact ⟨0, _, by omega, rfl, HA3, HOS3, HB3, (by show _ ≤ _; rw [putL_length]; omega), by omega, hB03⟩
  case round =>
    clear hB03
    obtain ⟨k, dn, hk, rfl, HA, HOS, HBB, HLD, hwr, hBr⟩ := hrel
    by_cases hlt : k < L
    · obtain ⟨al', cl', hv', hS⟩ := HOS.out.sees
      injection hv' with e1 e2 e3
      subst e1 e3
      rw [← e2] at hS
      obtain ⟨s, b, off, hs, rfl, hb, hc, hsz⟩ := sees_str hS hlt
      obtain ⟨C, hC⟩ : ∃ C, C = textB s := ⟨_, rfl⟩
      have HBC : Hid (B = cat (dn, 0) (cat C (chain (ss.drop (k + 1)) (([], 0))))) := by show _ = _; rw [HBB.out, chain_drop hs, hC]
      have HCL : Hid (C.1.length ≤ 65537) := by show _ ≤ _; rw [hC]; exact textB_len s
      have HC : Hid _ := hC
      have HSM : Hid _ := hsz
      clear hs hS hC hsz e2
      go_wp2_with fail
      refine (rtext_any s wr HSM.out HC.out).mono ?_
      rintro e w4 ⟨a4, cp4, rfl, HI4, hB4⟩
      have hs4 := hB4.size
      have hB04 : Below (w.heap.size + 1) (w.alloc (.cells #[.int .u16 t.id, .string t.space, .string t.name, .slice na nl nc, .slice ka kl kc] 62)) w4 := hBr.trans (hB4.mono (by omega))
      clear hBr hc hb
      obtain ⟨L4, hL4⟩ : ∃ L4, L4 = C.1.length := ⟨_, rfl⟩
      rw [← hL4]
      by_cases he : C.2 = 0
      · have HBN : Hid (B = cat (dn ++ C.1, 0) (chain (ss.drop (k + 1)) (([], 0)))) := go_next HBC.out he
        have HI4' : Hid (IsB w4 a4 L4 cp4 C.1) := by show IsB _ _ _ _ _; rw [hL4]; exact HI4.out
        have HBN2 : Hid (dn.length + L4 ≤ 140737488355328) := by show _ ≤ _; have := HCL.out; have := HLD.out; omega
        have HA4 : Hid (Acc w4 w1.heap.size _ dn) := HA.out.grown hB4
        have HOS4 : Hid (OwnS w4 w1.heap.size _ _ ss) := HOS.out.old hB4
        have HLN : Hid ((dn ++ C.1).length ≤ 2 + 65537 * (k + 1)) := by show _ ≤ _; rw [List.length_append]; have := HCL.out; have := HLD.out; omega
        clear hL4 hB4
        rw [he]
        go_wp2_with (at_builtin; refine wpList_append_on rfl (.tmp 59) (.tmp 60) rfl rfl HA4.out rfl HI4'.out HBN2.out (by omega) ?_)
        intro v5 w5 HA5 hg5 hm5
        have hs5 := hg5.size
        have hB5 : Below (w.heap.size + 1) (w.alloc (.cells #[.int .u16 t.id, .string t.space, .string t.name, .slice na nl nc, .slice ka kl kc] 62)) w5 := hB04.grown hg5 (by omega) (fun q hq => by have := (HA4.out.lt q hq).1; omega)
        have HOS5 : Hid (OwnS w5 w1.heap.size _ v5 ss) := HOS4.out.other hg5 hm5
        clear hg5 hm5 hB04
        go_wp2_with fail
        go_roundw
        case rel => exact ⟨k + 1, dn ++ C.1, by omega, by go_num, HA5, HOS5, HBN, HLN, by omega, hB5⟩
        case measure => simp [intOf]; omega
      · have t3 : (C.2 == 0) = false := by simpa using he
        have HE : Hid (B = ([], C.2)) := go_fail HBC.out he
        have hfin : Below w.heap.size w w4 := (below_one w _).trans (hB04.mono (by omega))
        clear he hL4 hB4 hB04
        go_wp2_with fail
        go_ret2
        exact ⟨none, 0, by rw [HE.out]; rfl, by rw [HE.out]; exact isB_nil _, hfin⟩
    · have HB4 : Hid (B = cat (dn, 0) (([], 0))) := by
        show _ = _
        rw [HBB.out, List.drop_of_length_le (by have := HSL.out; omega), chain]
      have hLk : dn.length ≤ 2 + 65537 * L := by
        have h1 := HLD.out
        have h2 : k = L := by omega
        rw [h2] at h1
        exact h1
      have HLK : Hid _ := hLk
      have hbx2 : wr.heap[w.heap.size]? = some (.cells #[.int .u16 t.id, .string t.space, .string t.name, .slice na nl nc, .slice ka kl kc] 62 (0, 0)) := by rw [hBr.block _ (by omega)]; exact heap_alloc_new w _
      obtain ⟨b0, b1, b2, b3, b4⟩ := cells5 hbx2
      have hsr : w.heap.size < wr.heap.size := by omega
      obtain ⟨wo, hwo⟩ : ∃ wo, wo = wr := ⟨_, rfl⟩
      subst hwo
      clear hbx2 hLk
      have HB2 : Hid (B = cat (dn, 0) (goB (tyB n) (t.kids.drop 0))) := by show _ = _; rw [HB4.out, HK0.out]; rfl
      have HL2 : Hid (dn.length + ((t.kids.drop 0).map (wgt n)).sum ≤ 140737488355328) := by show _ ≤ _; rw [HK0.out]; have := HLK.out; have := HLE.out; simp; omega
      have h48' : decide ((48 : Int) ≤ t.id) = false := by simp; omega
      go_wp2_with fail
      go_loopw [4, 9] (fun out i wr => ∃ (k : Nat) (dn : List Int), k ≤ kl ∧ i = .int .i64 k ∧ Hid (Acc wr w1.heap.size out dn) ∧ Hid (B = cat (dn, 0) (goB (tyB n) (t.kids.drop k))) ∧ Hid (dn.length + ((t.kids.drop k).map (wgt n)).sum ≤ 140737488355328) ∧ w1.heap.size ≤ wr.heap.size ∧ Below (w.heap.size + 1) (w.alloc (.cells #[.int .u16 t.id, .string t.space, .string t.name, .slice na nl nc, .slice ka kl kc] 62)) wr) (fun _ i _ => kl - (intOf i).toNat)
      case atStart => exact ⟨0, _, by omega, rfl, HA, HB2, HL2, by omega, hBr⟩
      case round =>
        clear b0 b1 b2 b3 b4
        obtain ⟨k, dn, hk, rfl, HA, HBB, HLL, hwr, hBr⟩ := hrel
        have hbx : wr.heap[w.heap.size]? = some (.cells #[.int .u16 t.id, .string t.space, .string t.name, .slice na nl nc, .slice ka kl kc] 62 (0, 0)) := by rw [hBr.block _ (by omega)]; exact heap_alloc_new w _
        obtain ⟨c0, c1, c2, c3, c4⟩ := cells5 hbx
        have hsr : w.heap.size < wr.heap.size := by omega
        have hBw : Below w.heap.size w wr := (below_one w _).trans (hBr.mono (by omega))
        clear hbx
        by_cases hlt : k < kl
        · obtain ⟨m, hm⟩ := H.out.pos (by omega)
          have hH := H.out
          rw [hm] at hH
          obtain ⟨x, b, off, xa, xl, xc, ya, yl, yc, hx, rfl, hb, e0, e1, e2, e3, e4, hin⟩ := (hH.old hBw).kid hlt
          have HIN : Hid (TyAt m F wr x xa xl xc ya yl yc) := hin
          have HP : Hid (PutQ m) := IH.out m hm
          obtain ⟨C, hC⟩ : ∃ C, C = tyB (m + 1) x := ⟨_, rfl⟩
          have hsd := sum_drop (f := wgt n) hx
          have HXW : Hid (wgt (m + 1) x ≤ 140737488355328) := by
            show _ ≤ _
            rw [← hm]
            have := HLL.out
            omega
          have HBC : Hid (B = cat (dn, 0) (cat C (goB (tyB n) (t.kids.drop (k + 1))))) := by
            show _ = _
            rw [HBB.out, goB_drop hx, hC, ← hm]
          have HCL : Hid (dn.length + C.1.length + ((t.kids.drop (k + 1)).map (wgt n)).sum ≤ 140737488355328) := by
            show _ ≤ _
            have h1 := tyB_len (m + 1) x
            rw [← hC, ← hm] at h1
            have := HLL.out
            omega
          have HC : Hid _ := hC
          clear hx hin hH hm hC hsd hBw
          go_wp2_with fail
          refine (HP.out F wr x _ _ _ _ _ _ HIN.out HXW.out C HC.out).mono ?_
          rintro e w3 ⟨a3, cp3, rfl, HI3, hB3⟩
          have hs3 := hB3.size
          have hB03 : Below (w.heap.size + 1) (w.alloc (.cells #[.int .u16 t.id, .string t.space, .string t.name, .slice na nl nc, .slice (some ⟨b, off, none⟩) kl kc] 62)) w3 := hBr.trans (hB3.mono (by omega))
          clear hBr e0 e1 e2 e3 e4
          obtain ⟨L3, hL3⟩ : ∃ L3, L3 = C.1.length := ⟨_, rfl⟩
          rw [← hL3]
          by_cases he : C.2 = 0
          · have HBN : Hid (B = cat (dn ++ C.1, 0) (goB (tyB n) (t.kids.drop (k + 1)))) := go_next HBC.out he
            have HI3' : Hid (IsB w3 a3 L3 cp3 C.1) := by show IsB _ _ _ _ _; rw [hL3]; exact HI3.out
            have HBN2 : Hid (dn.length + L3 ≤ 140737488355328) := by show _ ≤ _; have := HCL.out; omega
            have HA3 : Hid (Acc w3 w1.heap.size _ dn) := HA.out.grown hB3
            have HLN : Hid ((dn ++ C.1).length + ((t.kids.drop (k + 1)).map (wgt n)).sum ≤ 140737488355328) := by show _ ≤ _; rw [List.length_append]; exact HCL.out
            clear hL3 hB3
            rw [he]
            go_wp2_with (at_builtin; refine wpList_append_on rfl (.tmp 113) (.tmp 114) rfl rfl HA3.out rfl HI3'.out HBN2.out (by omega) ?_)
            intro v5 w5 HA5 hg5 hm5
            have hs5 := hg5.size
            have hB5 : Below (w.heap.size + 1) (w.alloc (.cells #[.int .u16 t.id, .string t.space, .string t.name, .slice na nl nc, .slice (some ⟨b, off, none⟩) kl kc] 62)) w5 := hB03.grown hg5 (by omega) (fun q hq => by have := (HA3.out.lt q hq).1; omega)
            clear hg5 hm5 hB03
            go_wp2_with fail
            go_roundw
            case rel => exact ⟨k + 1, dn ++ C.1, by omega, by go_num, HA5, HBN, HLN, by omega, hB5⟩
            case measure => simp [intOf]; omega
          · have t3 : (C.2 == 0) = false := by simpa using he
            have HE : Hid (B = ([], C.2)) := go_fail HBC.out he
            have hfin : Below w.heap.size w w3 := (below_one w _).trans (hB03.mono (by omega))
            clear he hL3 hB3 hB03
            go_wp2_with fail
            go_ret2
            exact ⟨none, 0, by rw [HE.out]; rfl, by rw [HE.out]; exact isB_nil _, hfin⟩
        · have HE : Hid (B = (dn, 0)) := by
            show _ = _
            rw [HBB.out, List.drop_of_length_le (by have := HKE.out; omega), goB, cat_nil]
            rfl
          obtain ⟨a9, cp9, hv9, hi9⟩ := isB_own HA.out (by
            have h3 := HRG.out
            rw [HE.out] at h3
            exact h3)
          have HI9 : Hid (IsB wr a9 dn.length cp9 dn) := hi9
          obtain ⟨L9, hL9⟩ : ∃ L9, L9 = dn.length := ⟨_, rfl⟩
          have HL9 : Hid _ := hL9
          rw [← hL9] at hv9
          subst hv9
          clear hBr hi9 hL9
          go_wp2_with fail
          go_ret2
          exact ⟨a9, cp9, by rw [HE.out, HL9.out]; rfl, by rw [HE.out]; exact HI9, hBw⟩


end Go.Proofs.YtnapeecmlkkolaaDoor
