/-
  The document's own put.
-/
import Derived.Test.YtnapeecmlkkolaaDoorRefOwn
import Derived.Test.YtnapeecmlkkolaaDoorRefPutE
namespace Go.Proofs.YtnapeecmlkkolaaDoor
open Go.RowKit
set_option linter.unusedVariables false
set_option linter.unusedSimpArgs false

set_option maxHeartbeats 4000000 in
set_option maxRecDepth 20000 in
theorem putq_tuple (n : Nat) (ih : ∀ m, n = m + 1 → PutQ m) {F : Nat → Prop} {w : World} {t : Ty} {na : Option Addr} {nl nc : Nat} {ka : Option Addr} {kl kc : Nat} (h : TyAt n F w t na nl nc ka kl kc) (hbd : wgt (n + 1) t ≤ 140737488355328) (hh : hasB t.id kl nl = true) (q48 : (t.id == 48) = false) (q0 : (t.id == 0) = false) (h49 : (48 : Int) ≤ t.id) {B : List Int × Int} (hB : B = cat (putL t.id 2, 0) (cat (countB t.kids.length) (goB (tyB n) t.kids))) (hrg : ∀ j : Nat, 0 ≤ B.1[j]?.getD 0 ∧ B.1[j]?.getD 0 ≤ 255) :
    Calls Tryd.prog 66 #[.agg #[.int .u16 t.id, .string t.space, .string t.name, .slice na nl nc, .slice ka kl kc]] w fun e w' => ∃ a cp, e = .returned (.tuple #[.slice a B.1.length cp, .int .i64 B.2]) ∧ Hid (IsB w' a B.1.length cp B.1) ∧ Below w.heap.size w w' := by
  have HRG : Hid _ := hrg
  clear hrg
  have hkl := h.kl_le
  have hnl := h.nl_le
  have hid := h.idr
  have HKM : Hid (kl ≤ maxLen ∧ nl ≤ maxLen) := ⟨by omega, by omega⟩
  unfold maxLen at hkl hnl
  have H : Hid (TyAt n F w t na nl nc ka kl kc) := h
  have IH : Hid _ := ih
  have HB : Hid _ := hB
  have HBD : Hid (131078 + 65537 * t.names.length + (t.kids.map (wgt n)).sum ≤ 140737488355328) := hbd
  have HH : Hid _ := hh
  have HKE : Hid _ := h.kl_eq
  have HNE : Hid _ := h.nl_eq
  have HSZ : Hid (t.space.size ≤ maxLen ∧ t.name.size ≤ maxLen) := ⟨h.2.1, h.2.2.1⟩
  clear h ih hB hbd hh
  go_enter Tryd.func66, Tryd.ntmps66
  go_wp2_with fail
  refine (own_any _ t.id t.space t.name na nl nc ka kl kc H.out.idr.1 H.out.idr.2 HKM.out.1 HKM.out.2 HH.out.symm).mono ?_
  rintro e w1 ⟨rfl, hB1⟩
  have hB0 : Below (w.heap.size + 1) (w.alloc (.cells #[.int .u16 t.id, .string t.space, .string t.name, .slice na nl nc, .slice ka kl kc] 62)) w1 := hB1.mono (by simp)
  have hbx1 : w1.heap[w.heap.size]? = some (.cells #[.int .u16 t.id, .string t.space, .string t.name, .slice na nl nc, .slice ka kl kc] 62 (0, 0)) := by rw [hB0.block _ (by omega)]; exact heap_alloc_new w _
  obtain ⟨b0, b1, b2, b3, b4⟩ := cells5 hbx1
  have hs1 : w.heap.size < w1.heap.size := by have := hB0.size; simp at this; omega
  clear hbx1 hB1
  go_wp2_with fail
  refine (rput_acc t.id w1 H.out.idr.1 H.out.idr.2).mono ?_
  rintro e w2 ⟨a2, cp2, rfl, HA2, HI2, hB12⟩
  have hB2 : Below (w.heap.size + 1) (w.alloc (.cells #[.int .u16 t.id, .string t.space, .string t.name, .slice na nl nc, .slice ka kl kc] 62)) w2 := hB0.trans (hB12.mono (by omega))
  have hbx2 : w2.heap[w.heap.size]? = some (.cells #[.int .u16 t.id, .string t.space, .string t.name, .slice na nl nc, .slice ka kl kc] 62 (0, 0)) := by rw [hB2.block _ (by omega)]; exact heap_alloc_new w _
  have hs12 := hB12.size
  obtain ⟨v2, hv2⟩ : ∃ v2, v2 = Value.slice a2 2 cp2 := ⟨_, rfl⟩
  rw [← hv2] at HA2 ⊢
  clear b0 b1 b2 b3 b4 hB0 hB12 hv2 HI2
  obtain ⟨b0, b1, b2, b3, b4⟩ := cells5 hbx2
  clear hbx2
  go_wp2_with fail
  go_loopw [4, 6] (fun out i wr => out = v2 ∧ i = .int .i64 0 ∧ wr = w2) (fun _ _ _ => 0)
  case atStart => exact ⟨rfl, rfl, rfl⟩
  case round =>
    obtain ⟨rfl, rfl, rfl⟩ := hrel
    by_cases hcl : kl ≤ 65535
    · have t65 : decide ((65535 : Int) < kl) = false := by simp; omega
      have hcb : countB t.kids.length = (putL kl 2, 0) := by rw [HKE.out, countB, if_pos hcl]
      have HB2 : Hid (B = cat (putL t.id 2 ++ putL kl 2, 0) (goB (tyB n) (t.kids.drop 0))) := by
        have h1 := HB.out
        rw [hcb] at h1
        exact go_next h1 rfl
      have HL2 : Hid ((putL t.id 2 ++ putL kl 2).length + ((t.kids.drop 0).map (wgt n)).sum ≤ 140737488355328) := by show _ ≤ _; rw [List.length_append, putL_length, putL_length, List.drop_zero]; have := HBD.out; omega
      clear hcb
      go_wp2_with fail
      refine (rput_acc kl wr (by omega) (by omega)).mono ?_
      rintro e w6 ⟨a6, cp6, rfl, HA6, HI6, hB6⟩
      have hs6 := hB6.size
      have hB06 : Below (w.heap.size + 1) (w.alloc (.cells #[.int .u16 t.id, .string t.space, .string t.name, .slice na nl nc, .slice ka kl kc] 62)) w6 := hB2.trans (hB6.mono (by omega))
      have HA26 := HA2.out.grown hB6
      have HA26' : Hid _ := HA26
      clear hB6 HA26 b0 b1 b2 b3 b4 HA6
      go_wp2_with (at_builtin; refine wpList_append_on rfl (.tmp 69) (.tmp 74) rfl rfl HA26'.out rfl HI6.out (by rw [putL_length]; omega) (by omega) ?_)
      intro v7 w7 HA7 hg7 hm7
      have hs7 := hg7.size
      have hB7 : Below (w.heap.size + 1) (w.alloc (.cells #[.int .u16 t.id, .string t.space, .string t.name, .slice na nl nc, .slice ka kl kc] 62)) w7 := hB06.grown hg7 (by omega) (fun q hq => by have := (HA26'.out.lt q hq).1; omega)
      have hbx7 : w7.heap[w.heap.size]? = some (.cells #[.int .u16 t.id, .string t.space, .string t.name, .slice na nl nc, .slice ka kl kc] 62 (0, 0)) := by rw [hB7.block _ (by omega)]; exact heap_alloc_new w _
      obtain ⟨b0, b1, b2, b3, b4⟩ := cells5 hbx7
      have hs17 : w1.heap.size ≤ w7.heap.size := by omega
      clear hg7 hm7 hB06 hbx7
      go_wp2_with fail
      go_loopw [4, 9] (fun out i wr => ∃ (k : Nat) (dn : List Int), k ≤ kl ∧ i = .int .i64 k ∧ Hid (Acc wr w1.heap.size out dn) ∧ Hid (B = cat (dn, 0) (goB (tyB n) (t.kids.drop k))) ∧ Hid (dn.length + ((t.kids.drop k).map (wgt n)).sum ≤ 140737488355328) ∧ w1.heap.size ≤ wr.heap.size ∧ Below (w.heap.size + 1) (w.alloc (.cells #[.int .u16 t.id, .string t.space, .string t.name, .slice na nl nc, .slice ka kl kc] 62)) wr) (fun _ i _ => kl - (intOf i).toNat)
      case atStart => exact ⟨0, _, by omega, rfl, HA7, HB2, HL2, by omega, hB7⟩
      case round =>
        clear b0 b1 b2 b3 b4
        obtain ⟨k, dn, hk, rfl, HA, HBB, HLL, hwr, hBr⟩ := hrel
        have hbx : wr.heap[w.heap.size]? = some (.cells #[.int .u16 t.id, .string t.space, .string t.name, .slice na nl nc, .slice ka kl kc] 62 (0, 0)) := by rw [hBr.block _ (by omega)]; exact heap_alloc_new w _
        obtain ⟨c0, c1, c2, c3, c4⟩ := cells5 hbx
        have hsr : w.heap.size < wr.heap.size := by omega
        have hBw : Below w.heap.size w wr := (below_one w _).trans (hBr.mono (by omega))
        clear hbx
        by_cases hlt : k < kl
        · obtain ⟨m, hm⟩ := H.out.pos (by omega)
          have hH := H.out
          rw [hm] at hH
          obtain ⟨x, b, off, xa, xl, xc, ya, yl, yc, hx, rfl, hb, e0, e1, e2, e3, e4, hin⟩ := (hH.old hBw).kid hlt
          have HIN : Hid (TyAt m F wr x xa xl xc ya yl yc) := hin
          have HP : Hid (PutQ m) := IH.out m hm
          obtain ⟨C, hC⟩ : ∃ C, C = tyB (m + 1) x := ⟨_, rfl⟩
          have hsd := sum_drop (f := wgt n) hx
          have HXW : Hid (wgt (m + 1) x ≤ 140737488355328) := by
            show _ ≤ _
            rw [← hm]
            have := HLL.out
            omega
          have HBC : Hid (B = cat (dn, 0) (cat C (goB (tyB n) (t.kids.drop (k + 1))))) := by
            show _ = _
            rw [HBB.out, goB_drop hx, hC, ← hm]
          have HCL : Hid (dn.length + C.1.length + ((t.kids.drop (k + 1)).map (wgt n)).sum ≤ 140737488355328) := by
            show _ ≤ _
            have h1 := tyB_len (m + 1) x
            rw [← hC, ← hm] at h1
            have := HLL.out
            omega
          have HC : Hid _ := hC
          clear hx hin hH hm hC hsd hBw
          go_wp2_with fail
          refine (HP.out F wr x _ _ _ _ _ _ HIN.out HXW.out C HC.out).mono ?_
          rintro e w3 ⟨a3, cp3, rfl, HI3, hB3⟩
          have hs3 := hB3.size
          have hB03 : Below (w.heap.size + 1) (w.alloc (.cells #[.int .u16 t.id, .string t.space, .string t.name, .slice na nl nc, .slice (some ⟨b, off, none⟩) kl kc] 62)) w3 := hBr.trans (hB3.mono (by omega))
          clear hBr e0 e1 e2 e3 e4
          obtain ⟨L3, hL3⟩ : ∃ L3, L3 = C.1.length := ⟨_, rfl⟩
          rw [← hL3]
          by_cases he : C.2 = 0
          · have HBN : Hid (B = cat (dn ++ C.1, 0) (goB (tyB n) (t.kids.drop (k + 1)))) := go_next HBC.out he
            have HI3' : Hid (IsB w3 a3 L3 cp3 C.1) := by show IsB _ _ _ _ _; rw [hL3]; exact HI3.out
            have HBN2 : Hid (dn.length + L3 ≤ 140737488355328) := by show _ ≤ _; have := HCL.out; omega
            have HA3 : Hid (Acc w3 w1.heap.size _ dn) := HA.out.grown hB3
            have HLN : Hid ((dn ++ C.1).length + ((t.kids.drop (k + 1)).map (wgt n)).sum ≤ 140737488355328) := by show _ ≤ _; rw [List.length_append]; exact HCL.out
            clear hL3 hB3
            rw [he]
            go_wp2_with (at_builtin; refine wpList_append_on rfl (.tmp 113) (.tmp 114) rfl rfl HA3.out rfl HI3'.out HBN2.out (by omega) ?_)
            intro v5 w5 HA5 hg5 hm5
            have hs5 := hg5.size
            have hB5 : Below (w.heap.size + 1) (w.alloc (.cells #[.int .u16 t.id, .string t.space, .string t.name, .slice na nl nc, .slice (some ⟨b, off, none⟩) kl kc] 62)) w5 := hB03.grown hg5 (by omega) (fun q hq => by have := (HA3.out.lt q hq).1; omega)
            clear hg5 hm5 hB03
            go_wp2_with fail
            go_roundw
            case rel => exact ⟨k + 1, dn ++ C.1, by omega, by go_num, HA5, HBN, HLN, by omega, hB5⟩
            case measure => simp [intOf]; omega
          · have t3 : (C.2 == 0) = false := by simpa using he
            have HE : Hid (B = ([], C.2)) := go_fail HBC.out he
            have hfin : Below w.heap.size w w3 := (below_one w _).trans (hB03.mono (by omega))
            clear he hL3 hB3 hB03
            go_wp2_with fail
            go_ret2
            exact ⟨none, 0, by rw [HE.out]; rfl, by rw [HE.out]; exact isB_nil _, hfin⟩
        · have HE : Hid (B = (dn, 0)) := by
            show _ = _
            rw [HBB.out, List.drop_of_length_le (by have := HKE.out; omega), goB, cat_nil]
            rfl
          obtain ⟨a9, cp9, hv9, hi9⟩ := isB_own HA.out (by
            have h3 := HRG.out
            rw [HE.out] at h3
            exact h3)
          have HI9 : Hid (IsB wr a9 dn.length cp9 dn) := hi9
          obtain ⟨L9, hL9⟩ : ∃ L9, L9 = dn.length := ⟨_, rfl⟩
          have HL9 : Hid _ := hL9
          rw [← hL9] at hv9
          subst hv9
          clear hBr hi9 hL9
          go_wp2_with fail
          go_ret2
          exact ⟨a9, cp9, by rw [HE.out, HL9.out]; rfl, by rw [HE.out]; exact HI9, hBw⟩
    · have t65 : (65535 : Int) < kl := by omega
      have HE : Hid (B = ([], 12)) := by
        have hcb : countB t.kids.length = ([], 12) := by rw [HKE.out, countB, if_neg hcl]
        have h1 := HB.out
        rw [hcb] at h1
        exact go_fail h1 (by decide)
      have hfin : Below w.heap.size w wr := (below_one w _).trans (hB2.mono (by omega))
      clear hcl
      go_wp2_with fail
      go_ret2
      exact ⟨none, 0, by rw [HE.out]; rfl, by rw [HE.out]; exact isB_nil _, hfin⟩


end Go.Proofs.YtnapeecmlkkolaaDoor
