/-
  The document's own put.
-/
import Derived.Test.YtnapeecmlkkolaaDoorRefOwn
import Derived.Test.YtnapeecmlkkolaaDoorRefPutC
namespace Go.Proofs.YtnapeecmlkkolaaDoor
open Go.RowKit
set_option linter.unusedVariables false
set_option linter.unusedSimpArgs false

theorem Acc.keep {w W : World} {base : Nat} {v : Value} {X : List Int} (h : Acc w base v X) (hb : ∀ k, v.ownBlock = some k → W.heap[k]? = w.heap[k]?) : Acc W base v X := ownsRow_keep h hb

set_option maxHeartbeats 4000000 in
set_option maxRecDepth 20000 in
theorem putq_udt (n : Nat) (ih : ∀ m, n = m + 1 → PutQ m) {F : Nat → Prop} {w : World} {t : Ty} {na : Option Addr} {nl nc : Nat} {ka : Option Addr} {kl kc : Nat} (h : TyAt n F w t na nl nc ka kl kc) (hbd : wgt (n + 1) t ≤ 140737488355328) (hh : hasB t.id kl nl = true) (q48 : (t.id == 48) = true) (q0 : (t.id == 0) = false) (h48 : (48 : Int) ≤ t.id) (hkn : kl = nl) {B : List Int × Int} (hB : B = cat (putL t.id 2, 0) (cat (textB t.space) (cat (textB t.name) (cat (countB t.kids.length) (goB (fieldB (tyB n)) (t.names.zip t.kids)))))) (hrg : ∀ j : Nat, 0 ≤ B.1[j]?.getD 0 ∧ B.1[j]?.getD 0 ≤ 255) :
    Calls Tryd.prog 66 #[.agg #[.int .u16 t.id, .string t.space, .string t.name, .slice na nl nc, .slice ka kl kc]] w fun e w' => ∃ a cp, e = .returned (.tuple #[.slice a B.1.length cp, .int .i64 B.2]) ∧ Hid (IsB w' a B.1.length cp B.1) ∧ Below w.heap.size w w' := by
  have HRG : Hid _ := hrg
  clear hrg
  have HKN : Hid _ := hkn
  clear hkn
  have hkl := h.kl_le
  have hnl := h.nl_le
  have hid := h.idr
  have HKM : Hid (kl ≤ maxLen ∧ nl ≤ maxLen) := ⟨by omega, by omega⟩
  unfold maxLen at hkl hnl
  have H : Hid (TyAt n F w t na nl nc ka kl kc) := h
  have IH : Hid _ := ih
  have HB : Hid _ := hB
  have HBD : Hid (131078 + 65537 * t.names.length + (t.kids.map (wgt n)).sum ≤ 140737488355328) := hbd
  have HH : Hid _ := hh
  have HKE : Hid _ := h.kl_eq
  have HNE : Hid _ := h.nl_eq
  have HSZ : Hid (t.space.size ≤ maxLen ∧ t.name.size ≤ maxLen) := ⟨h.2.1, h.2.2.1⟩
  clear h ih hB hbd hh
  go_enter Tryd.func66, Tryd.ntmps66
  go_wp2_with fail
  refine (own_any _ t.id t.space t.name na nl nc ka kl kc H.out.idr.1 H.out.idr.2 HKM.out.1 HKM.out.2 HH.out.symm).mono ?_
  rintro e w1 ⟨rfl, hB1⟩
  have hB0 : Below (w.heap.size + 1) (w.alloc (.cells #[.int .u16 t.id, .string t.space, .string t.name, .slice na nl nc, .slice ka kl kc] 62)) w1 := hB1.mono (by simp)
  have hbx1 : w1.heap[w.heap.size]? = some (.cells #[.int .u16 t.id, .string t.space, .string t.name, .slice na nl nc, .slice ka kl kc] 62 (0, 0)) := by rw [hB0.block _ (by omega)]; exact heap_alloc_new w _
  obtain ⟨b0, b1, b2, b3, b4⟩ := cells5 hbx1
  have hs1 : w.heap.size < w1.heap.size := by have := hB0.size; simp at this; omega
  clear hbx1 hB1
  go_wp2_with fail
  refine (rput_acc t.id w1 H.out.idr.1 H.out.idr.2).mono ?_
  rintro e w2 ⟨a2, cp2, rfl, HA2, HI2, hB12⟩
  have hB2 : Below (w.heap.size + 1) (w.alloc (.cells #[.int .u16 t.id, .string t.space, .string t.name, .slice na nl nc, .slice ka kl kc] 62)) w2 := hB0.trans (hB12.mono (by omega))
  have hbx2 : w2.heap[w.heap.size]? = some (.cells #[.int .u16 t.id, .string t.space, .string t.name, .slice na nl nc, .slice ka kl kc] 62 (0, 0)) := by rw [hB2.block _ (by omega)]; exact heap_alloc_new w _
  have hs12 := hB12.size
  obtain ⟨v2, hv2⟩ : ∃ v2, v2 = Value.slice a2 2 cp2 := ⟨_, rfl⟩
  rw [← hv2] at HA2 ⊢
  clear b0 b1 b2 b3 b4 hB0 hB12 hv2 HI2
  obtain ⟨b0, b1, b2, b3, b4⟩ := cells5 hbx2
  clear hbx2
  have HOS2 : Hid (OwnS w2 w1.heap.size (.slice none 0 0) v2 []) := ownS_nil _ _ _
  go_wp2_with (at_builtin; refine wpList_append_name (base := w1.heap.size) (v := .slice none 0 0) (u := v2) (ss := []) rfl (.tmp 24) (.tmp 27) rfl rfl ?c0 rfl (heap_alloc_new w2 _) HSZ.out.1 ?c3 ?c4 ?c5 ?_)
  case c0 => exact HOS2.out.old (below_one _ _)
  case c3 => intro q hq; have := (HA2.out.lt q hq).2; simp; omega
  case c4 => simp
  case c5 => simp; omega
  intro v3 w3 HOS3 HG3 HM3
  have hB23 : Below w2.heap.size w2 w3 := ((Below.refl _ _).alloc (Nat.le_refl _) _).grown HG3.out (by simp) (fun q hq => by simp [Value.ownBlock] at hq)
  have HA3 : Hid (Acc w3 w1.heap.size v2 (putL t.id 2)) := HA2.out.grown hB23
  have hs23 := hB23.size
  have hB03 : Below (w.heap.size + 1) (w.alloc (.cells #[.int .u16 t.id, .string t.space, .string t.name, .slice na nl nc, .slice ka kl kc] 62)) w3 := hB2.trans (hB23.mono (by omega))
  have hbx3 : w3.heap[w.heap.size]? = some (.cells #[.int .u16 t.id, .string t.space, .string t.name, .slice na nl nc, .slice ka kl kc] 62 (0, 0)) := by rw [hB03.block _ (by omega)]; exact heap_alloc_new w _
  have HOS3' : Hid (OwnS w3 w1.heap.size v3 v2 [t.space]) := HOS3
  clear HG3 HM3 hB2 HA2 b0 b1 b2 b3 b4 hB23 HOS2
  obtain ⟨b0, b1, b2, b3, b4⟩ := cells5 hbx3
  have hs3 : w.heap.size < w3.heap.size := by omega
  clear hbx3
  go_wp2_with (at_builtin; refine wpList_append_name (base := w1.heap.size) (v := v3) (u := v2) (ss := [t.space]) rfl (.tmp 37) (.tmp 40) rfl rfl ?c0 rfl (heap_alloc_new w3 _) HSZ.out.2 ?c3 ?c4 ?c5 ?_)
  case c0 => exact HOS3'.out.old (below_one _ _)
  case c3 => intro q hq; have := (HA3.out.lt q hq).2; simp; omega
  case c4 => simp
  case c5 => simp; omega
  intro v4 w4 HOS4 HG4 HM4
  have hs34 := HG4.out.size
  simp at hs34
  have hB04 : Below (w.heap.size + 1) (w.alloc (.cells #[.int .u16 t.id, .string t.space, .string t.name, .slice na nl nc, .slice ka kl kc] 62)) w4 := (hB03.trans ((below_one w3 _).mono (by omega))).grown HG4.out (by simp; omega) (fun q hq => by have := (HOS3'.out.lt q hq).1; omega)
  have HA4 : Hid (Acc w4 w1.heap.size v2 (putL t.id 2)) := by
    refine HA3.out.keep (fun q hq => ?_)
    rw [HG4.out.block q (by have := (HA3.out.lt q hq).2; simp; omega) (fun e => HOS3'.out.1 q e.symm hq)]
    exact (below_one w3 _).block q (HA3.out.lt q hq).2
  clear hB03 HA3
  have hB03 := hB04
  have HA3 := HA4
  obtain ⟨ss, hss⟩ : ∃ ss, ss = [t.space, t.name] := ⟨_, rfl⟩
  have HOS5 : Hid (OwnS w4 w1.heap.size v4 v2 ss) := by show OwnS _ _ _ _ _; rw [hss]; exact HOS4.out
  clear HOS3
  have HOS3 := HOS5
  obtain ⟨al, cl, hv4, _⟩ := HOS5.out.sees
  obtain ⟨L, hL⟩ : ∃ L, L = ss.length := ⟨_, rfl⟩
  rw [← hL] at hv4
  have HSL : Hid (ss.length = L) := hL.symm
  have HLE : Hid (L = 2) := by show _ = _; rw [hL, hss]; rfl
  have hL1 : L ≤ 2 := by have := HLE.out; omega
  subst hv4
  have HB3 : Hid (B = cat (putL t.id 2, 0) (chain (ss.drop 0) (cat (countB t.kids.length) (goB (fieldB (tyB n)) (t.names.zip t.kids))))) := by show _ = _; rw [HB.out, hss]; rfl
  clear hss hL HG4 HM4 hB04 HA4 HOS4 HOS5 HOS3' b0 b1 b2 b3 b4
  go_wp2_with fail
  go_loopw [4, 6] (fun out i wr => ∃ (k : Nat) (dn : List Int), k ≤ L ∧ i = .int .i64 k ∧ Hid (Acc wr w1.heap.size out dn) ∧ Hid (OwnS wr w1.heap.size (.slice al L cl) out ss) ∧ Hid (B = cat (dn, 0) (chain (ss.drop k) (cat (countB t.kids.length) (goB (fieldB (tyB n)) (t.names.zip t.kids))))) ∧ Hid (dn.length ≤ 2 + 65537 * k) ∧ w1.heap.size ≤ wr.heap.size ∧ Below (w.heap.size + 1) (w.alloc (.cells #[.int .u16 t.id, .string t.space, .string t.name, .slice na nl nc, .slice ka kl kc] 62)) wr) (fun _ i _ => L - (intOf i).toNat)
  case atStart => exact ⟨0, _, by omega, rfl, HA3, HOS3, HB3, (by show _ ≤ _; rw [putL_length]; omega), by omega, hB03⟩
  case round =>
    clear hB03
    obtain ⟨k, dn, hk, rfl, HA, HOS, HBB, HLD, hwr, hBr⟩ := hrel
    by_cases hlt : k < L
    · obtain ⟨al', cl', hv', hS⟩ := HOS.out.sees
      injection hv' with e1 e2 e3
      subst e1 e3
      rw [← e2] at hS
      obtain ⟨s, b, off, hs, rfl, hb, hc, hsz⟩ := sees_str hS hlt
      obtain ⟨C, hC⟩ : ∃ C, C = textB s := ⟨_, rfl⟩
      have HBC : Hid (B = cat (dn, 0) (cat C (chain (ss.drop (k + 1)) (cat (countB t.kids.length) (goB (fieldB (tyB n)) (t.names.zip t.kids)))))) := by show _ = _; rw [HBB.out, chain_drop hs, hC]
      have HCL : Hid (C.1.length ≤ 65537) := by show _ ≤ _; rw [hC]; exact textB_len s
      have HC : Hid _ := hC
      have HSM : Hid _ := hsz
      clear hs hS hC hsz e2
      go_wp2_with fail
      refine (rtext_any s wr HSM.out HC.out).mono ?_
      rintro e w4 ⟨a4, cp4, rfl, HI4, hB4⟩
      have hs4 := hB4.size
      have hB04 : Below (w.heap.size + 1) (w.alloc (.cells #[.int .u16 t.id, .string t.space, .string t.name, .slice na nl nc, .slice ka kl kc] 62)) w4 := hBr.trans (hB4.mono (by omega))
      clear hBr hc hb
      obtain ⟨L4, hL4⟩ : ∃ L4, L4 = C.1.length := ⟨_, rfl⟩
      rw [← hL4]
      by_cases he : C.2 = 0
      · have HBN : Hid (B = cat (dn ++ C.1, 0) (chain (ss.drop (k + 1)) (cat (countB t.kids.length) (goB (fieldB (tyB n)) (t.names.zip t.kids))))) := go_next HBC.out he
        have HI4' : Hid (IsB w4 a4 L4 cp4 C.1) := by show IsB _ _ _ _ _; rw [hL4]; exact HI4.out
        have HBN2 : Hid (dn.length + L4 ≤ 140737488355328) := by show _ ≤ _; have := HCL.out; have := HLD.out; omega
        have HA4 : Hid (Acc w4 w1.heap.size _ dn) := HA.out.grown hB4
        have HOS4 : Hid (OwnS w4 w1.heap.size _ _ ss) := HOS.out.old hB4
        have HLN : Hid ((dn ++ C.1).length ≤ 2 + 65537 * (k + 1)) := by show _ ≤ _; rw [List.length_append]; have := HCL.out; have := HLD.out; omega
        clear hL4 hB4
        rw [he]
        go_wp2_with (at_builtin; refine wpList_append_on rfl (.tmp 59) (.tmp 60) rfl rfl HA4.out rfl HI4'.out HBN2.out (by omega) ?_)
        intro v5 w5 HA5 hg5 hm5
        have hs5 := hg5.size
        have hB5 : Below (w.heap.size + 1) (w.alloc (.cells #[.int .u16 t.id, .string t.space, .string t.name, .slice na nl nc, .slice ka kl kc] 62)) w5 := hB04.grown hg5 (by omega) (fun q hq => by have := (HA4.out.lt q hq).1; omega)
        have HOS5 : Hid (OwnS w5 w1.heap.size _ v5 ss) := HOS4.out.other hg5 hm5
        clear hg5 hm5 hB04
        go_wp2_with fail
        go_roundw
        case rel => exact ⟨k + 1, dn ++ C.1, by omega, by go_num, HA5, HOS5, HBN, HLN, by omega, hB5⟩
        case measure => simp [intOf]; omega
      · have t3 : (C.2 == 0) = false := by simpa using he
        have HE : Hid (B = ([], C.2)) := go_fail HBC.out he
        have hfin : Below w.heap.size w w4 := (below_one w _).trans (hB04.mono (by omega))
        clear he hL4 hB4 hB04
        go_wp2_with fail
        go_ret2
        exact ⟨none, 0, by rw [HE.out]; rfl, by rw [HE.out]; exact isB_nil _, hfin⟩
    · have HB4 : Hid (B = cat (dn, 0) (cat (countB t.kids.length) (goB (fieldB (tyB n)) (t.names.zip t.kids)))) := by
        show _ = _
        rw [HBB.out, List.drop_of_length_le (by have := HSL.out; omega), chain]
      have hLk : dn.length ≤ 2 + 65537 * L := by
        have h1 := HLD.out
        have h2 : k = L := by omega
        rw [h2] at h1
        exact h1
      have HLK : Hid _ := hLk
      have hbx2 : wr.heap[w.heap.size]? = some (.cells #[.int .u16 t.id, .string t.space, .string t.name, .slice na nl nc, .slice ka kl kc] 62 (0, 0)) := by rw [hBr.block _ (by omega)]; exact heap_alloc_new w _
      obtain ⟨b0, b1, b2, b3, b4⟩ := cells5 hbx2
      have hsr : w.heap.size < wr.heap.size := by omega
      obtain ⟨wo, hwo⟩ : ∃ wo, wo = wr := ⟨_, rfl⟩
      subst hwo
      clear hbx2 hLk
      by_cases hcl : kl ≤ 65535
      · have t65 : decide ((65535 : Int) < kl) = false := by simp; omega
        have hcb : countB t.kids.length = (putL kl 2, 0) := by rw [HKE.out, countB, if_pos hcl]
        have HB2 : Hid (B = cat (dn ++ putL kl 2, 0) (goB (fieldB (tyB n)) ((t.names.zip t.kids).drop 0))) := by
          have h1 := HB4.out
          rw [hcb] at h1
          exact go_next h1 rfl
        have HL2 : Hid ((dn ++ putL kl 2).length + (((t.names.zip t.kids).drop 0).map fun p => 65537 + wgt n p.2).sum ≤ 140737488355328) := by
          show _ ≤ _
          rw [List.length_append, putL_length, List.drop_zero]
          have h1 := HBD.out
          have h2 := HLK.out
          have h3 := HLE.out
          have h4 := zip_sum (wgt n) t.names t.kids
          omega
        have HDN : Hid (dn.length + 2 ≤ 140737488355328) := by show _ ≤ _; have h2 := HLK.out; have h3 := HLE.out; omega
        clear hcb
        go_wp2_with fail
        refine (rput_acc kl wo (by omega) (by omega)).mono ?_
        rintro e w6 ⟨a6, cp6, rfl, HA6, HI6, hB6⟩
        have hs6 := hB6.size
        have hB06 : Below (w.heap.size + 1) (w.alloc (.cells #[.int .u16 t.id, .string t.space, .string t.name, .slice na nl nc, .slice ka kl kc] 62)) w6 := hBr.trans (hB6.mono (by omega))
        have HA26 := HA.out.grown hB6
        have HA26' : Hid _ := HA26
        clear hB6 HA26 b0 b1 b2 b3 b4 HA6
        go_wp2_with (at_builtin; refine wpList_append_on rfl (.tmp 69) (.tmp 74) rfl rfl HA26'.out rfl HI6.out HDN.out (by omega) ?_)
        intro v7 w7 HA7 hg7 hm7
        have hs7 := hg7.size
        have hB7 : Below (w.heap.size + 1) (w.alloc (.cells #[.int .u16 t.id, .string t.space, .string t.name, .slice na nl nc, .slice ka kl kc] 62)) w7 := hB06.grown hg7 (by omega) (fun q hq => by have := (HA26'.out.lt q hq).1; omega)
        have hbx7 : w7.heap[w.heap.size]? = some (.cells #[.int .u16 t.id, .string t.space, .string t.name, .slice na nl nc, .slice ka kl kc] 62 (0, 0)) := by rw [hB7.block _ (by omega)]; exact heap_alloc_new w _
        obtain ⟨b0, b1, b2, b3, b4⟩ := cells5 hbx7
        have hs17 : w1.heap.size ≤ w7.heap.size := by omega
        clear hg7 hm7 hB06 hbx7 hBr
        go_wp2_with fail
        go_loopw [4, 9] (fun out i wr => ∃ (k : Nat) (dn : List Int), k ≤ kl ∧ i = .int .i64 k ∧ Hid (Acc wr w1.heap.size out dn) ∧ Hid (B = cat (dn, 0) (goB (fieldB (tyB n)) ((t.names.zip t.kids).drop k))) ∧ Hid (dn.length + (((t.names.zip t.kids).drop k).map fun p => 65537 + wgt n p.2).sum ≤ 140737488355328) ∧ w1.heap.size ≤ wr.heap.size ∧ Below (w.heap.size + 1) (w.alloc (.cells #[.int .u16 t.id, .string t.space, .string t.name, .slice na nl nc, .slice ka kl kc] 62)) wr) (fun _ i _ => kl - (intOf i).toNat)
        case atStart => exact ⟨0, _, by omega, rfl, HA7, HB2, HL2, by omega, hB7⟩
        case round =>
          clear b0 b1 b2 b3 b4
          obtain ⟨k, dn, hk, rfl, HA, HBB, HLL, hwr, hBr⟩ := hrel
          have hbx : wr.heap[w.heap.size]? = some (.cells #[.int .u16 t.id, .string t.space, .string t.name, .slice na nl nc, .slice ka kl kc] 62 (0, 0)) := by rw [hBr.block _ (by omega)]; exact heap_alloc_new w _
          obtain ⟨c0, c1, c2, c3, c4⟩ := cells5 hbx
          have hsr : w.heap.size < wr.heap.size := by omega
          have hBw : Below w.heap.size w wr := (below_one w _).trans (hBr.mono (by omega))
          clear hbx
          by_cases hlt : k < kl
          · obtain ⟨m, hm⟩ := H.out.pos (by omega)
            have hH := H.out
            rw [hm] at hH
            obtain ⟨s, bn, offn, hsn, rfl, hbn, hcn, hszn⟩ := (hH.old hBw).name_at (k := k) (by have := HKN.out; omega)
            obtain ⟨x, b, off, xa, xl, xc, ya, yl, yc, hx, rfl, hb, e0, e1, e2, e3, e4, hin⟩ := (hH.old hBw).kid hlt
            have hz : (t.names.zip t.kids)[k]? = some (s, x) := by rw [List.getElem?_zip_eq_some]; exact ⟨hsn, hx⟩
            obtain ⟨T, hT⟩ : ∃ T, T = textB s := ⟨_, rfl⟩
            obtain ⟨C, hC⟩ : ∃ C, C = tyB (m + 1) x := ⟨_, rfl⟩
            have HP : Hid (PutQ m) := IH.out m hm
            have hsd := sum_zip_drop (f := wgt n) hsn hx
            have HXW : Hid (wgt (m + 1) x ≤ 140737488355328) := by
              show _ ≤ _
              rw [← hm]
              have := HLL.out
              omega
            have HBC : Hid (B = cat (dn, 0) (cat (cat T C) (goB (fieldB (tyB n)) ((t.names.zip t.kids).drop (k + 1))))) := by
              show _ = _
              rw [HBB.out, goB_drop hz, fieldB, hT, hC, ← hm]
            have HTL : Hid (T.1.length ≤ 65537) := by show _ ≤ _; rw [hT]; exact textB_len s
            have HCL : Hid (dn.length + 65537 + C.1.length + (((t.names.zip t.kids).drop (k + 1)).map fun p => 65537 + wgt n p.2).sum ≤ 140737488355328) := by
              show _ ≤ _
              have h1 := tyB_len (m + 1) x
              rw [← hC, ← hm] at h1
              have := HLL.out
              omega
            have HC : Hid _ := hC
            have HTT : Hid _ := hT
            have HSM : Hid _ := hszn
            have HM : Hid _ := hm
            have HX : Hid _ := hx
            have hln : k < nl := by have := HKN.out; omega
            clear hx hin hH hm hC hsd hBw hz hsn hT hszn
            go_wp2_with fail
            refine (rtext_any s wr HSM.out HTT.out).mono ?_
            rintro e w3 ⟨a3, cp3, rfl, HI3, hB3⟩
            have hs3 := hB3.size
            have hB03 : Below (w.heap.size + 1) (w.alloc (.cells #[.int .u16 t.id, .string t.space, .string t.name, .slice (some ⟨bn, offn, none⟩) nl nc, .slice (some ⟨b, off, none⟩) kl kc] 62)) w3 := hBr.trans (hB3.mono (by omega))
            clear hBr e0 e1 e2 e3 e4 hcn
            obtain ⟨L3, hL3⟩ : ∃ L3, L3 = T.1.length := ⟨_, rfl⟩
            rw [← hL3]
            by_cases heT : T.2 = 0
            · have HI3' : Hid (IsB w3 a3 L3 cp3 T.1) := by show IsB _ _ _ _ _; rw [hL3]; exact HI3.out
              have HBN2 : Hid (dn.length + L3 ≤ 140737488355328) := by show _ ≤ _; have := HCL.out; have := HTL.out; omega
              have HA3 : Hid (Acc w3 w1.heap.size _ dn) := HA.out.grown hB3
              have HBC2 : Hid (B = cat (dn ++ T.1, 0) (cat C (goB (fieldB (tyB n)) ((t.names.zip t.kids).drop (k + 1))))) := by
                show _ = _
                rw [HBC.out]
                by_cases heC : C.2 = 0
                · rw [cat_ok heT heC, ← cat_assoc (a := (dn, 0)) (b := (T.1 ++ C.1, 0)) (by rfl) (by rfl), ← cat_assoc (a := (dn ++ T.1, 0)) (b := C) (by rfl) heC, List.append_assoc]
                · rw [cat_no2 heT heC, cat_no (a := ([], C.2)) (by exact heC), cat_no (a := C) heC, cat_no2 (by rfl) (by exact heC), cat_no2 (by rfl) (by exact heC)]
              have HDT : Hid ((dn ++ T.1).length ≤ dn.length + 65537) := by show _ ≤ _; rw [List.length_append]; have := HTL.out; omega
              clear hL3 hB3
              rw [heT]
              go_wp2_with (at_builtin; refine wpList_append_on rfl (.tmp 98) (.tmp 99) rfl rfl HA3.out rfl HI3'.out HBN2.out (by omega) ?_)
              intro v5 w5 HA5 hg5 hm5
              have hs5 := hg5.size
              have hB5 : Below (w.heap.size + 1) (w.alloc (.cells #[.int .u16 t.id, .string t.space, .string t.name, .slice (some ⟨bn, offn, none⟩) nl nc, .slice (some ⟨b, off, none⟩) kl kc] 62)) w5 := hB03.grown hg5 (by omega) (fun q hq => by have := (HA3.out.lt q hq).1; omega)
              have hbx5 : w5.heap[w.heap.size]? = some (.cells #[.int .u16 t.id, .string t.space, .string t.name, .slice (some ⟨bn, offn, none⟩) nl nc, .slice (some ⟨b, off, none⟩) kl kc] 62 (0, 0)) := by rw [hB5.block _ (by omega)]; exact heap_alloc_new w _
              obtain ⟨d0, d1, d2, d3, d4⟩ := cells5 hbx5
              have hBw5 : Below w.heap.size w w5 := (below_one w _).trans (hB5.mono (by omega))
              have hH := H.out
              rw [HM.out] at hH
              obtain ⟨x', b', off', xa, xl, xc, ya, yl, yc, hx', hka, hb5, e0, e1, e2, e3, e4, hin⟩ := (hH.old hBw5).kid hlt
              obtain rfl : x = x' := Option.some.inj (HX.out.symm.trans hx')
              injection hka with hka
              injection hka with hk1 hk2 hk3
              subst hk1 hk2
              have HIN : Hid (TyAt m F w5 x xa xl xc ya yl yc) := hin
              clear hg5 hm5 hB03 hbx5 hH hx' hin hBw5 c0 c1 c2 c3 c4
              go_wp2_with fail
              refine (HP.out F w5 x _ _ _ _ _ _ HIN.out HXW.out C HC.out).mono ?_
              rintro e w6 ⟨a6, cp6, rfl, HI6, hB6⟩
              have hs6 := hB6.size
              have hB06 : Below (w.heap.size + 1) (w.alloc (.cells #[.int .u16 t.id, .string t.space, .string t.name, .slice (some ⟨bn, offn, none⟩) nl nc, .slice (some ⟨b, off, none⟩) kl kc] 62)) w6 := hB5.trans (hB6.mono (by omega))
              clear hB5 e0 e1 e2 e3 e4
              obtain ⟨L6, hL6⟩ : ∃ L6, L6 = C.1.length := ⟨_, rfl⟩
              rw [← hL6]
              by_cases he : C.2 = 0
              · have HBN : Hid (B = cat ((dn ++ T.1) ++ C.1, 0) (goB (fieldB (tyB n)) ((t.names.zip t.kids).drop (k + 1)))) := go_next HBC2.out he
                have HI6' : Hid (IsB w6 a6 L6 cp6 C.1) := by show IsB _ _ _ _ _; rw [hL6]; exact HI6.out
                have HBN3 : Hid ((dn ++ T.1).length + L6 ≤ 140737488355328) := by show _ ≤ _; have := HCL.out; have := HDT.out; omega
                have HA6 : Hid (Acc w6 w1.heap.size _ (dn ++ T.1)) := HA5.out.grown hB6
                have HLN : Hid (((dn ++ T.1) ++ C.1).length + (((t.names.zip t.kids).drop (k + 1)).map fun p => 65537 + wgt n p.2).sum ≤ 140737488355328) := by show _ ≤ _; rw [List.length_append]; have := HCL.out; have := HDT.out; omega
                clear hL6 hB6
                rw [he]
                obtain ⟨dt, hdt⟩ : ∃ dt, dt = dn ++ T.1 := ⟨_, rfl⟩
                rw [← hdt] at HA6 HBN HBN3 HLN
                clear hdt
                go_wp2_with (at_builtin; refine wpList_append_on rfl (.tmp 113) (.tmp 114) rfl rfl HA6.out rfl HI6'.out HBN3.out (by omega) ?_)
                intro v7 w7 HA7 hg7 hm7
                have hs7 := hg7.size
                have hB7 : Below (w.heap.size + 1) (w.alloc (.cells #[.int .u16 t.id, .string t.space, .string t.name, .slice (some ⟨bn, offn, none⟩) nl nc, .slice (some ⟨b, off, none⟩) kl kc] 62)) w7 := hB06.grown hg7 (by omega) (fun q hq => by have := (HA6.out.lt q hq).1; omega)
                clear hg7 hm7 hB06
                go_wp2_with fail
                go_roundw
                case rel => exact ⟨k + 1, dt ++ C.1, by omega, by go_num, HA7, HBN, HLN, by omega, hB7⟩
                case measure => simp [intOf]; omega
              · have t3 : (C.2 == 0) = false := by simpa using he
                have HE : Hid (B = ([], C.2)) := go_fail HBC2.out he
                have hfin : Below w.heap.size w w6 := (below_one w _).trans (hB06.mono (by omega))
                clear he hL6 hB6 hB06
                go_wp2_with fail
                go_ret2
                exact ⟨none, 0, by rw [HE.out]; rfl, by rw [HE.out]; exact isB_nil _, hfin⟩
            · have t3 : (T.2 == 0) = false := by simpa using heT
              have HE : Hid (B = ([], T.2)) := by
                show _ = _
                rw [HBC.out, cat_no (a := T) heT, cat_no (a := ([], T.2)) (by exact heT), cat_no2 (by rfl) (by exact heT)]
              have hfin : Below w.heap.size w w3 := (below_one w _).trans (hB03.mono (by omega))
              clear heT hL3 hB3 hB03
              go_wp2_with fail
              go_ret2
              exact ⟨none, 0, by rw [HE.out]; rfl, by rw [HE.out]; exact isB_nil _, hfin⟩
          · have HE : Hid (B = (dn, 0)) := by
              show _ = _
              rw [HBB.out, List.drop_of_length_le (by rw [List.length_zip]; have := HKE.out; omega), goB, cat_nil]
              rfl
            obtain ⟨a9, cp9, hv9, hi9⟩ := isB_own HA.out (by
              have h3 := HRG.out
              rw [HE.out] at h3
              exact h3)
            have HI9 : Hid (IsB wr a9 dn.length cp9 dn) := hi9
            obtain ⟨L9, hL9⟩ : ∃ L9, L9 = dn.length := ⟨_, rfl⟩
            have HL9 : Hid _ := hL9
            rw [← hL9] at hv9
            subst hv9
            clear hBr hi9 hL9
            go_wp2_with fail
            go_ret2
            exact ⟨a9, cp9, by rw [HE.out, HL9.out]; rfl, by rw [HE.out]; exact HI9, hBw⟩
      · have t65 : (65535 : Int) < kl := by omega
        have HE : Hid (B = ([], 12)) := by
          have hcb : countB t.kids.length = ([], 12) := by rw [HKE.out, countB, if_neg hcl]
          have h1 := HB4.out
          rw [hcb] at h1
          exact go_fail h1 (by decide)
        have hfin : Below w.heap.size w wo := (below_one w _).trans (hBr.mono (by omega))
        clear hcl
        go_wp2_with fail
        go_ret2
        exact ⟨none, 0, by rw [HE.out]; rfl, by rw [HE.out]; exact isB_nil _, hfin⟩


end Go.Proofs.YtnapeecmlkkolaaDoor
