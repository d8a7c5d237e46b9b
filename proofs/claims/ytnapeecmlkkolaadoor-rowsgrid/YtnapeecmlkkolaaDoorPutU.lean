/-
  The contracts of putUdt, putType and Put.
-/
import Derived.Test.YtnapeecmlkkolaaDoorPutT
namespace Go.Proofs.YtnapeecmlkkolaaDoor
open Go.RowKit
set_option linter.unusedVariables false
set_option linter.unusedSimpArgs false

theorem sum_zip_drop {ns : List ByteArray} {xs : List Ty} {f : Ty → Nat} {k : Nat} {s : ByteArray} {x : Ty} (hs : ns[k]? = some s) (hx : xs[k]? = some x) :
    (((ns.zip xs).drop k).map fun p => 65537 + f p.2).sum = 65537 + f x + (((ns.zip xs).drop (k + 1)).map fun p => 65537 + f p.2).sum := by
  have hz : (ns.zip xs)[k]? = some (s, x) := by rw [List.getElem?_zip_eq_some]; exact ⟨hs, hx⟩
  have hk := (List.getElem?_eq_some_iff.1 hz).1
  rw [List.drop_eq_getElem_cons hk, (List.getElem?_eq_some_iff.1 hz).2, List.map_cons, List.sum_cons]

theorem fieldB_len (n : Nat) (s : ByteArray) (x : Ty) : (fieldB (tyB n) (s, x)).1.length ≤ 65537 + wgt n x := by
  have h1 := cat_len (textB s) (tyB n x)
  have h2 := textB_len s
  have h3 := tyB_len n x
  show (cat (textB s) (tyB n x)).1.length ≤ 65537 + wgt n x
  omega

theorem Moved.far {w : World} {o : Obj} {base : Nat} {v u : Value} {acc : List Int} (h : Moved (w.alloc o) v u) (ha : Acc w base v acc) : u.ownBlock ≠ some w.heap.size := by
  intro e
  rcases h with h | ⟨g, hg, hl⟩
  · rw [h] at e
    have := (ha.lt _ e).2
    omega
  · rw [hg] at e; cases e
    simp at hl; omega

set_option maxHeartbeats 2000000 in
theorem putUdt_any (n : Nat) (ih : ∀ m, n = m + 1 → PutsTy m) {base : Nat} {w : World} {v : Value} {acc : List Int} {t : Ty} {na : Option Addr} {nc : Nat} {ka : Option Addr} {kl kc : Nat} (ha : Acc w base v acc) (hb0 : 0 < base) (hb : base ≤ w.heap.size)
    (h : TyAt n (fun k => k < base) w t na kl nc ka kl kc) (hT : Tab w) (hbd : acc.length + 131076 + 65537 * t.names.length + (t.kids.map (wgt n)).sum ≤ 140737488355328) {B : List Int × Int}
    (hB : B = cat (textB t.space) (cat (textB t.name) (cat (countB t.kids.length) (goB (fieldB (tyB n)) (t.names.zip t.kids))))) :
    Calls Tryd.prog 96 #[v, .agg #[.int .u16 t.id, .string t.space, .string t.name, .slice na kl nc, .slice ka kl kc]] w fun e w' => ∃ v', e = .returned (.tuple #[v', .int .i64 B.2]) ∧ Hid (On base w v acc B w' v') := by
  obtain ⟨S, hS⟩ : ∃ C, C = textB t.space := ⟨_, rfl⟩
  obtain ⟨M, hM⟩ : ∃ C, C = textB t.name := ⟨_, rfl⟩
  obtain ⟨C, hC⟩ : ∃ C, C = countB t.kids.length := ⟨_, rfl⟩
  obtain ⟨G, hG⟩ : ∃ G, G = goB (fieldB (tyB n)) (t.names.zip t.kids) := ⟨_, rfl⟩
  rw [← hC, ← hG, ← hS, ← hM] at hB
  rw [h.kl_eq] at hC
  have HLS : Hid (S.1.length ≤ 65537) := by show _ ≤ _; rw [hS]; exact textB_len _
  have HLN : Hid (M.1.length ≤ 65537) := by show _ ≤ _; rw [hM]; exact textB_len _
  have HLC : Hid (C.1.length ≤ 2) := by show _ ≤ _; rw [hC]; exact countB_len _
  have hkl := h.kl_le
  have HLM : Hid (kl ≤ maxLen) := Nat.le_trans hkl.1 hkl.2
  unfold maxLen at hkl
  have hnl := h.nl_le
  unfold maxLen at hnl
  have HL : Hid (t.kids.length = kl) := h.kl_eq
  have HNL : Hid (t.names.length = kl) := h.nl_eq
  have HA : Hid (Acc w base v acc) := ha
  have H : Hid (TyAt n (fun k => k < base) w t na kl nc ka kl kc) := h
  have HSP : Hid (t.space.size ≤ maxLen ∧ t.name.size ≤ maxLen) := ⟨h.2.1, h.2.2.1⟩
  have HT : Hid (Tab w) := hT
  have HB : Hid _ := hB
  have HS : Hid _ := hS
  have HM : Hid _ := hM
  have HC : Hid _ := hC
  have HGG : Hid _ := hG
  have HBD : Hid _ := hbd
  have IH : Hid _ := ih
  have HLT : Hid (∀ j, v.ownBlock = some j → base ≤ j) := fun j hj => (HA.out.lt j hj).1
  clear ha h hT hB hC hG hbd hS hM ih
  go_enter Tryd.func96, Tryd.ntmps96
  go_wp2_with fail
  refine (putText_any (HA.out.grown (below_one _ _)) (by simp; omega) (by have := HBD.out; omega) t.space HSP.out.1 HS.out).mono ?_
  rintro e w1 ⟨v1, rfl, hO⟩
  have hbx1 : w1.cell? ⟨w.heap.size, 2, .none⟩ = some (.string t.name) := (hO.boxed HA.out 2).trans (cell_box _ _ _ _ _ rfl)
  have HO1 : Hid (On _ _ _ _ _ _ _) := hO
  clear hO
  by_cases he1 : S.2 = 0
  · have hs1 := HO1.out.grown.size
    simp at hs1
    obtain ⟨hA1, hM1⟩ := HO1.out.ok he1
    obtain ⟨X1, hX1⟩ : ∃ X1, X1 = acc ++ S.1 := ⟨_, rfl⟩
    rw [← hX1] at hA1
    have HX1 : Hid (X1.length ≤ acc.length + 65537) := by show _ ≤ _; have := HLS.out; rw [hX1, List.length_append]; omega
    have HA1 : Hid (Acc w1 base v1 X1) := hA1
    have HX1e : Hid _ := hX1
    clear hA1 hM1 hX1
    rw [he1]
    go_wp2_with fail
    refine (putText_any HA1.out (by omega) (by have := HBD.out; have := HX1.out; omega) t.name HSP.out.2 HM.out).mono ?_
    rintro e w2 ⟨v2, rfl, hO2⟩
    have HO2 : Hid (On _ _ _ _ _ _ _) := hO2
    have HO12 : Hid (On base (w.alloc (.cells #[.int .u16 t.id, .string t.space, .string t.name, .slice na kl nc, .slice ka kl kc] 62)) v acc (cat S M) w2 v2) := HO1.out.then he1 (HX1e.out ▸ hO2)
    have hbx2 : w2.cell? ⟨w.heap.size, 4, .none⟩ = some (.slice ka kl kc) := (HO12.out.boxed HA.out 4).trans (cell_box _ _ _ _ _ rfl)
    clear hO2
    by_cases he2 : M.2 = 0
    · have hs2 := HO2.out.grown.size
      obtain ⟨hA2, hM2⟩ := HO2.out.ok he2
      obtain ⟨X2, hX2⟩ : ∃ X2, X2 = X1 ++ M.1 := ⟨_, rfl⟩
      rw [← hX2] at hA2
      have HX2 : Hid (X2.length ≤ acc.length + 131074) := by show _ ≤ _; have := HLN.out; have := HX1.out; rw [hX2, List.length_append]; omega
      have HA2 : Hid (Acc w2 base v2 X2) := hA2
      have HX2e : Hid _ := hX2
      clear hA2 hM2 hX2
      rw [he2]
      go_wp2_with fail
      refine (putCount_any HA2.out (by omega) (by have := HBD.out; have := HX2.out; omega) kl HLM.out HC.out).mono ?_
      rintro e w3 ⟨v3, rfl, hO3⟩
      have HO3 : Hid (On base w2 v2 X2 C w3 v3) := hO3
      have HO23 : Hid (On base w1 v1 X1 (cat M C) w3 v3) := HO2.out.then he2 (HX2e.out ▸ hO3)
      have HO13 : Hid (On base (w.alloc (.cells #[.int .u16 t.id, .string t.space, .string t.name, .slice na kl nc, .slice ka kl kc] 62)) v acc (cat S (cat M C)) w3 v3) := HO1.out.then he1 (HX1e.out ▸ HO23.out)
      have hbx3 : w3.cell? ⟨w.heap.size, 4, .none⟩ = some (.slice ka kl kc) := (HO13.out.boxed HA.out 4).trans (cell_box _ _ _ _ _ rfl)
      have HBX3 : Hid (w3.cell? ⟨w.heap.size, 3, .none⟩ = some (.slice na kl nc)) := (HO13.out.boxed HA.out 3).trans (cell_box _ _ _ _ _ rfl)
      clear hO3
      by_cases he3 : C.2 = 0
      · have hs3 := HO3.out.grown.size
        have he13 : (cat S (cat M C)).2 = 0 := by rw [cat_err he1, cat_err he2, he3]
        have HMV : Hid (Moved _ _ _) := (HO13.out.ok he13).2
        obtain ⟨hA3, hM3⟩ := HO3.out.ok he3
        obtain ⟨X3, hX3⟩ : ∃ X3, X3 = X2 ++ C.1 := ⟨_, rfl⟩
        rw [← hX3] at hA3
        have HX3 : Hid (X3.length ≤ acc.length + 131076) := by show _ ≤ _; have := HLC.out; have := HX2.out; rw [hX3, List.length_append]; omega
        have HA3 : Hid (Acc w3 base v3 X3) := hA3
        have HX3e : Hid _ := hX3
        have HTY3 : Hid (TyAt n (fun k => k < base) w3 t na kl nc ka kl kc) := (H.out.old (below_one _ _)).on HO13.out.grown HLT.out
        have HT3 : Hid (Tab w3) := (HT.out.old (below_one _ _)).on HO13.out.grown HLT.out hb0
        have HLT3 : Hid (∀ j, v3.ownBlock = some j → base ≤ j) := fun j hj => (HA3.out.lt j hj).1
        have HFAR : Hid (v3.ownBlock ≠ some w.heap.size) := HMV.out.far HA.out
        have HB0 : Hid (G = cat ([], 0) (goB (fieldB (tyB n)) ((t.names.zip t.kids).drop 0))) := by
          show _ = _
          rw [List.drop_zero, ← HGG.out]
          exact (nil_cat (HGG.out ▸ goB_pure _)).symm
        have HBD0 : Hid (X3.length + [].length (α := Int) + (((t.names.zip t.kids).drop 0).map fun p => 65537 + wgt n p.2).sum ≤ 140737488355328) := by
          show _ ≤ _
          rw [List.drop_zero]
          have := zip_sum (wgt n) t.names t.kids
          have := HBD.out
          have := HX3.out
          simp only [List.length_nil]
          omega
        clear hA3 hM3 hX3 he13
        rw [he3]
        go_wp2_with fail
        go_loopw [0, 43] (fun u i wr => ∃ (k : Nat) (done : List Int), k ≤ kl ∧ i = .int .i64 k ∧ Hid (Acc wr base u (X3 ++ done)) ∧ Hid (G = cat (done, 0) (goB (fieldB (tyB n)) ((t.names.zip t.kids).drop k))) ∧
            Hid (X3.length + done.length + (((t.names.zip t.kids).drop k).map fun p => 65537 + wgt n p.2).sum ≤ 140737488355328) ∧ Hid (w3.grownBy wr v3.ownBlock) ∧ Hid (Moved w3 v3 u)) (fun _ i _ => kl - (intOf i).toNat)
        case atStart => exact ⟨0, [], by omega, rfl, by rw [List.append_nil]; exact HA3, HB0, HBD0, World.grownBy.refl _ _, Moved.refl _ _⟩
        case round =>
          obtain ⟨k, done, hk, rfl, HAk, HBk, HBDk, HG, HMv⟩ := hrel
          have hsz := HG.out.size
          have hbxr : wr.cell? ⟨w.heap.size, 3, .none⟩ = some (.slice na kl nc) := (HG.out.cell_far ⟨w.heap.size, 3, .none⟩ (by show w.heap.size < _; omega) (fun e => HFAR.out e.symm)).trans HBX3.out
          have hwl : w.heap.size < wr.heap.size := by omega
          have HTYk : Hid (TyAt n (fun k => k < base) wr t na kl nc ka kl kc) := HTY3.out.on HG.out HLT3.out
          by_cases hlt : k < kl
          · obtain ⟨m, hm⟩ := H.out.pos (by omega)
            obtain ⟨s, bn, offn, hsn, rfl, hbn, cn, hsm⟩ := HTYk.out.name_at (k := k) (by omega)
            obtain ⟨x, b, off, xa, xl, xc, ya, yl, yc, hx, rfl, hbs, c0, c1, c2, c3, c4, hin⟩ := (hm ▸ HTYk.out : TyAt (m + 1) (fun k => k < base) wr t (some ⟨bn, offn, .none⟩) kl nc ka kl kc).kid hlt
            obtain ⟨Bs, hBs⟩ : ∃ Bs, Bs = textB s := ⟨_, rfl⟩
            obtain ⟨Bx, hBx⟩ : ∃ Bx, Bx = tyB n x := ⟨_, rfl⟩
            have HX : Hid _ := hx
            have HSN : Hid _ := hsn
            have HSM : Hid _ := hsm
            have HIN : Hid (TyAt m (fun k => k < base) wr x xa xl xc ya yl yc) := hin
            have HBX : Hid _ := hBx
            have HBS : Hid _ := hBs
            have HBSL : Hid (Bs.1.length ≤ 65537) := by show _ ≤ _; rw [hBs]; exact textB_len _
            have HW : Hid ((X3 ++ done).length + 65537 + wgt (m + 1) x ≤ 140737488355328) := by
              show _ ≤ _
              have := HBDk.out
              rw [sum_zip_drop hsn hx, hm] at this
              rw [List.length_append]; omega
            have HBX2 : Hid (Bx = tyB (m + 1) x) := by show _ = _; rw [hBx, hm]
            have HTk : Hid (Tab wr) := HT3.out.on HG.out HLT3.out hb0
            have HMM : Hid _ := hm
            have HGD : Hid (goB (fieldB (tyB n)) ((t.names.zip t.kids).drop k) = cat (cat Bs Bx) (goB (fieldB (tyB n)) ((t.names.zip t.kids).drop (k + 1)))) := by
              show _ = _
              rw [goB_drop (x := (s, x)) (by rw [List.getElem?_zip_eq_some]; exact ⟨hsn, hx⟩), hBs, hBx]; rfl
            clear hx hin hBx hm hsn hsm hBs
            go_wp2_with fail
            refine (putText_any (HAk.out.grown (below_one _ _)) (by simp; omega) (by have := HW.out; omega) s HSM.out HBS.out).mono ?_
            rintro e w4 ⟨v4, rfl, hO4⟩
            have d0 : w4.cell? ⟨wr.heap.size, 0, .none⟩ = some (.int .u16 x.id) := (hO4.boxed HAk.out 0).trans (cell_box _ _ _ _ _ rfl)
            have d1 : w4.cell? ⟨wr.heap.size, 1, .none⟩ = some (.string x.space) := (hO4.boxed HAk.out 1).trans (cell_box _ _ _ _ _ rfl)
            have d2 : w4.cell? ⟨wr.heap.size, 2, .none⟩ = some (.string x.name) := (hO4.boxed HAk.out 2).trans (cell_box _ _ _ _ _ rfl)
            have d3 : w4.cell? ⟨wr.heap.size, 3, .none⟩ = some (.slice xa xl xc) := (hO4.boxed HAk.out 3).trans (cell_box _ _ _ _ _ rfl)
            have d4 : w4.cell? ⟨wr.heap.size, 4, .none⟩ = some (.slice ya yl yc) := (hO4.boxed HAk.out 4).trans (cell_box _ _ _ _ _ rfl)
            have HO4 : Hid (On _ _ _ _ _ _ _) := hO4
            have HG4 : Hid (w3.grownBy w4 v3.ownBlock) := grownBy_then HG.out HMv.out (((below_grownBy (below_one wr _) _)).trans hO4.grown)
            clear hO4
            by_cases he4 : Bs.2 = 0
            · have hs4 := HO4.out.grown.size
              simp at hs4
              have HLTk : Hid (∀ j, u0.ownBlock = some j → base ≤ j) := fun j hj => (HAk.out.lt j hj).1
              rw [he4]
              go_wp2_with fail
              refine (IH.out m HMM.out base _ v4 ((X3 ++ done) ++ Bs.1) x xa xl xc ya yl yc (HO4.out.ok he4).1 hb0 (by omega) ((HIN.out.old (below_one _ _)).on HO4.out.grown HLTk.out) ((HTk.out.old (below_one _ _)).on HO4.out.grown HLTk.out hb0)
                (by have := HW.out; have := HBSL.out; rw [List.length_append]; omega) Bx HBX2.out).mono ?_
              rintro e w5 ⟨v5, rfl, HO5⟩
              have HO45 : Hid (On base wr u0 (X3 ++ done) (cat Bs Bx) w5 v5) := (HO4.out.then he4 HO5.out).box
              have HG5 : Hid (w3.grownBy w5 v3.ownBlock) := grownBy_then HG.out HMv.out HO45.out.grown
              by_cases he5 : Bx.2 = 0
              · have he45 : (cat Bs Bx).2 = 0 := by rw [cat_err he4, he5]
                obtain ⟨hA5, hM5⟩ := HO45.out.ok he45
                have HA5 : Hid (Acc w5 base v5 (X3 ++ (done ++ (cat Bs Bx).1))) := by
                  show Acc _ _ _ _
                  rw [← List.append_assoc]; exact hA5
                have HM5 : Hid (Moved w3 v3 v5) := HMv.out.trans hM5 hsz
                have HB5 : Hid (G = cat (done ++ (cat Bs Bx).1, 0) (goB (fieldB (tyB n)) ((t.names.zip t.kids).drop (k + 1)))) := by
                  have := HBk.out
                  rw [HGD.out] at this
                  exact go_next this he45
                have HBD5 : Hid (X3.length + (done ++ (cat Bs Bx).1).length + (((t.names.zip t.kids).drop (k + 1)).map fun p => 65537 + wgt n p.2).sum ≤ 140737488355328) := by
                  show _ ≤ _
                  have := HBDk.out
                  rw [sum_zip_drop HSN.out HX.out] at this
                  have h2 := fieldB_len n s x
                  have h3 : fieldB (tyB n) (s, x) = cat Bs Bx := by rw [HBS.out, HBX.out]; rfl
                  rw [h3] at h2
                  rw [List.length_append]; omega
                generalize (cat Bs Bx).1 = Z at *
                clear hA5 hM5 he45
                rw [he5]
                go_wp2_with fail
                go_roundw
                case rel => exact ⟨k + 1, done ++ Z, by omega, by go_num, HA5, HB5, HBD5, HG5, HM5⟩
                case measure => simp [intOf]; omega
              · have t2 : (Bx.2 == 0) = false := by simpa using he5
                have HE : Hid (G = ([], Bx.2)) := by
                  have := HBk.out
                  rw [HGD.out] at this
                  have h2 := go_fail this (by rw [cat_err he4]; exact he5)
                  rw [cat_err he4] at h2
                  exact h2
                have HO35 : Hid (On base w3 v3 X3 G w5 (.slice none 0 0)) := ⟨HG5.out, fun hh => absurd hh (by rw [HE.out]; exact he5), fun _ => rfl⟩
                have HBE : Hid (B.2 = Bx.2) := by show _ = _; rw [HB.out, cat_err he1, cat_err he2, cat_err he3, HE.out]
                have HON : Hid (On base w v acc B w5 (.slice none 0 0)) := by
                  show On _ _ _ _ _ _ _
                  rw [HB.out]
                  exact (HO1.out.then he1 (HX1e.out ▸ HO2.out.then he2 (HX2e.out ▸ HO3.out.then he3 (HX3e.out ▸ HO35.out)))).box
                clear he5
                go_wp2_with fail
                go_ret2
                exact ⟨_, by rw [HBE.out]; rfl, HON⟩
            · have t2 : (Bs.2 == 0) = false := by simpa using he4
              have HE : Hid (G = ([], Bs.2)) := by
                have := HBk.out
                rw [HGD.out, cat_no he4] at this
                exact go_fail (b := ([], Bs.2)) this (by exact he4)
              have HO34 : Hid (On base w3 v3 X3 G w4 (.slice none 0 0)) := ⟨HG4.out, fun hh => absurd hh (by rw [HE.out]; exact he4), fun _ => rfl⟩
              have HBE : Hid (B.2 = Bs.2) := by show _ = _; rw [HB.out, cat_err he1, cat_err he2, cat_err he3, HE.out]
              have HON : Hid (On base w v acc B w4 (.slice none 0 0)) := by
                show On _ _ _ _ _ _ _
                rw [HB.out]
                exact (HO1.out.then he1 (HX1e.out ▸ HO2.out.then he2 (HX2e.out ▸ HO3.out.then he3 (HX3e.out ▸ HO34.out)))).box
              clear he4
              go_wp2_with fail
              go_ret2
              exact ⟨_, by rw [HBE.out]; rfl, HON⟩
          · have HE : Hid (G = (done, 0)) := by
              have := HBk.out
              rw [List.drop_eq_nil_of_le (by rw [List.length_zip, HL.out, HNL.out]; omega), goB, cat_ok (by rfl) (by rfl), List.append_nil] at this
              exact this
            have HO34 : Hid (On base w3 v3 X3 G wr u0) := ⟨HG.out, fun _ => ⟨by rw [HE.out]; exact HAk, HMv⟩, fun hh => absurd (by rw [HE.out]) hh⟩
            have HBE : Hid (B.2 = 0) := by show _ = _; rw [HB.out, cat_err he1, cat_err he2, cat_err he3, HE.out]
            have HON : Hid (On base w v acc B wr u0) := by
              show On _ _ _ _ _ _ _
              rw [HB.out]
              exact (HO1.out.then he1 (HX1e.out ▸ HO2.out.then he2 (HX2e.out ▸ HO3.out.then he3 (HX3e.out ▸ HO34.out)))).box
            go_wp2_with fail
            go_ret2
            exact ⟨_, by rw [HBE.out]; rfl, HON⟩
      · have t2 : (C.2 == 0) = false := by simpa using he3
        have HON : Hid (On base w v acc B w3 (.slice none 0 0)) := by
          show On _ _ _ _ _ _ _
          rw [HB.out]
          exact (HO1.out.then he1 (HX1e.out ▸ HO2.out.then he2 (HX2e.out ▸ HO3.out.stop he3))).box
        have HBE : Hid (B.2 = C.2) := by show _ = _; rw [HB.out, cat_err he1, cat_err he2, cat_no he3]
        clear he3
        go_wp2_with fail
        go_ret2
        exact ⟨_, by rw [HBE.out]; rfl, HON⟩
    · have t2 : (M.2 == 0) = false := by simpa using he2
      have HON : Hid (On base w v acc B w2 (.slice none 0 0)) := by
        show On _ _ _ _ _ _ _
        rw [HB.out]
        exact (HO1.out.then he1 (HX1e.out ▸ HO2.out.stop he2)).box
      have HBE : Hid (B.2 = M.2) := by show _ = _; rw [HB.out, cat_err he1, cat_no he2]
      clear he2
      go_wp2_with fail
      go_ret2
      exact ⟨_, by rw [HBE.out]; rfl, HON⟩
  · have t2 : (S.2 == 0) = false := by simpa using he1
    have HON : Hid (On base w v acc B w1 (.slice none 0 0)) := by
      show On _ _ _ _ _ _ _
      rw [HB.out]; exact (HO1.out.stop he1).box
    have HBE : Hid (B.2 = S.2) := by show _ = _; rw [HB.out, cat_no he1]
    clear he1
    go_wp2_with fail
    go_ret2
    exact ⟨_, by rw [HBE.out]; rfl, HON⟩

set_option maxHeartbeats 1000000 in
theorem putType_no (n : Nat) {base : Nat} {w : World} {v : Value} {t : Ty} {na : Option Addr} {nl nc : Nat} {ka : Option Addr} {kl kc : Nat}
    (h : TyAt n (fun k => k < base) w t na nl nc ka kl kc) (hT : Tab w) (hh : hasB t.id t.kids.length t.names.length = false) :
    Calls Tryd.prog 89 #[v, .agg #[.int .u16 t.id, .string t.space, .string t.name, .slice na nl nc, .slice ka kl kc]] w fun e w' => e = .returned (.tuple #[.slice none 0 0, .int .i64 1]) ∧ Below w.heap.size w w' := by
  have H : Hid (TyAt n (fun k => k < base) w t na nl nc ka kl kc) := h
  have HT : Hid (Tab w) := hT
  have HH : Hid _ := hh
  clear h hT hh
  go_enter Tryd.func89, Tryd.ntmps89
  go_wp2_with fail
  refine (has_any (H.out.old (below_one _ _)) (HT.out.old (below_one _ _)) HH.out.symm).mono ?_
  rintro e w1 ⟨rfl, hB⟩
  go_wp2_with fail
  go_ret2
  exact ⟨rfl, (below_one _ _).trans (hB.mono (by simp))⟩

set_option maxHeartbeats 1000000 in
theorem putType_custom (n : Nat) (ih : ∀ m, n = m + 1 → PutsTy m) {base : Nat} {w : World} {v : Value} {acc : List Int} {t : Ty} {na : Option Addr} {nl nc : Nat} {ka : Option Addr} {kl kc : Nat} (ha : Acc w base v acc) (hb0 : 0 < base) (hb : base ≤ w.heap.size)
    (h : TyAt n (fun k => k < base) w t na nl nc ka kl kc) (hT : Tab w) (hbd : acc.length + wgt (n + 1) t ≤ 140737488355328) (hh : hasB t.id t.kids.length t.names.length = true) (q0 : (t.id == 0) = true) {R : List Int × Int} (hR : R = textB t.name) :
    Calls Tryd.prog 89 #[v, .agg #[.int .u16 t.id, .string t.space, .string t.name, .slice na nl nc, .slice ka kl kc]] w fun e w' => ∃ v', e = .returned (.tuple #[v', .int .i64 R.2]) ∧ Hid (On base w v acc (cat (putL t.id 2, 0) R) w' v') := by
  have hid := h.idr
  have HA : Hid (Acc w base v acc) := ha
  have H : Hid (TyAt n (fun k => k < base) w t na nl nc ka kl kc) := h
  have HT : Hid (Tab w) := hT
  have HH : Hid _ := hh
  have HR : Hid _ := hR
  have HSP : Hid (t.space.size ≤ maxLen ∧ t.name.size ≤ maxLen) := ⟨h.2.1, h.2.2.1⟩
  have HBD : Hid (acc.length + (131078 + 65537 * t.names.length + (t.kids.map (wgt n)).sum) ≤ 140737488355328) := hbd
  have HLT : Hid (∀ j, v.ownBlock = some j → base ≤ j) := fun j hj => (HA.out.lt j hj).1
  clear ha h hT hh hbd hR
  go_enter Tryd.func89, Tryd.ntmps89
  go_wp2_with fail
  refine (has_any (H.out.old (below_one _ _)) (HT.out.old (below_one _ _)) HH.out.symm).mono ?_
  rintro e w1 ⟨rfl, hBa⟩
  have hc0 : w1.cell? ⟨w.heap.size, 0, .none⟩ = some (.int .u16 t.id) := (hBa.cell (by simp)).trans (cell_box _ _ _ _ _ rfl)
  have hsz1 := hBa.size
  simp at hsz1
  go_wp2_with fail
  refine (put_own t.id 2 _ (by omega) (by omega) (by omega) _ rfl).mono ?_
  rintro e w2 ⟨v2, rfl, ho, hBb⟩
  obtain ⟨a2, cp2, rfl, hp2⟩ := isB_own ho (putL_range _ _)
  have HP : Hid (IsB _ _ _ _ _) := hp2
  have hB2 := hBa.trans (hBb.mono hBa.size)
  have hsz2 := hBb.size
  have HA2 : Hid (Acc w2 base v acc) := (HA.out.grown (below_one _ _)).grown hB2
  clear ho hp2 hBa hBb
  go_wp2_with (at_builtin; refine wpList_append_on rfl (.tmp 9) (.tmp 13) rfl rfl HA2.out rfl HP.out (by have := HBD.out; omega) (by omega) ?_)
  intro v3 w3 HO2 hg2 hm2
  have HO3 : Hid (On base (w.alloc (.cells #[.int .u16 t.id, .string t.space, .string t.name, .slice na nl nc, .slice ka kl kc] 62)) v acc (putL t.id 2, 0) w3 v3) :=
    ⟨(below_grownBy hB2 _).trans hg2, fun _ => ⟨HO2.out, (Moved.refl _ v).trans hm2 hB2.size⟩, fun hx => absurd rfl hx⟩
  have d0 : w3.cell? ⟨w.heap.size, 0, .none⟩ = some (.int .u16 t.id) := (HO3.out.boxed HA.out 0).trans (cell_box _ _ _ _ _ rfl)
  have d2 : w3.cell? ⟨w.heap.size, 2, .none⟩ = some (.string t.name) := (HO3.out.boxed HA.out 2).trans (cell_box _ _ _ _ _ rfl)
  have hsz3 := HO3.out.grown.size
  simp at hsz3
  obtain ⟨X3, hX3⟩ : ∃ X3, X3 = acc ++ putL t.id 2 := ⟨_, rfl⟩
  have HX3l : Hid (X3.length = acc.length + 2) := by show _ = _; rw [hX3, List.length_append, putL_length]
  have HX3 : Hid _ := hX3
  have HA3 : Hid (Acc w3 base v3 X3) := by
    show Acc _ _ _ _
    rw [hX3]; exact HO2.out
  have HTY3 : Hid (TyAt n (fun k => k < base) w3 t na nl nc ka kl kc) := (H.out.old (below_one _ _)).on HO3.out.grown HLT.out
  have HT3 : Hid (Tab w3) := (HT.out.old (below_one _ _)).on HO3.out.grown HLT.out hb0
  clear HO2 hg2 hm2 hX3 hc0 HP HA2 hB2
  go_wp2_with fail
  refine (putText_any HA3.out (by omega) (by have := HBD.out; have := HX3l.out; omega) t.name HSP.out.2 HR.out).mono ?_
  rintro e w4 ⟨v4, rfl, HO4⟩
  have HON : Hid (On base w v acc (cat (putL t.id 2, 0) R) w4 v4) := (HO3.out.then rfl (HX3.out ▸ HO4)).box
  go_wp2_with fail
  go_ret2
  exact ⟨v4, rfl, HON⟩

set_option maxHeartbeats 1000000 in
theorem putType_udt (n : Nat) (ih : ∀ m, n = m + 1 → PutsTy m) {base : Nat} {w : World} {v : Value} {acc : List Int} {t : Ty} {na : Option Addr} {nc : Nat} {ka : Option Addr} {kl kc : Nat} (ha : Acc w base v acc) (hb0 : 0 < base) (hb : base ≤ w.heap.size)
    (h : TyAt n (fun k => k < base) w t na kl nc ka kl kc) (hT : Tab w) (hbd : acc.length + wgt (n + 1) t ≤ 140737488355328) (hh : hasB t.id t.kids.length t.names.length = true) (q0 : (t.id == 0) = false) (q1 : (t.id == 48) = true) {R : List Int × Int} (hR : R = cat (textB t.space) (cat (textB t.name) (cat (countB t.kids.length) (goB (fieldB (tyB n)) (t.names.zip t.kids))))) :
    Calls Tryd.prog 89 #[v, .agg #[.int .u16 t.id, .string t.space, .string t.name, .slice na kl nc, .slice ka kl kc]] w fun e w' => ∃ v', e = .returned (.tuple #[v', .int .i64 R.2]) ∧ Hid (On base w v acc (cat (putL t.id 2, 0) R) w' v') := by
  have hid := h.idr
  have HA : Hid (Acc w base v acc) := ha
  have H : Hid (TyAt n (fun k => k < base) w t na kl nc ka kl kc) := h
  have HT : Hid (Tab w) := hT
  have HH : Hid _ := hh
  have HR : Hid _ := hR
  have HSP : Hid (t.space.size ≤ maxLen ∧ t.name.size ≤ maxLen) := ⟨h.2.1, h.2.2.1⟩
  have HBD : Hid (acc.length + (131078 + 65537 * t.names.length + (t.kids.map (wgt n)).sum) ≤ 140737488355328) := hbd
  have HLT : Hid (∀ j, v.ownBlock = some j → base ≤ j) := fun j hj => (HA.out.lt j hj).1
  clear ha h hT hh hbd hR
  go_enter Tryd.func89, Tryd.ntmps89
  go_wp2_with fail
  refine (has_any (H.out.old (below_one _ _)) (HT.out.old (below_one _ _)) HH.out.symm).mono ?_
  rintro e w1 ⟨rfl, hBa⟩
  have hc0 : w1.cell? ⟨w.heap.size, 0, .none⟩ = some (.int .u16 t.id) := (hBa.cell (by simp)).trans (cell_box _ _ _ _ _ rfl)
  have hsz1 := hBa.size
  simp at hsz1
  go_wp2_with fail
  refine (put_own t.id 2 _ (by omega) (by omega) (by omega) _ rfl).mono ?_
  rintro e w2 ⟨v2, rfl, ho, hBb⟩
  obtain ⟨a2, cp2, rfl, hp2⟩ := isB_own ho (putL_range _ _)
  have HP : Hid (IsB _ _ _ _ _) := hp2
  have hB2 := hBa.trans (hBb.mono hBa.size)
  have hsz2 := hBb.size
  have HA2 : Hid (Acc w2 base v acc) := (HA.out.grown (below_one _ _)).grown hB2
  clear ho hp2 hBa hBb
  go_wp2_with (at_builtin; refine wpList_append_on rfl (.tmp 9) (.tmp 13) rfl rfl HA2.out rfl HP.out (by have := HBD.out; omega) (by omega) ?_)
  intro v3 w3 HO2 hg2 hm2
  have HO3 : Hid (On base (w.alloc (.cells #[.int .u16 t.id, .string t.space, .string t.name, .slice na kl nc, .slice ka kl kc] 62)) v acc (putL t.id 2, 0) w3 v3) :=
    ⟨(below_grownBy hB2 _).trans hg2, fun _ => ⟨HO2.out, (Moved.refl _ v).trans hm2 hB2.size⟩, fun hx => absurd rfl hx⟩
  have d0 : w3.cell? ⟨w.heap.size, 0, .none⟩ = some (.int .u16 t.id) := (HO3.out.boxed HA.out 0).trans (cell_box _ _ _ _ _ rfl)
  have d1 : w3.cell? ⟨w.heap.size, 1, .none⟩ = some (.string t.space) := (HO3.out.boxed HA.out 1).trans (cell_box _ _ _ _ _ rfl)
  have d2 : w3.cell? ⟨w.heap.size, 2, .none⟩ = some (.string t.name) := (HO3.out.boxed HA.out 2).trans (cell_box _ _ _ _ _ rfl)
  have d3 : w3.cell? ⟨w.heap.size, 3, .none⟩ = some (.slice na kl nc) := (HO3.out.boxed HA.out 3).trans (cell_box _ _ _ _ _ rfl)
  have d4 : w3.cell? ⟨w.heap.size, 4, .none⟩ = some (.slice ka kl kc) := (HO3.out.boxed HA.out 4).trans (cell_box _ _ _ _ _ rfl)
  have hsz3 := HO3.out.grown.size
  simp at hsz3
  obtain ⟨X3, hX3⟩ : ∃ X3, X3 = acc ++ putL t.id 2 := ⟨_, rfl⟩
  have HX3l : Hid (X3.length = acc.length + 2) := by show _ = _; rw [hX3, List.length_append, putL_length]
  have HX3 : Hid _ := hX3
  have HA3 : Hid (Acc w3 base v3 X3) := by
    show Acc _ _ _ _
    rw [hX3]; exact HO2.out
  have HTY3 : Hid (TyAt n (fun k => k < base) w3 t na kl nc ka kl kc) := (H.out.old (below_one _ _)).on HO3.out.grown HLT.out
  have HT3 : Hid (Tab w3) := (HT.out.old (below_one _ _)).on HO3.out.grown HLT.out hb0
  clear HO2 hg2 hm2 hX3 hc0 HP HA2 hB2
  go_wp2_with fail
  refine (putUdt_any n ih HA3.out hb0 (by omega) HTY3.out HT3.out (by have := HBD.out; have := HX3l.out; omega) HR.out).mono ?_
  rintro e w4 ⟨v4, rfl, HO4⟩
  have HON : Hid (On base w v acc (cat (putL t.id 2, 0) R) w4 v4) := (HO3.out.then rfl (HX3.out ▸ HO4)).box
  go_wp2_with fail
  go_ret2
  exact ⟨v4, rfl, HON⟩

set_option maxHeartbeats 1000000 in
theorem putType_tuple (n : Nat) (ih : ∀ m, n = m + 1 → PutsTy m) {base : Nat} {w : World} {v : Value} {acc : List Int} {t : Ty} {na : Option Addr} {nl nc : Nat} {ka : Option Addr} {kl kc : Nat} (ha : Acc w base v acc) (hb0 : 0 < base) (hb : base ≤ w.heap.size)
    (h : TyAt n (fun k => k < base) w t na nl nc ka kl kc) (hT : Tab w) (hbd : acc.length + wgt (n + 1) t ≤ 140737488355328) (hh : hasB t.id t.kids.length t.names.length = true) (q0 : (t.id == 0) = false) (q1 : (t.id == 48) = false) (q2 : (t.id == 49) = true) {R : List Int × Int} (hR : R = cat (countB t.kids.length) (goB (tyB n) t.kids)) :
    Calls Tryd.prog 89 #[v, .agg #[.int .u16 t.id, .string t.space, .string t.name, .slice na nl nc, .slice ka kl kc]] w fun e w' => ∃ v', e = .returned (.tuple #[v', .int .i64 R.2]) ∧ Hid (On base w v acc (cat (putL t.id 2, 0) R) w' v') := by
  have hid := h.idr
  have HA : Hid (Acc w base v acc) := ha
  have H : Hid (TyAt n (fun k => k < base) w t na nl nc ka kl kc) := h
  have HT : Hid (Tab w) := hT
  have HH : Hid _ := hh
  have HR : Hid _ := hR
  have HSP : Hid (t.space.size ≤ maxLen ∧ t.name.size ≤ maxLen) := ⟨h.2.1, h.2.2.1⟩
  have HBD : Hid (acc.length + (131078 + 65537 * t.names.length + (t.kids.map (wgt n)).sum) ≤ 140737488355328) := hbd
  have HLT : Hid (∀ j, v.ownBlock = some j → base ≤ j) := fun j hj => (HA.out.lt j hj).1
  clear ha h hT hh hbd hR
  go_enter Tryd.func89, Tryd.ntmps89
  go_wp2_with fail
  refine (has_any (H.out.old (below_one _ _)) (HT.out.old (below_one _ _)) HH.out.symm).mono ?_
  rintro e w1 ⟨rfl, hBa⟩
  have hc0 : w1.cell? ⟨w.heap.size, 0, .none⟩ = some (.int .u16 t.id) := (hBa.cell (by simp)).trans (cell_box _ _ _ _ _ rfl)
  have hsz1 := hBa.size
  simp at hsz1
  go_wp2_with fail
  refine (put_own t.id 2 _ (by omega) (by omega) (by omega) _ rfl).mono ?_
  rintro e w2 ⟨v2, rfl, ho, hBb⟩
  obtain ⟨a2, cp2, rfl, hp2⟩ := isB_own ho (putL_range _ _)
  have HP : Hid (IsB _ _ _ _ _) := hp2
  have hB2 := hBa.trans (hBb.mono hBa.size)
  have hsz2 := hBb.size
  have HA2 : Hid (Acc w2 base v acc) := (HA.out.grown (below_one _ _)).grown hB2
  clear ho hp2 hBa hBb
  go_wp2_with (at_builtin; refine wpList_append_on rfl (.tmp 9) (.tmp 13) rfl rfl HA2.out rfl HP.out (by have := HBD.out; omega) (by omega) ?_)
  intro v3 w3 HO2 hg2 hm2
  have HO3 : Hid (On base (w.alloc (.cells #[.int .u16 t.id, .string t.space, .string t.name, .slice na nl nc, .slice ka kl kc] 62)) v acc (putL t.id 2, 0) w3 v3) :=
    ⟨(below_grownBy hB2 _).trans hg2, fun _ => ⟨HO2.out, (Moved.refl _ v).trans hm2 hB2.size⟩, fun hx => absurd rfl hx⟩
  have d0 : w3.cell? ⟨w.heap.size, 0, .none⟩ = some (.int .u16 t.id) := (HO3.out.boxed HA.out 0).trans (cell_box _ _ _ _ _ rfl)
  have d1 : w3.cell? ⟨w.heap.size, 1, .none⟩ = some (.string t.space) := (HO3.out.boxed HA.out 1).trans (cell_box _ _ _ _ _ rfl)
  have d2 : w3.cell? ⟨w.heap.size, 2, .none⟩ = some (.string t.name) := (HO3.out.boxed HA.out 2).trans (cell_box _ _ _ _ _ rfl)
  have d3 : w3.cell? ⟨w.heap.size, 3, .none⟩ = some (.slice na nl nc) := (HO3.out.boxed HA.out 3).trans (cell_box _ _ _ _ _ rfl)
  have d4 : w3.cell? ⟨w.heap.size, 4, .none⟩ = some (.slice ka kl kc) := (HO3.out.boxed HA.out 4).trans (cell_box _ _ _ _ _ rfl)
  have hsz3 := HO3.out.grown.size
  simp at hsz3
  obtain ⟨X3, hX3⟩ : ∃ X3, X3 = acc ++ putL t.id 2 := ⟨_, rfl⟩
  have HX3l : Hid (X3.length = acc.length + 2) := by show _ = _; rw [hX3, List.length_append, putL_length]
  have HX3 : Hid _ := hX3
  have HA3 : Hid (Acc w3 base v3 X3) := by
    show Acc _ _ _ _
    rw [hX3]; exact HO2.out
  have HTY3 : Hid (TyAt n (fun k => k < base) w3 t na nl nc ka kl kc) := (H.out.old (below_one _ _)).on HO3.out.grown HLT.out
  have HT3 : Hid (Tab w3) := (HT.out.old (below_one _ _)).on HO3.out.grown HLT.out hb0
  clear HO2 hg2 hm2 hX3 hc0 HP HA2 hB2
  go_wp2_with fail
  refine (putTuple_any n ih HA3.out hb0 (by omega) HTY3.out HT3.out (by have := HBD.out; have := HX3l.out; omega) HR.out).mono ?_
  rintro e w4 ⟨v4, rfl, HO4⟩
  have HON : Hid (On base w v acc (cat (putL t.id 2, 0) R) w4 v4) := (HO3.out.then rfl (HX3.out ▸ HO4)).box
  go_wp2_with fail
  go_ret2
  exact ⟨v4, rfl, HON⟩

set_option maxHeartbeats 1000000 in
theorem putType_else (n : Nat) (ih : ∀ m, n = m + 1 → PutsTy m) {base : Nat} {w : World} {v : Value} {acc : List Int} {t : Ty} {na : Option Addr} {nl nc : Nat} {ka : Option Addr} {kl kc : Nat} (ha : Acc w base v acc) (hb0 : 0 < base) (hb : base ≤ w.heap.size)
    (h : TyAt n (fun k => k < base) w t na nl nc ka kl kc) (hT : Tab w) (hbd : acc.length + wgt (n + 1) t ≤ 140737488355328) (hh : hasB t.id t.kids.length t.names.length = true) (q0 : (t.id == 0) = false) (q1 : (t.id == 48) = false) (q2 : (t.id == 49) = false) {R : List Int × Int} (hR : R = goB (tyB n) t.kids) :
    Calls Tryd.prog 89 #[v, .agg #[.int .u16 t.id, .string t.space, .string t.name, .slice na nl nc, .slice ka kl kc]] w fun e w' => ∃ v', e = .returned (.tuple #[v', .int .i64 R.2]) ∧ Hid (On base w v acc (cat (putL t.id 2, 0) R) w' v') := by
  have hid := h.idr
  have HA : Hid (Acc w base v acc) := ha
  have H : Hid (TyAt n (fun k => k < base) w t na nl nc ka kl kc) := h
  have HT : Hid (Tab w) := hT
  have HH : Hid _ := hh
  have HR : Hid _ := hR
  have HSP : Hid (t.space.size ≤ maxLen ∧ t.name.size ≤ maxLen) := ⟨h.2.1, h.2.2.1⟩
  have HBD : Hid (acc.length + (131078 + 65537 * t.names.length + (t.kids.map (wgt n)).sum) ≤ 140737488355328) := hbd
  have HLT : Hid (∀ j, v.ownBlock = some j → base ≤ j) := fun j hj => (HA.out.lt j hj).1
  clear ha h hT hh hbd hR
  go_enter Tryd.func89, Tryd.ntmps89
  go_wp2_with fail
  refine (has_any (H.out.old (below_one _ _)) (HT.out.old (below_one _ _)) HH.out.symm).mono ?_
  rintro e w1 ⟨rfl, hBa⟩
  have hc0 : w1.cell? ⟨w.heap.size, 0, .none⟩ = some (.int .u16 t.id) := (hBa.cell (by simp)).trans (cell_box _ _ _ _ _ rfl)
  have hsz1 := hBa.size
  simp at hsz1
  go_wp2_with fail
  refine (put_own t.id 2 _ (by omega) (by omega) (by omega) _ rfl).mono ?_
  rintro e w2 ⟨v2, rfl, ho, hBb⟩
  obtain ⟨a2, cp2, rfl, hp2⟩ := isB_own ho (putL_range _ _)
  have HP : Hid (IsB _ _ _ _ _) := hp2
  have hB2 := hBa.trans (hBb.mono hBa.size)
  have hsz2 := hBb.size
  have HA2 : Hid (Acc w2 base v acc) := (HA.out.grown (below_one _ _)).grown hB2
  clear ho hp2 hBa hBb
  go_wp2_with (at_builtin; refine wpList_append_on rfl (.tmp 9) (.tmp 13) rfl rfl HA2.out rfl HP.out (by have := HBD.out; omega) (by omega) ?_)
  intro v3 w3 HO2 hg2 hm2
  have HO3 : Hid (On base (w.alloc (.cells #[.int .u16 t.id, .string t.space, .string t.name, .slice na nl nc, .slice ka kl kc] 62)) v acc (putL t.id 2, 0) w3 v3) :=
    ⟨(below_grownBy hB2 _).trans hg2, fun _ => ⟨HO2.out, (Moved.refl _ v).trans hm2 hB2.size⟩, fun hx => absurd rfl hx⟩
  have d0 : w3.cell? ⟨w.heap.size, 0, .none⟩ = some (.int .u16 t.id) := (HO3.out.boxed HA.out 0).trans (cell_box _ _ _ _ _ rfl)
  have d4 : w3.cell? ⟨w.heap.size, 4, .none⟩ = some (.slice ka kl kc) := (HO3.out.boxed HA.out 4).trans (cell_box _ _ _ _ _ rfl)
  have hsz3 := HO3.out.grown.size
  simp at hsz3
  obtain ⟨X3, hX3⟩ : ∃ X3, X3 = acc ++ putL t.id 2 := ⟨_, rfl⟩
  have HX3l : Hid (X3.length = acc.length + 2) := by show _ = _; rw [hX3, List.length_append, putL_length]
  have HX3 : Hid _ := hX3
  have HA3 : Hid (Acc w3 base v3 X3) := by
    show Acc _ _ _ _
    rw [hX3]; exact HO2.out
  have HTY3 : Hid (TyAt n (fun k => k < base) w3 t na nl nc ka kl kc) := (H.out.old (below_one _ _)).on HO3.out.grown HLT.out
  have HT3 : Hid (Tab w3) := (HT.out.old (below_one _ _)).on HO3.out.grown HLT.out hb0
  clear HO2 hg2 hm2 hX3 hc0 HP HA2 hB2
  go_wp2_with fail
  refine (putKids_any n ih HA3.out hb0 (by omega) HTY3.out HT3.out (by have := HBD.out; have := HX3l.out; omega) HR.out).mono ?_
  rintro e w4 ⟨v4, rfl, HO4⟩
  have HON : Hid (On base w v acc (cat (putL t.id 2, 0) R) w4 v4) := (HO3.out.then rfl (HX3.out ▸ HO4)).box
  go_wp2_with fail
  go_ret2
  exact ⟨v4, rfl, HON⟩

theorem putType_step (n : Nat) (ih : ∀ m, n = m + 1 → PutsTy m) : PutsTy n := by
  intro base w v acc t na nl nc ka kl kc ha hb0 hb h hT hbd B hB
  by_cases hh : hasB t.id t.kids.length t.names.length = false
  · rw [tyB, if_pos hh] at hB
    subst hB
    refine (putType_no n h hT hh).mono ?_
    rintro e w' ⟨rfl, hBl⟩
    exact ⟨_, rfl, below_grownBy hBl _, fun hx => absurd hx (by decide : (1 : Int) ≠ 0), fun _ => rfl⟩
  · have hh' : hasB t.id t.kids.length t.names.length = true := by simpa using hh
    rw [tyB, if_neg hh] at hB
    have fin : ∀ R : List Int × Int, B = cat (putL t.id 2, 0) R → (Calls Tryd.prog 89 #[v, .agg #[.int .u16 t.id, .string t.space, .string t.name, .slice na nl nc, .slice ka kl kc]] w fun e w' => ∃ v', e = .returned (.tuple #[v', .int .i64 R.2]) ∧ Hid (On base w v acc (cat (putL t.id 2, 0) R) w' v')) →
        Calls Tryd.prog 89 #[v, .agg #[.int .u16 t.id, .string t.space, .string t.name, .slice na nl nc, .slice ka kl kc]] w fun e w' => ∃ v', e = .returned (.tuple #[v', .int .i64 B.2]) ∧ Hid (On base w v acc B w' v') := by
      intro R hR hc
      refine hc.mono ?_
      rintro e w' ⟨v', rfl, hO⟩
      exact ⟨v', by rw [hR, cat_err (by rfl)], by rw [hR]; exact hO⟩
    by_cases h0 : t.id = 0
    · rw [if_pos h0] at hB
      exact fin _ hB (putType_custom n ih ha hb0 hb h hT hbd hh' (by simp [h0]) rfl)
    · have q0 : (t.id == 0) = false := by simpa using h0
      rw [if_neg h0] at hB
      by_cases h1 : t.id = 48
      · rw [if_pos h1] at hB
        have hnk : nl = kl := by
          rw [hasB, if_neg h0, if_neg (by omega), if_neg (by omega), if_pos h1] at hh'
          have := of_decide_eq_true hh'
          rw [h.kl_eq, h.nl_eq] at this
          exact this.symm
        subst hnk
        exact fin _ hB (putType_udt n ih ha hb0 hb h hT hbd hh' q0 (by simp [h1]) rfl)
      · have q1 : (t.id == 48) = false := by simpa using h1
        rw [if_neg h1] at hB
        by_cases h2 : t.id = 49
        · rw [if_pos h2] at hB
          exact fin _ hB (putType_tuple n ih ha hb0 hb h hT hbd hh' q0 q1 (by simp [h2]) rfl)
        · have q2 : (t.id == 49) = false := by simpa using h2
          rw [if_neg h2] at hB
          exact fin _ hB (putType_else n ih ha hb0 hb h hT hbd hh' q0 q1 q2 rfl)

theorem putType_any (n : Nat) : PutsTy n := by
  induction n with
  | zero => exact putType_step 0 (fun m hm => by omega)
  | succ n ih => exact putType_step (n + 1) (fun m hm => (Nat.succ.inj hm) ▸ ih)

/-- Put. -/
def putR (n : Nat) (t : Ty) : List Int × Int := if deepB 20 t = true then ([], 13) else tyB (n + 1) t

set_option maxHeartbeats 1000000 in
theorem Put_any {n : Nat} {F : Nat → Prop} {w : World} {t : Ty} {na : Option Addr} {nl nc : Nat} {ka : Option Addr} {kl kc : Nat} (h : TyAt n F w t na nl nc ka kl kc) (hT : Tab w) (hbd : wgt (n + 1) t ≤ 140737488355328) {B : List Int × Int} (hB : B = putR n t) :
    Calls Tryd.prog 83 #[.agg #[.int .u16 t.id, .string t.space, .string t.name, .slice na nl nc, .slice ka kl kc]] w fun e w' => ∃ v, e = .returned (.tuple #[v, .int .i64 B.2]) ∧ Hid (Acc w' w.heap.size v B.1) ∧ Below w.heap.size w w' := by
  have H : Hid (TyAt n (fun k => k < w.heap.size) w t na nl nc ka kl kc) := h.mono (fun k hk _ => ⟨hk, rfl⟩) (Nat.le_refl _)
  have HT : Hid (Tab w) := hT
  have HBD : Hid _ := hbd
  have HB : Hid _ := hB
  obtain ⟨d, hd⟩ : ∃ d, d = deepB 20 t := ⟨_, rfl⟩
  have HD : Hid _ := hd
  clear h hT hB hd hbd
  go_enter Tryd.func83, Tryd.ntmps83
  go_wp2_with fail
  refine (isDeeper_any _ 20 (by omega) n _ t na nl nc ka kl kc (H.out.old (below_one _ _)) d HD.out 20 rfl).mono ?_
  rintro e w1 ⟨rfl, hB1⟩
  have hBw : Below w.heap.size w w1 := (below_one _ _).trans (hB1.mono (by simp))
  cases d with
  | true =>
    have HE : Hid (B = ([], 13)) := by show _ = _; rw [HB.out, putR, if_pos HD.out.symm]
    go_wp2_with fail
    go_ret2
    exact ⟨_, by rw [HE.out]; rfl, by rw [HE.out]; exact acc_nil _ _, hBw⟩
  | false =>
    have HE : Hid (B = tyB (n + 1) t) := by show _ = _; rw [HB.out, putR, if_neg (by rw [← HD.out]; decide)]
    have d0 : w1.cell? ⟨w.heap.size, 0, .none⟩ = some (.int .u16 t.id) := (hB1.cell (by simp)).trans (cell_box _ _ _ _ _ rfl)
    have d1 : w1.cell? ⟨w.heap.size, 1, .none⟩ = some (.string t.space) := (hB1.cell (by simp)).trans (cell_box _ _ _ _ _ rfl)
    have d2 : w1.cell? ⟨w.heap.size, 2, .none⟩ = some (.string t.name) := (hB1.cell (by simp)).trans (cell_box _ _ _ _ _ rfl)
    have d3 : w1.cell? ⟨w.heap.size, 3, .none⟩ = some (.slice na nl nc) := (hB1.cell (by simp)).trans (cell_box _ _ _ _ _ rfl)
    have d4 : w1.cell? ⟨w.heap.size, 4, .none⟩ = some (.slice ka kl kc) := (hB1.cell (by simp)).trans (cell_box _ _ _ _ _ rfl)
    have hs1 := hBw.size
    have hlt := HT.out.lt
    go_wp2_with fail
    refine (putType_any n w.heap.size w1 (.slice none 0 0) [] t na nl nc ka kl kc (acc_nil _ _) hlt hs1 (H.out.old hBw) (HT.out.old hBw) (by have := HBD.out; simp only [List.length_nil]; omega) B HE.out).mono ?_
    rintro e w2 ⟨v2, rfl, HO⟩
    have hB2 : Below w.heap.size w w2 := hBw.grown HO.out.grown hs1 (fun k hk => by simp [Value.ownBlock] at hk)
    have HA : Hid (Acc w2 w.heap.size v2 B.1) := by
      show Acc _ _ _ _
      by_cases he : B.2 = 0
      · have := (HO.out.ok he).1
        rw [List.nil_append] at this
        exact this
      · rw [HO.out.no he]
        have : B.1 = [] := by
          have h2 := HE.out
          rw [tyB] at h2
          split at h2
          · rw [h2]
          · rw [h2] at he ⊢; exact cat_pure he
        rw [this]
        exact acc_nil _ _
    go_wp2_with fail
    go_ret2
    exact ⟨v2, rfl, HA, hB2⟩
end Go.Proofs.YtnapeecmlkkolaaDoor
