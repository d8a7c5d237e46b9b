/-
  RequestBack walked: it answers true, and turns nothing that was there.
-/
import Derived.Test.YtcecdklgiocbaaaSlight8
import Derived.Test.YtcecdklgiocbaaaAwake8
namespace Go.Proofs.Ytcecdklgiocbaaa
open Go.RowKit
set_option maxRecDepth 100000
set_option linter.unusedVariables false
set_option linter.unusedSimpArgs false

set_option maxHeartbeats 16000000 in
theorem back_walk {w : World} {op : Int} {oa : Option Addr} {ol oc : Nat} {os : List (ByteArray × ByteArray)} {tx : ByteArray} {ia : Option Addr} {il ic : Nat} {id : ByteArray} {co : Int} {a : Option Addr} {l c : Nat} {vs : List Vl} {na : Option Addr} {nl nc : Nat} {ns : List ByteArray} {sk pg : Bool} {pn : Int} {rs : Bool} {sk1 : Int} {sb : ByteArray} {sa : Option Addr} {sl sc : Nat} {se : Bool} {sr : Int} {ti : Bool} {tm : Int} {ea : Option Addr} {el ec : Nat} {es : List ByteArray} {tk : Int} {tb : ByteArray} {ta : Option Addr} {tl tc : Nat} {kd : Int} {aa : Option Addr} {al ac : Nat} {ss : List St} (hR : RqAt w oa ol oc ia il ic a l c na nl nc sa sl sc ea el ec ta tl tc aa al ac (op, os, tx, id, (co, vs, ns, sk, pg, pn, rs, (sk1, sb), se, sr, ti, tm), es, (tk, tb), kd, ss)) (hS : Sm (op, os, tx, id, (co, vs, ns, sk, pg, pn, rs, (sk1, sb), se, sr, ti, tm), es, (tk, tb), kd, ss)) {ba : Option Addr} {bl bc : Nat} {zs : List Int} (hI : IsB w ba bl bc zs) :
    Calls Try.prog 5 #[.agg #[.int .u8 op, .slice oa ol oc, .string tx, .slice ia il ic, .int .u16 co, .slice a l c, .slice na nl nc, .bool sk, .bool pg, .int .i32 pn, .bool rs, .int .i64 sk1, .slice sa sl sc, .bool se, .int .u16 sr, .bool ti, .int .i64 tm, .slice ea el ec, .int .i64 tk, .slice ta tl tc, .int .u8 kd, .slice aa al ac], .slice ba bl bc] w fun e w' => e = .returned (.bool true) ∧ Below w.heap.size w w' := by
  have HR : Hid (RqAt w oa ol oc ia il ic a l c na nl nc sa sl sc ea el ec ta tl tc aa al ac (op, os, tx, id, (co, vs, ns, sk, pg, pn, rs, (sk1, sb), se, sr, ti, tm), es, (tk, tb), kd, ss)) := hR
  have HI : Hid (IsB w ba bl bc zs) := hI
  have HS : Hid (Sm (op, os, tx, id, (co, vs, ns, sk, pg, pn, rs, (sk1, sb), se, sr, ti, tm), es, (tk, tb), kd, ss)) := hS
  have HOP : Hid (0 ≤ op ∧ op ≤ 255) := hR.op
  have hbx := hI.2.1
  have hbm := hI.2.2.1
  unfold maxLen at hbm
  have HZ : Hid (zs.length = bl) := hI.1
  obtain ⟨w1, hw1⟩ : ∃ w1, w1 = w.alloc (.cells #[.int .u8 op, .slice oa ol oc, .string tx, .slice ia il ic, .int .u16 co, .slice a l c, .slice na nl nc, .bool sk, .bool pg, .int .i32 pn, .bool rs, .int .i64 sk1, .slice sa sl sc, .bool se, .int .u16 sr, .bool ti, .int .i64 tm, .slice ea el ec, .int .i64 tk, .slice ta tl tc, .int .u8 kd, .slice aa al ac] 33) := ⟨_, rfl⟩
  have hB1 : Below w.heap.size w w1 := by rw [hw1]; exact below_one _ _
  have HB1 : Hid (Below w.heap.size w w1) := hB1
  have hq : w1.heap[w.heap.size]? = some (.cells #[.int .u8 op, .slice oa ol oc, .string tx, .slice ia il ic, .int .u16 co, .slice a l c, .slice na nl nc, .bool sk, .bool pg, .int .i32 pn, .bool rs, .int .i64 sk1, .slice sa sl sc, .bool se, .int .u16 sr, .bool ti, .int .i64 tm, .slice ea el ec, .int .i64 tk, .slice ta tl tc, .int .u8 kd, .slice aa al ac] 33 (0, 0)) := by rw [hw1]; exact heap_alloc_new w _
  have HQ : Hid (w1.heap[w.heap.size]? = some (.cells #[.int .u8 op, .slice oa ol oc, .string tx, .slice ia il ic, .int .u16 co, .slice a l c, .slice na nl nc, .bool sk, .bool pg, .int .i32 pn, .bool rs, .int .i64 sk1, .slice sa sl sc, .bool se, .int .u16 sr, .bool ti, .int .i64 tm, .slice ea el ec, .int .i64 tk, .slice ta tl tc, .int .u8 kd, .slice aa al ac] 33 (0, 0))) := hq
  have HW1 : Hid (w.alloc (.cells #[.int .u8 op, .slice oa ol oc, .string tx, .slice ia il ic, .int .u16 co, .slice a l c, .slice na nl nc, .bool sk, .bool pg, .int .i32 pn, .bool rs, .int .i64 sk1, .slice sa sl sc, .bool se, .int .u16 sr, .bool ti, .int .i64 tm, .slice ea el ec, .int .i64 tk, .slice ta tl tc, .int .u8 kd, .slice aa al ac] 33) = w1) := hw1.symm
  clear hR hS hI hw1 hB1 hq
  go_enter Try.func5, Try.ntmps5
  go_upto_region 1 with fail
  rw [HW1.out]
  clear HW1
  go_wp2_with fail
  refine (awake_any _).mono ?_
  rintro e w2 ⟨rfl, HB12⟩
  have HB2 : Hid (Below w.heap.size w w2) := HB1.out.trans (HB12.out.mono HB1.out.size)
  have HQ2 : Hid (w2.heap[w.heap.size]? = some (.cells #[.int .u8 op, .slice oa ol oc, .string tx, .slice ia il ic, .int .u16 co, .slice a l c, .slice na nl nc, .bool sk, .bool pg, .int .i32 pn, .bool rs, .int .i64 sk1, .slice sa sl sc, .bool se, .int .u16 sr, .bool ti, .int .i64 tm, .slice ea el ec, .int .i64 tk, .slice ta tl tc, .int .u8 kd, .slice aa al ac] 33 (0, 0))) := (HB12.out.block _ (block_lt HQ.out)).trans HQ.out
  clear HQ HB1 HB12
  go_wp2_with (refine wpList_load_row rfl 33 (.tmp 2) rfl rfl HQ2.out Try.isz33 Try.agg33 ?_)
  refine (slight_any (HR.out.old HB2.out) HS.out).mono ?_
  rintro e w3 ⟨sb0, rfl, HSL, HB23⟩
  have HB3 : Hid (Below w.heap.size w w3) := HB2.out.trans (HB23.out.mono HB2.out.size)
  have HQ3 : Hid (w3.heap[w.heap.size]? = some (.cells #[.int .u8 op, .slice oa ol oc, .string tx, .slice ia il ic, .int .u16 co, .slice a l c, .slice na nl nc, .bool sk, .bool pg, .int .i32 pn, .bool rs, .int .i64 sk1, .slice sa sl sc, .bool se, .int .u16 sr, .bool ti, .int .i64 tm, .slice ea el ec, .int .i64 tk, .slice ta tl tc, .int .u8 kd, .slice aa al ac] 33 (0, 0))) := (HB23.out.block _ (block_lt HQ2.out)).trans HQ2.out
  clear HQ2 HB2 HB23
  cases sb0
  case false =>
    go_wp2_with fail
    go_ret
    exact ⟨rfl, HB3.out⟩
  case true =>
  by_cases hbl : bl ≤ 2000
  case neg =>
    have hb2 : 2000 < bl := by omega
    go_wp2_with fail
    go_ret
    exact ⟨rfl, HB3.out⟩
  case pos =>
  have HBZ : Hid (zs.length ≤ 2000) := by show _ ≤ _; rw [HZ.out]; exact hbl
  have HBL : Hid (bl ≤ 140737488351232) := by show _ ≤ _; omega
  have HF : Hid (FitQ (op, os, tx, id, (co, vs, ns, sk, pg, pn, rs, (sk1, sb), se, sr, ti, tm), es, (tk, tb), kd, ss)) := fit_sm HS.out (HSL.out rfl)
  have HFI : Hid (FineQ (op, os, tx, id, (co, vs, ns, sk, pg, pn, rs, (sk1, sb), se, sr, ti, tm), es, (tk, tb), kd, ss)) := fine_of HR.out HS.out
  obtain ⟨E2, hE2⟩ : ∃ E2, E2 = getE op zs := ⟨_, rfl⟩
  have HE2 : Hid (E2 = getE op zs) := hE2
  obtain ⟨Y, hY⟩ : ∃ Y, Y = putB (op, os, tx, id, (co, vs, ns, sk, pg, pn, rs, (sk1, sb), se, sr, ti, tm), es, (tk, tb), kd, ss) := ⟨_, rfl⟩
  have HY : Hid (Y = putB (op, os, tx, id, (co, vs, ns, sk, pg, pn, rs, (sk1, sb), se, sr, ti, tm), es, (tk, tb), kd, ss)) := hY
  clear hE2 hY HSL
  go_wp2_with (refine wpList_load_row rfl 33 (.tmp 2) rfl rfl HQ3.out Try.isz33 Try.agg33 ?_)
  refine (put_any (HR.out.old HB3.out) HF.out HY.out).mono ?_
  rintro e w4 ⟨ya, yc, rfl, HP4, HB34⟩
  have HB4 : Hid (Below w.heap.size w w4) := HB3.out.trans (HB34.out.mono HB3.out.size)
  have HQ4 : Hid (w4.heap[w.heap.size]? = some (.cells #[.int .u8 op, .slice oa ol oc, .string tx, .slice ia il ic, .int .u16 co, .slice a l c, .slice na nl nc, .bool sk, .bool pg, .int .i32 pn, .bool rs, .int .i64 sk1, .slice sa sl sc, .bool se, .int .u16 sr, .bool ti, .int .i64 tm, .slice ea el ec, .int .i64 tk, .slice ta tl tc, .int .u8 kd, .slice aa al ac] 33 (0, 0))) := (HB34.out.block _ (block_lt HQ3.out)).trans HQ3.out
  have hq4 := HQ4.out
  obtain ⟨d0, _⟩ := req_cells hq4
  have hlt4 := block_lt hq4
  clear hq4 HQ3 HB3 HB34
  obtain ⟨X, e0⟩ := Y
  obtain ⟨L, hL⟩ : ∃ L, L = X.length := ⟨_, rfl⟩
  have HL : Hid (L = X.length) := hL
  have HX4 : Hid (IsB w4 ya L yc X) := by
    have := HP4.out.2
    rw [hL]; exact this
  simp only [← hL]
  have HXR : Hid (Rng X) := HP4.out.2.range
  have HLL : Hid (L ≤ 140737488351232) := by
    have := putB_len (r := (op, os, tx, id, (co, vs, ns, sk, pg, pn, rs, (sk1, sb), se, sr, ti, tm), es, (tk, tb), kd, ss)) HF.out HS.out.tok
    rw [← HY.out] at this
    show _ ≤ _
    rw [hL]; exact this
  clear hL HP4
  by_cases he : e0 = 0
  · subst he
    have hpg := put_got HFI.out (by rw [← HY.out])
    rw [← HY.out] at hpg
    have HE1 : Hid ((0 : Int) = getE op X) := hpg.1.symm
    have HVX : Hid ((getR op X).val = nQ (op, os, tx, id, (co, vs, ns, sk, pg, pn, rs, (sk1, sb), se, sr, ti, tm), es, (tk, tb), kd, ss)) := hpg.2
    clear hpg
    go_wp2_with fail
    refine (get_any HX4.out HLL.out HOP.out HE1.out).mono ?_
    rintro e w5 ⟨opr5, oa5, ol5, oc5, os5, tx5, ia5, il5, ic5, id5, co5, a5, l5, c5, vs5, na5, nl5, nc5, ns5, b25, b45, pn5, b85, sk15, sb5, sa5, sl5, sc5, b165, sr5, b325, tm5, ea5, el5, ec5, es5, tk5, tb5, ta5, tl5, tc5, kd5, aa5, al5, ac5, ss5, rfl, HR5, HV5, _, HB45⟩
    go_wp2_with (refine wpList_store_hid (old := #[.int .u8 0, .slice none 0 0, .string ⟨#[]⟩, .slice none 0 0, .int .u16 0, .slice none 0 0, .slice none 0 0, .bool false, .bool false, .int .i32 0, .bool false, .int .i64 0, .slice none 0 0, .bool false, .int .u16 0, .bool false, .int .i64 0, .slice none 0 0, .int .i64 0, .slice none 0 0, .int .u8 0, .slice none 0 0]) (T := 33) rfl 33 (.tmp 9) (.tmp 41) rfl rfl rfl Try.isz33 (by simp [Value.oneCell']) (heap_alloc_new _ _) rfl ?_)
    intro w6 hq6 hK6 hs6
    have HB56 : Hid (Below w5.heap.size w5 w6) := ((kept_of (below_one w5 _)).trans hK6 (fun _ _ e => e)).below (S := fun k => k = w5.heap.size) (Nat.le_refl _) (fun k hk e => by omega)
    have HB46 : Hid (Below w4.heap.size w4 w6) := HB45.out.trans (HB56.out.mono HB45.out.size)
    have HQ6 : Hid (w6.heap[w5.heap.size]? = some (.cells #[.int .u8 opr5, .slice oa5 ol5 oc5, .string tx5, .slice ia5 il5 ic5, .int .u16 co5, .slice a5 l5 c5, .slice na5 nl5 nc5, .bool b25, .bool b45, .int .i32 pn5, .bool b85, .int .i64 sk15, .slice sa5 sl5 sc5, .bool b165, .int .u16 sr5, .bool b325, .int .i64 tm5, .slice ea5 el5 ec5, .int .i64 tk5, .slice ta5 tl5 tc5, .int .u8 kd5, .slice aa5 al5 ac5] 33 (0, 0))) := hq6
    have HR6 := HR5.out.old HB56.out
    have HR6' : Hid _ := HR6
    have hz := HV5.out (by trivial)
    have HY6 : Hid ((X, 0) = putB _) := ((got_put HXR.out HE1.out.symm).symm.trans (congrArg putB hz.symm))
    have HF6 : Hid (FitQ _) := hz ▸ HVX.out ▸ fit_n HF.out
    clear hq6 hK6 hs6 HR6 hz
    go_wp2_with (refine wpList_load_row rfl 33 (.tmp 9) rfl rfl HQ6.out Try.isz33 Try.agg33 ?_)
    refine (put_any HR6'.out HF6.out HY6.out).mono ?_
    rintro e w7 ⟨xk, xc, rfl, HP7, HB67⟩
    have HB47 : Hid (Below w4.heap.size w4 w7) := HB46.out.trans (HB67.out.mono HB46.out.size)
    have HB7 : Hid (Below w.heap.size w w7) := HB4.out.trans (HB47.out.mono HB4.out.size)
    have hc1 : (convert 23 9 (.slice ya L yc)).run Try.prog w7 = .ok (.string (strOfNums X)) w7 := (HX4.out.old HB47.out).conv
    have hc2 : (convert 23 9 (.slice xk L xc)).run Try.prog w7 = .ok (.string (strOfNums X)) w7 := by
      have := HP7.out.2.conv
      rw [HL.out]; exact this
    simp only [← HL.out]
    have hc7 : w7.cell? ⟨w.heap.size, 0, none⟩ = some (.int .u8 op) := (HB47.out.cell (p := ⟨w.heap.size, 0, none⟩) hlt4).trans d0
    clear d0
    have HW7 := HB7
    go_wp2_with fail
    refine (get_any (HI.out.old HB7.out) HBL.out HOP.out HE2.out).mono ?_
    rintro e w8 ⟨opr8, oa8, ol8, oc8, os8, tx8, ia8, il8, ic8, id8, co8, a8, l8, c8, vs8, na8, nl8, nc8, ns8, b28, b48, pn8, b88, sk18, sb8, sa8, sl8, sc8, b168, sr8, b328, tm8, ea8, el8, ec8, es8, tk8, tb8, ta8, tl8, tc8, kd8, aa8, al8, ac8, ss8, rfl, HR8, HV8, HN8, HB8⟩
    go_wp2_with (refine wpList_store_hid (old := #[.int .u8 0, .slice none 0 0, .string ⟨#[]⟩, .slice none 0 0, .int .u16 0, .slice none 0 0, .slice none 0 0, .bool false, .bool false, .int .i32 0, .bool false, .int .i64 0, .slice none 0 0, .bool false, .int .u16 0, .bool false, .int .i64 0, .slice none 0 0, .int .i64 0, .slice none 0 0, .int .u8 0, .slice none 0 0]) (T := 33) rfl 33 (.tmp 13) (.tmp 66) rfl rfl rfl Try.isz33 (by simp [Value.oneCell']) (heap_alloc_new _ _) rfl ?_)
    intro w9 hq9 hK9 hs9
    have HB89 : Hid (Below w8.heap.size w8 w9) := ((kept_of (below_one w8 _)).trans hK9 (fun _ _ e => e)).below (S := fun k => k = w8.heap.size) (Nat.le_refl _) (fun k hk e => by omega)
    have HB9 : Hid (Below w.heap.size w w9) := (HB7.out.trans (HB8.out.mono HB7.out.size)).trans (HB89.out.mono (Nat.le_trans HB7.out.size HB8.out.size))
    have HQ9 : Hid (w9.heap[w8.heap.size]? = some (.cells #[.int .u8 opr8, .slice oa8 ol8 oc8, .string tx8, .slice ia8 il8 ic8, .int .u16 co8, .slice a8 l8 c8, .slice na8 nl8 nc8, .bool b28, .bool b48, .int .i32 pn8, .bool b88, .int .i64 sk18, .slice sa8 sl8 sc8, .bool b168, .int .u16 sr8, .bool b328, .int .i64 tm8, .slice ea8 el8 ec8, .int .i64 tk8, .slice ta8 tl8 tc8, .int .u8 kd8, .slice aa8 al8 ac8] 33 (0, 0))) := hq9
    have HR9 := HR8.out.old HB89.out
    have HR9' : Hid _ := HR9
    have hl9 := block_lt hq9
    clear HR9 hK9 hs9
    by_cases he2 : E2 = 0
    · have hz := HV8.out he2
      have HY9 : Hid ((zs, 0) = putB _) := ((got_put HI.out.range (by rw [← HE2.out]; exact he2)).symm.trans (congrArg putB hz.symm))
      have HF9 : Hid (FitQ _) := hz ▸ fit_sh HBZ.out (bn_get op zs HI.out.range (Nat.le_refl _) (get_whole (by rw [← HE2.out]; exact he2)).1)
      rw [he2]
      clear he2 hz hq9
      go_wp2_with (refine wpList_load_row rfl 33 (.tmp 13) rfl rfl HQ9.out Try.isz33 Try.agg33 ?_)
      refine (put_any HR9'.out HF9.out HY9.out).mono ?_
      rintro e w10 ⟨yk, yc, rfl, HP10, HB10⟩
      have hc1 : (convert 23 9 (.slice yk zs.length yc)).run Try.prog w10 = .ok (.string (strOfNums zs)) w10 := HP10.out.2.conv
      have hc2 : (convert 23 9 (.slice ba bl bc)).run Try.prog w10 = .ok (.string (strOfNums zs)) w10 := ((HI.out.old HB9.out).old HB10.out).conv
      go_wp2_with fail
      go_ret
      exact ⟨by simp, HB9.out.trans (HB10.out.mono HB9.out.size)⟩
    · have t2 : (E2 == 0) = false := by simpa using he2
      have t2' : (E2 != 0) = true := by simpa using he2
      have hz0 : opr8 = 0 := congrArg (fun r : Rq => r.op) (HN8.out he2)
      subst hz0
      clear he2
      obtain ⟨g0, _⟩ := req_cells hq9
      clear hq9
      go_wp2_with fail
      go_ret
      exact ⟨by simp, HB9.out⟩
  · have t : (e0 == 0) = false := by simpa using he
    have t' : (e0 != 0) = true := by simpa using he
    clear he
    go_wp2_with fail
    refine (get_any (HI.out.old HB4.out) HBL.out HOP.out HE2.out).mono ?_
    rintro e w8 ⟨opr8, oa8, ol8, oc8, os8, tx8, ia8, il8, ic8, id8, co8, a8, l8, c8, vs8, na8, nl8, nc8, ns8, b28, b48, pn8, b88, sk18, sb8, sa8, sl8, sc8, b168, sr8, b328, tm8, ea8, el8, ec8, es8, tk8, tb8, ta8, tl8, tc8, kd8, aa8, al8, ac8, ss8, rfl, HR8, HV8, HN8, HB8⟩
    go_wp2_with (refine wpList_store_hid (old := #[.int .u8 0, .slice none 0 0, .string ⟨#[]⟩, .slice none 0 0, .int .u16 0, .slice none 0 0, .slice none 0 0, .bool false, .bool false, .int .i32 0, .bool false, .int .i64 0, .slice none 0 0, .bool false, .int .u16 0, .bool false, .int .i64 0, .slice none 0 0, .int .i64 0, .slice none 0 0, .int .u8 0, .slice none 0 0]) (T := 33) rfl 33 (.tmp 13) (.tmp 66) rfl rfl rfl Try.isz33 (by simp [Value.oneCell']) (heap_alloc_new _ _) rfl ?_)
    intro w9 hq9 hK9 hs9
    have HB89 : Hid (Below w8.heap.size w8 w9) := ((kept_of (below_one w8 _)).trans hK9 (fun _ _ e => e)).below (S := fun k => k = w8.heap.size) (Nat.le_refl _) (fun k hk e => by omega)
    have HB9 : Hid (Below w.heap.size w w9) := (HB4.out.trans (HB8.out.mono HB4.out.size)).trans (HB89.out.mono (Nat.le_trans HB4.out.size HB8.out.size))
    have HQ9 : Hid (w9.heap[w8.heap.size]? = some (.cells #[.int .u8 opr8, .slice oa8 ol8 oc8, .string tx8, .slice ia8 il8 ic8, .int .u16 co8, .slice a8 l8 c8, .slice na8 nl8 nc8, .bool b28, .bool b48, .int .i32 pn8, .bool b88, .int .i64 sk18, .slice sa8 sl8 sc8, .bool b168, .int .u16 sr8, .bool b328, .int .i64 tm8, .slice ea8 el8 ec8, .int .i64 tk8, .slice ta8 tl8 tc8, .int .u8 kd8, .slice aa8 al8 ac8] 33 (0, 0))) := hq9
    have HR9 := HR8.out.old HB89.out
    have HR9' : Hid _ := HR9
    have hl9 := block_lt hq9
    clear HR9 hK9 hs9
    by_cases he2 : E2 = 0
    · have hz := HV8.out he2
      have HY9 : Hid ((zs, 0) = putB _) := ((got_put HI.out.range (by rw [← HE2.out]; exact he2)).symm.trans (congrArg putB hz.symm))
      have HF9 : Hid (FitQ _) := hz ▸ fit_sh HBZ.out (bn_get op zs HI.out.range (Nat.le_refl _) (get_whole (by rw [← HE2.out]; exact he2)).1)
      rw [he2]
      clear he2 hz hq9
      go_wp2_with (refine wpList_load_row rfl 33 (.tmp 13) rfl rfl HQ9.out Try.isz33 Try.agg33 ?_)
      refine (put_any HR9'.out HF9.out HY9.out).mono ?_
      rintro e w10 ⟨yk, yc, rfl, HP10, HB10⟩
      have hc1 : (convert 23 9 (.slice yk zs.length yc)).run Try.prog w10 = .ok (.string (strOfNums zs)) w10 := HP10.out.2.conv
      have hc2 : (convert 23 9 (.slice ba bl bc)).run Try.prog w10 = .ok (.string (strOfNums zs)) w10 := ((HI.out.old HB9.out).old HB10.out).conv
      go_wp2_with fail
      go_ret
      exact ⟨by simp, HB9.out.trans (HB10.out.mono HB9.out.size)⟩
    · have t2 : (E2 == 0) = false := by simpa using he2
      have t2' : (E2 != 0) = true := by simpa using he2
      have hz0 : opr8 = 0 := congrArg (fun r : Rq => r.op) (HN8.out he2)
      subst hz0
      clear he2
      obtain ⟨g0, _⟩ := req_cells hq9
      clear hq9
      go_wp2_with fail
      go_ret
      exact ⟨by simp, HB9.out⟩
end Go.Proofs.Ytcecdklgiocbaaa
