/-
  RingWalks: the walk.
-/
import Derived.Test.YtohkpihjkaffoaaDoorNw
import Derived.Test.YtohkpihjkaffoaaDoorLReads
namespace Go.Proofs.YtohkpihjkaffoaaDoor
open Go.RowKit Go.Lib
set_option maxRecDepth 100000
set_option linter.unusedVariables false
set_option linter.unusedSimpArgs false

/-- How often a text is there, so far. -/
def cntH (Y : List ByteArray) (x : ByteArray) (k : Nat) : Nat := (Y.take k).countP (fun y => eqH y x)
theorem cntH_zero (Y : List ByteArray) (x : ByteArray) : cntH Y x 0 = 0 := rfl
theorem cntH_succ {Y : List ByteArray} {x : ByteArray} {k : Nat} (hk : k < Y.length) : cntH Y x (k + 1) = cntH Y x k + if Y.getD k default = x then 1 else 0 := by
  unfold cntH
  have e : Y.take (k + 1) = Y.take k ++ [Y.getD k default] := by
    rw [List.take_add_one, List.getD_eq_getElem?_getD, List.getElem?_eq_getElem hk]; rfl
  rw [e, List.countP_append, List.countP_cons, List.countP_nil, Nat.zero_add]
  by_cases h : Y.getD k default = x
  · rw [if_pos h, if_pos (eqH_iff.2 h)]
  · rw [if_neg h, if_neg (fun e => h (eqH_iff.1 e))]
theorem cntH_all (Y : List ByteArray) (x : ByteArray) {k : Nat} (hk : Y.length ≤ k) : cntH Y x k = Y.countP (fun y => eqH y x) := by
  unfold cntH
  rw [List.take_of_length_le hk]
theorem cntH_le (Y : List ByteArray) (x : ByteArray) (k : Nat) : cntH Y x k ≤ k := by
  unfold cntH
  exact Nat.le_trans List.countP_le_length (by rw [List.length_take]; omega)

theorem walks_pass (hA : Awake) {w : World} {a : Option Addr} {len cap : Nat} (hl : 60 < len) (hm : len ≤ 9223372036854775807) (t u : Int) :
    Calls Tryd.prog 5 #[.slice a len cap, .int .i64 t, .int .i64 u] w fun e w' => e = .returned (.bool true) ∧ Below w.heap.size w w' := by
  have HA : Hid (Calls Tryd.prog 8 #[] w fun e w' => e = .returned (.bool true) ∧ Below w.heap.size w w') := hA w
  clear hA
  go_enter Tryd.func5, Tryd.ntmps5
  go_wp2_with (go_at_call 8; refine Calls.mono HA.out ?_; rintro e w1 ⟨rfl, hB⟩; have HB1 : Hid (Below w.heap.size w w1) := hB; clear hB)
  go_ret
  exact ⟨rfl, HB1.out⟩

set_option maxHeartbeats 1000000 in
theorem walks_bad (hA : Awake) {w : World} {a : Option Addr} {cap : Nat} {zs : List Pl} (h : View 2 VP w a zs.length cap zs) (hl : zs.length ≤ 60) (he : newE zs ≠ 0) (t u : Int) :
    Calls Tryd.prog 5 #[.slice a zs.length cap, .int .i64 t, .int .i64 u] w fun e w' => e = .returned (.bool true) ∧ Below w.heap.size w w' := by
  have HA : Hid (Calls Tryd.prog 8 #[] w fun e w' => e = .returned (.bool true) ∧ Below w.heap.size w w') := hA w
  have HV : Hid (View 2 VP w a zs.length cap zs) := h
  obtain ⟨er, her⟩ : ∃ er, er = newE zs := ⟨_, rfl⟩
  have he0 : (er != 0) = true := by simpa [her] using he
  have HE : Hid (er = newE zs) := her
  have HN : Hid (newE zs ≠ 0) := he
  have hl2 : ¬ 60 < zs.length := by omega
  have hlm : zs.length ≤ 9223372036854775807 := by omega
  clear h he her hA
  go_enter Tryd.func5, Tryd.ntmps5
  go_wp2_with (go_at_call 8; refine Calls.mono HA.out ?_; rintro e w1 ⟨rfl, hB⟩; have HB1 : Hid (Below w.heap.size w w1) := hB; clear hB)
  refine (new_any (HV.out.old stays_p HB1.out) (by omega) HE.out).mono ?_
  rintro e w2 ⟨v2, rfl, HR2, hB2⟩
  rcases HR2.out with ⟨_, rfl⟩ | ⟨h, _⟩
  rotate_left
  · exact absurd h HN.out
  have HB2 : Hid (Below w.heap.size w w2) := HB1.out.trans (hB2.mono HB1.out.size)
  clear hB2 HR2 HA HB1
  go_wp2_with fail
  refine (walk_nil w2 t).mono ?_
  rintro e w3 ⟨rfl, rfl⟩
  go_wp2_with fail
  refine (places_nil w3).mono ?_
  rintro e w4 ⟨rfl, rfl⟩
  go_wp2_with fail
  go_ret
  exact ⟨rfl, HB2.out⟩

set_option maxHeartbeats 1000000 in
theorem walks_empty (hA : Awake) {w : World} {a : Option Addr} {cap : Nat} (h : View 2 VP w a 0 cap []) (t u : Int) :
    Calls Tryd.prog 5 #[.slice a 0 cap, .int .i64 t, .int .i64 u] w fun e w' => e = .returned (.bool true) ∧ Below w.heap.size w w' := by
  have HA : Hid (Calls Tryd.prog 8 #[] w fun e w' => e = .returned (.bool true) ∧ Below w.heap.size w w') := hA w
  have HV : Hid (View 2 VP w a 0 cap []) := h
  have HE : Hid (0 = newE []) := rfl
  clear h hA
  go_enter Tryd.func5, Tryd.ntmps5
  go_wp2_with (go_at_call 8; refine Calls.mono HA.out ?_; rintro e w1 ⟨rfl, hB⟩; have HB1 : Hid (Below w.heap.size w w1) := hB; clear hB)
  refine (new_any (HV.out.old stays_p HB1.out) (by omega) HE.out).mono ?_
  rintro e w2 ⟨v2, rfl, HR2, hB2⟩
  rcases HR2.out with ⟨h, _⟩ | ⟨_, N, ps, rfl, hp, hs, hR⟩
  · exact absurd HE.out.symm h
  obtain rfl : ps = [] := List.perm_nil.1 hp
  have HR : Hid (RingAt w2 N []) := hR
  have HS : Hid (Str []) := hs
  have HB2 : Hid (Below w.heap.size w w2) := HB1.out.trans (hB2.mono HB1.out.size)
  clear hB2 HR2 HA HB1 hp hs hR
  go_wp2_with fail
  refine (walk_any (t := t) HS.out HR.out (by decide) (fun p hp => by cases hp)).mono ?_
  rintro e w3 ⟨v3, rfl, HO3, hB3⟩
  rw [walkL_nil] at HO3
  obtain ⟨x3, c3, rfl, hV3, _⟩ := HO3.out.view
  rw [show ([] : List ByteArray).length = 0 from rfl]
  have HR3 : Hid (RingAt w3 N []) := HR.out.old hB3
  have HB3 : Hid (Below w.heap.size w w3) := HB2.out.trans (hB3.mono HB2.out.size)
  clear hB3 hV3 HO3 HB2 HR
  go_wp2_with fail
  refine (walk_any (t := u) HS.out HR3.out (by decide) (fun p hp => by cases hp)).mono ?_
  rintro e w4 ⟨v4, rfl, HO4, hB4⟩
  rw [walkL_nil] at HO4
  obtain ⟨x4, c4, rfl, hV4, _⟩ := HO4.out.view
  rw [show ([] : List ByteArray).length = 0 from rfl]
  have HR4 : Hid (RingAt w4 N []) := HR3.out.old hB4
  have HB4 : Hid (Below w.heap.size w w4) := HB3.out.trans (hB4.mono HB3.out.size)
  clear hB4 hV4 HO4 HB3 HR3
  go_wp2_with fail
  refine (owner_any (t := t) HS.out HR4.out (by decide) (o := ⟨#[]⟩) rfl (r := false) rfl).mono ?_
  rintro e w5 ⟨rfl, hB5⟩
  have HB5 : Hid (Below w.heap.size w w5) := HB4.out.trans (hB5.mono HB4.out.size)
  clear hB5 HR4 HB4
  go_wp2_with fail
  refine wp_loop_rounds 1 ?_
  rw [rounds_succ]
  go_wp2_with fail
  refine wp_loop_rounds 1 ?_
  rw [rounds_succ]
  go_wp2_with fail
  go_ret
  exact ⟨rfl, HB5.out⟩

set_option maxHeartbeats 4000000 in
theorem walks_good (hA : Awake) {w : World} {a : Option Addr} {cap : Nat} {zs : List Pl} (h : View 2 VP w a zs.length cap zs) (hl : zs.length ≤ 60) (hz : ∀ p ∈ zs, p.2.size ≤ maxLen) (he : newE zs = 0) (hp0 : 0 < zs.length) (t u : Int) :
    Calls Tryd.prog 5 #[.slice a zs.length cap, .int .i64 t, .int .i64 u] w fun e w' => e = .returned (.bool true) ∧ Below w.heap.size w w' := by
  have HA : Hid (Calls Tryd.prog 8 #[] w fun e w' => e = .returned (.bool true) ∧ Below w.heap.size w w') := hA w
  have HV : Hid (View 2 VP w a zs.length cap zs) := h
  have HZ : Hid (∀ p ∈ zs, p.2.size ≤ maxLen) := hz
  have HE : Hid (0 = newE zs) := he.symm
  have hl2 : ¬ 60 < zs.length := by omega
  have hlm : zs.length ≤ 9223372036854775807 := by omega
  clear h he hA hz
  go_enter Tryd.func5, Tryd.ntmps5
  go_wp2_with (go_at_call 8; refine Calls.mono HA.out ?_; rintro e w1 ⟨rfl, hB⟩; have HB1 : Hid (Below w.heap.size w w1) := hB; clear hB)
  refine (new_any (HV.out.old stays_p HB1.out) (by omega) HE.out).mono ?_
  rintro e w2 ⟨v2, rfl, HR2, hB2⟩
  rcases HR2.out with ⟨h, _⟩ | ⟨_, N, ps, rfl, hp, hs, hR⟩
  · exact absurd HE.out.symm h
  have HR : Hid (RingAt w2 N ps) := hR
  have HP : Hid (ps.Perm zs) := hp
  have HS : Hid (Str ps) := hs
  have HL : Hid (ps.length = zs.length) := hp.length_eq
  have hpl : ps.length ≤ 60 := by rw [hp.length_eq]; exact hl
  have hp1 : 0 < ps.length := by rw [hp.length_eq]; exact hp0
  have HZ2 : Hid (∀ p ∈ ps, p.2.size ≤ maxLen) := fun p hp' => hp' |> hp.subset |> HZ.out p
  have HB2 : Hid (Below w.heap.size w w2) := HB1.out.trans (hB2.mono HB1.out.size)
  clear hB2 HR2 HA HB1 hp hs hR
  go_wp2_with fail
  refine (walk_any (t := t) HS.out HR.out (by omega) HZ2.out).mono ?_
  rintro e w3 ⟨v3, rfl, HO3, hB3⟩
  obtain ⟨X, hX⟩ : ∃ X, X = walkL ps t := ⟨_, rfl⟩
  rw [← hX] at HO3
  obtain ⟨x3, c3, rfl, hV3, _⟩ := HO3.out.view
  have hc3 := hV3.2.1
  have hc3m : c3 ≤ 9223372036854775807 := hV3.2.2.1
  have HV3 : Hid (View 1 VS w3 x3 X.length c3 X) := hV3
  have HX : Hid (X = walkL ps t) := hX
  have HR3 : Hid (RingAt w3 N ps) := HR.out.old hB3
  have HB3 : Hid (Below w.heap.size w w3) := HB2.out.trans (hB3.mono HB2.out.size)
  clear hB3 hV3 HO3 HB2 HR hX
  go_wp2_with fail
  refine (walk_any (t := u) HS.out HR3.out (by omega) HZ2.out).mono ?_
  rintro e w4 ⟨v4, rfl, HO4, hB4⟩
  obtain ⟨Y, hY⟩ : ∃ Y, Y = walkL ps u := ⟨_, rfl⟩
  rw [← hY] at HO4
  obtain ⟨x4, c4, rfl, hV4, _⟩ := HO4.out.view
  have hc4 := hV4.2.1
  have hc4m : c4 ≤ 9223372036854775807 := hV4.2.2.1
  have HV4 : Hid (View 1 VS w4 x4 Y.length c4 Y) := hV4
  have HY : Hid (Y = walkL ps u) := hY
  have hXY : X.length = Y.length := by rw [HX.out, hY]; exact walkL_len_eq ps t u
  have hX60 : X.length ≤ 60 := by rw [HX.out]; exact Nat.le_trans (walkL_len ps t) hpl
  have HV34 : Hid (View 1 VS w4 x3 X.length c3 X) := HV3.out.old stays_s hB4
  have HR4 : Hid (RingAt w4 N ps) := HR3.out.old hB4
  have HB4 : Hid (Below w.heap.size w w4) := HB3.out.trans (hB4.mono HB3.out.size)
  have HL1 : Hid (Y.length = X.length) := hXY.symm
  rw [← hXY] at HV4 hc4 ⊢
  clear hB4 hV4 HO4 HB3 HR3 hY HV3 hXY
  go_wp2_with fail
  obtain ⟨o, ho⟩ : ∃ o, o = ownV ps t := ⟨_, rfl⟩
  have HO : Hid (o = ownV ps t) := ho
  clear ho
  refine (owner_any HS.out HR4.out (by omega) HO.out (r := true) (by simpa using hp1)).mono ?_
  rintro e w5 ⟨rfl, hB5⟩
  have HR5 : Hid (RingAt w5 N ps) := HR4.out.old hB5
  have HVX : Hid (View 1 VS w5 x3 X.length c3 X) := HV34.out.old stays_s hB5
  have HVY : Hid (View 1 VS w5 x4 X.length c4 Y) := HV4.out.old stays_s hB5
  have HB5 : Hid (Below w.heap.size w w5) := HB4.out.trans (hB5.mono HB4.out.size)
  clear hB5 HR4 HV34 HV4 HB4
  have hx0 : 0 < X.length := by rw [HX.out]; exact (walkL_head t hp1).1
  have hgo : X.getD 0 default = o := by rw [HX.out, HO.out, ownV_pos hp1]; exact (walkL_head t hp1).2
  obtain ⟨bx, ox, ha, hbx, hcx⟩ := HVX.out.str hx0
  subst ha
  rw [hgo, Nat.add_zero] at hcx
  have hxl : ((X.length : Int) == 0) = false := by rw [beq_eq_false_iff_ne]; omega
  have hzl : ¬ zs.length = 0 := by omega
  clear hgo
  go_wp2_with fail
  clear hcx
  go_loopw [14] (fun i wr => ∃ (k q : Nat), k ≤ X.length ∧ i = .int .i64 k ∧ wr = w5.drewN q) (fun i _ => X.length - (intOf i).toNat)
  case atStart => exact ⟨0, 0, by omega, rfl, rfl⟩
  case round =>
    obtain ⟨i, q, hi, rfl, rfl⟩ := hrel
    by_cases hlt : i < X.length
    · obtain ⟨bx', ox', ha, hb, hc⟩ := HVX.out.str hlt
      cases ha
      obtain ⟨xi, hxi⟩ : ∃ xi, xi = X.getD i default := ⟨_, rfl⟩
      rw [← hxi] at hc
      have HC1 : Hid (cntH Y xi X.length = 1) := by
        show _ = _
        rw [cntH_all Y xi (by rw [HL1.out]; exact Nat.le_refl _), HY.out]
        refine walkL_count ps t u ?_
        rw [hxi, ← HX.out]
        exact getD_mem hlt
      clear hxi
      go_wp2_with fail
      obtain ⟨q0, hq0⟩ : ∃ q0, q0 = q := ⟨_, rfl⟩
      go_loopw [15, 16] (fun n k wc => ∃ (m q : Nat), m ≤ X.length ∧ n = .int .i64 (cntH Y xi m) ∧ k = .int .i64 m ∧ wc = w5.drewN q) (fun _ k _ => X.length - (intOf k).toNat)
      case atStart => exact ⟨0, q, by omega, by rw [cntH_zero]; rfl, rfl, rfl⟩
      case round =>
        obtain ⟨m, q1, hm, rfl, rfl, rfl⟩ := hrel
        by_cases hmt : m < X.length
        · obtain ⟨by', oy', ha, hb', hc'⟩ := HVY.out.str hmt
          subst ha
          obtain ⟨ym, hym⟩ : ∃ ym, ym = Y.getD m default := ⟨_, rfl⟩
          rw [← hym] at hc'
          have HCS : Hid (cntH Y xi (m + 1) = cntH Y xi m + if ym = xi then 1 else 0) := by
            show _ = _
            rw [hym]
            exact cntH_succ (by rw [HL1.out]; exact hmt)
          have hcl := cntH_le Y xi m
          obtain ⟨cm, hcm⟩ : ∃ cm, cm = cntH Y xi m := ⟨_, rfl⟩
          rw [← hcm] at HCS hcl ⊢
          clear hym hcm
          by_cases hxy : ym = xi
          · subst hxy
            have HCT : Hid (cntH Y ym (m + 1) = cm + 1) := by show _ = _; rw [HCS.out, if_pos rfl]
            clear HCS
            go_wp2_with fail
            go_quiet (fail)
            go_wp2_with fail
            go_roundw
            case rel => exact ⟨m + 1, q1 + nq, by omega, by rw [HCT.out]; go_num, by go_num, by simp⟩
            case measure => simp [intOf]; omega
          · have HCT : Hid (cntH Y xi (m + 1) = cm) := by show _ = _; rw [HCS.out, if_neg hxy, Nat.add_zero]
            have hne2 : (ym.toList == xi.toList) = false := by
              rw [beq_eq_false_iff_ne]
              exact fun e => hxy (str_of_list e)
            clear HCS
            go_wp2_with fail
            go_quiet (fail)
            go_wp2_with fail
            go_roundw
            case rel => exact ⟨m + 1, q1 + nq, by omega, by rw [HCT.out], by go_num, by simp⟩
            case measure => simp [intOf]; omega
        · obtain rfl : m = X.length := by omega
          rw [HC1.out]
          go_wp2_with fail
          go_roundw
          case rel => exact ⟨i + 1, q1, by omega, by go_num, rfl⟩
          case measure => simp [intOf]; omega
    · have HRq : Hid (RingAt (w5.drewN q) N ps) := HR5.out.old (below_drewN _ _)
      have HBq : Hid (Below w.heap.size w (w5.drewN q)) := below_drewN' HB5.out _
      obtain ⟨W, hW⟩ : ∃ W, W = w5.drewN q := ⟨_, rfl⟩
      rw [← hW] at HRq HBq ⊢
      clear hW HB5 HR5 HVX HVY hc3 hc4 hbx
      go_wp2_with fail
      go_loopw [17] (fun i wr => ∃ (k : Nat), k ≤ zs.length ∧ i = .int .i64 k ∧ Hid (RingAt wr N ps ∧ Below w.heap.size w wr)) (fun i _ => zs.length - (intOf i).toNat)
      case atStart => exact ⟨0, by omega, rfl, HRq.out, HBq.out⟩
      case round =>
        obtain ⟨k, hk, rfl, HH⟩ := hrel
        by_cases hkt : k < zs.length
        · obtain ⟨b, off, ha, hb, hc, hd⟩ := HV.out.pl hkt
          subst ha
          obtain ⟨p, hp⟩ : ∃ p, p = zs.getD k default := ⟨_, rfl⟩
          rw [← hp] at hc hd
          have HM : Hid (p.2 = ownV ps p.1) := by
            show _ = _
            rw [ownV_pos hp1]
            exact (ownH_self HS.out (HP.out.symm.subset (by rw [hp]; exact getD_mem hkt))).symm
          obtain ⟨tk, hs⟩ := p
          have hc1 : wr.cell? ⟨b, off + k * 2, none⟩ = some (.int .i64 tk) := (HH.out.2.cell (p := ⟨b, off + k * 2, none⟩) hb).trans hc
          have HD : Hid (w.cell? ⟨b, off + k * 2 + 1, none⟩ = some (.string hs)) := hd
          have HBL : Hid (b < w.heap.size) := hb
          clear hp hc hd hb
          go_wp2_with fail
          refine (owner_any HS.out HH.out.1 (by omega) HM.out (r := true) (by simpa using hp1)).mono ?_
          rintro e w6 ⟨rfl, hB6⟩
          have HH6 : Hid (RingAt w6 N ps ∧ Below w.heap.size w w6) := ⟨HH.out.1.old hB6, HH.out.2.trans (hB6.mono HH.out.2.size)⟩
          have hd1 : w6.cell? ⟨b, off + k * 2 + 1, none⟩ = some (.string hs) := (HH6.out.2.cell (p := ⟨b, off + k * 2 + 1, none⟩) HBL.out).trans HD.out
          clear hB6 hc1 HH
          go_wp2_with fail
          go_roundw
          case rel =>
            exact ⟨k + 1, by omega, by go_num, HH6.out⟩
          case measure => simp [intOf]; omega
        · go_wp2_with fail
          go_ret
          exact ⟨rfl, HH.out.2⟩

theorem walks_walk (hA : Awake) {w : World} {a : Option Addr} {len cap : Nat} {zs : List Pl} (h : View 2 VP w a len cap zs) (hz : ∀ p ∈ zs, p.2.size ≤ maxLen) (t u : Int) :
    Calls Tryd.prog 5 #[.slice a len cap, .int .i64 t, .int .i64 u] w fun e w' => e = .returned (.bool true) ∧ Below w.heap.size w w' := by
  by_cases hl : len ≤ 60
  · have e : zs.length = len := h.1
    subst e
    by_cases he : newE zs = 0
    · by_cases hp : 0 < zs.length
      · exact walks_good hA h hl hz he hp t u
      · obtain rfl : zs = [] := List.eq_nil_of_length_eq_zero (by omega)
        exact walks_empty hA h t u
    · exact walks_bad hA h hl he t u
  · exact walks_pass hA (by omega) (Nat.le_trans h.2.1 h.2.2.1) t u
end Go.Proofs.YtohkpihjkaffoaaDoor
