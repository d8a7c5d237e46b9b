/-
  RingOwns: the walk.
-/
import Derived.Test.YtohkpihjkaffoaaDoorRn
import Derived.Test.YtohkpihjkaffoaaDoorDg
import Derived.Test.YtohkpihjkaffoaaDoorLReads
namespace Go.Proofs.YtohkpihjkaffoaaDoor
open Go.RowKit Go.Lib
set_option maxRecDepth 100000
set_option linter.unusedVariables false
set_option linter.unusedSimpArgs false

theorem owns_pass (hA : Awake) {w : World} {a : Option Addr} {len cap : Nat} (hl : 60 < len) (hm : len ≤ 9223372036854775807) (t : Int) :
    Calls Tryd.prog 3 #[.slice a len cap, .int .i64 t] w fun e w' => e = .returned (.bool true) ∧ Below w.heap.size w w' := by
  have HA : Hid (Calls Tryd.prog 8 #[] w fun e w' => e = .returned (.bool true) ∧ Below w.heap.size w w') := hA w
  clear hA
  go_enter Tryd.func3, Tryd.ntmps3
  go_wp2_with (go_at_call 8; refine Calls.mono HA.out ?_; rintro e w1 ⟨rfl, hB⟩; have HB1 : Hid (Below w.heap.size w w1) := hB; clear hB)
  go_ret
  exact ⟨rfl, HB1.out⟩

set_option maxHeartbeats 2000000 in
theorem owns_bad (hA : Awake) {w : World} {a : Option Addr} {cap : Nat} {zs : List Pl} (h : View 2 VP w a zs.length cap zs) (hl : zs.length ≤ 60) (he : newE zs ≠ 0) (t : Int) :
    Calls Tryd.prog 3 #[.slice a zs.length cap, .int .i64 t] w fun e w' => e = .returned (.bool true) ∧ Below w.heap.size w w' := by
  have HA : Hid (Calls Tryd.prog 8 #[] w fun e w' => e = .returned (.bool true) ∧ Below w.heap.size w w') := hA w
  have HV : Hid (View 2 VP w a zs.length cap zs) := h
  obtain ⟨er, her⟩ : ∃ er, er = newE zs := ⟨_, rfl⟩
  have he0 : (er != 0) = true := by simpa [her] using he
  have HE : Hid (er = newE zs) := her
  have HN : Hid (newE zs ≠ 0) := he
  have hl2 : ¬ 60 < zs.length := by omega
  have hlm : zs.length ≤ 9223372036854775807 := by omega
  clear h he her hA
  go_enter Tryd.func3, Tryd.ntmps3
  go_wp2_with (go_at_call 8; refine Calls.mono HA.out ?_; rintro e w1 ⟨rfl, hB⟩; have HB1 : Hid (Below w.heap.size w w1) := hB; clear hB)
  refine (new_any (HV.out.old stays_p HB1.out) (by omega) HE.out).mono ?_
  rintro e w2 ⟨v2, rfl, HR2, hB2⟩
  rcases HR2.out with ⟨_, rfl⟩ | ⟨h, _⟩
  rotate_left
  · exact absurd h HN.out
  have HB2 : Hid (Below w.heap.size w w2) := HB1.out.trans (hB2.mono HB1.out.size)
  clear hB2 HR2 HA HB1
  go_wp2_with fail
  refine (model_any (HV.out.old stays_p HB2.out) (by omega)).mono ?_
  rintro e w3 ⟨v3, rfl, HO3, hB3⟩
  obtain ⟨x3, c3, rfl, hV3, _⟩ := HO3.out.view
  have HV3 : Hid (View 2 VP w3 x3 zs.length c3 zs) := hV3
  have HB3 : Hid (Below w.heap.size w w3) := HB2.out.trans (hB3.mono HB2.out.size)
  clear hB3 hV3 HO3 HB2
  go_wp2_with fail
  refine (refNew_any HV3.out (by omega) HE.out).mono ?_
  rintro e w4 ⟨v4, rfl, HR4, hB4⟩
  rcases HR4.out with ⟨_, rfl⟩ | ⟨h, _⟩
  rotate_left
  · exact absurd h HN.out
  have HB4 : Hid (Below w.heap.size w w4) := HB3.out.trans (hB4.mono HB3.out.size)
  clear hB4 HR4 HB3 HV3
  go_wp2_with fail
  refine (places_nil w4).mono ?_
  rintro e w5 ⟨rfl, rfl⟩
  go_wp2_with fail
  refine (model_any (view_nil 2 VP w5) (by omega)).mono ?_
  rintro e w6 ⟨v6, rfl, HO6, hB6⟩
  obtain ⟨x6, c6, rfl, hV6, _⟩ := HO6.out.view
  rw [show ([] : List Pl).length = 0 from rfl]
  have HB6 : Hid (Below w.heap.size w w6) := HB4.out.trans (hB6.mono HB4.out.size)
  clear hB6 hV6 HO6 HB4
  go_wp2_with fail
  refine wp_loop_rounds 1 ?_
  rw [rounds_succ]
  go_wp2_with fail
  refine (owner_nil w6 t).mono ?_
  rintro e w7 ⟨rfl, rfl⟩
  go_wp2_with fail
  refine (refOwner_any (view_nil 2 VP w7) List.Pairwise.nil (t := t) (o := ⟨#[]⟩) rfl).mono ?_
  rintro e w8 ⟨rfl, rfl⟩
  go_wp2_with fail
  refine (walk_nil w8 t).mono ?_
  rintro e w9 ⟨rfl, rfl⟩
  go_wp2_with fail
  refine (refWalk_any (view_nil 2 VP w9) (by omega) List.Pairwise.nil (t := t)).mono ?_
  rintro e wa ⟨va, rfl, HOa, hBa⟩
  obtain ⟨xa, ca, rfl, hVa, _⟩ := HOa.out.view
  have HVa : Hid (View 1 VS wa xa (walkL [] t).length ca (walkL [] t)) := hVa
  have HBa : Hid (Below w.heap.size w wa) := HB6.out.trans (hBa.mono HB6.out.size)
  clear hBa hVa HOa HB6
  go_wp2_with fail
  refine (same_any (view_nil 1 VS wa) HVa.out (r := true) rfl).mono ?_
  rintro e wb ⟨rfl, q, rfl⟩
  go_wp2_with fail
  go_ret
  exact ⟨rfl, below_drewN' HBa.out _⟩

set_option maxHeartbeats 2000000 in
theorem owns_good (hA : Awake) {w : World} {a : Option Addr} {cap : Nat} {zs : List Pl} (h : View 2 VP w a zs.length cap zs) (hl : zs.length ≤ 60) (hz : ∀ p ∈ zs, p.2.size ≤ maxLen) (he : newE zs = 0) (t : Int) :
    Calls Tryd.prog 3 #[.slice a zs.length cap, .int .i64 t] w fun e w' => e = .returned (.bool true) ∧ Below w.heap.size w w' := by
  have HA : Hid (Calls Tryd.prog 8 #[] w fun e w' => e = .returned (.bool true) ∧ Below w.heap.size w w') := hA w
  have HV : Hid (View 2 VP w a zs.length cap zs) := h
  have HZ : Hid (∀ p ∈ zs, p.2.size ≤ maxLen) := hz
  have HE : Hid (0 = newE zs) := he.symm
  have hl2 : ¬ 60 < zs.length := by omega
  have hlm : zs.length ≤ 9223372036854775807 := by omega
  clear h he hA hz
  go_enter Tryd.func3, Tryd.ntmps3
  go_wp2_with (go_at_call 8; refine Calls.mono HA.out ?_; rintro e w1 ⟨rfl, hB⟩; have HB1 : Hid (Below w.heap.size w w1) := hB; clear hB)
  refine (new_any (HV.out.old stays_p HB1.out) (by omega) HE.out).mono ?_
  rintro e w2 ⟨v2, rfl, HR2, hB2⟩
  rcases HR2.out with ⟨h, _⟩ | ⟨_, N, ps, rfl, hp, hs, hR⟩
  · exact absurd HE.out.symm h
  have HR : Hid (RingAt w2 N ps) := hR
  have HP : Hid (ps.Perm zs) := hp
  have HS : Hid (Str ps) := hs
  have hpl : ps.length ≤ 60 := by rw [hp.length_eq]; exact hl
  have HB2 : Hid (Below w.heap.size w w2) := HB1.out.trans (hB2.mono HB1.out.size)
  clear hB2 HR2 HA HB1 hp hs hR
  go_wp2_with fail
  refine (model_any (HV.out.old stays_p HB2.out) (by omega)).mono ?_
  rintro e w3 ⟨v3, rfl, HO3, hB3⟩
  obtain ⟨x3, c3, rfl, hV3, _⟩ := HO3.out.view
  have HV3 : Hid (View 2 VP w3 x3 zs.length c3 zs) := hV3
  have HB3 : Hid (Below w.heap.size w w3) := HB2.out.trans (hB3.mono HB2.out.size)
  have HR3 : Hid (RingAt w3 N ps) := HR.out.old hB3
  clear hB3 hV3 HO3 HB2 HR HV
  go_wp2_with fail
  refine (refNew_any HV3.out (by omega) HE.out).mono ?_
  rintro e w4 ⟨v4, rfl, HR4, hB4⟩
  rcases HR4.out with ⟨h, _⟩ | ⟨_, ps4, hp4, hs4, hO4⟩
  · exact absurd HE.out.symm h
  obtain rfl : ps4 = ps := str_unique hs4 HS.out (hp4.trans HP.out.symm)
  obtain ⟨x4, c4, rfl, hV4, _⟩ := hO4.view
  have HV4 : Hid (View 2 VP w4 x4 ps4.length c4 ps4) := hV4
  have HB4 : Hid (Below w.heap.size w w4) := HB3.out.trans (hB4.mono HB3.out.size)
  have HR4' : Hid (RingAt w4 N ps4) := HR3.out.old hB4
  have hc4 := hV4.2.1
  have hc4m : c4 ≤ 9223372036854775807 := hV4.2.2.1
  clear hB4 HR4 HB3 HV3 hV4 hO4 hp4 hs4 HR3
  go_wp2_with fail
  refine (places_any HR4'.out (by omega)).mono ?_
  rintro e w5 ⟨v5, rfl, HO5, hB5⟩
  obtain ⟨x5, c5, rfl, hV5, _⟩ := HO5.out.view
  have HV5 : Hid (View 2 VP w5 x5 ps4.length c5 ps4) := hV5
  have HB5 : Hid (Below w.heap.size w w5) := HB4.out.trans (hB5.mono HB4.out.size)
  have HR5 : Hid (RingAt w5 N ps4) := HR4'.out.old hB5
  have HV45 : Hid (View 2 VP w5 x4 ps4.length c4 ps4) := HV4.out.old stays_p hB5
  clear hB5 hV5 HO5 HB4 HR4' HV4
  go_wp2_with fail
  refine (model_any HV5.out (by omega)).mono ?_
  rintro e w6 ⟨v6, rfl, HO6, hB6⟩
  obtain ⟨x6, c6, rfl, hV6, _⟩ := HO6.out.view
  have HV6 : Hid (View 2 VP w6 x6 ps4.length c6 ps4) := hV6
  have hc6 := hV6.2.1
  have hc6m : c6 ≤ 9223372036854775807 := hV6.2.2.1
  have HB6 : Hid (Below w.heap.size w w6) := HB5.out.trans (hB6.mono HB5.out.size)
  have HR6 : Hid (RingAt w6 N ps4) := HR5.out.old hB6
  have HV46 : Hid (View 2 VP w6 x4 ps4.length c4 ps4) := HV45.out.old stays_p hB6
  clear hB6 hV6 HO6 HB5 HR5 HV5 HV45
  go_wp2_with fail
  go_loopw [11] (fun i wr => ∃ (k q : Nat), k ≤ ps4.length ∧ i = .int .i64 k ∧ wr = w6.drewN q) (fun i _ => ps4.length - (intOf i).toNat)
  case atStart => exact ⟨0, 0, by omega, rfl, rfl⟩
  case round =>
    obtain ⟨k, q, hk, rfl, rfl⟩ := hrel
    by_cases hlt : k < ps4.length
    · obtain ⟨b, off, ha, hb, hc, hd⟩ := HV6.out.pl hlt
      obtain ⟨b', off', ha', hb', hc', hd'⟩ := HV46.out.pl hlt
      subst ha ha'
      obtain ⟨x, hx⟩ : ∃ x, x = (ps4.getD k default).1 := ⟨_, rfl⟩
      obtain ⟨y, hy⟩ : ∃ y, y = (ps4.getD k default).2 := ⟨_, rfl⟩
      rw [← hx] at hc hc'
      rw [← hy] at hd hd'
      clear hx hy
      go_wp2_with fail
      go_quiet (fail)
      go_wp2_with fail
      go_roundw
      case rel => exact ⟨k + 1, q + nq, by omega, by go_num, by simp⟩
      case measure => simp [intOf]; omega
    · have HRq : Hid (RingAt (w6.drewN q) N ps4) := HR6.out.old (below_drewN _ _)
      have HVq : Hid (View 2 VP (w6.drewN q) x4 ps4.length c4 ps4) := HV46.out.old stays_p (below_drewN _ _)
      have HBq : Hid (Below w.heap.size w (w6.drewN q)) := below_drewN' HB6.out _
      obtain ⟨W, hW⟩ : ∃ W, W = w6.drewN q := ⟨_, rfl⟩
      rw [← hW] at HRq HVq HBq ⊢
      obtain ⟨o, ho⟩ : ∃ o, o = ownV ps4 t := ⟨_, rfl⟩
      obtain ⟨r, hr⟩ : ∃ r, r = decide (0 < ps4.length) := ⟨_, rfl⟩
      have HO : Hid (o = ownV ps4 t) := ho
      have HRR : Hid (r = decide (0 < ps4.length)) := hr
      have hrr : decide (0 < ps4.length) = r := hr.symm
      have HZ2 : Hid (∀ p ∈ ps4, p.2.size ≤ maxLen) := fun p hp => HZ.out p (HP.out.subset hp)
      clear hW ho hr HB6 HR6 HV46 HV6
      go_wp2_with fail
      refine (owner_any HS.out HRq.out (by omega) HO.out HRR.out).mono ?_
      rintro e w7 ⟨rfl, hB7⟩
      have HR7 : Hid (RingAt w7 N ps4) := HRq.out.old hB7
      have HV7 : Hid (View 2 VP w7 x4 ps4.length c4 ps4) := HVq.out.old stays_p hB7
      have HB7 : Hid (Below w.heap.size w w7) := HBq.out.trans (hB7.mono HBq.out.size)
      clear hB7 HRq HVq HBq
      go_wp2_with fail
      refine (refOwner_any HV7.out HS.out HO.out).mono ?_
      rintro e w8 ⟨rfl, rfl⟩
      go_wp2_with fail
      refine (walk_any (t := t) HS.out HR7.out (by omega) HZ2.out).mono ?_
      rintro e w9 ⟨v9, rfl, HO9, hB9⟩
      obtain ⟨x9, c9, rfl, hV9, _⟩ := HO9.out.view
      have HV9 : Hid (View 1 VS w9 x9 (walkL ps4 t).length c9 (walkL ps4 t)) := hV9
      have HB9 : Hid (Below w.heap.size w w9) := HB7.out.trans (hB9.mono HB7.out.size)
      have HVr : Hid (View 2 VP w9 x4 ps4.length c4 ps4) := HV7.out.old stays_p hB9
      clear hB9 hV9 HO9 HB7 HV7 HR7
      go_wp2_with fail
      refine (refWalk_any HVr.out (by omega) HS.out (t := t)).mono ?_
      rintro e wa ⟨va, rfl, HOa, hBa⟩
      obtain ⟨xa, ca, rfl, hVa, _⟩ := HOa.out.view
      have HVa : Hid (View 1 VS wa xa (walkL ps4 t).length ca (walkL ps4 t)) := hVa
      have HV9a : Hid (View 1 VS wa x9 (walkL ps4 t).length c9 (walkL ps4 t)) := HV9.out.old stays_s hBa
      have HBa : Hid (Below w.heap.size w wa) := HB9.out.trans (hBa.mono HB9.out.size)
      clear hBa hVa HOa HB9 HV9 HVr
      go_wp2_with fail
      refine (same_any HV9a.out HVa.out (r := true) (by simp)).mono ?_
      rintro e wb ⟨rfl, q2, rfl⟩
      go_wp2_with fail
      go_ret
      exact ⟨rfl, below_drewN' HBa.out _⟩

theorem owns_walk (hA : Awake) {w : World} {a : Option Addr} {len cap : Nat} {zs : List Pl} (h : View 2 VP w a len cap zs) (hz : ∀ p ∈ zs, p.2.size ≤ maxLen) (t : Int) :
    Calls Tryd.prog 3 #[.slice a len cap, .int .i64 t] w fun e w' => e = .returned (.bool true) ∧ Below w.heap.size w w' := by
  by_cases hl : len ≤ 60
  · have e : zs.length = len := h.1
    subst e
    by_cases he : newE zs = 0
    · exact owns_good hA h hl hz he t
    · exact owns_bad hA h hl he t
  · exact owns_pass hA (by omega) (Nat.le_trans h.2.1 h.2.2.1) t
end Go.Proofs.YtohkpihjkaffoaaDoor
