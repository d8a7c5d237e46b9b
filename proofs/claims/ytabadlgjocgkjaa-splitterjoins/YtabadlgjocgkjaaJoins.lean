/-
  SplitterJoins, walked.
-/
import Derived.Test.YtabadlgjocgkjaaJoin2
namespace Go.Proofs.Ytabadlgjocgkjaa
open Go.RowKit
set_option linter.unusedVariables false
set_option linter.unusedSimpArgs false

/-- How things stand while frames that came in are joined. -/
structure JoinsAt (w wr : World) (fs : List Fr) (k : Nat) (bv : Value) (N : Nat) : Prop where
  own : OwnB wr w.heap.size bv N (joinL (fs.take k))
  bel : Below w.heap.size w wr
  le : N ≤ 1009 * k
  rng : Bs (joinL (fs.take k))
  ok : ∀ j, j < k → FOk 132 (fs.getD j default)

theorem joinL_succ {fs : List Fr} {k : Nat} (h : k < fs.length) : joinL (fs.take (k + 1)) = joinL (fs.take k) ++ jB (fs.getD k default) := by
  rw [← take_snoc' h]
  unfold joinL
  rw [List.map_append, List.flatten_append]
  simp

theorem JoinsAt.next {w wr wc w' : World} {fs : List Fr} {k N l : Nat} {u bv : Value} {x : Fr} (h : JoinsAt w wr fs k u N) (hk : k < fs.length) (hx : x = fs.getD k default) (hB : Below wr.heap.size wr wc) (hB' : Below w.heap.size wc w') (h9 : x.b.length ≤ 1000) (hr : Bs (jB x)) (hok : FOk 132 x) (hl : l = 9 + x.b.length)
    (ho : OwnB w' w.heap.size bv (N + l) (joinL (fs.take k) ++ jB x)) : JoinsAt w w' fs (k + 1) bv (N + l) := by
  refine ⟨?_, (h.bel.trans (hB.mono h.bel.size)).trans hB', by have := h.le; omega, ?_, fun j hj => ?_⟩
  · rw [joinL_succ hk, ← hx]; exact ho
  · rw [joinL_succ hk, ← hx]; exact range_append h.rng hr
  · by_cases e : j = k
    · rw [e, ← hx]; exact hok
    · exact h.ok j (by omega)

theorem jE_ok {x : Fr} (ok : HOk x.v x.f x.s x.o x.l) (hE : jE x = 0) (hv : x.v = 132) : FOk 132 x := by
  unfold jE at hE
  by_cases h : x.l = x.b.length
  · rw [if_pos h] at hE; exact ⟨ok, hE, h, hv⟩
  · rw [if_neg h] at hE; exact absurd hE (by decide)

theorem VF_cells {w : World} {a : Option Addr} {cap : Nat} {x : Fr} (h : View 6 VF w a 1 cap [x]) : ∃ b off, a = some ⟨b, off, none⟩ ∧ b < w.heap.size ∧ w.cell? ⟨b, off, none⟩ = some (.int .u8 (Fr.v x)) ∧ w.cell? ⟨b, off + 1, none⟩ = some (.int .u8 (Fr.f x)) ∧ w.cell? ⟨b, off + 2, none⟩ = some (.int .i16 (Fr.s x)) ∧ w.cell? ⟨b, off + 3, none⟩ = some (.int .u8 (Fr.o x)) ∧ w.cell? ⟨b, off + 4, none⟩ = some (.int .u32 (Fr.l x)) ∧ w.cell? ⟨b, off + 5, none⟩ = some (.string (strOfNums (Fr.b x))) := by
  obtain ⟨b, off, rfl, hb, q0, q1, q2, q3, q4, q5⟩ := h.f_cells (i := 0) (by omega)
  simp only [Nat.zero_mul, Nat.add_zero] at q0 q1 q2 q3 q4 q5
  exact ⟨b, off, rfl, hb, q0, q1, q2, q3, q4, q5⟩

/-- One frame of a row of them, as a row of one. -/
theorem View.one {w : World} {b off n cap : Nat} {fs : List Fr} (h : View 6 VFr w (some ⟨b, off, none⟩) n cap fs) {k : Nat} (hk : k < n) : View 6 VFr w (some ⟨b, off + k * 6, none⟩) 1 (cap - k) [fs.getD k default] := by
  obtain ⟨h1, h2, h3, h4, h5⟩ := h
  refine ⟨rfl, by omega, by omega, (fun e => by cases e), fun _ => ?_⟩
  obtain ⟨b', o', he, hb, hc⟩ := h5 (by omega)
  cases he
  refine ⟨b, off + k * 6, rfl, hb, fun i hi => ?_⟩
  obtain rfl : i = 0 := by omega
  obtain ⟨c, hcell, hv⟩ := hc k hk
  refine ⟨c, fun j hj => ?_, by simpa using hv⟩
  have := hcell j hj
  rw [← this]
  congr 2
  omega

set_option maxHeartbeats 400000 in
theorem joins_pass (a : Option Addr) (len cap : Nat) (a2 : Option Addr) (len2 cap2 : Nat) (w : World) (h : 10 < len ∨ 100 < len2) :
    Calls Try.prog 5 #[.slice a len cap, .slice a2 len2 cap2] w fun e w' => e = .returned (.bool true) ∧ Below w.heap.size w w' := by
  by_cases h1 : 10 < len
  · go_enter Try.func5, Try.ntmps5
    go_wp2_with fail
    refine (awake_any _).mono ?_
    rintro e w0 ⟨rfl, hB0⟩
    go_wp2_with fail
    go_ret
    exact ⟨rfl, hB0⟩
  · have h2 : 100 < len2 := by omega
    have hd : decide ((10 : Int) < len) = false := by simp; omega
    go_enter Try.func5, Try.ntmps5
    go_wp2_with fail
    refine (awake_any _).mono ?_
    rintro e w0 ⟨rfl, hB0⟩
    go_wp2_with fail
    go_ret
    exact ⟨rfl, hB0⟩

set_option maxRecDepth 20000 in
set_option maxHeartbeats 2000000 in
theorem joins_walk (a : Option Addr) (len cap : Nat) (fs : List Fr) (a2 : Option Addr) (len2 cap2 : Nat) (w : World) (hV : View 6 VFr w a len cap fs) (hOK : ∀ y ∈ fs, HOk y.v y.f y.s y.o y.l) (h1 : len ≤ 10) (h2 : len2 ≤ 100) :
    Calls Try.prog 5 #[.slice a len cap, .slice a2 len2 cap2] w fun e w' => e = .returned (.bool true) ∧ Below w.heap.size w w' := by
  have HV : Hid (View 6 VFr w a len cap fs) := hV
  have HL : Hid (fs.length = len) := hV.1
  have HOK : Hid (∀ y ∈ fs, HOk y.v y.f y.s y.o y.l) := hOK
  have hcap : len ≤ cap := hV.2.1
  have hcm : cap ≤ maxLen := hV.2.2.1
  unfold maxLen at hcm
  have hl5 : decide ((10 : Int) < len) = false := by simp; omega
  have hl8 : decide ((100 : Int) < len2) = false := by simp; omega
  clear hV hOK
  go_enter Try.func5, Try.ntmps5
  go_wp2_with fail
  refine (awake_any _).mono ?_
  rintro e w0 ⟨rfl, hB0⟩
  have HB0 : Hid (Below w.heap.size w w0) := hB0
  have HV0 : Hid (View 6 VFr w0 a len cap fs) := HV.out.old stays_fr hB0
  clear hB0
  go_wp2_with fail
  go_loopw [6, 7] (fun bv i wr => ∃ k N : Nat, k ≤ len ∧ i = .int .i64 k ∧ Hid (JoinsAt w0 wr fs k bv N)) (fun _ i _ => len - (intOf i).toNat)
  case atStart => exact ⟨0, 0, by omega, rfl, by rw [List.take_zero]; exact World.ownsRow_nil _ _ _ _, Below.refl _ _, by omega, by rw [List.take_zero]; intro j; simp [joinL], fun j hj => by omega⟩
  case round =>
    obtain ⟨k, N, hk, rfl, HR⟩ := hrel
    have HBW : Hid (Below w.heap.size w wr) := HB0.out.trans (HR.out.bel.mono HB0.out.size)
    by_cases hlt : k < len
    · obtain ⟨b, off, a1, l1, c1, ha, hF⟩ := HV0.out.fr_cells hlt
      subst ha
      obtain ⟨x, hx⟩ : ∃ x, x = fs.getD k default := ⟨_, rfl⟩
      rw [← hx] at hF
      have HF : Hid (FrCells w0 b (off + k * 6) x a1 l1 c1) := hF
      have HX : Hid (x = fs.getD k default) := hx
      have HXL : Hid (x.b.length = l1) := hF.isB.1
      have HXK : Hid (HOk x.v x.f x.s x.o x.l) := HOK.out x (by
        have hk' : k < fs.length := by rw [HL.out]; exact hlt
        rw [hx, List.getD_eq_getElem?_getD, List.getElem?_eq_getElem hk']; exact List.getElem_mem hk')
      obtain ⟨q0, q1, q2, q3, q4, q5, hI, hb⟩ := HF.out.old HR.out.bel
      have HI : Hid (IsB wr a1 l1 c1 x.b) := hI
      have HBS : Hid (Bs x.b) := hI.range
      have hki : (k : Int) < len := by omega
      have hkc : ¬ cap = k := by omega
      have hki1 : (k : Int) + 1 ≤ cap := by omega
      clear hF hx hI
      by_cases hbig : 1000 < l1
      · have hbi : (1000 : Int) < l1 := by omega
        go_wp2_with fail
        go_ret
        exact ⟨rfl, HBW.out⟩
      · have hbd : decide ((1000 : Int) < l1) = false := by simp; omega
        go_wp2_with fail
        refine (join_any HI.out HXK.out (by omega)).mono ?_
        rintro e w2 ⟨ax, mx, cx, rfl, HIx, hB2⟩
        have HV2 : Hid (View 6 VFr w2 (some ⟨b, off + k * 6, none⟩) 1 (cap - k) [x]) := by
          have h := ((HV0.out.old stays_fr HR.out.bel).old stays_fr hB2).one hlt
          rw [← HX.out] at h
          exact h
        have HB2 : Hid (Below wr.heap.size wr w2) := hB2
        obtain ⟨SX, hSX⟩ : ∃ S, S = strOfNums (jR x) := ⟨_, rfl⟩
        obtain ⟨EJ, hEJ⟩ : ∃ E, E = jE x := ⟨_, rfl⟩
        have HEJ : Hid (EJ = jE x) := hEJ
        rw [← hEJ]
        have HMX : Hid (mx = (jR x).length) := HIx.out.1.symm
        clear hB2 q0 q1 q2 q3 q4 q5 hEJ
        go_wp2_with fail
        refine (frames_view HV2.out (by omega)).mono ?_
        rintro e w3 ⟨ab, cb, rfl, hv3, hB3⟩
        obtain ⟨b3, off3, hab, hb3, p0, p1, p2, p3, p4, p5⟩ := VF_cells hv3
        subst hab
        have hcb1 : 1 ≤ cb := hv3.2.1
        have hcbm : cb ≤ maxLen := hv3.2.2.1
        unfold maxLen at hcbm
        have HB3 : Hid (Below wr.heap.size wr w3) := HB2.out.trans (hB3.mono HB2.out.size)
        have HIx3 : Hid (IsB w3 ax mx cx (jR x)) := HIx.out.old hB3
        clear hv3 hB3 HV2 HIx
        go_wp2_with fail
        refine (rjoin_any HBS.out HXK.out (by rw [HXL.out]; omega)).mono ?_
        rintro e w4 ⟨ay, my, cy, rfl, HIy, hB4⟩
        rw [← HEJ.out]
        have HB4 : Hid (Below wr.heap.size wr w4) := HB3.out.trans (hB4.mono HB3.out.size)
        have HIx4 : Hid (IsB w4 ax mx cx (jR x)) := HIx3.out.old hB4
        have cvx : (convert 26 9 (.slice ax mx cx)).run Try.prog w4 = .ok (.string SX) w4 := by rw [hSX]; exact HIx4.out.conv
        have cvy : (convert 26 9 (.slice ay my cy)).run Try.prog w4 = .ok (.string SX) w4 := by rw [hSX]; exact HIy.out.conv
        obtain ⟨q0, _, _, _, _, _, _, hb4⟩ := HF.out.old (HR.out.bel.trans (HB4.out.mono HR.out.bel.size))
        have HBW4 : Hid (Below w.heap.size w w4) := HBW.out.trans (HB4.out.mono HBW.out.size)
        clear hB4 p0 p1 p2 p3 p4 p5 hSX HIx3 HIy
        by_cases hE0 : EJ = 0
        · have HE0 : Hid (jE x = 0) := by rw [← HEJ.out]; exact hE0
          subst hE0
          obtain ⟨xv, hxv⟩ : ∃ v, v = x.v := ⟨_, rfl⟩
          rw [← hxv] at q0
          by_cases hv : xv = 132
          · have tv : (xv != 132) = false := by simpa using hv
            have HOX : Hid (FOk 132 x) := jE_ok HXK.out HE0.out (by rw [← hxv]; exact hv)
            have HJR : Hid (jR x = jB x) := if_pos HE0.out
            have HO4 : Hid (OwnB w4 w0.heap.size u6 N (joinL (fs.take k))) := HR.out.own.old HB4.out
            have hN := HR.out.le
            have hz4 : w0.heap.size ≤ w4.heap.size := Nat.le_trans HR.out.bel.size HB4.out.size
            have hmx : mx = 9 + l1 := by rw [HMX.out, HJR.out, jB_len, HXL.out]
            have HIx5 : Hid (IsB w4 ax mx cx (jB x)) := by rw [← HJR.out]; exact HIx4.out
            have HMX2 : Hid (mx = 9 + l1) := hmx
            have hmb : mx ≤ 1009 := by omega
            clear hv hxv hmx
            go_wp2_with (at_builtin; refine wpList_append_bytes rfl (.tmp 80) (.tmp 81) rfl rfl HO4.out rfl HIx5.out (by omega) hz4 ?_)
            rintro u5 w5 ho5 hB5
            have HO5 : Hid (OwnB w5 w0.heap.size u5 (N + mx) (joinL (fs.take k) ++ jB x)) := ho5
            have HB5 : Hid (Below w0.heap.size w4 w5) := hB5
            clear ho5 hB5
            go_wp2_with fail
            go_roundw
            case rel => exact ⟨k + 1, N + mx, by omega, by go_num, HR.out.next (by rw [HL.out]; exact hlt) HX.out HB4.out HB5.out (by rw [HXL.out]; omega) HIx5.out.range HOX.out (by rw [HMX2.out, HXL.out]) HO5.out⟩
            case measure => simp [intOf]; omega
          · have tv : (xv != 132) = true := by simpa using hv
            clear hv hxv
            go_wp2_with fail
            go_ret
            exact ⟨rfl, HBW4.out⟩
        · have te : (EJ != 0) = true := by simpa using hE0
          clear hE0
          go_wp2_with fail
          go_ret
          exact ⟨rfl, HBW4.out⟩
    · have hki : ¬ (k : Int) < len := by omega
      obtain rfl : k = len := by omega
      obtain ⟨Q, hQ⟩ : ∃ Q, Q = joinL fs := ⟨_, rfl⟩
      have htk : fs.take k = fs := List.take_of_length_le (by rw [HL.out]; exact Nat.le_refl _)
      have HQB : Hid (OwnB wr w0.heap.size u6 N Q ∧ Bs Q) := by
        have h := HR.out.own
        have h' := HR.out.rng
        rw [htk] at h h'
        rw [hQ]; exact ⟨h, h'⟩
      have HSP : Hid (spl 132 Q = (fs, [], 0)) := by
        have h := spl_joins (ver := 132) fs (fun y hy => by
          obtain ⟨j, hj, rfl⟩ := List.mem_iff_getElem.1 hy
          have := HR.out.ok j (by rw [← HL.out]; exact hj)
          rwa [List.getD_eq_getElem?_getD, List.getElem?_eq_getElem hj] at this) []
        rw [List.append_nil, ← hQ] at h
        rw [h]; show (fs ++ [], _) = _; rw [List.append_nil]; rfl
      have hN := HR.out.le
      obtain ⟨ab, cb, hu6, hIb, hpb⟩ := OwnB.isB0 HQB.out.1 HQB.out.2
      subst hu6
      have HIb : Hid (IsB wr ab N cb Q) := hIb
      clear hIb hpb hQ HQB htk
      go_wp2_with fail
      refine (new_any 132 _).mono ?_
      rintro e w2 ⟨rfl, sp2, hB2, hz2⟩
      obtain ⟨s, hs⟩ : ∃ s, s = wr.heap.size := ⟨_, rfl⟩
      rw [← hs] at sp2
      rw [← hs]
      have hsw : w.heap.size ≤ s := by have := HBW.out.size; omega
      have hs2 : s < w2.heap.size := by omega
      have S2 : Hid (Spl w2 s 132 (.slice none 0 0) [] 0) := sp2
      have HIb2 : Hid (IsB w2 ab N cb Q) := HIb.out.old hB2
      have HB2 : Hid (Below w.heap.size w w2) := HBW.out.trans (hB2.mono HBW.out.size)
      clear sp2 hB2 hz2 hs HIb
      go_wp2_with fail
      refine (add_any S2.out HIb2.out (by simp; omega) rfl HSP.out).mono ?_
      rintro e w3 ⟨fv, kv, rfl, sp3, ho3, hK3, hb3⟩
      obtain ⟨am, cm, hmv, hvm, _⟩ := ho3.view
      rw [HL.out] at hmv hvm
      subst hmv
      have HVM : Hid (View 6 VFr w3 am k cm fs) := hvm
      have S3 : Hid (Spl w3 s 132 kv [] 0) := sp3
      have HB3 : Hid (Below w.heap.size w w3) := HB2.out.trans (hK3.below (by omega) (fun k _ e => by rcases e with e | e; omega; simp [Value.ownBlock] at e))
      have HVL : Hid (View 6 VFr w3 a k cap fs) := HV.out.old stays_fr HB3.out
      clear sp3 ho3 hK3 hb3 hvm S2 HIb2
      go_wp2_with fail
      refine (left_any S3.out).mono ?_
      rintro e w8 ⟨rfl, rfl⟩
      go_wp2_with fail
      refine (frames_view HVL.out (by omega)).mono ?_
      rintro e wa ⟨aa, ca, rfl, hva, hBa⟩
      have HVA : Hid (View 6 VF wa aa k ca fs) := hva
      have HVM2 : Hid (View 6 VFr wa am k cm fs) := HVM.out.old stays_fr hBa
      have HBA : Hid (Below w.heap.size w wa) := HB3.out.trans (hBa.mono HB3.out.size)
      clear hva hBa
      go_wp2_with fail
      refine (frames_view HVM2.out (by omega)).mono ?_
      rintro e wb ⟨ab2, cb2, rfl, hvb, hBb⟩
      have HVB : Hid (View 6 VF wb ab2 k cb2 fs) := hvb
      have HVA2 : Hid (View 6 VF wb aa k ca fs) := HVA.out.old stays_f hBb
      have HBB : Hid (Below w.heap.size w wb) := HBA.out.trans (hBb.mono HBA.out.size)
      clear hvb hBb
      go_wp2_with fail
      refine (same_any HVA2.out HVB.out).mono ?_
      rintro e wc ⟨rfl, hBc⟩
      have HBC : Hid (Below w.heap.size w wc) := HBB.out.trans (hBc.mono HBB.out.size)
      clear hBc
      go_wp2_with fail
      go_ret
      exact ⟨rfl, HBC.out⟩

theorem joins_any (a : Option Addr) (len cap : Nat) (fs : List Fr) (a2 : Option Addr) (len2 cap2 : Nat) (w : World) (hV : View 6 VFr w a len cap fs) (hOK : ∀ y ∈ fs, HOk y.v y.f y.s y.o y.l) :
    Calls Try.prog 5 #[.slice a len cap, .slice a2 len2 cap2] w fun e w' => e = .returned (.bool true) ∧ Below w.heap.size w w' := by
  by_cases h : 10 < len ∨ 100 < len2
  · exact joins_pass a len cap a2 len2 cap2 w h
  · exact joins_walk a len cap fs a2 len2 cap2 w hV hOK (by omega) (by omega)
end Go.Proofs.Ytabadlgjocgkjaa
