/-
  SplitterAdds, walked.
-/
import Derived.Test.YtabadlgjocgkjaaAddsMath
namespace Go.Proofs.Ytabadlgjocgkjaa
open Go.RowKit
set_option linter.unusedVariables false
set_option linter.unusedSimpArgs false

theorem frames_from {w0 W : World} (hW : Below w0.heap.size w0 W) {a : Option Addr} {len cap s : Nat} {ver : Int} {fs : List Fr} (h : ∀ W, Below w0.heap.size w0 W → View 6 VFr W a len cap fs) (hc : ∀ W, Below w0.heap.size w0 W → W.cell? ⟨s, 0, none⟩ = some (.int .u8 ver)) (hl : len ≤ 13000) :
    Calls Try.prog 16 #[.slice a len cap] W fun e w' => ∃ aa ca, e = .returned (.slice aa len ca) ∧ Hid (View 6 VF w' aa len ca fs) ∧ Below w0.heap.size w0 w' ∧ w'.cell? ⟨s, 0, none⟩ = some (.int .u8 ver) := by
  refine (frames_view (h W hW) (by omega)).mono ?_
  rintro e w' ⟨aa, ca, rfl, hv, hB⟩
  have h2 := hW.trans (hB.mono hW.size)
  exact ⟨aa, ca, rfl, hv, h2, hc w' h2⟩

theorem same_from {w0 W : World} (hW : Below w0.heap.size w0 W) {a a2 : Option Addr} {len cap cap2 s : Nat} {ver : Int} {fs : List Fr} (hv : Hid (View 6 VF W a len cap fs)) (h : ∀ W, Below w0.heap.size w0 W → View 6 VF W a2 len cap2 fs) (hc : ∀ W, Below w0.heap.size w0 W → W.cell? ⟨s, 0, none⟩ = some (.int .u8 ver)) :
    Calls Try.prog 15 #[.slice a len cap, .slice a2 len cap2] W fun e w' => e = .returned (.bool true) ∧ Below w0.heap.size w0 w' ∧ w'.cell? ⟨s, 0, none⟩ = some (.int .u8 ver) := by
  refine (same_any hv.out (h W hW)).mono ?_
  rintro e w' ⟨rfl, hB⟩
  have h2 := hW.trans (hB.mono hW.size)
  exact ⟨rfl, h2, hc w' h2⟩

set_option maxRecDepth 20000 in
set_option maxHeartbeats 4000000 in
theorem adds_walk (ver : Int) (a : Option Addr) (len cap : Nat) (xs : List (List Int)) (w : World) (hV : View 1 VB w a len cap xs) :
    Calls Try.prog 3 #[.int .u8 ver, .slice a len cap] w fun e w' => e = .returned (.bool true) ∧ Below w.heap.size w w' := by
  have HV : Hid (View 1 VB w a len cap xs) := hV
  have HL : Hid (xs.length = len) := hV.1
  have hcap : len ≤ cap := hV.2.1
  have hcm : cap ≤ maxLen := hV.2.2.1
  unfold maxLen at hcm
  clear hV
  go_enter Try.func3, Try.ntmps3
  go_wp2_with fail
  refine (awake_any _).mono ?_
  rintro e w0 ⟨rfl, hB0⟩
  have HB0 : Hid (Below w.heap.size w w0) := hB0
  have hz0 := hB0.size
  clear hB0
  go_wp2_with fail
  refine (new_any ver _).mono ?_
  rintro e w1 ⟨rfl, sp1, hB1, hz1⟩
  obtain ⟨s, hs⟩ : ∃ s, s = w0.heap.size := ⟨_, rfl⟩
  rw [← hs] at sp1
  rw [← hs]
  have hs0 : w0.heap.size ≤ s := by omega
  have HA1 : Hid (AddsAt w0 w1 s ver [] (.slice none 0 0) (.slice none 0 0) 0) := by
    refine ⟨?_, keptV_nil _, fun k e => by simp [Value.ownBlock] at e, hB1, fun k e => by simp [Value.ownBlock] at e, fun _ => rfl⟩
    exact sp1
  clear sp1 hB1 hz1 hs
  go_wp2_with fail
  go_loopw [7, 8, 9] (fun av dv iv wr => ∃ (k D : Nat) (kv : Value), dv = .int .i64 D ∧ iv = .int .i64 k ∧ k ≤ 12 ∧ Hid (AddsAt w0 wr s ver (xs.take k).flatten av kv D ∧ (xs.take k).flatten.length ≤ 1000 * k ∧ k ≤ len)) (fun _ _ iv _ => 12 - (intOf iv).toNat)
  case atStart => exact ⟨0, 0, _, rfl, rfl, by omega, by rw [List.take_zero]; exact HA1.out, by simp, by omega⟩
  case round =>
    obtain ⟨k, D, kv, rfl, rfl, hk, HR⟩ := hrel
    have HBW : Hid (Below w.heap.size w wr) := HB0.out.trans (HR.out.1.bel.mono hz0)
    by_cases hlt : k < len
    · by_cases hk12 : k < 12
      · have hki : (k : Int) < len := by omega
        have hki2 : (k : Int) < 12 := by omega
        obtain ⟨b, off, a', l, cp, ha, hb, hc, hI, hl, hlcp, hcpm⟩ := (HV.out.old stays_b HB0.out).at hlt
        subst ha
        unfold maxLen at hcpm
        obtain ⟨p, hp⟩ : ∃ p, p = xs.getD k default := ⟨_, rfl⟩
        rw [← hp] at hI hl
        have HIw : Hid (∀ W, Below w0.heap.size w0 W → IsB W a' l cp p ∧ W.cell? ⟨b, off + k, none⟩ = some (.slice a' l cp) ∧ b < W.heap.size) := fun W hW => ⟨hI.old hW, (hW.cell (p := ⟨b, off + k, none⟩) hb).trans hc, Nat.lt_of_lt_of_le hb hW.size⟩
        have HLp : Hid (l = p.length) := hl
        have HU1 : Hid ((xs.take (k + 1)).flatten = (xs.take k).flatten ++ p) := by show _ = _; rw [hp]; exact flat_succ (by rw [HL.out]; exact hlt)
        obtain ⟨U, hU⟩ : ∃ U, U = (xs.take k).flatten := ⟨_, rfl⟩
        rw [← hU] at HR HU1
        obtain ⟨_, hc1, hb1⟩ := HIw.out wr HR.out.1.bel
        clear hI hl hc hp hU
        by_cases hbig : 1000 < l
        · have hbi : (1000 : Int) < l := by omega
          go_wp2_with fail
          go_ret
          exact ⟨rfl, HBW.out⟩
        · have hbd : decide ((1000 : Int) < l) = false := by simp; omega
          obtain ⟨hra, aa, ca, hav, hIa, hpa, hoa⟩ := HR.out.1.all
          have hIa' := hIa
          obtain ⟨N, hN⟩ : ∃ N, N = U.length := ⟨_, rfl⟩
          rw [← hN] at hav hIa
          have hN12 : N ≤ 12000 := by have := HR.out.2.1; omega
          have HIa : Hid (IsB wr aa N ca U) := hIa
          have HNU : Hid (U.length = N) := hN.symm
          subst hav
          have HKa : Hid (KeptV wr (.slice aa N ca) U) := HR.out.1.all
          obtain ⟨fs0, R0, E0, hS0⟩ : ∃ fs R E, spl ver U = (fs, R, E) := ⟨_, _, _, rfl⟩
          obtain ⟨fs1, R1, E1, hS1⟩ : ∃ fs R E, spl ver (U ++ p) = (fs, R, E) := ⟨_, _, _, rfl⟩
          have HS0 : Hid (spl ver U = (fs0, R0, E0)) := hS0
          have HS1 : Hid (spl ver (U ++ p) = (fs1, R1, E1)) := hS1
          obtain ⟨n0, hn0⟩ : ∃ n, fs0.length = n := ⟨_, rfl⟩
          obtain ⟨n1, hn1⟩ : ∃ n, fs1.length = n := ⟨_, rfl⟩
          have HN0 : Hid (fs0.length = n0) := hn0
          have HN1 : Hid (fs1.length = n1) := hn1
          have hn1b : n1 ≤ 13000 ∧ R1.length ≤ N + l := by
            have h := spl_rest (ver := ver) _ (U ++ p) (Nat.le_refl _)
            rw [hS1, List.length_append] at h
            have h1 := h.1
            have h2 := h.2.2.2
            have := HNU.out
            have := HLp.out
            simp only at h1 h2
            omega
          obtain ⟨hn1b, hR1b⟩ := hn1b
          obtain ⟨r1, hr1⟩ : ∃ n, R1.length = n := ⟨_, rfl⟩
          have HR1 : Hid (R1.length = r1) := hr1
          rw [hr1] at hR1b
          clear hra hIa hpa hoa hIa' hN hS0 hS1 hn0 hn1 hr1
          go_wp2_with fail
          refine (all_at ver HIa.out (by omega) HS0.out HN0.out).mono ?_
          rintro e wx ⟨af0, cf0, rfl, _, _, hBx⟩
          have HBX : Hid (Below wr.heap.size wr wx) := hBx
          have hzx := hBx.size
          have HB0x : Hid (Below w0.heap.size w0 wx) := HR.out.1.bel.trans (hBx.mono HR.out.1.bel.size)
          obtain ⟨hIpx, hcx, hbx⟩ := HIw.out wx HB0x.out
          have HIpx : Hid (IsB wx a' l cp p) := hIpx
          have HKx : Hid (KeptV wx (.slice aa N ca) U) := HKa.out.kept (kept_of (S := fun _ => False) hBx) (fun _ _ e => e)
          clear hBx hIpx hc1 hb1
          go_wp2_with (at_builtin; refine wpList_append_kept rfl (.tmp 47) (.tmp 51) rfl rfl HKx.out rfl HIpx.out (by rw [HNU.out]; omega) ?_)
          rintro v5 w5 hk5 hK5 hat5
          obtain ⟨hst5, hap5, hB5⟩ := HR.out.1.mid hs0 HBX.out hk5 hK5 hat5
          have HK5 : Hid (KeptV w5 v5 (U ++ p)) := hk5
          have HST5 : Hid (Spl w5 s ver kv (spl ver U).2.1 (spl ver U).2.2) := hst5
          have HAP5 : Hid (∀ k, v5.ownBlock = some k → k ≠ s ∧ kv.ownBlock ≠ some k ∧ w0.heap.size ≤ k ∧ k < w5.heap.size) := hap5
          have HB5 : Hid (Below w0.heap.size w0 w5) := hB5
          obtain ⟨hIp5, hc5, hb5⟩ := HIw.out w5 hB5
          have HIp5 : Hid (IsB w5 a' l cp p) := hIp5
          clear hk5 hK5 hat5 hst5 hap5 hB5 hIp5 hcx hbx
          go_wp2_with fail
          refine (add_on HST5.out HIp5.out (by rw [HNU.out]; omega)).mono ?_
          rintro e w6 ⟨xv, kv6, ys, rfl, hA6⟩
          have HE : Hid ((spl ver (U ++ p)).2.2 = E1) := by show _ = _; rw [HS1.out]
          rw [HE.out]
          obtain ⟨hk6, hnext⟩ := AddsAt.next hs0 HR.out.1.blk HB5.out HK5.out HAP5.out hA6
          have HK6 : Hid (KeptV w6 v5 (U ++ p)) := hk6
          have HNX : Hid _ := hnext
          have HA6 : Hid (AddedOn w5 w6 s ver kv U p xv kv6 ys) := hA6
          obtain ⟨a5, c5, hv5, hI5⟩ := hk6.isB
          rw [show (U ++ p).length = N + l from by rw [List.length_append, HNU.out, HLp.out]] at hv5 hI5
          subst hv5
          have HI5 : Hid (IsB w6 a5 (N + l) c5 (U ++ p)) := hI5
          clear hk6 hnext hA6 hI5 hc5 hb5
          go_wp2_with fail
          refine (all_at ver HI5.out (by omega) HS1.out HN1.out).mono ?_
          rintro e w7 ⟨af, cf, rfl, hv7, haf, hB7⟩
          rw [HR1.out]
          have HV7 : Hid (View 6 VF w7 af n1 cf fs1) := hv7
          have hcf : n1 ≤ cf := hv7.2.1
          have hcfm : cf ≤ maxLen := hv7.2.2.1
          unfold maxLen at hcfm
          have HB7 : Hid (Below w6.heap.size w6 w7) := hB7
          have S7 : Hid (Spl w7 s ver kv6 R1 E1) := by
            have h := HA6.out.st.old hB7
            rw [HS1.out] at h
            exact h
          have hs7 := S7.out.lt
          have HAF : Hid _ := haf
          have hlef : (N : Int) + l - ((N : Int) + l - (r1 : Int)) = r1 := by omega
          clear hv7 hB7 haf
          by_cases hE0 : E0 = 0
          · have hD : D = n0 := by
              have h := HR.out.1.done
              rw [HS0.out] at h
              exact (h hE0).trans HN0.out
            subst hE0
            subst hD
            have HTY : Hid (fs1 = fs0 ++ ys) := by
              have h := HA6.out.told
              rw [HS0.out, HS1.out] at h
              exact h
            have HYD : Hid (ys = fs1.drop D) := by show ys = _; rw [HTY.out, ← HN0.out, List.drop_left']; rfl
            have hDn : D ≤ n1 := by have := HN1.out; have h2 := congrArg List.length HTY.out; rw [List.length_append, HN0.out] at h2; omega
            have hyl : ys.length = n1 - D := by rw [HYD.out, List.length_drop, HN1.out]
            obtain ⟨ax, cx, hxv, hvx, _⟩ := HA6.out.own.view
            rw [hyl] at hxv hvx
            subst hxv
            have HXR : Hid (∀ W, Below w7.heap.size w7 W → View 6 VFr W ax (n1 - D) cx ys) := fun W hW => (hvx.old stays_fr HB7.out).old stays_fr hW
            have HCR : Hid (∀ W, Below w7.heap.size w7 W → W.cell? ⟨s, 0, none⟩ = some (.int .u8 ver)) := fun W hW => (S7.out.old hW).cells.1
            have SLR : Hid (∀ W, Below w7.heap.size w7 W → Spl W s ver kv6 R1 E1) := fun W hW => S7.out.old hW
            have hDc : (D : Int) ≤ n1 := by omega
            have hDc2 : (D : Int) ≤ cf := by omega
            have hn1D : n1 - D ≤ 13000 := by omega
            clear hyl hvx
            rcases HAF.out with ⟨hn, hn0, hc0⟩ | ⟨g, hg⟩
            · subst hn
              obtain rfl : D = 0 := by omega
              subst hn0 hc0
              have HWR : Hid (∀ W, Below w7.heap.size w7 W → View 6 VF W none 0 0 ys) := fun W hW => by
                have h := HV7.out.old stays_f hW
                have he : ys = fs1 := by rw [HYD.out, List.drop_zero]
                rw [he]; exact h
              go_upto_region 20 with fail
              go_cut [105] (fun b wc => b = .bool false ∧ Below w7.heap.size w7 wc)
              case first =>
                have k0 := HCR.out _ (Below.refl w7.heap.size w7)
                have k1 := HCR.out w7.drew (Below.refl w7.heap.size w7).drew
                have hD7 : Below w7.heap.size w7 w7.drew := (Below.refl w7.heap.size w7).drew
                have tE : (E1 != E1) = false := by simp
                have tr : ((r1 : Int) != r1) = false := by simp
                go_region_held3 (fun W => W.cell? ⟨s, 0, none⟩ = some (.int .u8 ver)) (assumption) (first
                  | (go_at_call 16; refine (frames_from (w0 := w7) hD7 HXR.out HCR.out hn1D).mono ?_; rintro e wa ⟨aa', ca', rfl, HVa, hTa, m0⟩)
                  | (go_at_call 15; refine (same_from (w0 := w7) hTa HVa HWR.out HCR.out).mono ?_; rintro e wb ⟨rfl, hTb, m1⟩)
                  | (go_at_call 14; refine (left_at (SLR.out _ hTb) HR1.out).mono ?_; rintro e wd ⟨rfl, rfl⟩))
                all_goals (go_wp2_with fail; go_meet; exact ⟨rfl, hTb⟩)
              case rest =>
                obtain ⟨rfl, hBc⟩ := hcut
                have HBC : Hid (Below w6.heap.size w6 wc) := HB7.out.trans (hBc.mono HB7.out.size)
                clear hBc
                go_wp2_with fail
                go_roundw
                case rel => exact ⟨k + 1, 0, kv6, rfl, by go_num, by omega, by rw [HU1.out]; exact HNX.out wc HBC.out 0 (fun _ => by rw [HS1.out]; exact HN1.out.symm), by rw [HU1.out, List.length_append, HNU.out, ← HLp.out]; have := HR.out.2.1; rw [HNU.out] at this; omega, by omega⟩
                case measure => simp [intOf]; omega
            · subst hg
              by_cases hcD : cf = D
              · have hnD : D = n1 := by omega
                have hcD2 : D = cf := hcD.symm
                clear hcD
                have HWR : Hid (∀ W, Below w7.heap.size w7 W → View 6 VF W (some ⟨g, 0, none⟩) (n1 - D) (cf - D) ys) := fun W hW => by
                  rw [HYD.out]
                  exact (HV7.out.old stays_f hW).behind hDn (fun h => by omega)
                subst hcD2
                subst hnD
                rw [show D - D = 0 from by omega] at HWR HXR hn1D
                go_upto_region 20 with fail
                go_cut [105] (fun b wc => b = .bool false ∧ Below w7.heap.size w7 wc)
                case first =>
                  have k0 := HCR.out _ (Below.refl w7.heap.size w7)
                  have k1 := HCR.out w7.drew (Below.refl w7.heap.size w7).drew
                  have hD7 : Below w7.heap.size w7 w7.drew := (Below.refl w7.heap.size w7).drew
                  have tE : (E1 != E1) = false := by simp
                  have tr : ((r1 : Int) != r1) = false := by simp
                  go_region_held3 (fun W => W.cell? ⟨s, 0, none⟩ = some (.int .u8 ver)) (assumption) (first
                    | (go_at_call 16; refine (frames_from (w0 := w7) hD7 HXR.out HCR.out hn1D).mono ?_; rintro e wa ⟨aa', ca', rfl, HVa, hTa, m0⟩)
                    | (go_at_call 15; refine (same_from (w0 := w7) hTa HVa HWR.out HCR.out).mono ?_; rintro e wb ⟨rfl, hTb, m1⟩)
                    | (go_at_call 14; refine (left_at (SLR.out _ hTb) HR1.out).mono ?_; rintro e wd ⟨rfl, rfl⟩))
                  all_goals (go_wp2_with fail; go_meet; exact ⟨rfl, hTb⟩)
                case rest =>
                  obtain ⟨rfl, hBc⟩ := hcut
                  have HBC : Hid (Below w6.heap.size w6 wc) := HB7.out.trans (hBc.mono HB7.out.size)
                  clear hBc
                  go_wp2_with fail
                  go_roundw
                  case rel => exact ⟨k + 1, D, kv6, rfl, by go_num, by omega, by rw [HU1.out]; exact HNX.out wc HBC.out D (fun _ => by rw [HS1.out]; exact HN1.out.symm), by rw [HU1.out, List.length_append, HNU.out, ← HLp.out]; have := HR.out.2.1; rw [HNU.out] at this; omega, by omega⟩
                  case measure => simp [intOf]; omega
              · have HWR : Hid (∀ W, Below w7.heap.size w7 W → View 6 VF W (some ⟨g, D * 6, none⟩) (n1 - D) (cf - D) ys) := fun W hW => by
                  rw [HYD.out]
                  exact (HV7.out.old stays_f hW).behind hDn (fun h => by omega)
                go_upto_region 20 with fail
                go_cut [105] (fun b wc => b = .bool false ∧ Below w7.heap.size w7 wc)
                case first =>
                  have k0 := HCR.out _ (Below.refl w7.heap.size w7)
                  have k1 := HCR.out w7.drew (Below.refl w7.heap.size w7).drew
                  have hD7 : Below w7.heap.size w7 w7.drew := (Below.refl w7.heap.size w7).drew
                  have tE : (E1 != E1) = false := by simp
                  have tr : ((r1 : Int) != r1) = false := by simp
                  go_region_held3 (fun W => W.cell? ⟨s, 0, none⟩ = some (.int .u8 ver)) (assumption) (first
                    | (go_at_call 16; refine (frames_from (w0 := w7) hD7 HXR.out HCR.out hn1D).mono ?_; rintro e wa ⟨aa', ca', rfl, HVa, hTa, m0⟩)
                    | (go_at_call 15; refine (same_from (w0 := w7) hTa HVa HWR.out HCR.out).mono ?_; rintro e wb ⟨rfl, hTb, m1⟩)
                    | (go_at_call 14; refine (left_at (SLR.out _ hTb) HR1.out).mono ?_; rintro e wd ⟨rfl, rfl⟩))
                  all_goals (go_wp2_with fail; go_meet; exact ⟨rfl, hTb⟩)
                case rest =>
                  obtain ⟨rfl, hBc⟩ := hcut
                  have HBC : Hid (Below w6.heap.size w6 wc) := HB7.out.trans (hBc.mono HB7.out.size)
                  clear hBc
                  go_wp2_with fail
                  go_roundw
                  case rel => exact ⟨k + 1, n1, kv6, rfl, by go_num, by omega, by rw [HU1.out]; exact HNX.out wc HBC.out n1 (fun _ => by rw [HS1.out]; exact HN1.out.symm), by rw [HU1.out, List.length_append, HNU.out, ← HLp.out]; have := HR.out.2.1; rw [HNU.out] at this; omega, by omega⟩
                  case measure => simp [intOf]; omega
          · obtain ⟨hx0, hsp⟩ := HA6.out.none (by rw [HS0.out]; exact hE0)
            rw [HS0.out, HS1.out] at hsp
            have hE1 : E0 = E1 := (congrArg (fun x => x.2.2) hsp).symm
            subst hx0
            have t : (E0 != 0) = true := by simpa using hE0
            have HE0 : Hid (E0 ≠ 0) := hE0
            have hr0 : r1 = 0 := by
              have h := (spl_rest (ver := ver) _ (U ++ p) (Nat.le_refl _)).2.2.1 (by rw [HS1.out]; show E1 ≠ 0; rw [← hE1]; exact hE0)
              rw [HS1.out] at h
              have h2 : R1 = [] := h
              rw [← HR1.out, h2]; rfl
            subst hE1
            subst hr0
            clear hE0 hsp
            go_wp2_with (go_at_call 14; refine (left_at S7.out HR1.out).mono ?_; rintro e w' ⟨rfl, rfl⟩)
            go_roundw
            case rel => exact ⟨k + 1, D, kv6, rfl, by go_num, by omega, by rw [HU1.out]; exact HNX.out w' HB7.out D (fun h => absurd (by rw [HS1.out] at h; exact h) HE0.out), by rw [HU1.out, List.length_append, HNU.out, ← HLp.out]; have := HR.out.2.1; rw [HNU.out] at this; omega, by omega⟩
            case measure => simp [intOf]; omega
      · have hki : (k : Int) < len := by omega
        have hki2 : ¬ (k : Int) < 12 := by omega
        go_wp2_with fail
        go_ret
        exact ⟨rfl, HBW.out⟩
    · have hki : decide ((k : Int) < len) = false := by simp; omega
      go_wp2_with fail
      go_ret
      exact ⟨rfl, HBW.out⟩
end Go.Proofs.Ytabadlgjocgkjaa
