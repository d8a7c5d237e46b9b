/-
  SplitterMany, walked.
-/
import Derived.Test.YtabadlgjocgkjaaManyMath
namespace Go.Proofs.Ytabadlgjocgkjaa
open Go.RowKit
set_option linter.unusedVariables false
set_option linter.unusedSimpArgs false

set_option maxHeartbeats 400000 in
theorem many_pass (a : Option Addr) (len cap : Nat) (c st : Int) (w : World) (h : 12 < len) :
    Calls Try.prog 9 #[.slice a len cap, .int .u8 c, .int .i16 st] w fun e w' => e = .returned (.bool true) ∧ Below w.heap.size w w' := by
  go_enter Try.func9, Try.ntmps9
  go_wp2_with fail
  refine (awake_any _).mono ?_
  rintro e w0 ⟨rfl, hB0⟩
  go_wp2_with fail
  go_ret
  exact ⟨rfl, hB0⟩

set_option maxRecDepth 20000 in
set_option maxHeartbeats 4000000 in
theorem many_walk (a : Option Addr) (len cap : Nat) (c : Int) (xs : List (List Int)) (st : Int) (w : World) (hV : View 1 VB w a len cap xs) (hc0 : 0 ≤ c) (hc1 : c ≤ 255) (hs0 : -32768 ≤ st) (hs1 : st ≤ 32767) (h1 : len ≤ 12) :
    Calls Try.prog 9 #[.slice a len cap, .int .u8 c, .int .i16 st] w fun e w' => e = .returned (.bool true) ∧ Below w.heap.size w w' := by
  have HV : Hid (View 1 VB w a len cap xs) := hV
  have HL : Hid (xs.length = len) := hV.1
  have hcap : len ≤ cap := hV.2.1
  have hcm : cap ≤ maxLen := hV.2.2.1
  unfold maxLen at hcm
  have hl5 : decide ((12 : Int) < len) = false := by simp; omega
  obtain ⟨fs, hfs⟩ : ∃ fs : List Fr, fs = frs 4 0 st 10 xs := ⟨_, rfl⟩
  have HFS : Hid (fs = frs 4 0 st 10 xs) := hfs
  clear hV hfs
  go_enter Try.func9, Try.ntmps9
  go_wp2_with fail
  refine (awake_any _).mono ?_
  rintro e w0 ⟨rfl, hB0⟩
  have HB0 : Hid (Below w.heap.size w w0) := hB0
  have HV0 : Hid (View 1 VB w0 a len cap xs) := HV.out.old stays_b hB0
  clear hB0
  go_wp2_with fail
  go_loopw [8, 9] (fun bv i wr => ∃ k N : Nat, k ≤ len ∧ i = .int .i64 k ∧ Hid (JoinAt w0 wr fs k bv N ∧ ∀ j, j < k → (xs.getD j default).length ≤ 300)) (fun _ i _ => len - (intOf i).toNat)
  case atStart => exact ⟨0, 0, by omega, rfl, ⟨by rw [List.take_zero]; exact World.ownsRow_nil _ _ _ _, Below.refl _ _, by omega, by rw [List.take_zero]; intro j; simp [joinL]⟩, fun j hj => by omega⟩
  case round =>
    obtain ⟨k, N, hk, rfl, HR⟩ := hrel
    by_cases hlt : k < len
    · obtain ⟨b, off, a', l, cp, ha, hb, hc, hI, hl, hlcp, hcpm⟩ := (HV0.out.old stays_b HR.out.1.bel).at hlt
      subst ha
      unfold maxLen at hcpm
      have HI : Hid (IsB wr a' l cp (xs.getD k default)) := hI
      have HLL : Hid (l = (xs.getD k default).length) := hl
      have hki : (k : Int) < len := by omega
      clear hI hl
      by_cases hbig : 300 < l
      · go_wp2_with fail
        go_ret
        exact ⟨rfl, HB0.out.trans (HR.out.1.bel.mono HB0.out.size)⟩
      · have hbd : decide ((300 : Int) < l) = false := by simp; omega
        have hok := hok_lit 4 0 st 10 l (by omega) (by omega) (by omega) (by omega) (by omega)
        have hck : chk 4 0 10 (l : Int) = 0 := chk_req rfl (by omega)
        have HOK : Hid _ := hok
        have HCK : Hid (chk 4 0 10 (l : Int) = 0) := hck
        have hw32 : IntKind.u32.wrap (l : Int) = l := by rw [IntKind.wrap_u32]; omega
        clear hok hck
        go_upto_region 12 with fail
        go_cut [10, 11] (fun v e wc => ∃ g cp', v = .slice (some ⟨g, 0, none⟩) (9 + l) cp' ∧ e = .int .i64 0 ∧ Hid (BRow wc g 0 (9 + l) cp' (hdB 4 0 st 10 l ++ xs.getD k default)) ∧ Below wr.heap.size wr wc)
        case first =>
          go_region_with (go_at_call 17; refine (join_row 4 0 st 10 (l : Int) a' l cp (xs.getD k default) _ (HI.out.old ?_) HOK.out (by omega) rfl HCK.out).mono ?_; (exact (Below.refl _ _).drew); rintro e w1 ⟨g, cp', rfl, hg1, hg2, ho1, hb1, hB1⟩)
          all_goals (go_wp2_with fail; go_meet; exact ⟨g, cp', rfl, rfl, hb1, (Below.refl _ _).drew.trans hB1⟩)
        case rest =>
          obtain ⟨g, cp', rfl, rfl, HJ, hBc⟩ := hcut
          have HO : Hid (OwnB wc w0.heap.size u8 N (joinL (fs.take k))) := HR.out.1.own.old hBc
          have HJB : Hid (IsB wc (some ⟨g, 0, none⟩) (9 + l) cp' (hdB 4 0 st 10 l ++ xs.getD k default)) := HJ.out.isB
          have hN := HR.out.1.le
          have hzc : w0.heap.size ≤ wc.heap.size := Nat.le_trans HR.out.1.bel.size hBc.size
          have HBC : Hid (Below wr.heap.size wr wc) := hBc
          have hcc : wc.cell? ⟨b, off + k, none⟩ = some (.slice a' l cp) := (hBc.cell (p := ⟨b, off + k, none⟩) hb).trans hc
          have hbc : b < wc.heap.size := Nat.lt_of_lt_of_le hb hBc.size
          clear hBc hc
          go_wp2_with (at_builtin; refine wpList_append_bytes rfl (.tmp 68) (.tmp 69) rfl rfl HO.out rfl HJB.out (by omega) hzc ?_)
          rintro u2 w2 ho2 hB2
          have HO2 : Hid (OwnB w2 w0.heap.size u2 (N + (9 + l)) (joinL (fs.take k) ++ (hdB 4 0 st 10 l ++ xs.getD k default))) := ho2
          have HB2 : Hid (Below w0.heap.size wc w2) := hB2
          clear ho2 hB2
          go_wp2_with fail
          go_roundw
          case rel =>
            refine ⟨k + 1, N + (9 + l), by omega, by go_num, ?_, fun j hj => ?_⟩
            · have hR := HR.out.1
              have ho := HO2.out
              rw [HFS.out] at hR ho ⊢
              exact hR.next (by rw [HL.out]; exact hlt) HLL.out HBC.out HB2.out (by omega) HJ.out.rng ho
            · by_cases e : j = k
              · subst e; have := HLL.out; omega
              · exact HR.out.2 j (by omega)
          case measure => simp [intOf]; omega
    · have hki : ¬ (k : Int) < len := by omega
      obtain rfl : k = len := by omega
      have HFL : Hid (fs.length = k) := by show _ = _; rw [HFS.out, frs_len, HL.out]
      obtain ⟨Q, hQ⟩ : ∃ Q, Q = joinL fs := ⟨_, rfl⟩
      have HQB : Hid (OwnB wr w0.heap.size u8 N Q ∧ Bs Q) := by
        have h := HR.out.1.own
        have h' := HR.out.1.rng
        rw [List.take_of_length_le (by rw [HFL.out]; exact Nat.le_refl _)] at h h'
        rw [hQ]; exact ⟨h, h'⟩
      have HSP : Hid (spl 4 Q = (fs, [], 0)) := by
        have h := spl_joins (ver := 4) fs (by
          rw [HFS.out]
          exact frs_ok 300 (by omega) (mem_small HL.out HR.out.2) (by omega) (by omega) (by omega) (by omega) (fun l hl => chk_req rfl hl)) []
        rw [List.append_nil, ← hQ] at h
        rw [h]; show (fs ++ [], _) = _; rw [List.append_nil]; rfl
      have hz0 : w0.heap.size ≤ wr.heap.size := HR.out.1.bel.size
      have HBR : Hid (Below w.heap.size w wr) := HB0.out.trans (HR.out.1.bel.mono HB0.out.size)
      have hN := HR.out.1.le
      obtain ⟨ab, cb, hu8, hIb, hpb⟩ := OwnB.isB0 HQB.out.1 HQB.out.2
      subst hu8
      have HIb : Hid (IsB wr ab N cb Q) := hIb
      have HQL : Hid (Q.length = N) := hIb.1
      have hcb : N ≤ cb := hIb.2.1
      have hcbm : cb ≤ maxLen := hIb.2.2.1
      unfold maxLen at hcbm
      clear hIb hpb hQ HQB
      go_wp2_with fail
      refine (new_any 4 _).mono ?_
      rintro e w2 ⟨rfl, sp2, hB2, hz2⟩
      obtain ⟨s, hs⟩ : ∃ s, s = wr.heap.size := ⟨_, rfl⟩
      rw [← hs] at sp2
      rw [← hs]
      have hs2 : s < w2.heap.size := by omega
      have hsw : w.heap.size ≤ s := by have := HBR.out.size; omega
      have S2 : Hid (Spl w2 s 4 (.slice none 0 0) [] 0) := sp2
      have HIb2 : Hid (IsB w2 ab N cb Q) := HIb.out.old hB2
      have HVs : Hid (View 1 VB w2 a k cap xs) := HV.out.old stays_b (HBR.out.trans (hB2.mono HBR.out.size))
      have HIs : Hid (∀ W, Below s w2 W → IsB W ab N cb Q) := by
        intro W hW
        have hIW : IsB W ab N cb Q := HIb.out.old (by rw [hs] at hW; exact hB2.trans hW)
        exact hIW
      have HB2 : Hid (Below w.heap.size w w2) := HBR.out.trans (hB2.mono HBR.out.size)
      have hszb : 1 ≤ c + 1 := by omega
      clear sp2 hB2 hz2 hs HIb
      obtain ⟨kk, hkk⟩ : ∃ kk : Nat, c + 1 = (kk : Int) := ⟨(c + 1).toNat, by omega⟩
      have hkk1 : 1 ≤ kk := by omega
      have hkk2 : kk ≤ 256 := by omega
      obtain ⟨wo, hwo⟩ : ∃ wo, wo = wr := ⟨_, rfl⟩
      subst hwo
      go_wp2_with fail
      go_loopw [13, 15] (fun nv av wq => ∃ (n at_ : Nat) (kv : Value) (R : List Int), nv = .int .i64 n ∧ av = .int .i64 at_ ∧ at_ ≤ N + 256 ∧ Hid (Spl wq s 4 kv R 0 ∧ PartOf 4 Q fs at_ n R ∧ Kept (fun k => s ≤ k) w2 wq ∧ ∀ k, kv.ownBlock = some k → s ≤ k)) (fun _ av _ => N + 256 - (intOf av).toNat)
      case atStart => exact ⟨0, 0, _, _, rfl, rfl, by omega, S2.out, part_zero _ _ _, Kept.refl _ _, fun k e => by simp [Value.ownBlock] at e⟩
      case round =>
        obtain ⟨n, at_, kv, R, rfl, rfl, hat, HA⟩ := hrel
        by_cases hlt2 : at_ < N
        · have hBq : Below s w2 wr := HA.out.2.2.1.below (by omega) (fun k _ e => e)
          obtain ⟨gb, ob, hab, hbr⟩ := (HIs.out wr hBq).2.2.2.2 (by omega)
          subst hab
          have HBR2 : Hid (BRow wr gb ob N cb Q) := hbr
          have hgb : gb < wr.heap.size := hbr.lt (by omega)
          have hati : (at_ : Int) < N := by omega
          have hacb : ¬ cb = at_ := by omega
          clear hBq hbr
          obtain ⟨T, hT1, hT2, hT3, HT⟩ : ∃ T, at_ ≤ T ∧ T ≤ N ∧ T ≤ at_ + kk ∧ Hid ((T = at_ + kk ∧ at_ + kk ≤ N) ∨ (T = N ∧ N < at_ + kk)) := by
            by_cases hT : at_ + kk ≤ N
            · exact ⟨at_ + kk, by omega, by omega, by omega, .inl ⟨rfl, hT⟩⟩
            · exact ⟨N, by omega, by omega, by omega, .inr ⟨rfl, by omega⟩⟩
          obtain ⟨n', R', HP', hnn, hS⟩ := HA.out.2.1.next HSP.out T hT1
          have HSS : Hid (spl 4 (R ++ (Q.drop at_).take (T - at_)) = ((fs.drop n).take (n' - n), R', 0)) := hS
          have HPP : Hid (PartOf 4 Q fs T n' R') := HP'
          have HPI : Hid (∀ L, L = T - at_ → IsB wr (some ⟨gb, ob + at_, none⟩) L (cb - at_) ((Q.drop at_).take (T - at_))) := fun L hL => by subst hL; exact HBR2.out.piece at_ T hT1 hT2 (fun _ => rfl)
          have hRl : R.length ≤ 10000 := by
            have h := (spl_rest (ver := 4) _ (Q.take at_) (Nat.le_refl _)).1
            rw [HA.out.2.1.told] at h
            have h2 : (Q.take at_).length ≤ N := by rw [List.length_take, HQL.out]; omega
            have h3 : R.length ≤ (Q.take at_).length := h
            omega
          have hn'k : n' ≤ k := by have := HP'.le; rw [HFL.out] at this; exact this
          have hslt := HA.out.1.lt
          have HW : Hid (w2.heap.size ≤ wr.heap.size) := HA.out.2.2.1.size
          clear hS HP'
          have HTd : Hid ((decide ((N : Int) < at_ + kk) = false ∧ T = at_ + kk ∧ (at_ : Int) + kk ≤ cb) ∨ (decide ((N : Int) < at_ + kk) = true ∧ T = N ∧ (N : Int) ≤ cb)) := by
            rcases HT.out with ⟨e, h⟩ | ⟨e, h⟩
            · exact .inl ⟨by simp; omega, e, by omega⟩
            · exact .inr ⟨by simp; omega, e, by omega⟩
          rcases HTd.out with ⟨hd, he, hcbT⟩ | ⟨hd, he, hcbT⟩
          all_goals
            have HTe : Hid (T = _) := he
            clear he
            go_wp2_with fail
            refine (add_any HA.out.1 (HPI.out _ (by have := HTe.out; omega)) (by omega) rfl HSS.out).mono ?_
            rintro e w5 ⟨fv, kv5, rfl, sp5, ho5, hK5, hb5⟩
            have hfl : ((fs.drop n).take (n' - n)).length = n' - n := by rw [List.length_take, List.length_drop, HFL.out]; omega
            obtain ⟨a5, cap5, he5, hv5, _⟩ := ho5.view
            rw [hfl] at he5 hv5
            subst he5
            have HV5 : Hid (View 6 VFr w5 a5 (n' - n) cap5 ((fs.drop n).take (n' - n))) := hv5
            have hc5 : n' - n ≤ cap5 := hv5.2.1
            have hcm5 : cap5 ≤ maxLen := hv5.2.2.1
            unfold maxLen at hcm5
            have HK5 : Hid (Kept (fun k => s ≤ k) w2 w5) := HA.out.2.2.1.trans hK5 (fun i _ e => by rcases e with e | e; (show s ≤ i; omega); exact HA.out.2.2.2 i e)
            have HKV5 : Hid (∀ k, kv5.ownBlock = some k → s ≤ k) := fun k e => by rcases hb5 k e with h | h; exact HA.out.2.2.2 k h; omega
            have S5 : Hid (Spl w5 s 4 kv5 R' 0) := sp5
            have HBW5 : Hid (Below w.heap.size w w5) := HB2.out.trans (HK5.out.below (by omega) (fun k _ e => by omega))
            have HVb : Hid (View 1 VB w5 a k cap xs) := HV.out.old stays_b HBW5.out
            clear sp5 ho5 hK5 hb5 hfl hv5
            obtain ⟨wo2, hwo2⟩ : ∃ wo2, wo2 = wr := ⟨_, rfl⟩
            subst hwo2
            go_wp2_with fail
            go_loopw [13, 19] (fun nv iv wq => ∃ i m : Nat, i ≤ n' - n ∧ iv = .int .i64 i ∧ nv = .int .i64 m ∧ Hid (m = n + i ∧ Below w5.heap.size w5 wq)) (fun _ iv _ => n' - n - (intOf iv).toNat)
            case atStart => exact ⟨0, n, by omega, rfl, rfl, rfl, Below.refl _ _⟩
            case round =>
              obtain ⟨i, m, hi, rfl, rfl, HI⟩ := hrel
              by_cases hlt3 : i < n' - n
              · have hmk : m < k := by have := HI.out.1; omega
                obtain ⟨b6, off6, a6, l6, cp6, ha, hb6, q0, q1, q2, q3, q4, q5, hI6⟩ := (HV5.out.old stays_fr HI.out.2).fr_at hlt3
                obtain ⟨b7, off7, a7, l7, cp7, ha7, hb7, hc7, hI7, hl7, hlcp7, hcpm7⟩ := (HVb.out.old stays_b HI.out.2).at hmk
                subst ha ha7
                have hit : ((fs.drop n).take (n' - n)).getD i default = ((4, 0, st, 10, ((xs.getD m default).length : Int), xs.getD m default) : Fr) := by
                  rw [HI.out.1, HFS.out]; exact frs_at hlt3 (by rw [HL.out]; omega)
                rw [hit] at q2 hI6
                have HI6 : Hid (IsB wr a6 l6 cp6 (xs.getD m default)) := hI6
                have HI7 : Hid (IsB wr a7 l7 cp7 (xs.getD m default)) := hI7
                have hq2 : wr.cell? ⟨b6, off6 + i * 6 + 2, none⟩ = some (.int .i16 st) := by rw [Nat.add_assoc]; exact q2
                have hq5 : wr.cell? ⟨b6, off6 + i * 6 + 5, none⟩ = some (.slice a6 l6 cp6) := by rw [Nat.add_assoc]; exact q5
                have cv6 : ∀ n, (convert 26 9 (.slice a6 l6 cp6)).run Try.prog (wr.drewN n) = .ok (.string (strOfNums (xs.getD m default))) (wr.drewN n) := fun n => (HI6.out.old (below_drewN (Below.refl _ _) n)).conv
                have cv7 : ∀ n, (convert 26 9 (.slice a7 l7 cp7)).run Try.prog (wr.drewN n) = .ok (.string (strOfNums (xs.getD m default))) (wr.drewN n) := fun n => (HI7.out.old (below_drewN (Below.refl _ _) n)).conv
                obtain ⟨SX, hSX⟩ : ∃ S, S = strOfNums (xs.getD m default) := ⟨_, rfl⟩
                rw [← hSX] at cv6 cv7
                have hmi : ¬ (k : Int) ≤ m := by omega
                have hdm : decide ((k : Int) ≤ m) = false := by simp; omega
                have hii : (i : Int) < ((n' - n : Nat) : Int) := by omega
                clear q0 q1 q2 q3 q4 q5 hI6 hI7 hl7 hSX hit
                go_wp2_with fail
                go_quiet (fail)
                go_wp2_with fail
                go_roundw
                case rel => exact ⟨i + 1, m + 1, by omega, by go_num, by go_num, by have := HI.out.1; omega, below_drewN HI.out.2 _⟩
                case measure => simp [intOf]; omega
              · have hii : ¬ (i : Int) < ((n' - n : Nat) : Int) := by omega
                have hmn : m = n' := by have := HI.out.1; omega
                subst hmn
                go_wp2_with fail
                go_roundw
                case rel =>
                  refine ⟨m, at_ + kk, kv5, R', rfl, by go_num, by omega, S5.out.old HI.out.2, ?_, HK5.out.new HI.out.2, HKV5.out⟩
                  refine HPP.out.up ?_
                  rcases HT.out with ⟨e, _⟩ | ⟨e, h⟩
                  · exact .inl e
                  · exact .inr ⟨by rw [HQL.out]; omega, by rw [HQL.out]; omega⟩
                case measure => simp [intOf]; omega
        · have hati : ¬ (at_ : Int) < N := by omega
          obtain ⟨hnk, hR0⟩ := HA.out.2.1.all HSP.out (by rw [HQL.out]; omega)
          rw [HFL.out] at hnk
          subst hnk
          have S9 : Hid (Spl wr s 4 kv [] 0) := by rw [← hR0]; exact HA.out.1
          have HB9 : Hid (Below w.heap.size w wr) := HB2.out.trans (HA.out.2.2.1.below (by omega) (fun k _ e => by omega))
          clear hR0
          go_wp2_with (go_at_call 14; refine (left_any S9.out).mono ?_; rintro e w' ⟨rfl, rfl⟩)
          go_ret
          exact ⟨rfl, HB9.out⟩

theorem many_any (a : Option Addr) (len cap : Nat) (c : Int) (xs : List (List Int)) (st : Int) (w : World) (hV : View 1 VB w a len cap xs) (hc : (Lit.int .u8 c).wf = true) (hs : (Lit.int .i16 st).wf = true) :
    Calls Try.prog 9 #[.slice a len cap, .int .u8 c, .int .i16 st] w fun e w' => e = .returned (.bool true) ∧ Below w.heap.size w w' := by
  by_cases h : 12 < len
  · exact many_pass a len cap c st w h
  · have := bounds_u8 hc
    have := bounds_i16 hs
    exact many_walk a len cap c xs st w hV (by omega) (by omega) (by omega) (by omega) (by omega)

end Go.Proofs.Ytabadlgjocgkjaa
