/-
  SplitterWrong, walked.
-/
import Derived.Test.YtabadlgjocgkjaaBodies
namespace Go.Proofs.Ytabadlgjocgkjaa
open Go.RowKit
set_option linter.unusedVariables false
set_option linter.unusedSimpArgs false

/-- How things stand while frames are joined: bv owns the bytes of the first k. -/
structure JoinAt (w wr : World) (fs : List Fr) (k : Nat) (bv : Value) (N : Nat) : Prop where
  own : OwnB wr w.heap.size bv N (joinL (fs.take k))
  bel : Below w.heap.size w wr
  le : N ≤ 309 * k
  rng : Bs (joinL (fs.take k))

set_option maxHeartbeats 400000 in
theorem wrong_pass (a : Option Addr) (len cap : Nat) (c : Int) (a2 : Option Addr) (len2 cap2 : Nat) (w : World) (h : 8 < len ∨ 500 < len2) :
    Calls Try.prog 8 #[.slice a len cap, .int .u8 c, .slice a2 len2 cap2] w fun e w' => e = .returned (.bool true) ∧ Below w.heap.size w w' := by
  by_cases h1 : 8 < len
  · go_enter Try.func8, Try.ntmps8
    go_wp2_with fail
    refine (awake_any _).mono ?_
    rintro e w0 ⟨rfl, hB0⟩
    go_wp2_with fail
    go_ret
    exact ⟨rfl, hB0⟩
  · have h2 : 500 < len2 := by omega
    have hd : decide ((8 : Int) < len) = false := by simp; omega
    go_enter Try.func8, Try.ntmps8
    go_wp2_with fail
    refine (awake_any _).mono ?_
    rintro e w0 ⟨rfl, hB0⟩
    go_wp2_with fail
    go_ret
    exact ⟨rfl, hB0⟩

theorem or_one (c : Int) (h0 : 0 ≤ c) (h1 : c ≤ 255) : ∃ fl : Int, bits .or .u8 c 1 = fl ∧ 0 ≤ fl ∧ fl ≤ 255 ∧ fl % 2 = 1 := by
  have e : ∀ k : Fin 256, 0 ≤ bits .or .u8 ((k : Nat) : Int) 1 ∧ bits .or .u8 ((k : Nat) : Int) 1 ≤ 255 ∧ bits .or .u8 ((k : Nat) : Int) 1 % 2 = 1 := by decide +kernel
  obtain ⟨n, rfl⟩ := Int.eq_ofNat_of_zero_le h0
  exact ⟨_, rfl, e ⟨n, by omega⟩⟩

theorem spl_flags {fl : Int} (h : fl % 2 = 1) (Y : List Int) : spl 132 ([132, fl, 0, 0, 2, 0, 0, 0, 0] ++ Y) = ([], [], 21) := by
  have hg : gE ([132, fl, 0, 0, 2, 0, 0, 0, 0] ++ Y) = 21 := by
    rw [gE_app _ (by simp), gE_long (by simp)]
    show chk 132 fl 2 0 = 21
    exact chk_flag 132 fl 2 0 (.inl rfl) (by unfold flagB; simp; omega)
  have he : hE 132 ([132, fl, 0, 0, 2, 0, 0, 0, 0] ++ Y) = 21 := by unfold hE; rw [hg]; rfl
  rw [spl_wrong (by simp) (by rw [he]; decide), he]

theorem JoinAt.next {w wr wc w' : World} {xs : List (List Int)} {v f s o : Int} {k N l : Nat} {u bv : Value} (h : JoinAt w wr (frs v f s o xs) k u N) (hk : k < xs.length) (hl : l = (xs.getD k default).length) (hB : Below wr.heap.size wr wc) (hB' : Below w.heap.size wc w') (h9 : l ≤ 300) (hr : Bs (hdB v f s o l ++ xs.getD k default))
    (ho : OwnB w' w.heap.size bv (N + (9 + l)) (joinL ((frs v f s o xs).take k) ++ (hdB v f s o l ++ xs.getD k default))) : JoinAt w w' (frs v f s o xs) (k + 1) bv (N + (9 + l)) := by
  refine ⟨?_, (h.bel.trans (hB.mono h.bel.size)).trans hB', by have := h.le; omega, ?_⟩
  · rw [frs_take v f s o xs k hk, ← hl]; exact ho
  · rw [frs_take v f s o xs k hk, ← hl]; exact range_append h.rng hr

theorem frs_len (v f s o : Int) (xs : List (List Int)) : (frs v f s o xs).length = xs.length := by simp [frs]

theorem mem_small {xs : List (List Int)} {n m : Nat} (hl : xs.length = n) (h : ∀ j, j < n → (xs.getD j default).length ≤ m) : ∀ X ∈ xs, X.length ≤ m := by
  intro X hX
  obtain ⟨j, hj, rfl⟩ := List.mem_iff_getElem.1 hX
  have := h j (by omega)
  rwa [List.getD_eq_getElem?_getD, List.getElem?_eq_getElem hj] at this

/-- What is kept is bytes that can be read. -/
theorem KeptV.isB {w : World} {kv : Value} {K : List Int} (h : KeptV w kv K) : ∃ a c, kv = .slice a K.length c ∧ IsB w a K.length c K := by
  obtain ⟨_, a, c, e, hI, _⟩ := h
  exact ⟨a, c, e, hI⟩

set_option maxHeartbeats 1000000 in
theorem wrong_walk (a : Option Addr) (len cap : Nat) (c : Int) (xs : List (List Int)) (a2 : Option Addr) (len2 cap2 : Nat) (Y : List Int) (w : World) (hV : View 1 VB w a len cap xs) (hI2 : IsB w a2 len2 cap2 Y) (hc0 : 0 ≤ c) (hc1 : c ≤ 255) (h1 : len ≤ 8) (h2 : len2 ≤ 500) :
    Calls Try.prog 8 #[.slice a len cap, .int .u8 c, .slice a2 len2 cap2] w fun e w' => e = .returned (.bool true) ∧ Below w.heap.size w w' := by
  have HV : Hid (View 1 VB w a len cap xs) := hV
  have HI2 : Hid (IsB w a2 len2 cap2 Y) := hI2
  have HL : Hid (xs.length = len) := hV.1
  have hcap : len ≤ cap := hV.2.1
  have hcm : cap ≤ maxLen := hV.2.2.1
  unfold maxLen at hcm
  have hl5 : decide ((8 : Int) < len) = false := by simp; omega
  have hl8 : decide ((500 : Int) < len2) = false := by simp; omega
  obtain ⟨fs, hfs⟩ : ∃ fs : List Fr, fs = frs 132 0 0 2 xs := ⟨_, rfl⟩
  have HFS : Hid (fs = frs 132 0 0 2 xs) := hfs
  clear hV hI2 hfs
  go_enter Try.func8, Try.ntmps8
  go_wp2_with fail
  refine (awake_any _).mono ?_
  rintro e w0 ⟨rfl, hB0⟩
  have HB0 : Hid (Below w.heap.size w w0) := hB0
  have HV0 : Hid (View 1 VB w0 a len cap xs) := HV.out.old stays_b hB0
  clear hB0
  go_wp2_with fail
  go_loopw [8, 9] (fun bv i wr => ∃ k N : Nat, k ≤ len ∧ i = .int .i64 k ∧ Hid (JoinAt w0 wr fs k bv N ∧ ∀ j, j < k → (xs.getD j default).length ≤ 300)) (fun _ i _ => len - (intOf i).toNat)
  case atStart => exact ⟨0, 0, by omega, rfl, ⟨by rw [List.take_zero]; exact World.ownsRow_nil _ _ _ _, Below.refl _ _, by omega, by rw [List.take_zero]; intro j; simp [joinL]⟩, fun j hj => by omega⟩
  case round =>
    obtain ⟨k, N, hk, rfl, HR⟩ := hrel
    by_cases hlt : k < len
    · obtain ⟨b, off, a', l, cp, ha, hb, hc, hI, hl, hlcp, hcpm⟩ := (HV0.out.old stays_b HR.out.1.bel).at hlt
      subst ha
      unfold maxLen at hcpm
      have HI : Hid (IsB wr a' l cp (xs.getD k default)) := hI
      have HLL : Hid (l = (xs.getD k default).length) := hl
      have hki : (k : Int) < len := by omega
      clear hI hl
      by_cases hbig : 300 < l
      · go_wp2_with fail
        go_ret
        exact ⟨rfl, HB0.out.trans (HR.out.1.bel.mono HB0.out.size)⟩
      · have hbd : decide ((300 : Int) < l) = false := by simp; omega
        have hok := hok_lit 132 0 0 2 l (by omega) (by omega) (by omega) (by omega) (by omega)
        have hck : chk 132 0 2 (l : Int) = 0 := chk_res rfl (by omega)
        have HOK : Hid _ := hok
        have HCK : Hid (chk 132 0 2 (l : Int) = 0) := hck
        have hw32 : IntKind.u32.wrap (l : Int) = l := by rw [IntKind.wrap_u32]; omega
        clear hok hck
        go_upto_region 12 with fail
        go_cut [10, 11] (fun v e wc => ∃ g cp', v = .slice (some ⟨g, 0, none⟩) (9 + l) cp' ∧ e = .int .i64 0 ∧ Hid (BRow wc g 0 (9 + l) cp' (hdB 132 0 0 2 l ++ xs.getD k default)) ∧ Below wr.heap.size wr wc)
        case first =>
          go_region_with (go_at_call 17; refine (join_row 132 0 0 2 (l : Int) a' l cp (xs.getD k default) _ (HI.out.old ?_) HOK.out (by omega) rfl HCK.out).mono ?_; (exact (Below.refl _ _).drew); rintro e w1 ⟨g, cp', rfl, hg1, hg2, ho1, hb1, hB1⟩)
          all_goals (go_wp2_with fail; go_meet; exact ⟨g, cp', rfl, rfl, hb1, (Below.refl _ _).drew.trans hB1⟩)
        case rest =>
          obtain ⟨g, cp', rfl, rfl, HJ, hBc⟩ := hcut
          have HO : Hid (OwnB wc w0.heap.size u8 N (joinL (fs.take k))) := HR.out.1.own.old hBc
          have HJB : Hid (IsB wc (some ⟨g, 0, none⟩) (9 + l) cp' (hdB 132 0 0 2 l ++ xs.getD k default)) := HJ.out.isB
          have hN := HR.out.1.le
          have hzc : w0.heap.size ≤ wc.heap.size := Nat.le_trans HR.out.1.bel.size hBc.size
          have HBC : Hid (Below wr.heap.size wr wc) := hBc
          clear hBc hc
          go_wp2_with (at_builtin; refine wpList_append_bytes rfl (.tmp 58) (.tmp 59) rfl rfl HO.out rfl HJB.out (by omega) hzc ?_)
          rintro u2 w2 ho2 hB2
          have HO2 : Hid (OwnB w2 w0.heap.size u2 (N + (9 + l)) (joinL (fs.take k) ++ (hdB 132 0 0 2 l ++ xs.getD k default))) := ho2
          have HB2 : Hid (Below w0.heap.size wc w2) := hB2
          clear ho2 hB2
          go_wp2_with fail
          go_roundw
          case rel =>
            refine ⟨k + 1, N + (9 + l), by omega, by go_num, ?_, fun j hj => ?_⟩
            · have hR := HR.out.1
              have ho := HO2.out
              rw [HFS.out] at hR ho ⊢
              exact hR.next (by rw [HL.out]; exact hlt) HLL.out HBC.out HB2.out (by omega) HJ.out.rng ho
            · by_cases e : j = k
              · subst e; have := HLL.out; omega
              · exact HR.out.2 j (by omega)
          case measure => simp [intOf]; omega
    · have hki : ¬ (k : Int) < len := by omega
      obtain rfl : k = len := by omega
      obtain ⟨fl, hfl, hf0, hf1, hf2⟩ := or_one c hc0 hc1
      have HF2 : Hid (fl % 2 = 1) := hf2
      have HFL : Hid (fs.length = k) := by show _ = _; rw [HFS.out, frs_len, HL.out]
      have HO : Hid (OwnB (wr.alloc (.cells #[.int .u8 132, .int .u8 fl, .int .u8 0, .int .u8 0, .int .u8 2, .int .u8 0, .int .u8 0, .int .u8 0, .int .u8 0] 5)) w0.heap.size u8 N (joinL fs)) := by
        have h := HR.out.1.own
        rw [List.take_of_length_le (by rw [HFL.out]; exact Nat.le_refl _)] at h
        exact h.old (below_one _ _)
      have HS : Hid (∀ x ∈ fs, FOk 132 x) := by
        show ∀ x ∈ fs, FOk 132 x
        rw [HFS.out]
        exact frs_ok 300 (by omega) (mem_small HL.out HR.out.2) (by omega) (by omega) (by omega) (by omega) (fun l hl => chk_res rfl hl)
      have hz0 : w0.heap.size ≤ wr.heap.size := HR.out.1.bel.size
      have HBR : Hid (Below w0.heap.size w0 wr) := HR.out.1.bel
      have hN := HR.out.1.le
      have hbs : Bs [132, fl, 0, 0, 2, 0, 0, 0, 0] := bs_of (by simp [hf0, hf1])
      have HI9 : Hid (IsB (wr.alloc (.cells #[.int .u8 132, .int .u8 fl, .int .u8 0, .int .u8 0, .int .u8 2, .int .u8 0, .int .u8 0, .int .u8 0, .int .u8 0] 5)) (some ⟨wr.heap.size, 0, none⟩) 9 9 [132, fl, 0, 0, 2, 0, 0, 0, 0]) := isB_lit wr _ hbs (by simp) _ rfl 9 rfl
      clear hf2 hbs
      go_wp2_with (at_builtin; refine wpList_append_bytes rfl (.tmp 61) (.tmp 64) rfl rfl HO.out rfl HI9.out (by omega) (by simp; omega) ?_)
      rintro u3 w3 ho3 hB3
      obtain ⟨Q, hQ⟩ : ∃ Q, Q = joinL fs ++ [132, fl, 0, 0, 2, 0, 0, 0, 0] := ⟨_, rfl⟩
      have HO3 : Hid (OwnB w3 w0.heap.size u3 (N + 9) Q) := by rw [hQ]; exact ho3
      have HQ : Hid (Q = joinL fs ++ [132, fl, 0, 0, 2, 0, 0, 0, 0]) := hQ
      have HB3 : Hid (Below w0.heap.size w0 w3) := HBR.out.trans (((below_one _ _).mono hz0).trans hB3)
      have hz3 := hB3.size
      simp at hz3
      clear ho3 hB3 HO HI9 hQ
      go_wp2_with fail
      refine (new_any 132 _).mono ?_
      rintro e w4 ⟨rfl, sp4, hB4, hz4⟩
      obtain ⟨s, hs⟩ : ∃ s, s = w3.heap.size := ⟨_, rfl⟩
      have hs4 : s < w4.heap.size := by omega
      have hs0 : w0.heap.size ≤ s := by omega
      have HLT : Hid (∀ k, u3.ownBlock = some k → k < s) := fun k e => by rw [hs]; exact own_block_lt HO3.out k e
      have HB4 : Hid (Below w0.heap.size w0 w4) := HB3.out.trans (hB4.mono (by omega))
      have hlen3 : (Q).length = N + 9 := HO3.out.len
      have HK4 : Hid (KeptV w4 u3 (Q)) := OwnB.keptV (base := w0.heap.size) (by rw [hlen3]; exact HO3.out.old hB4) (by
        rw [HQ.out]
        have h := HR.out.1.rng
        rw [List.take_of_length_le (by rw [HFL.out]; exact Nat.le_refl _)] at h
        exact range_append h (bs_of (by simp [hf0, hf1])))
      rw [← hs] at sp4
      rw [← hs]
      have S4 : Hid (Spl w4 s 132 (.slice none 0 0) [] 0) := sp4
      have HI24 : Hid (IsB w4 a2 len2 cap2 Y) := (HI2.out.old HB0.out).old (HB4.out)
      have HL3 : Hid ((Q).length = N + 9) := hlen3
      clear sp4 hB4 hz4 hs hlen3
      go_wp2_with (at_builtin; refine wpList_append_kept rfl (.tmp 69) (.tmp 70) rfl rfl HK4.out rfl HI24.out (by rw [HL3.out]; omega) ?_)
      rintro v5 w5 hk5 hK5 hat5
      obtain ⟨a5, c5, rfl, hI5⟩ := hk5.isB
      obtain ⟨n5, hn5⟩ : ∃ n, n = (Q ++ Y).length := ⟨_, rfl⟩
      have hn5' : n5 ≤ 10000 := by rw [hn5, List.length_append, HL3.out, HI2.out.1]; omega
      rw [← hn5] at hI5 ⊢
      have HI5 : Hid (IsB w5 a5 n5 c5 (Q ++ Y)) := hI5
      have S5 : Hid (Spl w5 s 132 (.slice none 0 0) [] 0) := S4.out.keep hK5 (fun e => by have := HLT.out s e; omega) (fun k e => by simp [Value.ownBlock] at e)
      have HB5 : Hid (Below w0.heap.size w0 w5) := HB4.out.trans (hK5.below (by omega) (fun k _ e => (World.ownsRow.lt HO3.out k e).1))
      have HSP : Hid (spl 132 (Q ++ Y) = (fs, [], 21)) := by
        show _ = _
        rw [HQ.out, List.append_assoc, spl_joins fs HS.out, spl_flags HF2.out, List.append_nil]
      have hz5 := hK5.size
      clear hk5 hK5 hat5 hI5 hn5 S4 HI24 HK4
      go_wp2_with fail
      refine (add_any S5.out HI5.out (by simp; omega) rfl HSP.out).mono ?_
      rintro e w6 ⟨fv, kv, rfl, sp6, ho6, hK6, hb6⟩
      obtain ⟨a6, cap6, he6, hv6, _⟩ := ho6.view
      rw [HFL.out] at he6
      subst he6
      have HB6 : Hid (Below w0.heap.size w0 w6) := HB5.out.trans (hK6.below (by omega) (fun k _ e => by rcases e with e | e; omega; simp [Value.ownBlock] at e))
      have S6 : Hid (Spl w6 s 132 kv [] 21) := sp6
      clear sp6 ho6 hK6 hb6 hv6 HI5 S5
      go_wp2_with fail
      refine (add_err S6.out (by decide) _).mono ?_
      rintro e w7 ⟨rfl, hB7⟩
      have S7 : Hid (Spl w7 s 132 kv [] 21) := S6.out.old hB7
      have HB7 : Hid (Below w.heap.size w w7) := HB0.out.trans ((HB6.out.trans (hB7.mono HB6.out.size)).mono HB0.out.size)
      clear hB7 S6
      go_wp2_with (go_at_call 14; refine (left_any S7.out).mono ?_; rintro e w' ⟨rfl, rfl⟩)
      go_ret
      exact ⟨rfl, HB7.out⟩

theorem wrong_any (a : Option Addr) (len cap : Nat) (c : Int) (xs : List (List Int)) (a2 : Option Addr) (len2 cap2 : Nat) (Y : List Int) (w : World) (hV : View 1 VB w a len cap xs) (hc : (Lit.int .u8 c).wf = true) (hI2 : IsRow .u8 w a2 len2 cap2 Y) :
    Calls Try.prog 8 #[.slice a len cap, .int .u8 c, .slice a2 len2 cap2] w fun e w' => e = .returned (.bool true) ∧ Below w.heap.size w w' := by
  by_cases h : 8 < len ∨ 500 < len2
  · exact wrong_pass a len cap c a2 len2 cap2 w h
  · have := bounds_u8 hc
    exact wrong_walk a len cap c xs a2 len2 cap2 _ w hV hI2.isB (by omega) (by omega) (by omega) (by omega)
end Go.Proofs.Ytabadlgjocgkjaa
