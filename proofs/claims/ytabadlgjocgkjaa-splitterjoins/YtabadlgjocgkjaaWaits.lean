/-
  SplitterWaits, walked.
-/
import Derived.Test.YtabadlgjocgkjaaNone6
namespace Go.Proofs.Ytabadlgjocgkjaa
open Go.RowKit
set_option linter.unusedVariables false
set_option linter.unusedSimpArgs false

/-- A frame that lacks bytes waits. -/
theorem spl_part {ver : Int} {x : Fr} (h : FOk ver x) (k : Nat) (hk : k < (jB x).length) : spl ver ((jB x).take k) = ([], (jB x).take k, 0) := by
  obtain ⟨ok, c0, hl, hv⟩ := h
  have hlen := jB_len x
  have htl : ((jB x).take k).length = k := by rw [List.length_take]; omega
  by_cases h9 : k < 9
  · exact spl_less (by omega)
  · have e : (jB x).take k ++ (jB x).drop k = jB x := List.take_append_drop k _
    have hL : leng (jB x) = x.l := by unfold jB; exact hd_leng ok _
    have hg : gE (jB x) = 0 := by unfold jB; rw [hd_gE ok]; exact c0
    have h0 : hE ver (jB x) = 0 := by
      unfold hE; rw [if_pos hg, if_pos]
      rw [← hv]; rfl
    have e1 := hE_app (ver := ver) (zs := (jB x).take k) ((jB x).drop k) (by omega)
    have e2 := frL_app (zs := (jB x).take k) ((jB x).drop k) (by omega)
    rw [e] at e1 e2
    refine spl_waits (by omega) (by rw [← e1]; exact h0) ?_
    rw [← e2, htl]
    unfold frL
    rw [hL, hl]
    simp
    omega

theorem left_at {w : World} {s : Nat} {ver : Int} {kv : Value} {K : List Int} {flt : Int} {n : Nat} (h : Spl w s ver kv K flt) (hn : K.length = n) :
    Calls Try.prog 14 #[.pointer (some ⟨s, 0, none⟩)] w fun e w' => e = .returned (.int .i64 n) ∧ w' = w := by subst hn; exact left_any h

theorem BRow.first {w : World} {b off len cap : Nat} {zs : List Int} (h : BRow w b off len cap zs) (k : Nat) (hk : k ≤ len) : BRow w b off k cap (zs.take k) := by
  have hl := h.len_eq
  refine ⟨by simp; omega, by have := h.le; omega, h.cap_le, fun hp => h.lt (by omega), fun i hi => ?_, range_take h.rng k⟩
  rw [h.cell i (by omega), List.getD_eq_getElem?_getD, List.getD_eq_getElem?_getD, List.getElem?_take_of_lt hi]

set_option maxHeartbeats 400000 in
theorem waits_pass (a : Option Addr) (len cap : Nat) (c : Int) (a2 : Option Addr) (len2 cap2 : Nat) (w : World) (h : 500 < len ∨ 8 < len2) :
    Calls Try.prog 7 #[.slice a len cap, .int .u8 c, .slice a2 len2 cap2] w fun e w' => e = .returned (.bool true) ∧ Below w.heap.size w w' := by
  by_cases h1 : 500 < len
  · go_enter Try.func7, Try.ntmps7
    go_wp2_with fail
    refine (awake_any _).mono ?_
    rintro e w0 ⟨rfl, hB0⟩
    go_wp2_with fail
    go_ret
    exact ⟨rfl, hB0⟩
  · have h2 : 8 < len2 := by omega
    have hd : decide ((500 : Int) < len) = false := by simp; omega
    go_enter Try.func7, Try.ntmps7
    go_wp2_with fail
    refine (awake_any _).mono ?_
    rintro e w0 ⟨rfl, hB0⟩
    go_wp2_with fail
    go_ret
    exact ⟨rfl, hB0⟩

set_option maxHeartbeats 1000000 in
theorem waits_walk (a : Option Addr) (len cap : Nat) (c : Int) (X : List Int) (a2 : Option Addr) (len2 cap2 : Nat) (Y : List Int) (w : World) (hI : IsB w a len cap X) (hI2 : IsB w a2 len2 cap2 Y) (hc0 : 0 ≤ c) (hc1 : c ≤ 255) (h1 : len ≤ 500) (h2 : len2 ≤ 8) :
    Calls Try.prog 7 #[.slice a len cap, .int .u8 c, .slice a2 len2 cap2] w fun e w' => e = .returned (.bool true) ∧ Below w.heap.size w w' := by
  have HI : Hid (IsB w a len cap X) := hI
  have HI2 : Hid (IsB w a2 len2 cap2 Y) := hI2
  have hl5 : decide ((500 : Int) < len) = false := by simp; omega
  have hl8 : decide ((8 : Int) < len2) = false := by simp; omega
  have hok := hok_lit 132 0 (-1) 12 len (by omega) (by omega) (by omega) (by omega) (by omega)
  have hck : chk 132 0 12 (len : Int) = 0 := chk_res rfl (by omega)
  obtain ⟨x, hx⟩ : ∃ x : Fr, x = ((132, 0, -1, 12, (len : Int), X) : Fr) := ⟨_, rfl⟩
  have HJ : Hid (hdB 132 0 (-1) 12 len ++ X = jB x) := by rw [hx]; rfl
  have HXB : Hid (x.b = X) := by rw [hx]; rfl
  have HOK : Hid (FOk 132 x) := by subst hx; exact ⟨hok, hck, by rw [show Fr.l ((132, 0, -1, 12, (len : Int), X) : Fr) = (len : Int) from rfl]; rw [← hI.1]; rfl, rfl⟩
  have HJL : Hid ((jB x).length = 9 + len) := by show _ = _; rw [jB_len, HXB.out, hI.1]
  clear hI hI2 hx
  go_enter Try.func7, Try.ntmps7
  go_wp2_with fail
  refine (awake_any _).mono ?_
  rintro e w0 ⟨rfl, hB0⟩
  have HB0 : Hid (Below w.heap.size w w0) := hB0
  clear hB0
  go_wp2_with fail
  refine (join_row 132 0 (-1) 12 (len : Int) a len cap X _ (HI.out.old HB0.out) hok (by omega) rfl hck).mono ?_
  rintro e w1 ⟨g, cp, rfl, hg1, hg2, ho1, hb1, hB1⟩
  rw [HJ.out] at hb1
  have hz0 := HB0.out.size
  have HB1 : Hid (Below w.heap.size w w1) := HB0.out.trans (hB1.mono hz0)
  have HR1 : Hid (BRow w1 g 0 (9 + len) cp (jB x)) := hb1
  have hcp1 : 9 + len ≤ cp := hb1.le
  have hcp2 : cp ≤ 9223372036854775807 := hb1.cap_le
  have hg0 : w.heap.size ≤ g := by omega
  clear ho1 hb1 hB1 HB0 hok hck hg1
  obtain ⟨k, hk⟩ : ∃ k : Nat, (9 : Int) + len - 1 - c % (9 + len) = k := ⟨((9 : Int) + len - 1 - c % (9 + len)).toNat, by have := Int.emod_lt_of_pos c (show (0 : Int) < 9 + len by omega); have := Int.emod_nonneg c (show (9 : Int) + len ≠ 0 by omega); omega⟩
  have hk1 : k < 9 + len := by have := Int.emod_nonneg c (show (9 : Int) + len ≠ 0 by omega); omega
  go_wp2_with fail
  refine (new_any 132 _).mono ?_
  rintro e w2 ⟨rfl, sp2, hB2, hz2⟩
  have S2 : Hid (Spl w2 w1.heap.size 132 (.slice none 0 0) [] 0) := sp2
  have HB2 : Hid (Below w1.heap.size w1 w2) := hB2
  have hz1 := HB1.out.size
  have HBW2 : Hid (Below w.heap.size w w2) := HB1.out.trans (hB2.mono hz1)
  obtain ⟨s, hs⟩ : ∃ s, s = w1.heap.size := ⟨_, rfl⟩
  rw [← hs] at S2
  rw [← hs]
  have hsg : g < s := by omega
  have hs2 : s < w2.heap.size := by omega
  have hs0 : w.heap.size ≤ s := by omega
  have HR2 : Hid (BRow w2 g 0 (9 + len) cp (jB x)) := HR1.out.old hB2
  have HS1 : Hid (spl 132 ([] ++ (jB x).take k) = ([], (jB x).take k, 0)) := spl_part HOK.out k (by rw [HJL.out]; exact hk1)
  have HTL : Hid (((jB x).take k).length = k) := by show _ = _; rw [List.length_take, HJL.out]; omega
  clear sp2 hB2 hz2 hs HR1
  go_wp2_with fail
  refine (add_any S2.out (HR2.out.first k (by omega)).isB (by simp; omega) rfl HS1.out).mono ?_
  rintro e w3 ⟨fv, kv, rfl, sp3, ho3, hK3, hb3⟩
  obtain ⟨a3, cap3, rfl, hv3, _⟩ := ho3.view
  have S3 : Hid (Spl w3 s 132 kv ((jB x).take k) 0) := sp3
  have HKV : Hid (∀ k, kv.ownBlock = some k → w2.heap.size ≤ k) := fun k e => by rcases hb3 k e with h | h; simp [Value.ownBlock] at h; exact h
  have hK3' : Kept (fun k => k = s) w2 w3 := hK3.wide (fun k _ e => by rcases e with e | e; exact e; simp [Value.ownBlock] at e)
  have HB3 : Hid (Below w.heap.size w w3) := HBW2.out.trans (hK3'.below (by omega) (fun k _ e => by omega))
  have HR3 : Hid (BRow w3 g 0 (9 + len) cp (jB x)) := HR2.out.below (hK3'.below (B := s) (by omega) (fun k _ e => by omega)) (fun _ => hsg)
  have hz3 : w2.heap.size ≤ w3.heap.size := hK3.size
  clear sp3 ho3 hK3 hb3 hv3 hK3' HR2 S2 HS1
  go_wp2_with fail
  refine (left_at S3.out HTL.out).mono ?_
  rintro e w3' ⟨rfl, rfl⟩
  have hkc : ¬ cp = k := by omega
  have HD3 : Hid (IsB w3' (some ⟨g, k, none⟩) (9 + len - k) (cp - k) ((jB x).drop k)) := by
    have := (HR3.out.drop (off' := k) k (by omega) (fun _ => by omega)).isB
    exact this
  go_wp2_with (at_builtin; refine wpList_append_bytes (base := w3'.heap.size) (X := []) (n := 0) rfl (.tmp 61) (.tmp 64) rfl rfl (World.ownsRow_nil _ _ _ _) rfl HD3.out (by omega) (Nat.le_refl _) ?_)
  rintro u4 w4 ho4 hB4
  have HO4 : Hid (OwnB w4 w3'.heap.size u4 (9 + len - k) ((jB x).drop k)) := ho4
  have hz4 := hB4.size
  have HB4 : Hid (Below w3'.heap.size w3' w4) := hB4
  have HI24 : Hid (IsB w4 a2 len2 cap2 Y) := (HI2.out.old HB3.out).old hB4
  clear ho4 hB4 HD3
  go_wp2_with (at_builtin; refine wpList_append_bytes rfl (.tmp 66) (.tmp 67) rfl rfl HO4.out rfl HI24.out (by omega) hz4 ?_)
  rintro u5 w5 ho5 hB5
  have HB5 : Hid (Below w3'.heap.size w3' w5) := HB4.out.trans hB5
  obtain ⟨x5, cp5, rfl, hI5, _⟩ := OwnB.isB0 ho5 (range_append (range_drop HR3.out.rng k) HI24.out.range)
  have HI5 : Hid (IsB w5 x5 (9 + len - k + len2) cp5 ((jB x).drop k ++ Y)) := hI5
  have S5 : Hid (Spl w5 s 132 kv ((jB x).take k) 0) := S3.out.old HB5.out
  have HZ5 : Hid ((jB x).take k ++ ((jB x).drop k ++ Y) = jB x ++ Y) := by show _ = _; rw [← List.append_assoc, List.take_append_drop]
  have HS5 : Hid (spl 132 (jB x ++ Y) = ([x], Y, 0)) := by
    show _ = _
    rw [spl_join HOK.out, spl_less (by rw [HI2.out.1]; omega)]
  have HBW5 : Hid (Below w.heap.size w w5) := HB3.out.trans (HB5.out.mono HB3.out.size)
  have hz5 := HB5.out.size
  have hlen5 : 9 + len - k + len2 ≤ 1000 := by omega
  clear ho5 hB5 hI5 HO4 HB4 HI24 S3 HR3
  go_wp2_with fail
  refine (add_any S5.out HI5.out (by rw [HTL.out]; omega) HZ5.out HS5.out).mono ?_
  rintro e w6 ⟨fv6, kv6, rfl, sp6, ho6, hK6, hb6⟩
  obtain ⟨b6, off6, cap6, a6, l6, cp6, rfl, hcap, hcm, hbz, hc6, hI6, hl6, _⟩ := own_first ho6
  rw [HXB.out] at hI6
  have HB6 : Hid (Below w.heap.size w w6) := HBW5.out.trans (hK6.below (by omega) (fun k _ e => by rcases e with e | e; omega; have := HKV.out k e; omega))
  have HI6 : Hid (IsB w6 a6 l6 cp6 X) := hI6
  have HIX : Hid (IsB w6 a len cap X) := HI.out.old HB6.out
  unfold maxLen at hcm
  have q1 : ∀ n, (convert 26 9 (.slice a len cap)).run Try.prog (w6.drewN n) = .ok (.string (strOfNums X)) (w6.drewN n) := fun n => (HIX.out.old (below_drewN (Below.refl _ _) n)).conv
  have q2 : ∀ n, (convert 26 9 (.slice a6 l6 cp6)).run Try.prog (w6.drewN n) = .ok (.string (strOfNums X)) (w6.drewN n) := fun n => (HI6.out.old (below_drewN (Below.refl _ _) n)).conv
  have SQ : Hid (∀ n, Spl (w6.drewN n) s 132 kv6 Y 0) := fun n => sp6.old (below_drewN (Below.refl _ _) n)
  have HYL : Hid (Y.length = len2) := HI2.out.1
  clear sp6 ho6 hK6 hb6 hI6 hl6 HI5 S5
  go_wp2_with fail
  go_quiet ((go_at_call 14; exact Calls.quiet_of_same (left_at (SQ.out _) HYL.out)))
  go_wp2_with fail
  go_ret
  exact ⟨rfl, below_drewN HB6.out _⟩

theorem waits_any (a : Option Addr) (len cap : Nat) (c : Int) (X : List Int) (a2 : Option Addr) (len2 cap2 : Nat) (Y : List Int) (w : World) (hI : IsRow .u8 w a len cap X) (hc : (Lit.int .u8 c).wf = true) (hI2 : IsRow .u8 w a2 len2 cap2 Y) :
    Calls Try.prog 7 #[.slice a len cap, .int .u8 c, .slice a2 len2 cap2] w fun e w' => e = .returned (.bool true) ∧ Below w.heap.size w w' := by
  by_cases h : 500 < len ∨ 8 < len2
  · exact waits_pass a len cap c a2 len2 cap2 w h
  · have := bounds_u8 hc
    exact waits_walk a len cap c _ a2 len2 cap2 _ w hI.isB hI2.isB (by omega) (by omega) (by omega) (by omega)
end Go.Proofs.Ytabadlgjocgkjaa
