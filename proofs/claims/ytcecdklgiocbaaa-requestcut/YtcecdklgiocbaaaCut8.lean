/-
  RequestCut walked: it answers true, and turns nothing that was there.
-/
import Derived.Test.YtcecdklgiocbaaaAwake8
import Derived.Test.YtcecdklgiocbaaaGood
namespace Go.Proofs.Ytcecdklgiocbaaa
open Go.RowKit
set_option maxRecDepth 100000
set_option linter.unusedVariables false
set_option linter.unusedSimpArgs false

theorem i64_and16 (n : Int) : bits .and .i64 n 65535 = n % 65536 := by
  have h7 : (BitVec.ofInt 64 65535).toNat = 2 ^ 16 - 1 := by decide
  have key : (BitVec.ofInt 64 n &&& BitVec.ofInt 64 65535).toNat = (n % ((2 ^ 64 : Nat) : Int)).toNat % 2 ^ 16 := by
    rw [BitVec.toNat_and, BitVec.toNat_ofInt, h7, Nat.and_two_pow_sub_one_eq_mod]
  show IntKind.i64.wrap ((BitVec.ofInt 64 n &&& BitVec.ofInt 64 65535).toNat : Nat) = n % 65536
  rw [key, IntKind.wrap_i64]
  omega

theorem IsB.cut {w : World} {a : Option Addr} {len cap : Nat} {zs : List Int} (h : IsB w a len cap zs) (r : Nat) (hr : r ≤ len) : IsB w a r cap (zs.take r) := by
  obtain ⟨h1, h2, h3, h4, h5⟩ := h
  refine ⟨by rw [List.length_take]; omega, by omega, h3, fun e => ⟨by have := (h4 e).1; omega, (h4 e).2⟩, fun hp => ?_⟩
  obtain ⟨b, off, ha, hR⟩ := h5 (by omega)
  refine ⟨b, off, ha, by rw [List.length_take]; omega, by omega, h3, fun _ => hR.lt (by omega), fun i hi => ?_, range_take hR.rng r⟩
  rw [hR.cell i (by omega), List.getD_eq_getElem?_getD, List.getD_eq_getElem?_getD, List.getElem?_take_of_lt hi]


theorem byte_row (w : World) (m : Int) (hm : 0 ≤ m ∧ m ≤ 255) : BRow (w.alloc (.cells #[.int .u8 m] 5)) w.heap.size 0 1 1 [m] := by
  refine ⟨rfl, Nat.le_refl _, by unfold maxLen; omega, fun _ => by simp, fun i hi => ?_, fun j => ?_⟩
  · obtain rfl : i = 0 := by omega
    simp [go_sem]
  · rcases j with _ | j
    · simpa using hm
    · simp

set_option maxHeartbeats 400000 in
theorem cutr_long (op : Int) (a : Option Addr) (len cap : Nat) (n m : Int) (w : World) (hl : 2000 < len) :
    Calls Try.prog 6 #[.int .u8 op, .slice a len cap, .int .i64 n, .int .u8 m] w fun e w' => e = .returned (.bool true) ∧ Below w.heap.size w w' := by
  go_enter Try.func6, Try.ntmps6
  go_wp2_with fail
  refine (awake_any _).mono ?_
  rintro e w1 ⟨rfl, HB1⟩
  go_wp2_with fail
  go_ret
  exact ⟨rfl, HB1.out⟩

set_option maxHeartbeats 8000000 in
theorem cutr_walk (op : Int) (hop : 0 ≤ op ∧ op ≤ 255) (a : Option Addr) (len cap : Nat) (zs : List Int) (n m : Int) (hm : 0 ≤ m ∧ m ≤ 255) (w : World) (h : IsB w a len cap zs) (hl : len ≤ 2000) :
    Calls Try.prog 6 #[.int .u8 op, .slice a len cap, .int .i64 n, .int .u8 m] w fun e w' => e = .returned (.bool true) ∧ Below w.heap.size w w' := by
  have H : Hid (IsB w a len cap zs) := h
  have HOP : Hid (0 ≤ op ∧ op ≤ 255) := hop
  have HM : Hid (0 ≤ m ∧ m ≤ 255) := hm
  have HZ : Hid (zs.length = len) := h.1
  obtain ⟨E, hE⟩ : ∃ E, E = getE op zs := ⟨_, rfl⟩
  have HE : Hid (E = getE op zs) := hE
  obtain ⟨κ, hκ⟩ : ∃ κ : Nat, bits .and .i64 n 65535 = κ := ⟨(n % 65536).toNat, by rw [i64_and16]; omega⟩
  have hcx := h.2.1
  have hcxm : cap ≤ 9223372036854775807 := h.2.2.1
  clear h hop hm hE
  go_enter Try.func6, Try.ntmps6
  go_wp2_with fail
  refine (awake_any _).mono ?_
  rintro e w1 ⟨rfl, HB1⟩
  go_wp2_with fail
  refine (get_any (H.out.old HB1.out) (by omega) HOP.out HE.out).mono ?_
  rintro e w2 ⟨oprg, oag, olg, ocg, osg, txg, iag, ilg, icg, idg, cog, ag, lg, cg, vsg, nag, nlg, ncg, nsg, b2g, b4g, png, b8g, sk1g, sbg, sag, slg, scg, b16g, srg, b32g, tmg, eag, elg, ecg, esg, tkg, tbg, tag, tlg, tcg, kdg, aag, alg, acg, ssg, rfl, _, _, _, HB2⟩
  go_wp2_with (refine wpList_store_hid (old := #[.int .u8 0, .slice none 0 0, .string ⟨#[]⟩, .slice none 0 0, .int .u16 0, .slice none 0 0, .slice none 0 0, .bool false, .bool false, .int .i32 0, .bool false, .int .i64 0, .slice none 0 0, .bool false, .int .u16 0, .bool false, .int .i64 0, .slice none 0 0, .int .i64 0, .slice none 0 0, .int .u8 0, .slice none 0 0]) (T := 33) rfl 33 (.tmp 10) (.tmp 27) rfl rfl rfl Try.isz33 (by simp [Value.oneCell']) (heap_alloc_new _ _) rfl ?_)
  intro w3 hqS hKS hsS
  have HBS3 : Hid (Below w2.heap.size w2 w3) := ((kept_of (below_one w2 _)).trans hKS (fun _ _ e => e)).below (S := fun k => k = w2.heap.size) (Nat.le_refl _) (fun k hk e => by omega)
  have HW3 : Hid (Below w.heap.size w w3) := (HB1.out.trans (HB2.out.mono HB1.out.size)).trans (HBS3.out.mono (Nat.le_trans HB1.out.size HB2.out.size))
  clear hqS hKS hsS HB1 HB2 HBS3
  by_cases he : E = 0
  · have HMORE : Hid (getE op (zs ++ [m]) = 23) := get_more (by rw [← HE.out]; exact he) m
    have HCUT : Hid (∀ k, k < zs.length → getE op (zs.take k) = 10) := fun k hk => get_cut (by rw [← HE.out]; exact he) hk
    have HON : Hid (OwnB w3 w3.heap.size (.slice none 0 0) 0 []) := World.ownsRow_nil _ _ _ _
    have HI3 : Hid (IsB w3 a len cap zs) := H.out.old HW3.out
    have HBD : Hid (0 + len ≤ 140737488355328) := by show _ ≤ _; omega
    have hs3 : w3.heap.size ≤ w3.heap.size := Nat.le_refl _
    rw [he]
    clear he
    go_wp2_with (at_builtin; refine wpList_append_own rfl (.tmp 31) (.tmp 32) rfl rfl HON.out rfl HI3.out HBD.out hs3 ?_)
    intro v4 w4 ho4 hK4 hv4
    clear hs3
    obtain ⟨xa, xl, xc, rfl⟩ := ho4.shape
    have HB4 : Hid (Below w3.heap.size w3 w4) := hK4.below (Nat.le_refl _) (fun k hk e => by simp [Value.ownBlock] at e)
    have HO4 : Hid (OwnB (w4.alloc (.cells #[.int .u8 m] 5)) w3.heap.size (.slice xa xl xc) len zs) := ho4.old (below_one _ _)
    have HI4 : Hid (IsB (w4.alloc (.cells #[.int .u8 m] 5)) (some ⟨w4.heap.size, 0, none⟩) 1 1 [m]) := (byte_row w4 m HM.out).isB
    have HBD4 : Hid (len + 1 ≤ 140737488355328) := by show _ ≤ _; omega
    have hs4 : w3.heap.size ≤ (w4.alloc (.cells #[.int .u8 m] 5)).heap.size := by have := HB4.out.size; simp; omega
    have HS4 : Hid (w3.heap.size ≤ (w4.alloc (.cells #[.int .u8 m] 5)).heap.size) := hs4
    clear ho4 hK4 hv4 hs4
    go_wp2_with (at_builtin; refine wpList_append_own rfl (.tmp 36) (.tmp 38) rfl rfl HO4.out rfl HI4.out HBD4.out HS4.out ?_)
    intro v5 w5 ho5 hK5 hv5
    obtain ⟨ya, yc, hv, hp5⟩ := OwnB.put ho5 (range_append H.out.range HI4.out.range)
    subst hv
    obtain ⟨L5, hL5⟩ : ∃ L5, L5 = (zs ++ [m]).length := ⟨_, rfl⟩
    rw [← hL5]
    have HI5 : Hid (IsB w5 ya L5 yc (zs ++ [m])) := by
      have := hp5.2
      rw [hL5]; exact this
    have HL5 : Hid (L5 ≤ 140737488351232) := by show _ ≤ _; rw [hL5, List.length_append, HZ.out]; simp; omega
    have HB5 : Hid (Below w3.heap.size w3 w5) := (HB4.out.alloc HB4.out.size _).trans (hK5.below HS4.out (fun k hk e => (OwnB.block HO4.out k e)))
    clear ho5 hK5 hv5 hp5 hL5
    obtain ⟨E2, hE2⟩ : ∃ E2, E2 = getE op (zs ++ [m]) := ⟨_, rfl⟩
    have HE2 : Hid (E2 = getE op (zs ++ [m])) := hE2
    have hE23 : E2 = 23 := by rw [hE2]; exact HMORE.out
    clear hE2
    go_wp2_with fail
    refine (get_any HI5.out HL5.out HOP.out HE2.out).mono ?_
    rintro e w6 ⟨opr6, oa6, ol6, oc6, os6, tx6, ia6, il6, ic6, id6, co6, a6, l6, c6, vs6, na6, nl6, nc6, ns6, b26, b46, pn6, b86, sk16, sb6, sa6, sl6, sc6, b166, sr6, b326, tm6, ea6, el6, ec6, es6, tk6, tb6, ta6, tl6, tc6, kd6, aa6, al6, ac6, ss6, rfl, _, _, _, HB6⟩
    go_wp2_with (refine wpList_store_hid (old := #[.int .u8 0, .slice none 0 0, .string ⟨#[]⟩, .slice none 0 0, .int .u16 0, .slice none 0 0, .slice none 0 0, .bool false, .bool false, .int .i32 0, .bool false, .int .i64 0, .slice none 0 0, .bool false, .int .u16 0, .bool false, .int .i64 0, .slice none 0 0, .int .i64 0, .slice none 0 0, .int .u8 0, .slice none 0 0]) (T := 33) rfl 33 (.tmp 13) (.tmp 41) rfl rfl rfl Try.isz33 (by simp [Value.oneCell']) (heap_alloc_new _ _) rfl ?_)
    intro w7 hqS hKS hsS
    have HBS7 : Hid (Below w6.heap.size w6 w7) := ((kept_of (below_one w6 _)).trans hKS (fun _ _ e => e)).below (S := fun k => k = w6.heap.size) (Nat.le_refl _) (fun k hk e => by omega)
    have HW7 : Hid (Below w.heap.size w w7) := ((HW3.out.trans (HB5.out.mono HW3.out.size)).trans (HB6.out.mono (Nat.le_trans HW3.out.size HB5.out.size))).trans (HBS7.out.mono (Nat.le_trans HW3.out.size (Nat.le_trans HB5.out.size HB6.out.size)))
    clear hqS hKS hsS HB6 HBS7
    subst hE23
    by_cases hz : len = 0
    · subst hz
      go_wp2_with fail
      go_ret
      exact ⟨by simp, HW7.out⟩
    · have hpos : 0 < len := by omega
      have rx := Nat.mod_lt κ hpos
      have mx : (κ : Int).tmod len = ((κ % len : Nat) : Int) := by rw [Int.natCast_emod]; exact Int.tmod_eq_emod_of_nonneg (by omega)
      have t4 : ((len : Int) == 0) = false := by rw [beq_eq_false_iff_ne]; omega
      have HI7 : Hid (IsB w7 a (κ % len) cap (zs.take (κ % len))) := (H.out.old HW7.out).cut _ (Nat.le_of_lt rx)
      obtain ⟨E3, hE3⟩ : ∃ E3, E3 = getE op (zs.take (κ % len)) := ⟨_, rfl⟩
      have hE10 : E3 = 10 := by rw [hE3]; exact HCUT.out _ (by rw [HZ.out]; exact rx)
      obtain ⟨r1, hr1⟩ : ∃ r, r = κ % len := ⟨_, rfl⟩
      rw [← hr1] at rx mx HI7 hE3
      have HE3 : Hid (E3 = getE op (zs.take r1)) := hE3
      clear hE3 hr1
      go_wp2_with fail
      refine (get_any HI7.out (by omega) HOP.out HE3.out).mono ?_
      rintro e w8 ⟨opr8, oa8, ol8, oc8, os8, tx8, ia8, il8, ic8, id8, co8, a8, l8, c8, vs8, na8, nl8, nc8, ns8, b28, b48, pn8, b88, sk18, sb8, sa8, sl8, sc8, b168, sr8, b328, tm8, ea8, el8, ec8, es8, tk8, tb8, ta8, tl8, tc8, kd8, aa8, al8, ac8, ss8, rfl, _, _, _, HB8⟩
      go_wp2_with (refine wpList_store_hid (old := #[.int .u8 0, .slice none 0 0, .string ⟨#[]⟩, .slice none 0 0, .int .u16 0, .slice none 0 0, .slice none 0 0, .bool false, .bool false, .int .i32 0, .bool false, .int .i64 0, .slice none 0 0, .bool false, .int .u16 0, .bool false, .int .i64 0, .slice none 0 0, .int .i64 0, .slice none 0 0, .int .u8 0, .slice none 0 0]) (T := 33) rfl 33 (.tmp 15) (.tmp 58) rfl rfl rfl Try.isz33 (by simp [Value.oneCell']) (heap_alloc_new _ _) rfl ?_)
      intro w9 hqS hKS hsS
      have HBS9 : Hid (Below w8.heap.size w8 w9) := ((kept_of (below_one w8 _)).trans hKS (fun _ _ e => e)).below (S := fun k => k = w8.heap.size) (Nat.le_refl _) (fun k hk e => by omega)
      have HW9 : Hid (Below w.heap.size w w9) := (HW7.out.trans (HB8.out.mono HW7.out.size)).trans (HBS9.out.mono (Nat.le_trans HW7.out.size HB8.out.size))
      clear hqS hKS hsS
      subst hE10
      go_wp2_with fail
      go_ret
      exact ⟨by simp, HW9.out⟩
  · have t : (E == 0) = false := by simpa using he
    clear he
    go_wp2_with fail
    go_ret
    exact ⟨rfl, HW3.out⟩

theorem cutr_any (op : Int) (a : Option Addr) (len cap : Nat) (zs : List Int) (n m : Int) (w : World) (hop : (Lit.int .u8 op).wf = true) (h : IsRow .u8 w a len cap zs) (hm : (Lit.int .u8 m).wf = true) :
    Calls Try.prog 6 #[.int .u8 op, .slice a len cap, .int .i64 n, .int .u8 m] w fun e w' => e = .returned (.bool true) ∧ Below w.heap.size w w' := by
  by_cases hl : len ≤ 2000
  · have hf : 0 ≤ op ∧ op ≤ 255 := range_of_wf (zs := [op]) (fun n hn => by simp at hn; subst hn; exact hop) 0
    have hg : 0 ≤ m ∧ m ≤ 255 := range_of_wf (zs := [m]) (fun n hn => by simp at hn; subst hn; exact hm) 0
    exact cutr_walk op hf a len cap _ n m hg w h.isB hl
  · exact cutr_long op a len cap n m w (by omega)
end Go.Proofs.Ytcecdklgiocbaaa
