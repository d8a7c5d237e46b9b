/-
  The contract of maps.Entries.
-/
import Derived.Test.YtkcnmmlakimonaaPutM
namespace Go.Proofs.Ytkcnmmlakimonaa
open Go.RowKit
set_option maxRecDepth 100000
set_option linter.unusedVariables false
set_option linter.unusedSimpArgs false

theorem valueB_len (x : Int × ByteArray) : (valueB x).1.length ≤ 4 + x.2.size := by
  unfold valueB
  split
  · simp
  · split
    · simp
    · split
      · rw [List.length_append, putL_length, sNums_length]; omega
      · simp

theorem four_range (a b c d : Int) (h : (0 ≤ a ∧ a ≤ 255) ∧ (0 ≤ b ∧ b ≤ 255) ∧ (0 ≤ c ∧ c ≤ 255) ∧ (0 ≤ d ∧ d ≤ 255)) : ∀ j : Nat, 0 ≤ [a, b, c, d][j]?.getD 0 ∧ [a, b, c, d][j]?.getD 0 ≤ 255 := by
  intro j
  match j with
  | 0 => exact h.1
  | 1 => exact h.2.1
  | 2 => exact h.2.2.1
  | 3 => exact h.2.2.2
  | j + 4 => simp

theorem value_any (x : Int × ByteArray) {a : Option Addr} {l c : Nat} (w : World) (h : IsB w a l c (sNums x.2)) (hsm : x.2.size ≤ 140737488351232) {B : List Int × Int} (hB : B = valueB x) :
    Calls Try.prog 60 #[.agg #[.int .i64 x.1, .slice a l c]] w fun e w' => ∃ a cp, e = .returned (.tuple #[.slice a B.1.length cp, .int .i64 B.2]) ∧ Hid (Put w' w.heap.size a cp B.1) ∧ Below w.heap.size w w' := by
  obtain ⟨k, bs⟩ := x
  have hl : l = bs.size := by rw [← h.1, sNums_length]
  subst hB
  by_cases h0 : k = 0
  · subst h0
    refine (value_null a l c w).mono ?_
    rintro e w' ⟨v, rfl, ho, hB⟩
    obtain ⟨a', cp, rfl, hp⟩ := ho.put (four_range _ _ _ _ (by omega))
    exact ⟨a', cp, rfl, hp, hB⟩
  by_cases h1 : k = 1
  · subst h1
    refine (value_unset a l c w).mono ?_
    rintro e w' ⟨v, rfl, ho, hB⟩
    obtain ⟨a', cp, rfl, hp⟩ := ho.put (four_range _ _ _ _ (by omega))
    exact ⟨a', cp, rfl, hp, hB⟩
  by_cases h2 : k = 2
  · subst h2
    subst hl
    refine (value_set a _ c _ w h hsm).mono ?_
    rintro e w' ⟨v, rfl, ho, hB⟩
    obtain ⟨a', cp, rfl, hp⟩ := ho.put (range_append (putL_range _ _) (sNums_range bs))
    exact ⟨a', cp, rfl, hp, hB⟩
  · refine (value_none k a l c w h0 h1 h2).mono ?_
    rintro e w' ⟨rfl, hB⟩
    simp only [valueB, if_neg h0, if_neg h1, if_neg h2]
    exact ⟨none, 0, rfl, put_nil _ _, hB⟩

/-- The cells of a map of values. -/
theorem View.entry {w : World} {a : Option Addr} {len cap : Nat} {ss : List (ByteArray × Int × ByteArray)} (h : View 3 VE w a len cap ss) {k : Nat} (hk : k < len) :
    ∃ b off a1 l1 c1, a = some ⟨b, off, none⟩ ∧ w.cell? ⟨b, off + k * 3, none⟩ = some (.string (ss.getD k default).1) ∧ w.cell? ⟨b, off + k * 3 + 1, none⟩ = some (.int .i64 (ss.getD k default).2.1) ∧
      w.cell? ⟨b, off + k * 3 + 2, none⟩ = some (.slice a1 l1 c1) ∧ IsB w a1 l1 c1 (sNums (ss.getD k default).2.2) := by
  obtain ⟨h1, h2, h3, h4, h5⟩ := h
  obtain ⟨b, off, ha, hb, hc⟩ := h5 (by omega)
  obtain ⟨c, hcell, hv0, hv1, a1, l1, c1, hv2, hv⟩ := hc k hk
  have h0 := hcell 0 (by omega)
  have h1 := hcell 1 (by omega)
  have h2 := hcell 2 (by omega)
  rw [hv0] at h0
  rw [hv1] at h1
  rw [hv2] at h2
  exact ⟨b, off, a1, l1, c1, ha, by simpa using h0, by rw [Nat.add_assoc]; exact h1, by rw [Nat.add_assoc]; exact h2, hv⟩

set_option maxHeartbeats 1000000 in
theorem putKeyedE (x : ByteArray × Int × ByteArray) {a : Option Addr} {l c : Nat} (w : World) (hv : IsB w a l c (sNums x.2.2)) (hm : x.1.size ≤ maxLen ∧ x.2.2.size ≤ 140737488289787) {Y : List Int × Int} (hY : Y = keyB valueB x) :
    Calls Try.prog 59 #[.string x.1, .agg #[.int .i64 x.2.1, .slice a l c], .func (.func 60) #[] #[]] w fun e w' => ∃ a cp, e = .returned (.tuple #[.slice a Y.1.length cp, .int .i64 Y.2]) ∧ Hid (Put w' w.heap.size a cp Y.1) ∧ Below w.heap.size w w' := by
  obtain ⟨B, hB⟩ : ∃ B, B = textB x.1 := ⟨_, rfl⟩
  obtain ⟨B2, hB2⟩ : ∃ B2, B2 = valueB x.2 := ⟨_, rfl⟩
  have HB : Hid _ := hB
  have HB2 : Hid _ := hB2
  have HY : Hid _ := hY
  have HM : Hid _ := hm
  have HV : Hid (IsB _ _ _ _ _) := hv
  have HBD : Hid (B.1.length + B2.1.length ≤ 140737488355328) := by
    show _ ≤ _
    have h1 := textB_len x.1
    have h2 := valueB_len x.2
    have h3 := hm.2
    rw [hB, hB2]; omega
  clear hB hB2 hY hm hv
  go_enter Try.func59, Try.ntmps59
  go_wp2_with fail
  refine (text_any x.1 _ HM.out.1 HB.out).mono ?_
  rintro e w1 ⟨a1, cp1, rfl, HP1x, hB1x⟩
  obtain ⟨hc, hf⟩ := bcell hB1x
  have hB1 : Below w.heap.size w w1 := (below_one w _).trans (hB1x.mono (by simp))
  have HP1 : Hid (Put w1 w.heap.size a1 cp1 B.1) := HP1x.out.mono (by simp)
  clear HP1x hB1x
  by_cases he : B.2 = 0
  · rw [he]
    go_wp2_with fail
    refine (value_any x.2 _ (HV.out.old hB1) (by have := HM.out.2; omega) HB2.out).mono ?_
    rintro e w2 ⟨a2, cp2, rfl, HP2, hB2⟩
    by_cases he2 : B2.2 = 0
    · have HE := keyB_both HY.out HB.out he HB2.out he2
      have HO2 : Hid (OwnB w2 w.heap.size (.slice a1 B.1.length cp1) B.1.length B.1) := (HP1.out.old hB2).1
      have hbs := hB1.size
      have hbs2 := hB2.size
      have HHE : Hid _ := HE
      have HR : Hid (∀ j : Nat, 0 ≤ (B.1 ++ B2.1)[j]?.getD 0 ∧ (B.1 ++ B2.1)[j]?.getD 0 ≤ 255) := range_append HP1.out.2.range HP2.out.2.range
      clear HE
      rw [he2]
      go_wp2_with (at_builtin; refine wpList_append_bytes rfl (.tmp 28) (.tmp 29) rfl rfl HO2.out rfl HP2.out.2 HBD.out (by omega) ?_)
      intro v3 w3 ho3 hB3
      obtain ⟨a3, cp3, rfl, hp3⟩ := OwnB.put ho3 HR.out
      have HP3 : Hid (Put w3 w.heap.size a3 cp3 (B.1 ++ B2.1)) := hp3
      clear hp3 ho3
      go_wp2_with fail
      go_ret2
      exact ⟨a3, cp3, by rw [HHE.out]; rfl, by rw [HHE.out]; exact HP3, (hB1.trans (hB2.mono hbs)).trans hB3⟩
    · have t : (B2.2 == 0) = false := by simpa using he2
      have HE := keyB_part HY.out HB.out he HB2.out he2
      have HHE : Hid _ := HE
      clear he2 HE
      go_wp2_with fail
      go_ret2
      exact ⟨none, 0, by rw [HHE.out]; rfl, by rw [HHE.out]; exact put_nil _ _, hB1.trans (hB2.mono hB1.size)⟩
  · have t : (B.2 == 0) = false := by simpa using he
    have HE := keyB_key HY.out HB.out he
    have HHE : Hid _ := HE
    clear he HE
    go_wp2_with fail
    go_ret2
    exact ⟨none, 0, by rw [HHE.out]; rfl, by rw [HHE.out]; exact put_nil _ _, hB1⟩

set_option maxHeartbeats 1000000 in
theorem putItemE (x : ByteArray × Int × ByteArray) {a : Option Addr} {l c : Nat} (w : World) (hv : IsB w a l c (sNums x.2.2)) (hm : x.1.size ≤ maxLen ∧ x.2.2.size ≤ 140737488289787) {Y : List Int × Int} (hY : Y = keyB valueB x) :
    Calls Try.prog 58 #[.agg #[.string x.1, .int .i64 x.2.1, .slice a l c]] w fun e w' => ∃ a cp, e = .returned (.tuple #[.slice a Y.1.length cp, .int .i64 Y.2]) ∧ Hid (Put w' w.heap.size a cp Y.1) ∧ Below w.heap.size w w' := by
  have HY : Hid _ := hY
  have HM : Hid _ := hm
  have HV : Hid (IsB _ _ _ _ _) := hv
  clear hY hm hv
  go_enter Try.func58, Try.ntmps58
  go_wp2_with fail
  refine (putKeyedE x _ (HV.out.old (below_one _ _)) HM.out HY.out).mono ?_
  rintro e w1 ⟨a1, cp1, rfl, HP, hB⟩
  go_wp2_with fail
  go_ret2
  exact ⟨a1, cp1, rfl, HP.out.mono (by simp), (below_one _ _).trans (hB.mono (by simp))⟩

set_option maxHeartbeats 1000000 in
theorem putE_yes {w : World} {a : Option Addr} {len cap : Nat} {xs : List (ByteArray × Int × ByteArray)} (h : View 3 VE w a len cap xs) (hl : len ≤ 65535) (hx : ∀ x ∈ xs, x.1.size ≤ maxLen ∧ x.2.2.size ≤ 140737488289787) (M : Nat) (hM : ∀ x ∈ xs, (keyB valueB x).1.length ≤ M) (hbd : 2 + len * M ≤ 140737488355328) {Y : List Int × Int} (hY : Y = listB (keyB valueB) xs) :
    Calls Try.prog 57 #[.slice a len cap, .func (.func 58) #[] #[]] w fun e w' => ∃ a cp, e = .returned (.tuple #[.slice a Y.1.length cp, .int .i64 Y.2]) ∧ Hid (Put w' w.heap.size a cp Y.1) ∧ Below w.heap.size w w' := by
  have hlx : xs.length = len := h.1
  have HY : Hid (Y = goB (keyB valueB) xs (putL len 2)) := by
    show _ = _
    rw [hY, listB, if_pos (by omega), hlx]
  have H : Hid (View 3 VE w a len cap xs) := h
  have HX : Hid _ := hx
  have HMM : Hid _ := hM
  have HLX : Hid (xs.length = len) := hlx
  have hd : decide ((65535 : Int) < len) = false := by simp; omega
  clear h hx hlx hY hM
  go_enter Try.func57, Try.ntmps57
  go_wp2_with fail
  refine (put_own len 2 _ (by omega) (by omega) (by omega) _ rfl).mono ?_
  rintro e w1 ⟨v, rfl, ho, hB1⟩
  have HO1 : Hid (OwnB w1 w.heap.size v (putL len 2).length (putL len 2)) := by
    show OwnB _ _ _ _ _
    rw [putL_length]; exact ho
  have HR1 : Hid _ := putL_range (len : Int) 2
  clear ho
  go_wp2_with fail
  go_loopw [6, 20] (fun v i wr => ∃ (k : Nat) (acc : List Int), k ≤ len ∧ i = .int .i64 k ∧ Hid (OwnB wr w.heap.size v acc.length acc) ∧ Hid (goB (keyB valueB) (xs.drop k) acc = Y) ∧ acc.length ≤ 2 + k * M ∧
      Hid (∀ j : Nat, 0 ≤ acc[j]?.getD 0 ∧ acc[j]?.getD 0 ≤ 255) ∧ Below w.heap.size w wr) (fun _ i _ => len - (intOf i).toNat)
  case atStart => exact ⟨0, _, by omega, rfl, HO1, HY.out.symm, by rw [putL_length]; omega, HR1, hB1⟩
  case round =>
    obtain ⟨k, acc, hk, rfl, HO, HG, hacc, HR, hB⟩ := hrel
    by_cases hlt : k < len
    · obtain ⟨b, off, a9, l9, c9, rfl, hc0, hc1, hc2, hv9⟩ := (H.out.old stays_e hB).entry hlt
      obtain ⟨s, hs⟩ : ∃ s, s = xs.getD k default := ⟨_, rfl⟩
      rw [← hs] at hc0 hc1 hv9
      obtain ⟨B, hBt⟩ : ∃ B, B = keyB valueB s := ⟨_, rfl⟩
      have HS : Hid _ := hs
      have HBt : Hid _ := hBt
      have HSM : Hid (s.1.size ≤ maxLen ∧ s.2.2.size ≤ 140737488289787) := by
        show _ ∧ _
        rw [hs, List.getD_eq_getElem?_getD, List.getElem?_eq_getElem (by rw [HLX.out]; exact hlt)]
        exact HX.out _ (List.getElem_mem _)
      have HSL : Hid ((keyB valueB s).1.length ≤ M) := by
        show _ ≤ _
        rw [hs, List.getD_eq_getElem?_getD, List.getElem?_eq_getElem (by rw [HLX.out]; exact hlt)]
        exact HMM.out _ (List.getElem_mem _)
      have HV9 : Hid (IsB _ _ _ _ _) := hv9
      clear hs hBt hv9
      go_wp2_with fail
      refine (putItemE s _ (HV9.out.old (below_one _ _)) HSM.out HBt.out).mono ?_
      rintro e w2 ⟨a2, cp2, rfl, HP2, hB2x⟩
      have hB2 : Below wr.heap.size wr w2 := (below_one wr _).trans (hB2x.mono (by simp))
      clear hB2x
      have hbl : B.1.length ≤ M := by rw [HBt.out]; exact HSL.out
      by_cases he : B.2 = 0
      · have HG2 : Hid (goB (keyB valueB) (xs.drop (k + 1)) (acc ++ B.1) = Y) := by
          rw [HBt.out, HS.out]
          exact goB_step HG.out (by rw [HLX.out]; exact hlt) (by rw [← HS.out, ← HBt.out]; exact he)
        have HO2 : Hid (OwnB w2 w.heap.size u6 acc.length acc) := HO.out.old hB2
        have hbs := hB.size
        have hbs2 := hB2.size
        have HBD : Hid (acc.length + B.1.length ≤ 140737488355328) := by
          show _ ≤ _
          have : (k + 1) * M ≤ len * M := Nat.mul_le_mul_right _ (by omega)
          rw [Nat.succ_mul] at this
          omega
        rw [he]
        go_wp2_with (at_builtin; refine wpList_append_bytes rfl (.tmp 33) (.tmp 34) rfl rfl HO2.out rfl HP2.out.2 HBD.out (by omega) ?_)
        intro v3 w3 ho3 hB3
        have HO3 : Hid (OwnB w3 w.heap.size v3 (acc ++ B.1).length (acc ++ B.1)) := by
          show OwnB _ _ _ _ _
          rw [List.length_append]; exact ho3
        have HR3 : Hid (∀ j : Nat, 0 ≤ (acc ++ B.1)[j]?.getD 0 ∧ (acc ++ B.1)[j]?.getD 0 ≤ 255) := range_append HR.out HP2.out.2.range
        have hB03 : Below w.heap.size w w3 := (hB.trans (hB2.mono hbs)).trans hB3
        clear ho3
        go_wp2_with fail
        go_roundw
        case rel => exact ⟨k + 1, acc ++ B.1, by omega, by go_num, HO3, HG2, by rw [List.length_append, Nat.succ_mul]; omega, HR3, hB03⟩
        case measure => simp [intOf]; omega
      · have t : (B.2 == 0) = false := by simpa using he
        have HE := goB_stop HG.out (by rw [HLX.out]; exact hlt) (by rw [← HS.out, ← HBt.out]; exact he)
        rw [← HS.out, ← HBt.out] at HE
        clear he
        go_wp2_with fail
        go_ret2
        exact ⟨none, 0, by rw [HE]; rfl, by rw [HE]; exact put_nil _ _, hB.trans (hB2.mono hB.size)⟩
    · have HE := goB_end HG.out (by rw [HLX.out]; omega)
      obtain ⟨a2, cp2, hv, hp⟩ := OwnB.put HO.out HR.out
      subst hv
      go_wp2_with fail
      go_ret2
      exact ⟨a2, cp2, by rw [HE]; rfl, by rw [HE]; exact hp, hB⟩

set_option maxHeartbeats 400000 in
theorem putE_long (a : Option Addr) (len cap : Nat) (w : World) (hl : 65535 < len) (hm : len ≤ maxLen) :
    Calls Try.prog 57 #[.slice a len cap, .func (.func 58) #[] #[]] w fun e w' => e = .returned (.tuple #[.slice none 0 0, .int .i64 12]) ∧ w' = w := by
  unfold maxLen at hm
  go_enter Try.func57, Try.ntmps57
  go_wp2_with fail
  go_ret2
  exact ⟨rfl, rfl⟩

theorem putE_any {w : World} {a : Option Addr} {len cap : Nat} {xs : List (ByteArray × Int × ByteArray)} (h : View 3 VE w a len cap xs) (hx : ∀ x ∈ xs, x.1.size ≤ maxLen ∧ x.2.2.size ≤ 140737488289787) (M : Nat) (hM : ∀ x ∈ xs, (keyB valueB x).1.length ≤ M) (hbd : 2 + len * M ≤ 140737488355328) {Y : List Int × Int} (hY : Y = listB (keyB valueB) xs) :
    Calls Try.prog 57 #[.slice a len cap, .func (.func 58) #[] #[]] w fun e w' => ∃ a cp, e = .returned (.tuple #[.slice a Y.1.length cp, .int .i64 Y.2]) ∧ Hid (Put w' w.heap.size a cp Y.1) ∧ Below w.heap.size w w' := by
  by_cases hl : len ≤ 65535
  · exact putE_yes h hl hx M hM hbd hY
  · refine (putE_long a len cap w (by omega) (Nat.le_trans h.2.1 h.2.2.1)).mono ?_
    rintro e w' ⟨rfl, rfl⟩
    rw [listB, if_neg (by rw [h.1]; exact hl)] at hY
    subst hY
    exact ⟨none, 0, rfl, put_nil _ _, Below.refl _ _⟩

set_option maxHeartbeats 400000 in
theorem entries_any {w : World} {a : Option Addr} {len cap : Nat} {xs : List (ByteArray × Int × ByteArray)} (h : View 3 VE w a len cap xs) (hx : ∀ x ∈ xs, x.1.size ≤ maxLen ∧ x.2.2.size ≤ 140737488289787) (M : Nat) (hM : ∀ x ∈ xs, (keyB valueB x).1.length ≤ M) (hbd : 2 + len * M ≤ 140737488355328) {Y : List Int × Int} (hY : Y = listB (keyB valueB) xs) :
    Calls Try.prog 42 #[.slice a len cap] w fun e w' => ∃ a cp, e = .returned (.tuple #[.slice a Y.1.length cp, .int .i64 Y.2]) ∧ Hid (Put w' w.heap.size a cp Y.1) ∧ Below w.heap.size w w' := by
  have H : Hid (View _ _ _ _ _ _ _) := h
  have HX : Hid _ := hx
  have HMM : Hid _ := hM
  have HY : Hid _ := hY
  clear h hx hY hM
  go_enter Try.func42, Try.ntmps42
  go_wp2_with fail
  refine (putE_any H.out HX.out M HMM.out hbd HY.out).mono ?_
  rintro e w1 ⟨a1, cp1, rfl, HP, hB⟩
  go_wp2_with fail
  go_ret2
  exact ⟨a1, cp1, rfl, HP, hB⟩
end Go.Proofs.Ytkcnmmlakimonaa
