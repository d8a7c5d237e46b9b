/-
  The contract of maps.Multis.
-/
import Derived.Test.YtohgaeamfobcaaaPutP
namespace Go.Proofs.Ytohgaeamfobcaaa
open Go.RowKit
set_option linter.unusedVariables false
set_option linter.unusedSimpArgs false

theorem goB_len {α : Type} (f : α → List Int × Int) (M : Nat) (xs : List α) (hM : ∀ x ∈ xs, (f x).1.length ≤ M) : ∀ acc, (goB f xs acc).1.length ≤ acc.length + xs.length * M := by
  induction xs with
  | nil => intro acc; simp [goB]
  | cons x r ih =>
    intro acc
    rw [goB]
    split
    · have h1 := ih (fun y hy => hM y (List.mem_cons_of_mem _ hy)) (acc ++ (f x).1)
      have h2 := hM x List.mem_cons_self
      rw [List.length_append] at h1
      rw [List.length_cons, Nat.succ_mul]
      omega
    · simp

theorem listB_len {α : Type} (f : α → List Int × Int) (M : Nat) (xs : List α) (hM : ∀ x ∈ xs, (f x).1.length ≤ M) : (listB f xs).1.length ≤ 2 + xs.length * M := by
  by_cases h : xs.length ≤ 65535
  · rw [listB, if_pos h]
    have h2 := goB_len f M xs hM (putL xs.length 2)
    rw [putL_length] at h2
    exact h2
  · rw [listB, if_neg h]; simp

theorem listB_textB_len (ss : List ByteArray) : (listB textB ss).1.length ≤ 2 + 65535 * 65537 := by
  by_cases h : ss.length ≤ 65535
  · have h1 := listB_len textB 65537 ss (fun x _ => textB_len x)
    exact Nat.le_trans h1 (Nat.add_le_add_left (Nat.mul_le_mul_right _ h) _)
  · rw [listB, if_neg h]; exact Nat.zero_le _

/-- The cells of a map of lists. -/
theorem View.multi {w : World} {a : Option Addr} {len cap : Nat} {ss : List (ByteArray × List ByteArray)} (h : View 2 VM w a len cap ss) {k : Nat} (hk : k < len) :
    ∃ b off a1 l1 c1, a = some ⟨b, off, none⟩ ∧ w.cell? ⟨b, off + k * 2, none⟩ = some (.string (ss.getD k default).1) ∧ w.cell? ⟨b, off + k * 2 + 1, none⟩ = some (.slice a1 l1 c1) ∧ View 1 VS w a1 l1 c1 (ss.getD k default).2 := by
  obtain ⟨h1, h2, h3, h4, h5⟩ := h
  obtain ⟨b, off, ha, hb, hc⟩ := h5 (by omega)
  obtain ⟨c, hcell, hv0, a1, l1, c1, hv1, hv⟩ := hc k hk
  have h0 := hcell 0 (by omega)
  have h1 := hcell 1 (by omega)
  rw [hv0] at h0
  rw [hv1] at h1
  exact ⟨b, off, a1, l1, c1, ha, by simpa using h0, by rw [Nat.add_assoc]; exact h1, hv⟩

set_option maxHeartbeats 1000000 in
theorem putKeyedM (x : ByteArray × List ByteArray) {a : Option Addr} {l c : Nat} (w : World) (hv : View 1 VS w a l c x.2) (hm : x.1.size ≤ maxLen ∧ ∀ s ∈ x.2, s.size ≤ maxLen) {Y : List Int × Int} (hY : Y = keyB (listB textB) x) :
    Calls Try.prog 46 #[.string x.1, .slice a l c, .func (.func 11) #[] #[]] w fun e w' => ∃ a cp, e = .returned (.tuple #[.slice a Y.1.length cp, .int .i64 Y.2]) ∧ Hid (Put w' w.heap.size a cp Y.1) ∧ Below w.heap.size w w' := by
  obtain ⟨B, hB⟩ : ∃ B, B = textB x.1 := ⟨_, rfl⟩
  obtain ⟨B2, hB2⟩ : ∃ B2, B2 = listB textB x.2 := ⟨_, rfl⟩
  have HB : Hid _ := hB
  have HB2 : Hid _ := hB2
  have HY : Hid _ := hY
  have HM : Hid _ := hm
  have HV : Hid (View _ _ _ _ _ _ _) := hv
  have HBD : Hid (B.1.length + B2.1.length ≤ 140737488355328) := by
    show _ ≤ _
    have h1 := textB_len x.1
    have h2 := listB_textB_len x.2
    rw [hB, hB2]; omega
  clear hB hB2 hY hm hv
  go_enter Try.func46, Try.ntmps46
  go_wp2_with fail
  refine (text_any x.1 _ HM.out.1 HB.out).mono ?_
  rintro e w1 ⟨a1, cp1, rfl, HP1, hB1⟩
  by_cases he : B.2 = 0
  · rw [he]
    go_wp2_with fail
    refine (texts_any (HV.out.old stays_s hB1) HM.out.2 HB2.out).mono ?_
    rintro e w2 ⟨a2, cp2, rfl, HP2, hB2⟩
    by_cases he2 : B2.2 = 0
    · have HE := keyB_both HY.out HB.out he HB2.out he2
      have HO2 : Hid (OwnB w2 w.heap.size (.slice a1 B.1.length cp1) B.1.length B.1) := (HP1.out.old hB2).1
      have hbs := hB1.size
      have hbs2 := hB2.size
      have HHE : Hid _ := HE
      have HR : Hid (∀ j : Nat, 0 ≤ (B.1 ++ B2.1)[j]?.getD 0 ∧ (B.1 ++ B2.1)[j]?.getD 0 ≤ 255) := range_append HP1.out.2.range HP2.out.2.range
      clear HE
      rw [he2]
      go_wp2_with (at_builtin; refine wpList_append_bytes rfl (.tmp 28) (.tmp 29) rfl rfl HO2.out rfl HP2.out.2 HBD.out (by omega) ?_)
      intro v3 w3 ho3 hB3
      obtain ⟨a3, cp3, rfl, hp3⟩ := OwnB.put ho3 HR.out
      have HP3 : Hid (Put w3 w.heap.size a3 cp3 (B.1 ++ B2.1)) := hp3
      clear hp3 ho3
      go_wp2_with fail
      go_ret2
      exact ⟨a3, cp3, by rw [HHE.out]; rfl, by rw [HHE.out]; exact HP3, (hB1.trans (hB2.mono hbs)).trans hB3⟩
    · have t : (B2.2 == 0) = false := by simpa using he2
      have HE := keyB_part HY.out HB.out he HB2.out he2
      have HHE : Hid _ := HE
      clear he2 HE
      go_wp2_with fail
      go_ret2
      exact ⟨none, 0, by rw [HHE.out]; rfl, by rw [HHE.out]; exact put_nil _ _, hB1.trans (hB2.mono hB1.size)⟩
  · have t : (B.2 == 0) = false := by simpa using he
    have HE := keyB_key HY.out HB.out he
    have HHE : Hid _ := HE
    clear he HE
    go_wp2_with fail
    go_ret2
    exact ⟨none, 0, by rw [HHE.out]; rfl, by rw [HHE.out]; exact put_nil _ _, hB1⟩

set_option maxHeartbeats 1000000 in
theorem putItemM (x : ByteArray × List ByteArray) {a : Option Addr} {l c : Nat} (w : World) (hv : View 1 VS w a l c x.2) (hm : x.1.size ≤ maxLen ∧ ∀ s ∈ x.2, s.size ≤ maxLen) {Y : List Int × Int} (hY : Y = keyB (listB textB) x) :
    Calls Try.prog 45 #[.agg #[.string x.1, .slice a l c]] w fun e w' => ∃ a cp, e = .returned (.tuple #[.slice a Y.1.length cp, .int .i64 Y.2]) ∧ Hid (Put w' w.heap.size a cp Y.1) ∧ Below w.heap.size w w' := by
  have HY : Hid _ := hY
  have HM : Hid _ := hm
  have HV : Hid (View _ _ _ _ _ _ _) := hv
  clear hY hm hv
  go_enter Try.func45, Try.ntmps45
  go_wp2_with fail
  refine (putKeyedM x _ (HV.out.old stays_s (below_one _ _)) HM.out HY.out).mono ?_
  rintro e w1 ⟨a1, cp1, rfl, HP, hB⟩
  go_wp2_with fail
  go_ret2
  exact ⟨a1, cp1, rfl, HP.out.mono (by simp), (below_one _ _).trans (hB.mono (by simp))⟩

set_option maxHeartbeats 1000000 in
theorem putM_yes {w : World} {a : Option Addr} {len cap : Nat} {xs : List (ByteArray × List ByteArray)} (h : View 2 VM w a len cap xs) (hl : len ≤ 65535) (hx : ∀ x ∈ xs, x.1.size ≤ maxLen ∧ ∀ s ∈ x.2, s.size ≤ maxLen) (M : Nat) (hM : ∀ x ∈ xs, (keyB (listB textB) x).1.length ≤ M) (hbd : 2 + len * M ≤ 140737488355328) {Y : List Int × Int} (hY : Y = listB (keyB (listB textB)) xs) :
    Calls Try.prog 44 #[.slice a len cap, .func (.func 45) #[] #[]] w fun e w' => ∃ a cp, e = .returned (.tuple #[.slice a Y.1.length cp, .int .i64 Y.2]) ∧ Hid (Put w' w.heap.size a cp Y.1) ∧ Below w.heap.size w w' := by
  have hlx : xs.length = len := h.1
  have HY : Hid (Y = goB (keyB (listB textB)) xs (putL len 2)) := by
    show _ = _
    rw [hY, listB, if_pos (by omega), hlx]
  have H : Hid (View 2 VM w a len cap xs) := h
  have HX : Hid _ := hx
  have HMM : Hid _ := hM
  have HLX : Hid (xs.length = len) := hlx
  have hd : decide ((65535 : Int) < len) = false := by simp; omega
  clear h hx hlx hY hM
  go_enter Try.func44, Try.ntmps44
  go_wp2_with fail
  refine (put_own len 2 _ (by omega) (by omega) (by omega) _ rfl).mono ?_
  rintro e w1 ⟨v, rfl, ho, hB1⟩
  have HO1 : Hid (OwnB w1 w.heap.size v (putL len 2).length (putL len 2)) := by
    show OwnB _ _ _ _ _
    rw [putL_length]; exact ho
  have HR1 : Hid _ := putL_range (len : Int) 2
  clear ho
  go_wp2_with fail
  go_loopw [6, 20] (fun v i wr => ∃ (k : Nat) (acc : List Int), k ≤ len ∧ i = .int .i64 k ∧ Hid (OwnB wr w.heap.size v acc.length acc) ∧ Hid (goB (keyB (listB textB)) (xs.drop k) acc = Y) ∧ acc.length ≤ 2 + k * M ∧
      Hid (∀ j : Nat, 0 ≤ acc[j]?.getD 0 ∧ acc[j]?.getD 0 ≤ 255) ∧ Below w.heap.size w wr) (fun _ i _ => len - (intOf i).toNat)
  case atStart => exact ⟨0, _, by omega, rfl, HO1, HY.out.symm, by rw [putL_length]; omega, HR1, hB1⟩
  case round =>
    obtain ⟨k, acc, hk, rfl, HO, HG, hacc, HR, hB⟩ := hrel
    by_cases hlt : k < len
    · obtain ⟨b, off, a9, l9, c9, rfl, hc0, hc1, hv9⟩ := (H.out.old stays_m hB).multi hlt
      obtain ⟨s, hs⟩ : ∃ s, s = xs.getD k default := ⟨_, rfl⟩
      rw [← hs] at hc0 hv9
      obtain ⟨B, hBt⟩ : ∃ B, B = keyB (listB textB) s := ⟨_, rfl⟩
      have HS : Hid _ := hs
      have HBt : Hid _ := hBt
      have HSM : Hid (s.1.size ≤ maxLen ∧ ∀ u ∈ s.2, u.size ≤ maxLen) := by
        show _ ∧ _
        rw [hs, List.getD_eq_getElem?_getD, List.getElem?_eq_getElem (by rw [HLX.out]; exact hlt)]
        exact HX.out _ (List.getElem_mem _)
      have HSL : Hid ((keyB (listB textB) s).1.length ≤ M) := by
        show _ ≤ _
        rw [hs, List.getD_eq_getElem?_getD, List.getElem?_eq_getElem (by rw [HLX.out]; exact hlt)]
        exact HMM.out _ (List.getElem_mem _)
      have HV9 : Hid (View _ _ _ _ _ _ _) := hv9
      clear hs hBt hv9
      go_wp2_with fail
      refine (putItemM s _ (HV9.out.old stays_s (below_one _ _)) HSM.out HBt.out).mono ?_
      rintro e w2 ⟨a2, cp2, rfl, HP2, hB2x⟩
      have hB2 : Below wr.heap.size wr w2 := (below_one wr _).trans (hB2x.mono (by simp))
      clear hB2x
      have hbl : B.1.length ≤ M := by rw [HBt.out]; exact HSL.out
      by_cases he : B.2 = 0
      · have HG2 : Hid (goB (keyB (listB textB)) (xs.drop (k + 1)) (acc ++ B.1) = Y) := by
          rw [HBt.out, HS.out]
          exact goB_step HG.out (by rw [HLX.out]; exact hlt) (by rw [← HS.out, ← HBt.out]; exact he)
        have HO2 : Hid (OwnB w2 w.heap.size u6 acc.length acc) := HO.out.old hB2
        have hbs := hB.size
        have hbs2 := hB2.size
        have HBD : Hid (acc.length + B.1.length ≤ 140737488355328) := by
          show _ ≤ _
          have : (k + 1) * M ≤ len * M := Nat.mul_le_mul_right _ (by omega)
          rw [Nat.succ_mul] at this
          omega
        rw [he]
        go_wp2_with (at_builtin; refine wpList_append_bytes rfl (.tmp 33) (.tmp 34) rfl rfl HO2.out rfl HP2.out.2 HBD.out (by omega) ?_)
        intro v3 w3 ho3 hB3
        have HO3 : Hid (OwnB w3 w.heap.size v3 (acc ++ B.1).length (acc ++ B.1)) := by
          show OwnB _ _ _ _ _
          rw [List.length_append]; exact ho3
        have HR3 : Hid (∀ j : Nat, 0 ≤ (acc ++ B.1)[j]?.getD 0 ∧ (acc ++ B.1)[j]?.getD 0 ≤ 255) := range_append HR.out HP2.out.2.range
        have hB03 : Below w.heap.size w w3 := (hB.trans (hB2.mono hbs)).trans hB3
        clear ho3
        go_wp2_with fail
        go_roundw
        case rel => exact ⟨k + 1, acc ++ B.1, by omega, by go_num, HO3, HG2, by rw [List.length_append, Nat.succ_mul]; omega, HR3, hB03⟩
        case measure => simp [intOf]; omega
      · have t : (B.2 == 0) = false := by simpa using he
        have HE := goB_stop HG.out (by rw [HLX.out]; exact hlt) (by rw [← HS.out, ← HBt.out]; exact he)
        rw [← HS.out, ← HBt.out] at HE
        clear he
        go_wp2_with fail
        go_ret2
        exact ⟨none, 0, by rw [HE]; rfl, by rw [HE]; exact put_nil _ _, hB.trans (hB2.mono hB.size)⟩
    · have HE := goB_end HG.out (by rw [HLX.out]; omega)
      obtain ⟨a2, cp2, hv, hp⟩ := OwnB.put HO.out HR.out
      subst hv
      go_wp2_with fail
      go_ret2
      exact ⟨a2, cp2, by rw [HE]; rfl, by rw [HE]; exact hp, hB⟩

set_option maxHeartbeats 400000 in
theorem putM_long (a : Option Addr) (len cap : Nat) (w : World) (hl : 65535 < len) (hm : len ≤ maxLen) :
    Calls Try.prog 44 #[.slice a len cap, .func (.func 45) #[] #[]] w fun e w' => e = .returned (.tuple #[.slice none 0 0, .int .i64 12]) ∧ w' = w := by
  unfold maxLen at hm
  go_enter Try.func44, Try.ntmps44
  go_wp2_with fail
  go_ret2
  exact ⟨rfl, rfl⟩

theorem putM_any {w : World} {a : Option Addr} {len cap : Nat} {xs : List (ByteArray × List ByteArray)} (h : View 2 VM w a len cap xs) (hx : ∀ x ∈ xs, x.1.size ≤ maxLen ∧ ∀ s ∈ x.2, s.size ≤ maxLen) (M : Nat) (hM : ∀ x ∈ xs, (keyB (listB textB) x).1.length ≤ M) (hbd : 2 + len * M ≤ 140737488355328) {Y : List Int × Int} (hY : Y = listB (keyB (listB textB)) xs) :
    Calls Try.prog 44 #[.slice a len cap, .func (.func 45) #[] #[]] w fun e w' => ∃ a cp, e = .returned (.tuple #[.slice a Y.1.length cp, .int .i64 Y.2]) ∧ Hid (Put w' w.heap.size a cp Y.1) ∧ Below w.heap.size w w' := by
  by_cases hl : len ≤ 65535
  · exact putM_yes h hl hx M hM hbd hY
  · refine (putM_long a len cap w (by omega) (Nat.le_trans h.2.1 h.2.2.1)).mono ?_
    rintro e w' ⟨rfl, rfl⟩
    rw [listB, if_neg (by rw [h.1]; exact hl)] at hY
    subst hY
    exact ⟨none, 0, rfl, put_nil _ _, Below.refl _ _⟩

set_option maxHeartbeats 400000 in
theorem multis_any {w : World} {a : Option Addr} {len cap : Nat} {xs : List (ByteArray × List ByteArray)} (h : View 2 VM w a len cap xs) (hx : ∀ x ∈ xs, x.1.size ≤ maxLen ∧ ∀ s ∈ x.2, s.size ≤ maxLen) (M : Nat) (hM : ∀ x ∈ xs, (keyB (listB textB) x).1.length ≤ M) (hbd : 2 + len * M ≤ 140737488355328) {Y : List Int × Int} (hY : Y = listB (keyB (listB textB)) xs) :
    Calls Try.prog 20 #[.slice a len cap] w fun e w' => ∃ a cp, e = .returned (.tuple #[.slice a Y.1.length cp, .int .i64 Y.2]) ∧ Hid (Put w' w.heap.size a cp Y.1) ∧ Below w.heap.size w w' := by
  have H : Hid (View _ _ _ _ _ _ _) := h
  have HX : Hid _ := hx
  have HMM : Hid _ := hM
  have HY : Hid _ := hY
  clear h hx hY hM
  go_enter Try.func20, Try.ntmps20
  go_wp2_with fail
  refine (putM_any H.out HX.out M HMM.out hbd HY.out).mono ?_
  rintro e w1 ⟨a1, cp1, rfl, HP, hB⟩
  go_wp2_with fail
  go_ret2
  exact ⟨a1, cp1, rfl, HP, hB⟩
end Go.Proofs.Ytohgaeamfobcaaa
