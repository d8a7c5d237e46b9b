/-
  The contract of maps.Pairs.
-/
import Derived.Test.YtcecdklgiocbaaaPutS
namespace Go.Proofs.Ytcecdklgiocbaaa
open Go.RowKit
set_option maxRecDepth 100000
set_option linter.unusedVariables false
set_option linter.unusedSimpArgs false

theorem keyB_key {α : Type} {g : α → List Int × Int} {x : ByteArray × α} {Y : List Int × Int} (hY : Y = keyB g x) {B : List Int × Int} (hB : B = textB x.1) (he : B.2 ≠ 0) : Y = ([], B.2) := by
  subst hB; rw [hY, keyB, if_neg he]
theorem keyB_part {α : Type} {g : α → List Int × Int} {x : ByteArray × α} {Y : List Int × Int} (hY : Y = keyB g x) {B : List Int × Int} (hB : B = textB x.1) (he : B.2 = 0) {B2 : List Int × Int} (hB2 : B2 = g x.2) (he2 : B2.2 ≠ 0) : Y = ([], B2.2) := by
  subst hB; subst hB2; rw [hY, keyB, if_pos he, if_neg he2]
theorem keyB_both {α : Type} {g : α → List Int × Int} {x : ByteArray × α} {Y : List Int × Int} (hY : Y = keyB g x) {B : List Int × Int} (hB : B = textB x.1) (he : B.2 = 0) {B2 : List Int × Int} (hB2 : B2 = g x.2) (he2 : B2.2 = 0) : Y = (B.1 ++ B2.1, 0) := by
  subst hB; subst hB2; rw [hY, keyB, if_pos he, if_pos he2]

theorem keyB_len {α : Type} (g : α → List Int × Int) (x : ByteArray × α) : (keyB g x).1.length ≤ 65537 + (g x.2).1.length := by
  have := textB_len x.1
  unfold keyB
  split
  · split
    · rw [List.length_append]; omega
    · simp
  · simp

theorem keyB_textB_len (x : ByteArray × ByteArray) : (keyB textB x).1.length ≤ 131074 := by
  have := keyB_len textB x
  have := textB_len x.2
  omega

/-- The cells of a map of texts. -/
theorem View.pair {w : World} {a : Option Addr} {len cap : Nat} {ss : List (ByteArray × ByteArray)} (h : View 2 VP w a len cap ss) {k : Nat} (hk : k < len) :
    ∃ b off, a = some ⟨b, off, none⟩ ∧ w.cell? ⟨b, off + k * 2, none⟩ = some (.string (ss.getD k default).1) ∧ w.cell? ⟨b, off + k * 2 + 1, none⟩ = some (.string (ss.getD k default).2) := by
  obtain ⟨h1, h2, h3, h4, h5⟩ := h
  obtain ⟨b, off, ha, hb, hc⟩ := h5 (by omega)
  obtain ⟨c, hcell, hv⟩ := hc k hk
  have h0 := hcell 0 (by omega)
  have h1 := hcell 1 (by omega)
  rw [hv.1] at h0
  rw [hv.2] at h1
  exact ⟨b, off, ha, by simpa using h0, by rw [Nat.add_assoc]; exact h1⟩

set_option maxHeartbeats 1000000 in
theorem putKeyedP (x : ByteArray × ByteArray) (w : World) (hm : x.1.size ≤ maxLen ∧ x.2.size ≤ maxLen) {Y : List Int × Int} (hY : Y = keyB textB x) :
    Calls Try.prog 56 #[.string x.1, .string x.2, .func (.func 57) #[] #[]] w fun e w' => ∃ a cp, e = .returned (.tuple #[.slice a Y.1.length cp, .int .i64 Y.2]) ∧ Hid (Put w' w.heap.size a cp Y.1) ∧ Below w.heap.size w w' := by
  obtain ⟨B, hB⟩ : ∃ B, B = textB x.1 := ⟨_, rfl⟩
  obtain ⟨B2, hB2⟩ : ∃ B2, B2 = textB x.2 := ⟨_, rfl⟩
  have HB : Hid _ := hB
  have HB2 : Hid _ := hB2
  have HY : Hid _ := hY
  have HM : Hid _ := hm
  have HBD : Hid (B.1.length + B2.1.length ≤ 140737488355328) := by
    show _ ≤ _
    have h1 := textB_len x.1
    have h2 := textB_len x.2
    rw [hB, hB2]; omega
  clear hB hB2 hY hm
  go_enter Try.func56, Try.ntmps56
  go_wp2_with fail
  refine (text_any x.1 _ HM.out.1 HB.out).mono ?_
  rintro e w1 ⟨a1, cp1, rfl, HP1, hB1⟩
  by_cases he : B.2 = 0
  · rw [he]
    go_wp2_with fail
    refine (text_any x.2 _ HM.out.2 HB2.out).mono ?_
    rintro e w2 ⟨a2, cp2, rfl, HP2, hB2⟩
    by_cases he2 : B2.2 = 0
    · have HE := keyB_both HY.out HB.out he HB2.out he2
      have HO2 : Hid (OwnB w2 w.heap.size (.slice a1 B.1.length cp1) B.1.length B.1) := (HP1.out.old hB2).1
      have hbs := hB1.size
      have hbs2 := hB2.size
      have HHE : Hid _ := HE
      have HR : Hid (∀ j : Nat, 0 ≤ (B.1 ++ B2.1)[j]?.getD 0 ∧ (B.1 ++ B2.1)[j]?.getD 0 ≤ 255) := range_append HP1.out.2.range HP2.out.2.range
      clear HE
      rw [he2]
      go_wp2_with (at_builtin; refine wpList_append_bytes rfl (.tmp 28) (.tmp 29) rfl rfl HO2.out rfl HP2.out.2 HBD.out (by omega) ?_)
      intro v3 w3 ho3 hB3
      obtain ⟨a3, cp3, rfl, hp3⟩ := OwnB.put ho3 HR.out
      have HP3 : Hid (Put w3 w.heap.size a3 cp3 (B.1 ++ B2.1)) := hp3
      clear hp3 ho3
      go_wp2_with fail
      go_ret2
      exact ⟨a3, cp3, by rw [HHE.out]; rfl, by rw [HHE.out]; exact HP3, (hB1.trans (hB2.mono hbs)).trans hB3⟩
    · have t : (B2.2 == 0) = false := by simpa using he2
      have HE := keyB_part HY.out HB.out he HB2.out he2
      have HHE : Hid _ := HE
      clear he2 HE
      go_wp2_with fail
      go_ret2
      exact ⟨none, 0, by rw [HHE.out]; rfl, by rw [HHE.out]; exact put_nil _ _, hB1.trans (hB2.mono hB1.size)⟩
  · have t : (B.2 == 0) = false := by simpa using he
    have HE := keyB_key HY.out HB.out he
    have HHE : Hid _ := HE
    clear he HE
    go_wp2_with fail
    go_ret2
    exact ⟨none, 0, by rw [HHE.out]; rfl, by rw [HHE.out]; exact put_nil _ _, hB1⟩

set_option maxHeartbeats 1000000 in
theorem putItemP (x : ByteArray × ByteArray) (w : World) (hm : x.1.size ≤ maxLen ∧ x.2.size ≤ maxLen) {Y : List Int × Int} (hY : Y = keyB textB x) :
    Calls Try.prog 55 #[.agg #[.string x.1, .string x.2]] w fun e w' => ∃ a cp, e = .returned (.tuple #[.slice a Y.1.length cp, .int .i64 Y.2]) ∧ Hid (Put w' w.heap.size a cp Y.1) ∧ Below w.heap.size w w' := by
  have HY : Hid _ := hY
  have HM : Hid _ := hm
  clear hY hm
  go_enter Try.func55, Try.ntmps55
  go_wp2_with fail
  refine (putKeyedP x _ HM.out HY.out).mono ?_
  rintro e w1 ⟨a1, cp1, rfl, HP, hB⟩
  go_wp2_with fail
  go_ret2
  exact ⟨a1, cp1, rfl, HP.out.mono (by simp), (below_one _ _).trans (hB.mono (by simp))⟩

set_option maxHeartbeats 1000000 in
theorem putP_yes {w : World} {a : Option Addr} {len cap : Nat} {xs : List (ByteArray × ByteArray)} (h : View 2 VP w a len cap xs) (hl : len ≤ 65535) (hx : ∀ x ∈ xs, x.1.size ≤ maxLen ∧ x.2.size ≤ maxLen) {Y : List Int × Int} (hY : Y = listB (keyB textB) xs) :
    Calls Try.prog 54 #[.slice a len cap, .func (.func 55) #[] #[]] w fun e w' => ∃ a cp, e = .returned (.tuple #[.slice a Y.1.length cp, .int .i64 Y.2]) ∧ Hid (Put w' w.heap.size a cp Y.1) ∧ Below w.heap.size w w' := by
  have hlx : xs.length = len := h.1
  have HY : Hid (Y = goB (keyB textB) xs (putL len 2)) := by
    show _ = _
    rw [hY, listB, if_pos (by omega), hlx]
  have H : Hid (View 2 VP w a len cap xs) := h
  have HX : Hid _ := hx
  have HLX : Hid (xs.length = len) := hlx
  have hd : decide ((65535 : Int) < len) = false := by simp; omega
  clear h hx hlx hY
  go_enter Try.func54, Try.ntmps54
  go_wp2_with fail
  refine (put_own len 2 _ (by omega) (by omega) (by omega) _ rfl).mono ?_
  rintro e w1 ⟨v, rfl, ho, hB1⟩
  have HO1 : Hid (OwnB w1 w.heap.size v (putL len 2).length (putL len 2)) := by
    show OwnB _ _ _ _ _
    rw [putL_length]; exact ho
  have HR1 : Hid _ := putL_range (len : Int) 2
  clear ho
  go_wp2_with fail
  go_loopw [6, 20] (fun v i wr => ∃ (k : Nat) (acc : List Int), k ≤ len ∧ i = .int .i64 k ∧ Hid (OwnB wr w.heap.size v acc.length acc) ∧ Hid (goB (keyB textB) (xs.drop k) acc = Y) ∧ acc.length ≤ 2 + k * 131074 ∧
      Hid (∀ j : Nat, 0 ≤ acc[j]?.getD 0 ∧ acc[j]?.getD 0 ≤ 255) ∧ Below w.heap.size w wr) (fun _ i _ => len - (intOf i).toNat)
  case atStart => exact ⟨0, _, by omega, rfl, HO1, HY.out.symm, by rw [putL_length]; omega, HR1, hB1⟩
  case round =>
    obtain ⟨k, acc, hk, rfl, HO, HG, hacc, HR, hB⟩ := hrel
    by_cases hlt : k < len
    · obtain ⟨b, off, rfl, hc0, hc1⟩ := (H.out.old stays_p hB).pair hlt
      obtain ⟨s, hs⟩ : ∃ s, s = xs.getD k default := ⟨_, rfl⟩
      rw [← hs] at hc0 hc1
      obtain ⟨B, hBt⟩ : ∃ B, B = keyB textB s := ⟨_, rfl⟩
      have HS : Hid _ := hs
      have HBt : Hid _ := hBt
      have HSM : Hid (s.1.size ≤ maxLen ∧ s.2.size ≤ maxLen) := by
        show _ ∧ _
        rw [hs, List.getD_eq_getElem?_getD, List.getElem?_eq_getElem (by rw [HLX.out]; exact hlt)]
        exact HX.out _ (List.getElem_mem _)
      clear hs hBt
      go_wp2_with fail
      refine (putItemP s _ HSM.out HBt.out).mono ?_
      rintro e w2 ⟨a2, cp2, rfl, HP2, hB2x⟩
      have hB2 : Below wr.heap.size wr w2 := (below_one wr _).trans (hB2x.mono (by simp))
      clear hB2x
      have hbl : B.1.length ≤ 131074 := by rw [HBt.out]; exact keyB_textB_len s
      by_cases he : B.2 = 0
      · have HG2 : Hid (goB (keyB textB) (xs.drop (k + 1)) (acc ++ B.1) = Y) := by
          rw [HBt.out, HS.out]
          exact goB_step HG.out (by rw [HLX.out]; exact hlt) (by rw [← HS.out, ← HBt.out]; exact he)
        have HO2 : Hid (OwnB w2 w.heap.size u6 acc.length acc) := HO.out.old hB2
        have hbs := hB.size
        have hbs2 := hB2.size
        have HBD : Hid (acc.length + B.1.length ≤ 140737488355328) := by
          show _ ≤ _
          have : k * 131074 ≤ 65535 * 131074 := Nat.mul_le_mul_right _ (by omega)
          omega
        rw [he]
        go_wp2_with (at_builtin; refine wpList_append_bytes rfl (.tmp 33) (.tmp 34) rfl rfl HO2.out rfl HP2.out.2 HBD.out (by omega) ?_)
        intro v3 w3 ho3 hB3
        have HO3 : Hid (OwnB w3 w.heap.size v3 (acc ++ B.1).length (acc ++ B.1)) := by
          show OwnB _ _ _ _ _
          rw [List.length_append]; exact ho3
        have HR3 : Hid (∀ j : Nat, 0 ≤ (acc ++ B.1)[j]?.getD 0 ∧ (acc ++ B.1)[j]?.getD 0 ≤ 255) := range_append HR.out HP2.out.2.range
        have hB03 : Below w.heap.size w w3 := (hB.trans (hB2.mono hbs)).trans hB3
        clear ho3
        go_wp2_with fail
        go_roundw
        case rel => exact ⟨k + 1, acc ++ B.1, by omega, by go_num, HO3, HG2, by rw [List.length_append, Nat.succ_mul]; omega, HR3, hB03⟩
        case measure => simp [intOf]; omega
      · have t : (B.2 == 0) = false := by simpa using he
        have HE := goB_stop HG.out (by rw [HLX.out]; exact hlt) (by rw [← HS.out, ← HBt.out]; exact he)
        rw [← HS.out, ← HBt.out] at HE
        clear he
        go_wp2_with fail
        go_ret2
        exact ⟨none, 0, by rw [HE]; rfl, by rw [HE]; exact put_nil _ _, hB.trans (hB2.mono hB.size)⟩
    · have HE := goB_end HG.out (by rw [HLX.out]; omega)
      obtain ⟨a2, cp2, hv, hp⟩ := OwnB.put HO.out HR.out
      subst hv
      go_wp2_with fail
      go_ret2
      exact ⟨a2, cp2, by rw [HE]; rfl, by rw [HE]; exact hp, hB⟩

set_option maxHeartbeats 400000 in
theorem putP_long (a : Option Addr) (len cap : Nat) (w : World) (hl : 65535 < len) (hm : len ≤ maxLen) :
    Calls Try.prog 54 #[.slice a len cap, .func (.func 55) #[] #[]] w fun e w' => e = .returned (.tuple #[.slice none 0 0, .int .i64 12]) ∧ w' = w := by
  unfold maxLen at hm
  go_enter Try.func54, Try.ntmps54
  go_wp2_with fail
  go_ret2
  exact ⟨rfl, rfl⟩

theorem putP_any {w : World} {a : Option Addr} {len cap : Nat} {xs : List (ByteArray × ByteArray)} (h : View 2 VP w a len cap xs) (hx : ∀ x ∈ xs, x.1.size ≤ maxLen ∧ x.2.size ≤ maxLen) {Y : List Int × Int} (hY : Y = listB (keyB textB) xs) :
    Calls Try.prog 54 #[.slice a len cap, .func (.func 55) #[] #[]] w fun e w' => ∃ a cp, e = .returned (.tuple #[.slice a Y.1.length cp, .int .i64 Y.2]) ∧ Hid (Put w' w.heap.size a cp Y.1) ∧ Below w.heap.size w w' := by
  by_cases hl : len ≤ 65535
  · exact putP_yes h hl hx hY
  · refine (putP_long a len cap w (by omega) (Nat.le_trans h.2.1 h.2.2.1)).mono ?_
    rintro e w' ⟨rfl, rfl⟩
    rw [listB, if_neg (by rw [h.1]; exact hl)] at hY
    subst hY
    exact ⟨none, 0, rfl, put_nil _ _, Below.refl _ _⟩

set_option maxHeartbeats 400000 in
theorem pairs_any {w : World} {a : Option Addr} {len cap : Nat} {xs : List (ByteArray × ByteArray)} (h : View 2 VP w a len cap xs) (hx : ∀ x ∈ xs, x.1.size ≤ maxLen ∧ x.2.size ≤ maxLen) {Y : List Int × Int} (hY : Y = listB (keyB textB) xs) :
    Calls Try.prog 17 #[.slice a len cap] w fun e w' => ∃ a cp, e = .returned (.tuple #[.slice a Y.1.length cp, .int .i64 Y.2]) ∧ Hid (Put w' w.heap.size a cp Y.1) ∧ Below w.heap.size w w' := by
  have H : Hid (View _ _ _ _ _ _ _) := h
  have HX : Hid _ := hx
  have HY : Hid _ := hY
  clear h hx hY
  go_enter Try.func17, Try.ntmps17
  go_wp2_with fail
  refine (putP_any H.out HX.out HY.out).mono ?_
  rintro e w1 ⟨a1, cp1, rfl, HP, hB⟩
  go_wp2_with fail
  go_ret2
  exact ⟨a1, cp1, rfl, HP, hB⟩
end Go.Proofs.Ytcecdklgiocbaaa
