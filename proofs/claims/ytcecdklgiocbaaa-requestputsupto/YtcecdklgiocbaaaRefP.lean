/-
  The contract of the document's own Put of lists and maps.
-/
import Derived.Test.YtcecdklgiocbaaaSame
namespace Go.Proofs.Ytcecdklgiocbaaa
open Go.RowKit
set_option linter.unusedVariables false
set_option linter.unusedSimpArgs false

def itemB0 (x : It) : List Int × Int := textB x.key
def itemB1 (x : It) : List Int × Int := keyB textB (x.key, x.text)
def itemB2 (x : It) : List Int × Int := keyB (listB textB) (x.key, x.texts)
def itemB3 (x : It) : List Int × Int := keyB valueB (x.key, x.kind, x.bytes)

theorem goB_map {α β : Type} (f : α → β) (g : β → List Int × Int) (xs : List α) : ∀ acc, goB g (xs.map f) acc = goB (fun x => g (f x)) xs acc := by
  induction xs with
  | nil => intro acc; rfl
  | cons x r ih => intro acc; rw [List.map_cons, goB, goB, ih]

theorem listB_map {α β : Type} (f : α → β) (g : β → List Int × Int) (xs : List α) : listB g (xs.map f) = listB (fun x => g (f x)) xs := by
  unfold listB
  rw [List.length_map, goB_map]

theorem put_texts (xs : List ByteArray) : listB itemB0 (xs.map keyIt) = listB textB xs := listB_map _ _ _
theorem put_pairs (xs : List (ByteArray × ByteArray)) : listB itemB1 (xs.map pairIt) = listB (keyB textB) xs := listB_map _ _ _
theorem put_multis (xs : List (ByteArray × List ByteArray)) : listB itemB2 (xs.map multiIt) = listB (keyB (listB textB)) xs := listB_map _ _ _
theorem put_entries (xs : List (ByteArray × Int × ByteArray)) : listB itemB3 (xs.map entryIt) = listB (keyB valueB) xs := listB_map _ _ _

set_option maxHeartbeats 400000 in
theorem rtext_long (s : ByteArray) (w : World) (hs : 65535 < s.size) (hm : s.size ≤ maxLen) :
    Calls Try.prog 69 #[.string s] w fun e w' => e = .returned (.tuple #[.slice none 0 0, .int .i64 12]) ∧ w' = w := by
  unfold maxLen at hm
  go_enter Try.func69, Try.ntmps69
  go_wp2_with fail
  go_ret2
  exact ⟨rfl, rfl⟩

theorem rtext_any (s : ByteArray) (w : World) (hm : s.size ≤ maxLen) {B : List Int × Int} (hB : B = textB s) :
    Calls Try.prog 69 #[.string s] w fun e w' => ∃ a cp, e = .returned (.tuple #[.slice a B.1.length cp, .int .i64 B.2]) ∧ Hid (Put w' w.heap.size a cp B.1) ∧ Below w.heap.size w w' := by
  subst hB
  by_cases hs : s.size ≤ 65535
  · refine (rtext_yes s w hs).mono ?_
    rintro e w' ⟨v, rfl, ho, hB⟩
    obtain ⟨a, cp, rfl, hp⟩ := ho.put (range_append (putL_range _ _) (sNums_range s))
    simp only [textB, if_pos hs]
    exact ⟨a, cp, rfl, hp, hB⟩
  · refine (rtext_long s w (by omega) hm).mono ?_
    rintro e w' ⟨rfl, rfl⟩
    simp only [textB, if_neg hs]
    exact ⟨none, 0, rfl, put_nil _ _, Below.refl _ _⟩

theorem rvalue_any (k : Int) (bs : ByteArray) (w : World) (hsm : bs.size ≤ 140737488351232) {B : List Int × Int} (hB : B = valueB (k, bs)) :
    Calls Try.prog 28 #[.agg #[.int .i64 k, .string bs]] w fun e w' => ∃ a cp, e = .returned (.tuple #[.slice a B.1.length cp, .int .i64 B.2]) ∧ Hid (Put w' w.heap.size a cp B.1) ∧ Below w.heap.size w w' := by
  subst hB
  by_cases h0 : k = 0
  · subst h0
    refine (rvalue_null bs w).mono ?_
    rintro e w' ⟨v, rfl, ho, hB⟩
    obtain ⟨a', cp, rfl, hp⟩ := ho.put (four_range _ _ _ _ (by omega))
    exact ⟨a', cp, rfl, hp, hB⟩
  by_cases h1 : k = 1
  · subst h1
    refine (rvalue_unset bs w).mono ?_
    rintro e w' ⟨v, rfl, ho, hB⟩
    obtain ⟨a', cp, rfl, hp⟩ := ho.put (four_range _ _ _ _ (by omega))
    exact ⟨a', cp, rfl, hp, hB⟩
  by_cases h2 : k = 2
  · subst h2
    refine (rvalue_set bs w hsm).mono ?_
    rintro e w' ⟨v, rfl, ho, hB⟩
    obtain ⟨a', cp, rfl, hp⟩ := ho.put (range_append (putL_range _ _) (sNums_range bs))
    exact ⟨a', cp, rfl, hp, hB⟩
  · refine (rvalue_none k bs w h0 h1 h2).mono ?_
    rintro e w' ⟨rfl, hB⟩
    simp only [valueB, if_neg h0, if_neg h1, if_neg h2]
    exact ⟨none, 0, rfl, put_nil _ _, hB⟩

theorem append_nil_own {w : World} {base : Nat} {v : Value} {acc K : List Int} (h : OwnB w base v (acc.length + K.length) (acc ++ K)) : OwnB w base v (acc ++ K).length (acc ++ K) := by rw [List.length_append]; exact h

set_option maxRecDepth 100000 in
set_option maxHeartbeats 2000000 in
theorem rput0_yes {w : World} {a : Option Addr} {len cap : Nat} {xs : List It} (h : View 5 VI w a len cap xs) (hl : len ≤ 65535) (hx : ∀ x ∈ xs, x.key.size ≤ maxLen) {Y : List Int × Int} (hY : Y = listB itemB0 xs) :
    Calls Try.prog 26 #[.int .i64 0, .slice a len cap] w fun e w' => ∃ a cp, e = .returned (.tuple #[.slice a Y.1.length cp, .int .i64 Y.2]) ∧ Hid (Put w' w.heap.size a cp Y.1) ∧ Below w.heap.size w w' := by
  have hlx : xs.length = len := h.1
  have HY : Hid (Y = goB itemB0 xs (putL len 2)) := by
    show _ = _
    rw [hY, listB, if_pos (by omega), hlx]
  have H : Hid (View 5 VI w a len cap xs) := h
  have HX : Hid _ := hx
  have HLX : Hid (xs.length = len) := hlx
  have hd : decide ((65535 : Int) < len) = false := by simp; omega
  clear h hx hlx hY
  go_enter Try.func26, Try.ntmps26
  go_wp2_with fail
  refine (rput_own len 2 _ (by omega) (by omega) (by omega) (by omega) _ rfl).mono ?_
  rintro e w1 ⟨v, rfl, ho, hB1⟩
  have HO1 : Hid (OwnB w1 w.heap.size v (putL len 2).length (putL len 2)) := by
    show OwnB _ _ _ _ _
    rw [putL_length]; exact ho
  have HR1 : Hid _ := putL_range (len : Int) 2
  clear ho
  go_wp2_with fail
  go_loopw [6, 7] (fun v i wr => ∃ (k : Nat) (acc : List Int), k ≤ len ∧ i = .int .i64 k ∧ Hid (OwnB wr w.heap.size v acc.length acc) ∧ Hid (goB itemB0 (xs.drop k) acc = Y) ∧ acc.length ≤ 2 + k * 65537 ∧
      Hid (∀ j : Nat, 0 ≤ acc[j]?.getD 0 ∧ acc[j]?.getD 0 ≤ 255) ∧ Below w.heap.size w wr) (fun _ i _ => len - (intOf i).toNat)
  case atStart => exact ⟨0, _, by omega, rfl, HO1, HY.out.symm, by rw [putL_length]; omega, HR1, hB1⟩
  case round =>
    obtain ⟨k, acc, hk, rfl, HO, HG, hacc, HR, hB⟩ := hrel
    by_cases hlt : k < len
    · obtain ⟨b, off, a9, l9, c9, rfl, d0, d1, d2, d3, d4, _⟩ := (H.out.old stays_i hB).item hlt
      obtain ⟨x, hs⟩ : ∃ x, x = xs.getD k default := ⟨_, rfl⟩
      rw [← hs] at d0 d1 d3 d4
      obtain ⟨B, hBt⟩ : ∃ B, B = textB x.key := ⟨_, rfl⟩
      have HS : Hid _ := hs
      have HBt : Hid _ := hBt
      have HSM : Hid (x.key.size ≤ maxLen) := by
        show _ ≤ _
        rw [hs, List.getD_eq_getElem?_getD, List.getElem?_eq_getElem (by rw [HLX.out]; exact hlt)]
        exact HX.out _ (List.getElem_mem _)
      clear hs hBt
      go_wp2_with fail
      refine (rtext_any x.key _ HSM.out HBt.out).mono ?_
      rintro e w2 ⟨a2, cp2, rfl, HP2, hB2⟩
      have hbl : B.1.length ≤ 65537 := by rw [HBt.out]; exact textB_len x.key
      by_cases he : B.2 = 0
      · have HG2 : Hid (goB itemB0 (xs.drop (k + 1)) (acc ++ B.1) = Y) := by
          have := goB_step HG.out (by rw [HLX.out]; exact hlt) (by rw [← HS.out, itemB0, ← HBt.out]; exact he)
          rw [← HS.out, itemB0, ← HBt.out] at this
          exact this
        have HO2 : Hid (OwnB w2 w.heap.size u6 acc.length acc) := HO.out.old hB2
        have hbs := hB.size
        have hbs2 := hB2.size
        have HBD : Hid (acc.length + B.1.length ≤ 140737488355328) := by
          show _ ≤ _
          have : k * 65537 ≤ 65535 * 65537 := Nat.mul_le_mul_right _ (by omega)
          omega
        rw [he]
        go_wp2_with (at_builtin; refine wpList_append_bytes rfl (.tmp 38) (.tmp 39) rfl rfl HO2.out rfl HP2.out.2 HBD.out (by omega) ?_)
        intro v3 w3 ho3 hB3
        have HO3 : Hid (OwnB w3 w.heap.size v3 (acc ++ B.1).length (acc ++ B.1)) := append_nil_own ho3
        have HR3 : Hid (∀ j : Nat, 0 ≤ (acc ++ B.1)[j]?.getD 0 ∧ (acc ++ B.1)[j]?.getD 0 ≤ 255) := range_append HR.out HP2.out.2.range
        have hB03 : Below w.heap.size w w3 := (hB.trans (hB2.mono hbs)).trans hB3
        have hbs3 := hB3.size
        have HBD3 : Hid ((acc ++ B.1).length + 0 ≤ 140737488355328) := by
          show _ ≤ _
          rw [List.length_append]; exact HBD.out
        clear ho3
        go_wp2_with (at_builtin; refine wpList_append_bytes rfl (.tmp 96) (.tmp 97) rfl rfl HO3.out rfl (isB_nil _) HBD3.out (by omega) ?_)
        intro v4 w4 ho4 hB4
        have HO4 : Hid (OwnB w4 w.heap.size v4 (acc ++ B.1).length (acc ++ B.1)) := append_nil_own ho4
        have hB04 : Below w.heap.size w w4 := hB03.trans hB4
        clear ho4
        go_wp2_with fail
        go_roundw
        case rel => exact ⟨k + 1, acc ++ B.1, by omega, by go_num, HO4, HG2, by rw [List.length_append, Nat.succ_mul]; omega, HR3, hB04⟩
        case measure => simp [intOf]; omega
      · have t : (B.2 == 0) = false := by simpa using he
        have HE := goB_stop HG.out (by rw [HLX.out]; exact hlt) (by rw [← HS.out, itemB0, ← HBt.out]; exact he)
        rw [← HS.out, itemB0, ← HBt.out] at HE
        have HHE : Hid _ := HE
        clear he HE
        go_wp2_with fail
        go_ret2
        exact ⟨none, 0, by rw [HHE.out]; rfl, by rw [HHE.out]; exact put_nil _ _, hB.trans (hB2.mono hB.size)⟩
    · have HE := goB_end HG.out (by rw [HLX.out]; omega)
      obtain ⟨a2, cp2, hv, hp⟩ := OwnB.put HO.out HR.out
      subst hv
      go_wp2_with fail
      go_ret2
      exact ⟨a2, cp2, by rw [HE]; rfl, by rw [HE]; exact hp, hB⟩

set_option maxHeartbeats 400000 in
theorem rput_long (K : Int) (a : Option Addr) (len cap : Nat) (w : World) (hl : 65535 < len) (hm : len ≤ maxLen) :
    Calls Try.prog 26 #[.int .i64 K, .slice a len cap] w fun e w' => e = .returned (.tuple #[.slice none 0 0, .int .i64 12]) ∧ w' = w := by
  unfold maxLen at hm
  go_enter Try.func26, Try.ntmps26
  go_wp2_with fail
  go_ret2
  exact ⟨rfl, rfl⟩

theorem rput0_any {w : World} {a : Option Addr} {len cap : Nat} {xs : List It} (h : View 5 VI w a len cap xs) (hx : ∀ x ∈ xs, x.key.size ≤ maxLen) {Y : List Int × Int} (hY : Y = listB itemB0 xs) :
    Calls Try.prog 26 #[.int .i64 0, .slice a len cap] w fun e w' => ∃ a cp, e = .returned (.tuple #[.slice a Y.1.length cp, .int .i64 Y.2]) ∧ Hid (Put w' w.heap.size a cp Y.1) ∧ Below w.heap.size w w' := by
  by_cases hl : len ≤ 65535
  · exact rput0_yes h hl hx hY
  · refine (rput_long 0 a len cap w (by omega) (Nat.le_trans h.2.1 h.2.2.1)).mono ?_
    rintro e w' ⟨rfl, rfl⟩
    rw [listB, if_neg (by rw [h.1]; exact hl)] at hY
    subst hY
    exact ⟨none, 0, rfl, put_nil _ _, Below.refl _ _⟩
end Go.Proofs.Ytcecdklgiocbaaa
