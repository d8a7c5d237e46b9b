/-
  What is put, as a function of the items, and the contract of maps.Texts.
-/
import Derived.Test.YtcecdklgiocbaaaGetP
namespace Go.Proofs.Ytcecdklgiocbaaa
open Go.RowKit
set_option maxRecDepth 100000
set_option linter.unusedVariables false
set_option linter.unusedSimpArgs false

/-- The bytes, and the error. -/
def textB (s : ByteArray) : List Int × Int := if s.size ≤ 65535 then (putL s.size 2 ++ sNums s, 0) else ([], 12)
def valueB (x : Int × ByteArray) : List Int × Int :=
  if x.1 = 0 then ([255, 255, 255, 255], 0) else if x.1 = 1 then ([255, 255, 255, 254], 0) else if x.1 = 2 then (putL x.2.size 4 ++ sNums x.2, 0) else ([], 1)
def goB {α : Type} (f : α → List Int × Int) : List α → List Int → List Int × Int
  | [], acc => (acc, 0)
  | x :: r, acc => if (f x).2 = 0 then goB f r (acc ++ (f x).1) else ([], (f x).2)
def listB {α : Type} (f : α → List Int × Int) (xs : List α) : List Int × Int := if xs.length ≤ 65535 then goB f xs (putL xs.length 2) else ([], 12)
def keyB {α : Type} (g : α → List Int × Int) (x : ByteArray × α) : List Int × Int :=
  if (textB x.1).2 = 0 then if (g x.2).2 = 0 then ((textB x.1).1 ++ (g x.2).1, 0) else ([], (g x.2).2) else ([], (textB x.1).2)

/-- A slice that owns the bytes X, and as it is read. -/
def Put (w : World) (base : Nat) (a : Option Addr) (cp : Nat) (X : List Int) : Prop := OwnB w base (.slice a X.length cp) X.length X ∧ IsB w a X.length cp X

theorem put_nil (w : World) (base : Nat) : Put w base none 0 [] := ⟨World.ownsRow_nil _ _ _ _, isB_nil _⟩

theorem OwnB.put {w : World} {base : Nat} {v : Value} {n : Nat} {X : List Int} (h : OwnB w base v n X) (hr : ∀ j : Nat, 0 ≤ X[j]?.getD 0 ∧ X[j]?.getD 0 ≤ 255) : ∃ a cp, v = .slice a X.length cp ∧ Put w base a cp X := by
  have hl := h.len
  subst hl
  rcases h.2 with ⟨rfl, h0⟩ | ⟨g, cap, cur, rfl, hg, hh, hnc, hm, hs, htake⟩
  · obtain rfl : X = [] := List.eq_nil_of_length_eq_zero h0
    exact ⟨none, 0, rfl, put_nil _ _⟩
  · refine ⟨_, cap, rfl, h, rfl, hnc, hm, (fun e => by cases e), fun hp => ?_⟩
    obtain ⟨g', cap', hv, _, _, hR⟩ := h.row hp hr
    cases hv
    exact ⟨g, 0, rfl, hR⟩

theorem OwnB.old {w W : World} {base : Nat} {v : Value} {n : Nat} {X : List Int} (h : OwnB w base v n X) (hB : Below w.heap.size w W) : OwnB W base v n X := by
  refine ⟨h.1, ?_⟩
  rcases h.2 with h2 | ⟨g, cap, cur, hv, hg, hh, r⟩
  · exact .inl h2
  · exact .inr ⟨g, cap, cur, hv, hg, by rw [hB.block g (Array.getElem?_eq_some_iff.1 hh).1]; exact hh, r⟩

theorem Put.old {w W : World} {base : Nat} {a : Option Addr} {cp : Nat} {X : List Int} (h : Put w base a cp X) (hB : Below w.heap.size w W) : Put W base a cp X := ⟨h.1.old hB, h.2.old hB⟩
theorem Put.mono {w : World} {base base' : Nat} {a : Option Addr} {cp : Nat} {X : List Int} (h : Put w base a cp X) (hb : base' ≤ base) : Put w base' a cp X := ⟨h.1.mono hb, h.2⟩

theorem textB_range (s : ByteArray) : ∀ j : Nat, 0 ≤ (textB s).1[j]?.getD 0 ∧ (textB s).1[j]?.getD 0 ≤ 255 := by
  unfold textB
  split
  · exact range_append (putL_range _ _) (sNums_range s)
  · intro j; simp

theorem textB_len (s : ByteArray) : (textB s).1.length ≤ 65537 := by
  unfold textB
  split
  · rw [List.length_append, putL_length, sNums_length]; omega
  · simp

set_option maxHeartbeats 400000 in
theorem text_long (s : ByteArray) (w : World) (hs : 65535 < s.size) (hm : s.size ≤ maxLen) :
    Calls Try.prog 57 #[.string s] w fun e w' => e = .returned (.tuple #[.slice none 0 0, .int .i64 12]) ∧ w' = w := by
  unfold maxLen at hm
  go_enter Try.func57, Try.ntmps57
  go_wp2_with fail
  go_ret2
  exact ⟨rfl, rfl⟩

theorem text_any (s : ByteArray) (w : World) (hm : s.size ≤ maxLen) {B : List Int × Int} (hB : B = textB s) :
    Calls Try.prog 57 #[.string s] w fun e w' => ∃ a cp, e = .returned (.tuple #[.slice a B.1.length cp, .int .i64 B.2]) ∧ Hid (Put w' w.heap.size a cp B.1) ∧ Below w.heap.size w w' := by
  subst hB
  by_cases hs : s.size ≤ 65535
  · refine (text_yes s w hs).mono ?_
    rintro e w' ⟨v, rfl, ho, hB⟩
    obtain ⟨a, cp, rfl, hp⟩ := ho.put (range_append (putL_range _ _) (sNums_range s))
    simp only [textB, if_pos hs]
    exact ⟨a, cp, rfl, hp, hB⟩
  · refine (text_long s w (by omega) hm).mono ?_
    rintro e w' ⟨rfl, rfl⟩
    simp only [textB, if_neg hs]
    exact ⟨none, 0, rfl, put_nil _ _, Below.refl _ _⟩

set_option maxHeartbeats 400000 in
theorem putItemS (s : ByteArray) (w : World) (hm : s.size ≤ maxLen) {B : List Int × Int} (hB : B = textB s) :
    Calls Try.prog 65 #[.string s] w fun e w' => ∃ a cp, e = .returned (.tuple #[.slice a B.1.length cp, .int .i64 B.2]) ∧ Hid (Put w' w.heap.size a cp B.1) ∧ Below w.heap.size w w' := by
  have HB : Hid _ := hB
  have HM : Hid _ := hm
  clear hB hm
  go_enter Try.func65, Try.ntmps65
  go_wp2_with fail
  refine (text_any s _ HM.out HB.out).mono ?_
  rintro e w1 ⟨a, cp, rfl, HP, hB⟩
  go_wp2_with fail
  go_ret2
  exact ⟨a, cp, rfl, HP, hB⟩

/-- A cell of a list of texts. -/
theorem View.str {w : World} {a : Option Addr} {len cap : Nat} {ss : List ByteArray} (h : View 1 VS w a len cap ss) {k : Nat} (hk : k < len) : ∃ b off, a = some ⟨b, off, none⟩ ∧ w.cell? ⟨b, off + k, none⟩ = some (.string (ss.getD k default)) := by
  obtain ⟨h1, h2, h3, h4, h5⟩ := h
  obtain ⟨b, off, ha, hb, hc⟩ := h5 (by omega)
  obtain ⟨c, hcell, hv⟩ := hc k hk
  have := hcell 0 (by omega)
  rw [hv] at this
  exact ⟨b, off, ha, by simpa using this⟩

theorem goB_step {α : Type} [Inhabited α] {f : α → List Int × Int} {xs : List α} {k : Nat} {acc : List Int} {Y : List Int × Int} (h : goB f (xs.drop k) acc = Y) (hk : k < xs.length) (he : (f (xs.getD k default)).2 = 0) :
    goB f (xs.drop (k + 1)) (acc ++ (f (xs.getD k default)).1) = Y := by
  rw [List.getD_eq_getElem?_getD, List.getElem?_eq_getElem hk, Option.getD_some] at *
  rw [List.drop_eq_getElem_cons hk, goB, if_pos he] at h
  exact h
theorem goB_stop {α : Type} [Inhabited α] {f : α → List Int × Int} {xs : List α} {k : Nat} {acc : List Int} {Y : List Int × Int} (h : goB f (xs.drop k) acc = Y) (hk : k < xs.length) (he : (f (xs.getD k default)).2 ≠ 0) : Y = ([], (f (xs.getD k default)).2) := by
  rw [List.getD_eq_getElem?_getD, List.getElem?_eq_getElem hk, Option.getD_some] at *
  rw [List.drop_eq_getElem_cons hk, goB, if_neg he] at h
  exact h.symm
theorem goB_end {α : Type} {f : α → List Int × Int} {xs : List α} {k : Nat} {acc : List Int} {Y : List Int × Int} (h : goB f (xs.drop k) acc = Y) (hk : xs.length ≤ k) : Y = (acc, 0) := by
  rw [List.drop_eq_nil_of_le hk, goB] at h
  exact h.symm

set_option maxHeartbeats 1000000 in
theorem putS_yes {w : World} {a : Option Addr} {len cap : Nat} {xs : List ByteArray} (h : View 1 VS w a len cap xs) (hl : len ≤ 65535) (hx : ∀ x ∈ xs, x.size ≤ maxLen) {Y : List Int × Int} (hY : Y = listB textB xs) :
    Calls Try.prog 64 #[.slice a len cap, .func (.func 65) #[] #[]] w fun e w' => ∃ a cp, e = .returned (.tuple #[.slice a Y.1.length cp, .int .i64 Y.2]) ∧ Hid (Put w' w.heap.size a cp Y.1) ∧ Below w.heap.size w w' := by
  have hlx : xs.length = len := h.1
  have HY : Hid (Y = goB textB xs (putL len 2)) := by
    show _ = _
    rw [hY, listB, if_pos (by omega), hlx]
  have H : Hid (View 1 VS w a len cap xs) := h
  have HX : Hid _ := hx
  have HLX : Hid (xs.length = len) := hlx
  have hd : decide ((65535 : Int) < len) = false := by simp; omega
  clear h hx hlx hY
  go_enter Try.func64, Try.ntmps64
  go_wp2_with fail
  refine (put_own len 2 _ (by omega) (by omega) (by omega) _ rfl).mono ?_
  rintro e w1 ⟨v, rfl, ho, hB1⟩
  have HO1 : Hid (OwnB w1 w.heap.size v (putL len 2).length (putL len 2)) := by
    show OwnB _ _ _ _ _
    rw [putL_length]; exact ho
  have HR1 : Hid _ := putL_range (len : Int) 2
  clear ho
  go_wp2_with fail
  go_loopw [6, 20] (fun v i wr => ∃ (k : Nat) (acc : List Int), k ≤ len ∧ i = .int .i64 k ∧ Hid (OwnB wr w.heap.size v acc.length acc) ∧ Hid (goB textB (xs.drop k) acc = Y) ∧ acc.length ≤ 2 + k * 65537 ∧
      Hid (∀ j : Nat, 0 ≤ acc[j]?.getD 0 ∧ acc[j]?.getD 0 ≤ 255) ∧ Below w.heap.size w wr) (fun _ i _ => len - (intOf i).toNat)
  case atStart => exact ⟨0, _, by omega, rfl, HO1, HY.out.symm, by rw [putL_length]; omega, HR1, hB1⟩
  case round =>
    obtain ⟨k, acc, hk, rfl, HO, HG, hacc, HR, hB⟩ := hrel
    by_cases hlt : k < len
    · obtain ⟨b, off, rfl, hc⟩ := (H.out.old stays_s hB).str hlt
      obtain ⟨s, hs⟩ : ∃ s, s = xs.getD k default := ⟨_, rfl⟩
      rw [← hs] at hc
      obtain ⟨B, hBt⟩ : ∃ B, B = textB s := ⟨_, rfl⟩
      have HS : Hid _ := hs
      have HBt : Hid _ := hBt
      have HSM : Hid (s.size ≤ maxLen) := by
        show _ ≤ _
        rw [hs, List.getD_eq_getElem?_getD, List.getElem?_eq_getElem (by rw [HLX.out]; exact hlt)]
        exact HX.out _ (List.getElem_mem _)
      clear hs hBt
      go_wp2_with fail
      refine (putItemS s _ HSM.out HBt.out).mono ?_
      rintro e w2 ⟨a2, cp2, rfl, HP2, hB2⟩
      have hbl : B.1.length ≤ 65537 := by rw [HBt.out]; exact textB_len s
      by_cases he : B.2 = 0
      · have HG2 : Hid (goB textB (xs.drop (k + 1)) (acc ++ B.1) = Y) := by
          rw [HBt.out, HS.out]
          exact goB_step HG.out (by rw [HLX.out]; exact hlt) (by rw [← HS.out, ← HBt.out]; exact he)
        have HO2 : Hid (OwnB w2 w.heap.size u6 acc.length acc) := HO.out.old hB2
        have hbs := hB.size
        have hbs2 := hB2.size
        have HBD : Hid (acc.length + B.1.length ≤ 140737488355328) := by
          show _ ≤ _
          have : k * 65537 ≤ 65535 * 65537 := Nat.mul_le_mul_right _ (by omega)
          omega
        rw [he]
        go_wp2_with (at_builtin; refine wpList_append_bytes rfl (.tmp 33) (.tmp 34) rfl rfl HO2.out rfl HP2.out.2 HBD.out (by omega) ?_)
        intro v3 w3 ho3 hB3
        have HO3 : Hid (OwnB w3 w.heap.size v3 (acc ++ B.1).length (acc ++ B.1)) := by
          show OwnB _ _ _ _ _
          rw [List.length_append]; exact ho3
        have HR3 : Hid (∀ j : Nat, 0 ≤ (acc ++ B.1)[j]?.getD 0 ∧ (acc ++ B.1)[j]?.getD 0 ≤ 255) := range_append HR.out HP2.out.2.range
        have hB03 : Below w.heap.size w w3 := (hB.trans (hB2.mono hbs)).trans hB3
        clear ho3
        go_wp2_with fail
        go_roundw
        case rel => exact ⟨k + 1, acc ++ B.1, by omega, by go_num, HO3, HG2, by rw [List.length_append, Nat.succ_mul]; omega, HR3, hB03⟩
        case measure => simp [intOf]; omega
      · have t : (B.2 == 0) = false := by simpa using he
        have HE := goB_stop HG.out (by rw [HLX.out]; exact hlt) (by rw [← HS.out, ← HBt.out]; exact he)
        rw [← HS.out, ← HBt.out] at HE
        clear he
        go_wp2_with fail
        go_ret2
        exact ⟨none, 0, by rw [HE]; rfl, by rw [HE]; exact put_nil _ _, hB.trans (hB2.mono hB.size)⟩
    · have HE := goB_end HG.out (by rw [HLX.out]; omega)
      obtain ⟨a2, cp2, hv, hp⟩ := OwnB.put HO.out HR.out
      subst hv
      go_wp2_with fail
      go_ret2
      exact ⟨a2, cp2, by rw [HE]; rfl, by rw [HE]; exact hp, hB⟩

set_option maxHeartbeats 400000 in
theorem putS_long (a : Option Addr) (len cap : Nat) (w : World) (hl : 65535 < len) (hm : len ≤ maxLen) :
    Calls Try.prog 64 #[.slice a len cap, .func (.func 65) #[] #[]] w fun e w' => e = .returned (.tuple #[.slice none 0 0, .int .i64 12]) ∧ w' = w := by
  unfold maxLen at hm
  go_enter Try.func64, Try.ntmps64
  go_wp2_with fail
  go_ret2
  exact ⟨rfl, rfl⟩

theorem putS_any {w : World} {a : Option Addr} {len cap : Nat} {xs : List ByteArray} (h : View 1 VS w a len cap xs) (hx : ∀ x ∈ xs, x.size ≤ maxLen) {Y : List Int × Int} (hY : Y = listB textB xs) :
    Calls Try.prog 64 #[.slice a len cap, .func (.func 65) #[] #[]] w fun e w' => ∃ a cp, e = .returned (.tuple #[.slice a Y.1.length cp, .int .i64 Y.2]) ∧ Hid (Put w' w.heap.size a cp Y.1) ∧ Below w.heap.size w w' := by
  by_cases hl : len ≤ 65535
  · exact putS_yes h hl hx hY
  · refine (putS_long a len cap w (by omega) (Nat.le_trans h.2.1 h.2.2.1)).mono ?_
    rintro e w' ⟨rfl, rfl⟩
    rw [listB, if_neg (by rw [h.1]; exact hl)] at hY
    subst hY
    exact ⟨none, 0, rfl, put_nil _ _, Below.refl _ _⟩

set_option maxHeartbeats 400000 in
theorem texts_any {w : World} {a : Option Addr} {len cap : Nat} {xs : List ByteArray} (h : View 1 VS w a len cap xs) (hx : ∀ x ∈ xs, x.size ≤ maxLen) {Y : List Int × Int} (hY : Y = listB textB xs) :
    Calls Try.prog 21 #[.slice a len cap] w fun e w' => ∃ a cp, e = .returned (.tuple #[.slice a Y.1.length cp, .int .i64 Y.2]) ∧ Hid (Put w' w.heap.size a cp Y.1) ∧ Below w.heap.size w w' := by
  have H : Hid (View _ _ _ _ _ _ _) := h
  have HX : Hid _ := hx
  have HY : Hid _ := hY
  clear h hx hY
  go_enter Try.func21, Try.ntmps21
  go_wp2_with fail
  refine (putS_any H.out HX.out HY.out).mono ?_
  rintro e w1 ⟨a1, cp1, rfl, HP, hB⟩
  go_wp2_with fail
  go_ret2
  exact ⟨a1, cp1, rfl, HP, hB⟩
end Go.Proofs.Ytcecdklgiocbaaa
