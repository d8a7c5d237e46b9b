/-
  The contract of maps.GetTexts.
-/
import Derived.Test.YtcecdklgiocbaaaItems
namespace Go.Proofs.Ytcecdklgiocbaaa
open Go.RowKit
set_option maxRecDepth 100000
set_option linter.unusedVariables false
set_option linter.unusedSimpArgs false

theorem getText_r {w : World} {a : Option Addr} {len cap : Nat} {zs : List Int} (h : IsB w a len cap zs) (hsm : len ≤ 140737488351232) {X : Res ByteArray} (hX : X = textR zs) :
    Calls Try.prog 75 #[.slice a len cap] w fun e w' => ∃ r lr cr, e = .returned (.tuple #[.string X.val, .slice r lr cr, .int .i64 X.err]) ∧ Hid (Behind w' a r lr cr zs X.done X.err) ∧ Below w.heap.size w w' := by
  subst hX; exact getText_any h hsm

set_option maxHeartbeats 400000 in
theorem getItemS {w : World} {a : Option Addr} {len cap : Nat} {zs : List Int} (h : IsB w a len cap zs) (hsm : len ≤ 140737488351232) {X : Res ByteArray} (hX : X = textR zs) :
    Calls Try.prog 87 #[.slice a len cap] w fun e w' => ∃ r lr cr, e = .returned (.tuple #[.string X.val, .slice r lr cr, .int .i64 X.err]) ∧ Hid (Behind w' a r lr cr zs X.done X.err) ∧ Below w.heap.size w w' := by
  have H : Hid _ := h
  have HX : Hid _ := hX
  clear h hX
  go_enter Try.func87, Try.ntmps87
  go_wp2_with fail
  refine (getText_r H.out hsm HX.out).mono ?_
  rintro e w1 ⟨r, lr, cr, rfl, HB, hB⟩
  go_wp2_with fail
  go_ret3
  exact ⟨r, lr, cr, rfl, HB, hB⟩

theorem goR_step {α : Type} {p : List Int → Res α} {zs : List Int} {k n d : Nat} {acc : List α} {X : Res (List α)} (h : goR p zs (n - k) d acc = X) (hk : k < n) (he : (p (zs.drop d)).err = 0) :
    goR p zs (n - (k + 1)) (d + (p (zs.drop d)).done) (acc ++ [(p (zs.drop d)).val]) = X := by
  rw [show n - k = (n - (k + 1)) + 1 by omega, goR, if_pos he] at h
  exact h

theorem goR_stop {α : Type} {p : List Int → Res α} {zs : List Int} {k n d : Nat} {acc : List α} {X : Res (List α)} (h : goR p zs (n - k) d acc = X) (hk : k < n) (he : (p (zs.drop d)).err ≠ 0) :
    X = ⟨[], 0, (p (zs.drop d)).err⟩ := by
  rw [show n - k = (n - (k + 1)) + 1 by omega, goR, if_neg he] at h
  exact h.symm

theorem goR_end {α : Type} {p : List Int → Res α} {zs : List Int} {k n d : Nat} {acc : List α} {X : Res (List α)} (h : goR p zs (n - k) d acc = X) (hk : n ≤ k) : X = ⟨acc, d, 0⟩ := by
  rw [show n - k = 0 by omega, goR] at h
  exact h.symm

theorem Behind.row {w : World} {b o : Nat} {r : Option Addr} {lr cr : Nat} {zs : List Int} {d : Nat} {er : Int} (h : Behind w (some ⟨b, o, none⟩) r lr cr zs d er) (he : er = 0) : d ≤ zs.length ∧ ∃ off, r = some ⟨b, off, none⟩ ∧ BRow w b off lr cr (zs.drop d) := by
  rcases h with ⟨h, _⟩ | ⟨_, h1, _, h2⟩
  · exact absurd he h
  · obtain ⟨b', o', off, ha, hr, _, hR⟩ := h2
    cases ha
    exact ⟨h1, off, hr, hR⟩

theorem BRow.len_le {w : World} {b off len cap : Nat} {zs : List Int} (h : BRow w b off len cap zs) : len = zs.length := h.len_eq.symm

set_option maxHeartbeats 1000000 in
theorem getS_yes {w : World} {b off len cap : Nat} {zs : List Int} (h : BRow w b off len cap zs) (hb : b < w.heap.size) (hsm : len ≤ 140737488351232) (hl : 2 ≤ len) {Y : Res (List ByteArray)} (hY : Y = listR textR zs) :
    Calls Try.prog 86 #[.slice (some ⟨b, off, none⟩) len cap, .func (.func 87) #[] #[]] w fun e w' => ∃ v r lr cr, e = .returned (.tuple #[v, .slice r lr cr, .int .i64 Y.err]) ∧
      Hid (Own 9 1 VS w' w.heap.size v Y.val) ∧ Hid (Behind w' (some ⟨b, off, none⟩) r lr cr zs Y.done Y.err) ∧ Below w.heap.size w w' := by
  have hz := h.len_eq
  obtain ⟨N, hN⟩ := Int.eq_ofNat_of_zero_le (numTo_bound zs h.rng 2 (by omega)).1
  have hN2 := (numTo_bound zs h.rng 2 (by omega)).2
  rw [hN] at hN2
  have hN3 : N < 65536 := by have h4 : (256 : Int) ^ 2 = 65536 := by decide
                             omega
  have HL : Hid (Y = goR textR zs N 2 []) := by
    show _ = _
    rw [hY, listR, if_neg (by omega), hN, Int.toNat_natCast]
  have H : Hid (BRow w b off len cap zs) := h
  have HN : Hid (numTo zs 2 = N) := hN
  have HZ : Hid (zs.length = len) := hz
  clear h hN hN2 hz hY
  go_enter Try.func86, Try.ntmps86
  go_wp2_with fail
  refine (bget H.out 2 (by omega) (by omega) hl _ rfl).mono ?_
  rintro e w1 ⟨off1, rfl, hR1, hB1⟩
  rw [HN.out]
  have HR1 : Hid (BRow _ _ _ _ _ _) := hR1
  clear hR1
  go_wp2_with fail
  go_loopw [8, 10, 22] (fun r l i wr => ∃ k d off lr cr acc, k ≤ N ∧ i = .int .u64 k ∧ r = .slice (some ⟨b, off, none⟩) lr cr ∧ Hid (BRow wr b off lr cr (zs.drop d)) ∧ d ≤ len ∧ Hid (Own 9 1 VS wr w.heap.size l acc) ∧ acc.length = k ∧
      Hid (goR textR zs (N - k) d acc = Y) ∧ Below w.heap.size w wr) (fun _ _ i _ => N - (intOf i).toNat)
  case atStart => exact ⟨0, 2, off1, _, _, [], by omega, rfl, rfl, HR1, hl, own_nil _ _ _ _ _, rfl, HL.out.symm, hB1⟩
  case round =>
    obtain ⟨k, d, off', lr, cr, acc, hk, rfl, rfl, HR, hd, HO, hacc, HG, hB⟩ := hrel
    by_cases hlt : k < N
    · have HLR : Hid (lr ≤ 140737488351232) := by
        show _ ≤ _
        rw [HR.out.len_le, List.length_drop, HZ.out]; omega
      obtain ⟨X, hX⟩ : ∃ X, X = textR (zs.drop d) := ⟨_, rfl⟩
      have HX : Hid _ := hX
      clear hX
      go_wp2_with fail
      refine (getItemS HR.out.isB HLR.out HX.out).mono ?_
      rintro e w2 ⟨r2, lr2, cr2, rfl, HB2, hB2⟩
      by_cases he : X.err = 0
      · obtain ⟨hd2, off2, rfl, hR2⟩ := HB2.out.row he
        rw [List.drop_drop] at hR2
        rw [List.length_drop, HZ.out] at hd2
        have HG2 : Hid (goR textR zs (N - (k + 1)) (d + X.done) (acc ++ [X.val]) = Y) := by
          have := goR_step HG.out hlt (by rw [← HX.out]; exact he)
          rw [← HX.out] at this
          exact this
        have hbs := hB.size
        have hbs2 := hB2.size
        have HO2 : Hid (Own 9 1 VS (w2.alloc (.cells #[.string X.val] 9)) w.heap.size u10 acc) := HO.out.old stays_s (hB2.alloc hbs2 _)
        have HBN : Hid ((w2.alloc (.cells #[.string X.val] 9)).heap[w2.heap.size]? = some (.cells [Value.string X.val].toArray 9 (0, 0))) := heap_alloc_new w2 _
        have HR2 : Hid (BRow w2 b off2 lr2 cr2 (zs.drop (d + X.done))) := hR2
        clear hR2
        rw [he]
        go_wp2_with (at_builtin; refine wpList_append_item rfl (.tmp 34) (.tmp 36) 26 rfl stays_s elem_s rfl HO2.out rfl HBN.out rfl ?c1 X.val rfl ?c2 ?c3 ?c4 ?c5 ?_)
        case c1 => intro u hu; simp at hu; subst hu; rfl
        case c2 => intro j k hj hk; obtain rfl : j = 0 := by omega
                   simp [Value.ownBlock] at hk
        case c3 => unfold maxLen; omega
        case c4 => omega
        case c5 => simp; omega
        intro v3 w3 ho3 hB3
        have HO3 : Hid (Own 9 1 VS w3 w.heap.size v3 (acc ++ [X.val])) := ho3
        have hB03 : Below w.heap.size w w3 := ((hB.trans (hB2.mono hbs)).alloc (by omega) _).trans hB3
        have HR3 : Hid (BRow w3 b off2 lr2 cr2 (zs.drop (d + X.done))) := (HR2.out.old (below_one w2 _)).below hB3 (fun _ => hb)
        clear ho3
        go_wp2_with fail
        go_roundw
        case rel => exact ⟨k + 1, d + X.done, off2, lr2, cr2, acc ++ [X.val], by omega, by go_num, rfl, HR3, by omega, HO3, by simp [hacc], HG2, hB03⟩
        case measure => simp [intOf]; omega
      · have t : (X.err == 0) = false := by simpa using he
        have HE := goR_stop HG.out hlt (by rw [← HX.out]; exact he)
        go_wp2_with fail
        go_ret3
        exact ⟨.slice none 0 0, none, 0, 0, by rw [HE, ← HX.out]; rfl, by rw [HE]; exact own_nil _ _ _ _ _, by rw [HE, ← HX.out]; exact .inl ⟨he, rfl⟩, hB.trans (hB2.mono hB.size)⟩
    · have HE := goR_end HG.out (by omega)
      have hd' := HZ.out
      go_wp2_with fail
      go_ret3
      exact ⟨_, _, _, _, by rw [HE]; rfl, by rw [HE]; exact HO, by rw [HE]; exact .inr ⟨rfl, (show d ≤ zs.length by omega), by omega, b, off, off', rfl, rfl, Nat.lt_of_lt_of_le hb hB.size, HR.out⟩, hB⟩

theorem getS_short (a : Option Addr) (len cap : Nat) (w : World) (hl : len < 2) :
    Calls Try.prog 86 #[.slice a len cap, .func (.func 87) #[] #[]] w fun e w' => e = .returned (.tuple #[.slice none 0 0, .slice none 0 0, .int .i64 10]) ∧ Below w.heap.size w w' := by
  go_enter Try.func86, Try.ntmps86
  go_wp2_with fail
  refine (bget_short a len cap 2 _ (by omega) (by omega) hl _ rfl).mono ?_
  rintro e w1 ⟨rfl, rfl⟩
  go_wp2_with fail
  go_ret3
  exact ⟨rfl, Below.refl _ _⟩

theorem getS_any {w : World} {a : Option Addr} {len cap : Nat} {zs : List Int} (h : IsB w a len cap zs) (hsm : len ≤ 140737488351232) {Y : Res (List ByteArray)} (hY : Y = listR textR zs) :
    Calls Try.prog 86 #[.slice a len cap, .func (.func 87) #[] #[]] w fun e w' => ∃ v r lr cr, e = .returned (.tuple #[v, .slice r lr cr, .int .i64 Y.err]) ∧
      Hid (Own 9 1 VS w' w.heap.size v Y.val) ∧ Hid (Behind w' a r lr cr zs Y.done Y.err) ∧ Below w.heap.size w w' := by
  obtain ⟨h1, h2, h3, h4, h5⟩ := h
  by_cases hl : len < 2
  · rw [listR, if_pos (by omega)] at hY
    subst hY
    refine (getS_short a len cap w hl).mono ?_
    rintro e w' ⟨rfl, hB⟩
    exact ⟨_, _, _, _, rfl, own_nil _ _ _ _ _, .inl ⟨(by decide : (10 : Int) ≠ 0), rfl⟩, hB⟩
  · obtain ⟨b, off, rfl, hR⟩ := h5 (by omega)
    exact getS_yes hR (hR.lt (by omega)) hsm (by omega) hY

set_option maxHeartbeats 400000 in
theorem getTexts_any {w : World} {a : Option Addr} {len cap : Nat} {zs : List Int} (h : IsB w a len cap zs) (hsm : len ≤ 140737488351232) {Y : Res (List ByteArray)} (hY : Y = listR textR zs) :
    Calls Try.prog 43 #[.slice a len cap] w fun e w' => ∃ v r lr cr, e = .returned (.tuple #[v, .slice r lr cr, .int .i64 Y.err]) ∧
      Hid (Own 9 1 VS w' w.heap.size v Y.val) ∧ Hid (Behind w' a r lr cr zs Y.done Y.err) ∧ Below w.heap.size w w' := by
  have H : Hid _ := h
  have HY : Hid _ := hY
  clear h hY
  go_enter Try.func43, Try.ntmps43
  go_wp2_with fail
  refine (getS_any H.out hsm HY.out).mono ?_
  rintro e w1 ⟨v, r, lr, cr, rfl, HO, HB, hB⟩
  go_wp2_with fail
  go_ret3
  exact ⟨v, r, lr, cr, rfl, HO, HB, hB⟩
end Go.Proofs.Ytcecdklgiocbaaa
