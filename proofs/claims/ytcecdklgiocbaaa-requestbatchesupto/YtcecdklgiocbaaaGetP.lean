/-
  The contract of maps.GetPairs.
-/
import Derived.Test.YtcecdklgiocbaaaGetS
namespace Go.Proofs.Ytcecdklgiocbaaa
open Go.RowKit
set_option maxRecDepth 100000
set_option linter.unusedVariables false
set_option linter.unusedSimpArgs false

theorem Behind.part {w : World} {a r : Option Addr} {lr cr : Nat} {zs : List Int} {d : Nat} {er : Int} (h : Behind w a r lr cr zs d er) (he : er = 0) : d ≤ zs.length ∧ IsB w r lr cr (zs.drop d) ∧ lr ≤ zs.length := by
  rcases h with ⟨h, _⟩ | ⟨_, h1, _, b, o, off, rfl, rfl, _, hR⟩
  · exact absurd he h
  · refine ⟨h1, hR.isB, ?_⟩
    have := hR.len_eq
    rw [List.length_drop] at this
    omega

theorem Behind.join {w W : World} {a r r2 : Option Addr} {lr cr l2 c2 : Nat} {zs : List Int} {d d2 : Nat} {er e2 : Int} (h : Behind w a r lr cr zs d er) (he : er = 0) (h2 : Behind W r r2 l2 c2 (zs.drop d) d2 e2) (he2 : e2 = 0) :
    Behind W a r2 l2 c2 zs (d + d2) 0 := by
  rcases h with ⟨h, _⟩ | ⟨_, h1, hp, b, o, off, rfl, rfl, _, hR⟩
  · exact absurd he h
  rcases h2 with ⟨h, _⟩ | ⟨_, h3, _, b', o', off', hb, rfl, hlt, hR'⟩
  · exact absurd he2 h
  cases hb
  rw [List.drop_drop] at hR'
  rw [List.length_drop] at h3
  exact .inr ⟨rfl, by omega, hp, b, o, off', rfl, rfl, hlt, hR'⟩

theorem Behind.below {w W : World} {a r : Option Addr} {lr cr : Nat} {zs : List Int} {d : Nat} {er : Int} {B : Nat} (h : Behind w a r lr cr zs d er) (hB : Below B w W) (hb : ∀ p, a = some p → 0 < zs.length → p.block < B) : Behind W a r lr cr zs d er := by
  rcases h with h | ⟨h1, h2, h3, b, o, off, h0, h4, h5, h6⟩
  · exact .inl h
  · exact .inr ⟨h1, h2, h3, b, o, off, h0, h4, Nat.lt_of_lt_of_le h5 hB.size, h6.below hB (fun _ => hb _ h0 h3)⟩

theorem IsB.lt {w : World} {a : Option Addr} {len cap : Nat} {zs : List Int} (h : IsB w a len cap zs) : ∀ p, a = some p → 0 < zs.length → p.block < w.heap.size := by
  obtain ⟨h1, h2, h3, h4, h5⟩ := h
  intro p hp hl
  obtain ⟨b, off, ha, hR⟩ := h5 (by omega)
  rw [ha] at hp
  cases hp
  exact hR.lt (by omega)

theorem keyR_key {α : Type} [Inhabited α] {q : List Int → Res α} {zs : List Int} {Y : Res (ByteArray × α)} (hY : Y = keyR q zs) {X : Res ByteArray} (hX : X = textR zs) (he : X.err ≠ 0) : Y = ⟨(ByteArray.empty, default), 0, X.err⟩ := by
  subst hX; rw [hY, keyR, if_neg he]
theorem keyR_part {α : Type} [Inhabited α] {q : List Int → Res α} {zs : List Int} {Y : Res (ByteArray × α)} (hY : Y = keyR q zs) {X : Res ByteArray} (hX : X = textR zs) (he : X.err = 0) {X2 : Res α} (hX2 : X2 = q (zs.drop X.done)) (he2 : X2.err ≠ 0) : Y = ⟨(ByteArray.empty, default), 0, X2.err⟩ := by
  subst hX; subst hX2; rw [hY, keyR, if_pos he, if_neg he2]
theorem keyR_both {α : Type} [Inhabited α] {q : List Int → Res α} {zs : List Int} {Y : Res (ByteArray × α)} (hY : Y = keyR q zs) {X : Res ByteArray} (hX : X = textR zs) (he : X.err = 0) {X2 : Res α} (hX2 : X2 = q (zs.drop X.done)) (he2 : X2.err = 0) : Y = ⟨(X.val, X2.val), X.done + X2.done, 0⟩ := by
  subst hX; subst hX2; rw [hY, keyR, if_pos he, if_pos he2]

set_option maxHeartbeats 1000000 in
theorem getKeyedP {w : World} {a : Option Addr} {len cap : Nat} {zs : List Int} (h : IsB w a len cap zs) (hsm : len ≤ 140737488351232) {Y : Res (ByteArray × ByteArray)} (hY : Y = keyR textR zs) :
    Calls Try.prog 74 #[.slice a len cap, .func (.func 75) #[] #[]] w fun e w' => ∃ r lr cr, e = .returned (.tuple #[.string Y.val.1, .string Y.val.2, .slice r lr cr, .int .i64 Y.err]) ∧ Hid (Behind w' a r lr cr zs Y.done Y.err) ∧ Below w.heap.size w w' := by
  have H : Hid _ := h
  have HY : Hid _ := hY
  have hzl : zs.length = len := h.1
  obtain ⟨X, hX⟩ : ∃ X, X = textR zs := ⟨_, rfl⟩
  obtain ⟨X2, hX2⟩ : ∃ X2, X2 = textR (zs.drop X.done) := ⟨_, rfl⟩
  have HX : Hid _ := hX
  have HX2 : Hid _ := hX2
  have HZ : Hid _ := hzl
  clear h hY hX hX2 hzl
  go_enter Try.func74, Try.ntmps74
  go_wp2_with fail
  refine (getText_r H.out hsm HX.out).mono ?_
  rintro e w1 ⟨r1, lr1, cr1, rfl, HB1, hB1⟩
  by_cases he : X.err = 0
  · obtain ⟨hd, hI, hl1⟩ := HB1.out.part he
    have HI : Hid (IsB _ _ _ _ _) := hI
    have HL1 : Hid (lr1 ≤ 140737488351232) := by
      show _ ≤ _
      rw [HZ.out] at hl1; omega
    clear hd hI hl1
    rw [he]
    go_wp2_with fail
    refine (getText_r HI.out HL1.out HX2.out).mono ?_
    rintro e w2 ⟨r2, lr2, cr2, rfl, HB2, hB2⟩
    by_cases he2 : X2.err = 0
    · have HJ : Hid (Behind w2 a r2 lr2 cr2 zs (X.done + X2.done) 0) := HB1.out.join he HB2.out he2
      rw [he2]
      go_wp2_with fail
      have HE := keyR_both HY.out HX.out he HX2.out he2
      exact bodyPost_ret (v := .tuple #[.string X.val, .string X2.val, .slice r2 lr2 cr2, .int .i64 0]) (by simp [results, Try.results74, go_sem]) rfl ⟨r2, lr2, cr2, by rw [HE], by rw [HE]; exact HJ, hB1.trans (hB2.mono hB1.size)⟩
    · have t : (X2.err == 0) = false := by simpa using he2
      have HE2 : Hid (X2.err ≠ 0) := he2
      clear he2
      go_wp2_with fail
      have HE := keyR_part HY.out HX.out he HX2.out HE2.out
      exact bodyPost_ret (v := .tuple #[.string ⟨#[]⟩, .string ⟨#[]⟩, .slice none 0 0, .int .i64 X2.err]) (by simp [results, Try.results74, go_sem]) rfl ⟨none, 0, 0, by rw [HE]; rfl, by rw [HE]; exact .inl ⟨HE2.out, rfl⟩, hB1.trans (hB2.mono hB1.size)⟩
  · have t : (X.err == 0) = false := by simpa using he
    have HE1 : Hid (X.err ≠ 0) := he
    clear he
    go_wp2_with fail
    have HE := keyR_key HY.out HX.out HE1.out
    exact bodyPost_ret (v := .tuple #[.string ⟨#[]⟩, .string ⟨#[]⟩, .slice none 0 0, .int .i64 X.err]) (by simp [results, Try.results74, go_sem]) rfl ⟨none, 0, 0, by rw [HE]; rfl, by rw [HE]; exact .inl ⟨HE1.out, rfl⟩, hB1⟩

set_option maxHeartbeats 1000000 in
theorem getItemP {w : World} {a : Option Addr} {len cap : Nat} {zs : List Int} (h : IsB w a len cap zs) (hsm : len ≤ 140737488351232) {Y : Res (ByteArray × ByteArray)} (hY : Y = keyR textR zs) :
    Calls Try.prog 73 #[.slice a len cap] w fun e w' => ∃ r lr cr, e = .returned (.tuple #[.agg #[.string Y.val.1, .string Y.val.2], .slice r lr cr, .int .i64 Y.err]) ∧ Hid (Behind w' a r lr cr zs Y.done Y.err) ∧ Below w.heap.size w w' := by
  have H : Hid (IsB _ _ _ _ _) := h
  have HY : Hid _ := hY
  clear h hY
  go_enter Try.func73, Try.ntmps73
  go_wp2_with fail
  refine (getKeyedP (H.out.old (below_one _ _)) hsm HY.out).mono ?_
  rintro e w1 ⟨r, lr, cr, rfl, HB, hB⟩
  obtain ⟨hc, hf⟩ := bcell hB
  have hs : w.heap.size < w1.heap.size := by have := hB.size; simp at this; omega
  go_wp2_with fail
  exact bodyPost_ret (v := .tuple #[.agg #[.string Y.val.1, .string Y.val.2], .slice r lr cr, .int .i64 Y.err]) (by simp [results, Try.results73, go_sem, hc, hs]) rfl
    ⟨r, lr, cr, rfl, HB.out.below (below_on _ _ _ _) H.out.lt, below_two hB _ _⟩
theorem no_block2 {H base : Nat} {v : Value} (s u : ByteArray) : ∀ j k, j < 2 → ([Value.string s, Value.string u].getD j default).ownBlock = some k → k < H ∧ v.ownBlock ≠ some k ∧ base ≤ k := by
  intro j k hj hk
  match j, hj with
  | 0, _ => simp [Value.ownBlock] at hk
  | 1, _ => simp [Value.ownBlock] at hk

set_option maxHeartbeats 1000000 in
theorem getP_yes {w : World} {b off len cap : Nat} {zs : List Int} (h : BRow w b off len cap zs) (hb : b < w.heap.size) (hsm : len ≤ 140737488351232) (hl : 2 ≤ len) {Y : Res (List (ByteArray × ByteArray))} (hY : Y = listR (keyR textR) zs) :
    Calls Try.prog 72 #[.slice (some ⟨b, off, none⟩) len cap, .func (.func 73) #[] #[]] w fun e w' => ∃ v r lr cr, e = .returned (.tuple #[v, .slice r lr cr, .int .i64 Y.err]) ∧
      Hid (Own 87 2 VP w' w.heap.size v Y.val) ∧ Hid (Behind w' (some ⟨b, off, none⟩) r lr cr zs Y.done Y.err) ∧ Below w.heap.size w w' := by
  have hz := h.len_eq
  obtain ⟨N, hN⟩ := Int.eq_ofNat_of_zero_le (numTo_bound zs h.rng 2 (by omega)).1
  have hN2 := (numTo_bound zs h.rng 2 (by omega)).2
  rw [hN] at hN2
  have hN3 : N < 65536 := by have h4 : (256 : Int) ^ 2 = 65536 := by decide
                             omega
  have HL : Hid (Y = goR (keyR textR) zs N 2 []) := by
    show _ = _
    rw [hY, listR, if_neg (by omega), hN, Int.toNat_natCast]
  have H : Hid (BRow w b off len cap zs) := h
  have HN : Hid (numTo zs 2 = N) := hN
  have HZ : Hid (zs.length = len) := hz
  clear h hN hN2 hz hY
  go_enter Try.func72, Try.ntmps72
  go_wp2_with fail
  refine (bget H.out 2 (by omega) (by omega) hl _ rfl).mono ?_
  rintro e w1 ⟨off1, rfl, hR1, hB1⟩
  rw [HN.out]
  have HR1 : Hid (BRow _ _ _ _ _ _) := hR1
  clear hR1
  go_wp2_with fail
  go_loopw [8, 10, 22] (fun r l i wr => ∃ k d off lr cr acc, k ≤ N ∧ i = .int .u64 k ∧ r = .slice (some ⟨b, off, none⟩) lr cr ∧ Hid (BRow wr b off lr cr (zs.drop d)) ∧ d ≤ len ∧ Hid (Own 87 2 VP wr w.heap.size l acc) ∧ acc.length = k ∧
      Hid (goR (keyR textR) zs (N - k) d acc = Y) ∧ Below w.heap.size w wr) (fun _ _ i _ => N - (intOf i).toNat)
  case atStart => exact ⟨0, 2, off1, _, _, [], by omega, rfl, rfl, HR1, hl, own_nil _ _ _ _ _, rfl, HL.out.symm, hB1⟩
  case round =>
    obtain ⟨k, d, off', lr, cr, acc, hk, rfl, rfl, HR, hd, HO, hacc, HG, hB⟩ := hrel
    by_cases hlt : k < N
    · have HLR : Hid (lr ≤ 140737488351232) := by
        show _ ≤ _
        rw [HR.out.len_le, List.length_drop, HZ.out]; omega
      obtain ⟨X, hX⟩ : ∃ X, X = keyR textR (zs.drop d) := ⟨_, rfl⟩
      have HX : Hid _ := hX
      clear hX
      have hbs := hB.size
      go_wp2_with fail
      refine (getItemP (HR.out.isB.old (below_one _ _)) HLR.out HX.out).mono ?_
      rintro e w2 ⟨r2, lr2, cr2, rfl, HB2, hB2⟩
      obtain ⟨hc, hf⟩ := bcell hB2
      have hs2 : wr.heap.size < w2.heap.size := by have := hB2.size; simp at this; omega
      by_cases he : X.err = 0
      · obtain ⟨hd2, off2, rfl, hR2⟩ := HB2.out.row he
        rw [List.drop_drop] at hR2
        rw [List.length_drop, HZ.out] at hd2
        have HG2 : Hid (goR (keyR textR) zs (N - (k + 1)) (d + X.done) (acc ++ [X.val]) = Y) := by
          have := goR_step HG.out hlt (by rw [← HX.out]; exact he)
          rw [← HX.out] at this
          exact this
        obtain ⟨w4, hw4⟩ : ∃ w4, w4 = (w2.setCell ⟨wr.heap.size, 0, none⟩ (.string X.val.1)).setCell ⟨wr.heap.size, 1, none⟩ (.string X.val.2) := ⟨_, rfl⟩
        have hB4 : Below wr.heap.size wr w4 := by rw [hw4]; exact below_two hB2 _ _
        have hs4 : w4.heap.size = w2.heap.size := by rw [hw4]; simp
        have HO2 : Hid (Own 87 2 VP (w4.alloc (.cells #[.string X.val.1, .string X.val.2] 87)) w.heap.size u10 acc) := HO.out.old stays_p (hB4.alloc hB4.size _)
        have HBN : Hid ((w4.alloc (.cells #[.string X.val.1, .string X.val.2] 87)).heap[w2.heap.size]? = some (.cells [Value.string X.val.1, Value.string X.val.2].toArray 87 (0, 0))) := by
          rw [← hs4]; exact heap_alloc_new w4 _
        have HB4 : Hid (Below wr.heap.size wr w4) := hB4
        have HS4 : Hid (w4.heap.size = w2.heap.size) := hs4
        have HR2 : Hid (BRow w4 b off2 lr2 cr2 (zs.drop (d + X.done))) := by rw [hw4]; exact hR2.below (below_on _ _ _ _) (fun _ => Nat.lt_of_lt_of_le hb hbs)
        clear hR2 hB4 hs4
        rw [hw4] at HO2 HBN
        rw [he]
        go_wp2_with (at_builtin; refine wpList_append_item rfl (.tmp 34) (.tmp 36) 22 rfl stays_p elem_p rfl HO2.out rfl HBN.out rfl ?c1 X.val ⟨rfl, rfl⟩ ?c2 ?c3 ?c4 ?c5 ?_)
        case c1 => intro u hu; simp at hu; rcases hu with rfl | rfl <;> rfl
        case c2 => exact no_block2 _ _
        case c3 => unfold maxLen; omega
        case c4 => omega
        case c5 => simp; omega
        intro v3 w3 ho3 hB3
        rw [← hw4] at hB3
        have HO3 : Hid (Own 87 2 VP w3 w.heap.size v3 (acc ++ [X.val])) := ho3
        have hs4 := HS4.out
        have hB03 : Below w.heap.size w w3 := ((hB.trans (HB4.out.mono hbs)).alloc (by omega) _).trans hB3
        have HR3 : Hid (BRow w3 b off2 lr2 cr2 (zs.drop (d + X.done))) := (HR2.out.old (below_one w4 _)).below hB3 (fun _ => hb)
        clear ho3 hs4
        go_wp2_with fail
        go_roundw
        case rel => exact ⟨k + 1, d + X.done, off2, lr2, cr2, acc ++ [X.val], by omega, by go_num, rfl, HR3, by omega, HO3, by simp [hacc], HG2, hB03⟩
        case measure => simp [intOf]; omega
      · have t : (X.err == 0) = false := by simpa using he
        have HE := goR_stop HG.out hlt (by rw [← HX.out]; exact he)
        go_wp2_with fail
        go_ret3
        exact ⟨.slice none 0 0, none, 0, 0, by rw [HE, ← HX.out]; rfl, by rw [HE]; exact own_nil _ _ _ _ _, by rw [HE, ← HX.out]; exact .inl ⟨he, rfl⟩, hB.trans ((below_two hB2 _ _).mono hB.size)⟩
    · have HE := goR_end HG.out (by omega)
      have hd' := HZ.out
      go_wp2_with fail
      go_ret3
      exact ⟨_, _, _, _, by rw [HE]; rfl, by rw [HE]; exact HO, by rw [HE]; exact .inr ⟨rfl, (show d ≤ zs.length by omega), by omega, b, off, off', rfl, rfl, Nat.lt_of_lt_of_le hb hB.size, HR.out⟩, hB⟩

theorem getP_short (a : Option Addr) (len cap : Nat) (w : World) (hl : len < 2) :
    Calls Try.prog 72 #[.slice a len cap, .func (.func 73) #[] #[]] w fun e w' => e = .returned (.tuple #[.slice none 0 0, .slice none 0 0, .int .i64 10]) ∧ Below w.heap.size w w' := by
  go_enter Try.func72, Try.ntmps72
  go_wp2_with fail
  refine (bget_short a len cap 2 _ (by omega) (by omega) hl _ rfl).mono ?_
  rintro e w1 ⟨rfl, rfl⟩
  go_wp2_with fail
  go_ret3
  exact ⟨rfl, Below.refl _ _⟩

theorem getP_any {w : World} {a : Option Addr} {len cap : Nat} {zs : List Int} (h : IsB w a len cap zs) (hsm : len ≤ 140737488351232) {Y : Res (List (ByteArray × ByteArray))} (hY : Y = listR (keyR textR) zs) :
    Calls Try.prog 72 #[.slice a len cap, .func (.func 73) #[] #[]] w fun e w' => ∃ v r lr cr, e = .returned (.tuple #[v, .slice r lr cr, .int .i64 Y.err]) ∧
      Hid (Own 87 2 VP w' w.heap.size v Y.val) ∧ Hid (Behind w' a r lr cr zs Y.done Y.err) ∧ Below w.heap.size w w' := by
  obtain ⟨h1, h2, h3, h4, h5⟩ := h
  by_cases hl : len < 2
  · rw [listR, if_pos (by omega)] at hY
    subst hY
    refine (getP_short a len cap w hl).mono ?_
    rintro e w' ⟨rfl, hB⟩
    exact ⟨_, _, _, _, rfl, own_nil _ _ _ _ _, .inl ⟨(by decide : (10 : Int) ≠ 0), rfl⟩, hB⟩
  · obtain ⟨b, off, rfl, hR⟩ := h5 (by omega)
    exact getP_yes hR (hR.lt (by omega)) hsm (by omega) hY

set_option maxHeartbeats 400000 in
theorem getPairs_any {w : World} {a : Option Addr} {len cap : Nat} {zs : List Int} (h : IsB w a len cap zs) (hsm : len ≤ 140737488351232) {Y : Res (List (ByteArray × ByteArray))} (hY : Y = listR (keyR textR) zs) :
    Calls Try.prog 37 #[.slice a len cap] w fun e w' => ∃ v r lr cr, e = .returned (.tuple #[v, .slice r lr cr, .int .i64 Y.err]) ∧
      Hid (Own 87 2 VP w' w.heap.size v Y.val) ∧ Hid (Behind w' a r lr cr zs Y.done Y.err) ∧ Below w.heap.size w w' := by
  have H : Hid _ := h
  have HY : Hid _ := hY
  clear h hY
  go_enter Try.func37, Try.ntmps37
  go_wp2_with fail
  refine (getP_any H.out hsm HY.out).mono ?_
  rintro e w1 ⟨v, r, lr, cr, rfl, HO, HB, hB⟩
  go_wp2_with fail
  go_ret3
  exact ⟨v, r, lr, cr, rfl, HO, HB, hB⟩
end Go.Proofs.Ytcecdklgiocbaaa
