/-
  The contract of maps.GetMultis.
-/
import Derived.Test.YtohgaeamfobcaaaGetP
namespace Go.Proofs.Ytohgaeamfobcaaa
open Go.RowKit
set_option linter.unusedVariables false
set_option linter.unusedSimpArgs false

theorem Fresh.old {base : Nat} {w W : World} {x : Option Addr} (h : Fresh base w x) (hs : w.heap.size ≤ W.heap.size) : Fresh base W x := fun p hp => ⟨(h p hp).1, Nat.lt_of_lt_of_le (h p hp).2 hs⟩
theorem Fresh.mono {base base' : Nat} {w : World} {x : Option Addr} (h : Fresh base w x) (hb : base' ≤ base) : Fresh base' w x := fun p hp => ⟨Nat.le_trans hb (h p hp).1, (h p hp).2⟩

/-- Two cells of one block are written: the others stay. -/
theorem two_far (w : World) (s : Nat) (u v : Value) : ∀ k, k < w.heap.size → some k ≠ some s → ((w.setCell ⟨s, 0, none⟩ u).setCell ⟨s, 1, none⟩ v).heap[k]? = w.heap[k]? := by
  intro k hk hne
  rw [Below.heap_setCell _ _ _ _ (by simpa using hne), Below.heap_setCell _ _ _ _ (by simpa using hne)]

theorem Fresh.far {base : Nat} {w : World} {x : Option Addr} {l c s : Nat} (h : Fresh base w x) (hs : s < base) : ∀ k, (Value.slice x l c).ownBlock = some k → some s ≠ some k := by
  intro k hk e
  cases x with
  | none => simp [Value.ownBlock] at hk
  | some p =>
    simp [Value.ownBlock] at hk
    have := (h p rfl).1
    cases e
    omega

theorem fresh_block {H base base0 : Nat} {w : World} {v : Value} (s : ByteArray) {x : Option Addr} {l c : Nat} (hb0 : base0 ≤ base) (hF : Fresh base w x) (hH : w.heap.size ≤ H) (hv : ∀ k, v.ownBlock = some k → k < base) :
    ∀ j k, j < 2 → ([Value.string s, Value.slice x l c].getD j default).ownBlock = some k → k < H ∧ v.ownBlock ≠ some k ∧ base0 ≤ k := by
  intro j k hj hk
  match j, hj with
  | 0, _ => simp [Value.ownBlock] at hk
  | 1, _ =>
    cases x with
    | none => simp [Value.ownBlock] at hk
    | some p =>
      simp [Value.ownBlock] at hk
      have := hF p rfl
      refine ⟨by omega, fun e => ?_, by omega⟩
      have := hv k e
      omega

set_option maxHeartbeats 1000000 in
theorem getKeyedM {w : World} {a : Option Addr} {len cap : Nat} {zs : List Int} (h : IsB w a len cap zs) (hsm : len ≤ 140737488351232) {Y : Res (ByteArray × List ByteArray)} (hY : Y = keyR (listR textR) zs) :
    Calls Try.prog 49 #[.slice a len cap, .func (.func 14) #[] #[]] w fun e w' => ∃ x lx cx r lr cr, e = .returned (.tuple #[.string Y.val.1, .slice x lx cx, .slice r lr cr, .int .i64 Y.err]) ∧ Hid (View 1 VS w' x lx cx Y.val.2) ∧ Hid (Fresh w.heap.size w' x) ∧ Hid (Behind w' a r lr cr zs Y.done Y.err) ∧ Below w.heap.size w w' := by
  have H : Hid _ := h
  have HY : Hid _ := hY
  have hzl : zs.length = len := h.1
  obtain ⟨X, hX⟩ : ∃ X, X = textR zs := ⟨_, rfl⟩
  obtain ⟨X2, hX2⟩ : ∃ X2, X2 = listR textR (zs.drop X.done) := ⟨_, rfl⟩
  have HX : Hid _ := hX
  have HX2 : Hid _ := hX2
  have HZ : Hid _ := hzl
  clear h hY hX hX2 hzl
  go_enter Try.func49, Try.ntmps49
  go_wp2_with fail
  refine (getText_r H.out hsm HX.out).mono ?_
  rintro e w1 ⟨r1, lr1, cr1, rfl, HB1, hB1⟩
  by_cases he : X.err = 0
  · obtain ⟨hd, hI, hl1⟩ := HB1.out.part he
    have HI : Hid (IsB _ _ _ _ _) := hI
    have HL1 : Hid (lr1 ≤ 140737488351232) := by
      show _ ≤ _
      rw [HZ.out] at hl1; omega
    clear hd hI hl1
    rw [he]
    go_wp2_with fail
    refine (getTexts_any HI.out HL1.out HX2.out).mono ?_
    rintro e w2 ⟨v2, r2, lr2, cr2, rfl, HO2, HB2, hB2⟩
    obtain ⟨x2, cx2, rfl, hV2, hF2⟩ := HO2.out.view
    have HV2 : Hid (View 1 VS w2 x2 X2.val.length cx2 X2.val) := hV2
    have HF2 : Hid (Fresh w.heap.size w2 x2) := hF2.mono hB1.size
    clear hV2 hF2 HO2
    by_cases he2 : X2.err = 0
    · have HJ : Hid (Behind w2 a r2 lr2 cr2 zs (X.done + X2.done) 0) := HB1.out.join he HB2.out he2
      rw [he2]
      go_wp2_with fail
      have HE := keyR_both HY.out HX.out he HX2.out he2
      exact bodyPost_ret (v := .tuple #[.string X.val, .slice x2 X2.val.length cx2, .slice r2 lr2 cr2, .int .i64 0]) (by simp [results, Try.results49, go_sem]) rfl ⟨x2, _, cx2, r2, lr2, cr2, by rw [HE], by rw [HE]; exact HV2, HF2, by rw [HE]; exact HJ, hB1.trans (hB2.mono hB1.size)⟩
    · have t : (X2.err == 0) = false := by simpa using he2
      have HE2 : Hid (X2.err ≠ 0) := he2
      clear he2
      go_wp2_with fail
      have HE := keyR_part HY.out HX.out he HX2.out HE2.out
      exact bodyPost_ret (v := .tuple #[.string ⟨#[]⟩, .slice none 0 0, .slice none 0 0, .int .i64 X2.err]) (by simp [results, Try.results49, go_sem]) rfl ⟨none, 0, 0, none, 0, 0, by rw [HE]; rfl, by rw [HE]; exact view_nil _ _ _, Fresh.none, by rw [HE]; exact .inl ⟨HE2.out, rfl⟩, hB1.trans (hB2.mono hB1.size)⟩
  · have t : (X.err == 0) = false := by simpa using he
    have HE1 : Hid (X.err ≠ 0) := he
    clear he
    go_wp2_with fail
    have HE := keyR_key HY.out HX.out HE1.out
    exact bodyPost_ret (v := .tuple #[.string ⟨#[]⟩, .slice none 0 0, .slice none 0 0, .int .i64 X.err]) (by simp [results, Try.results49, go_sem]) rfl ⟨none, 0, 0, none, 0, 0, by rw [HE]; rfl, by rw [HE]; exact view_nil _ _ _, Fresh.none, by rw [HE]; exact .inl ⟨HE1.out, rfl⟩, hB1⟩

set_option maxHeartbeats 1000000 in
theorem getItemM {w : World} {a : Option Addr} {len cap : Nat} {zs : List Int} (h : IsB w a len cap zs) (hsm : len ≤ 140737488351232) {Y : Res (ByteArray × List ByteArray)} (hY : Y = keyR (listR textR) zs) :
    Calls Try.prog 48 #[.slice a len cap] w fun e w' => ∃ x lx cx r lr cr, e = .returned (.tuple #[.agg #[.string Y.val.1, .slice x lx cx], .slice r lr cr, .int .i64 Y.err]) ∧ Hid (View 1 VS w' x lx cx Y.val.2) ∧ Hid (Fresh w.heap.size w' x) ∧ Hid (Behind w' a r lr cr zs Y.done Y.err) ∧ Below w.heap.size w w' := by
  have H : Hid (IsB _ _ _ _ _) := h
  have HY : Hid _ := hY
  clear h hY
  go_enter Try.func48, Try.ntmps48
  go_wp2_with fail
  refine (getKeyedM (H.out.old (below_one _ _)) hsm HY.out).mono ?_
  rintro e w1 ⟨x, lx, cx, r, lr, cr, rfl, HV, HF, HB, hB⟩
  have HF' : Hid (Fresh (w.heap.size + 1) w1 x) := by
        show Fresh _ _ _
        have := HF.out; simpa using this
  clear HF
  obtain ⟨hc, hf⟩ := bcell hB
  have hs : w.heap.size < w1.heap.size := by have := hB.size; simp at this; omega
  go_wp2_with fail
  exact bodyPost_ret (v := .tuple #[.agg #[.string Y.val.1, .slice x lx cx], .slice r lr cr, .int .i64 Y.err]) (by simp [results, Try.results48, go_sem, hc, hs]) rfl
    ⟨x, lx, cx, r, lr, cr, rfl, strs_stay HV.out (two_far _ _ _ _) (by simp) (HF'.out.far (by omega)), (HF'.out.mono (by omega)).old (by simp), HB.out.below (below_on _ _ _ _) H.out.lt, below_two hB _ _⟩
set_option maxHeartbeats 1000000 in
theorem getM_yes {w : World} {b off len cap : Nat} {zs : List Int} (h : BRow w b off len cap zs) (hb : b < w.heap.size) (hsm : len ≤ 140737488351232) (hl : 2 ≤ len) {Y : Res (List (ByteArray × List ByteArray))} (hY : Y = listR (keyR (listR textR)) zs) :
    Calls Try.prog 47 #[.slice (some ⟨b, off, none⟩) len cap, .func (.func 48) #[] #[]] w fun e w' => ∃ v r lr cr, e = .returned (.tuple #[v, .slice r lr cr, .int .i64 Y.err]) ∧
      Hid (Own 45 2 VM w' w.heap.size v Y.val) ∧ Hid (Behind w' (some ⟨b, off, none⟩) r lr cr zs Y.done Y.err) ∧ Below w.heap.size w w' := by
  have hz := h.len_eq
  obtain ⟨N, hN⟩ := Int.eq_ofNat_of_zero_le (numTo_bound zs h.rng 2 (by omega)).1
  have hN2 := (numTo_bound zs h.rng 2 (by omega)).2
  rw [hN] at hN2
  have hN3 : N < 65536 := by have h4 : (256 : Int) ^ 2 = 65536 := by decide
                             omega
  have HL : Hid (Y = goR (keyR (listR textR)) zs N 2 []) := by
    show _ = _
    rw [hY, listR, if_neg (by omega), hN, Int.toNat_natCast]
  have H : Hid (BRow w b off len cap zs) := h
  have HN : Hid (numTo zs 2 = N) := hN
  have HZ : Hid (zs.length = len) := hz
  clear h hN hN2 hz hY
  go_enter Try.func47, Try.ntmps47
  go_wp2_with fail
  refine (bget H.out 2 (by omega) (by omega) hl _ rfl).mono ?_
  rintro e w1 ⟨off1, rfl, hR1, hB1⟩
  rw [HN.out]
  have HR1 : Hid (BRow _ _ _ _ _ _) := hR1
  clear hR1
  go_wp2_with fail
  go_loopw [8, 10, 22] (fun r l i wr => ∃ k d off lr cr acc, k ≤ N ∧ i = .int .u64 k ∧ r = .slice (some ⟨b, off, none⟩) lr cr ∧ Hid (BRow wr b off lr cr (zs.drop d)) ∧ d ≤ len ∧ Hid (Own 45 2 VM wr w.heap.size l acc) ∧ acc.length = k ∧
      Hid (goR (keyR (listR textR)) zs (N - k) d acc = Y) ∧ Below w.heap.size w wr) (fun _ _ i _ => N - (intOf i).toNat)
  case atStart => exact ⟨0, 2, off1, _, _, [], by omega, rfl, rfl, HR1, hl, own_nil _ _ _ _ _, rfl, HL.out.symm, hB1⟩
  case round =>
    obtain ⟨k, d, off', lr, cr, acc, hk, rfl, rfl, HR, hd, HO, hacc, HG, hB⟩ := hrel
    by_cases hlt : k < N
    · have HLR : Hid (lr ≤ 140737488351232) := by
        show _ ≤ _
        rw [HR.out.len_le, List.length_drop, HZ.out]; omega
      obtain ⟨X, hX⟩ : ∃ X, X = keyR (listR textR) (zs.drop d) := ⟨_, rfl⟩
      have HX : Hid _ := hX
      clear hX
      have hbs := hB.size
      go_wp2_with fail
      refine (getItemM (HR.out.isB.old (below_one _ _)) HLR.out HX.out).mono ?_
      rintro e w2 ⟨x, lx, cx, r2, lr2, cr2, rfl, HV, HF, HB2, hB2⟩
      have HF' : Hid (Fresh (wr.heap.size + 1) w2 x) := by
        show Fresh _ _ _
        have := HF.out; simpa using this
      clear HF
      obtain ⟨hc, hf⟩ := bcell hB2
      have hs2 : wr.heap.size < w2.heap.size := by have := hB2.size; simp at this; omega
      by_cases he : X.err = 0
      · obtain ⟨hd2, off2, rfl, hR2⟩ := HB2.out.row he
        rw [List.drop_drop] at hR2
        rw [List.length_drop, HZ.out] at hd2
        have HG2 : Hid (goR (keyR (listR textR)) zs (N - (k + 1)) (d + X.done) (acc ++ [X.val]) = Y) := by
          have := goR_step HG.out hlt (by rw [← HX.out]; exact he)
          rw [← HX.out] at this
          exact this
        obtain ⟨w4, hw4⟩ : ∃ w4, w4 = (w2.setCell ⟨wr.heap.size, 0, none⟩ (.string X.val.1)).setCell ⟨wr.heap.size, 1, none⟩ (.slice x lx cx) := ⟨_, rfl⟩
        have hB4 : Below wr.heap.size wr w4 := by rw [hw4]; exact below_two hB2 _ _
        have hs4 : w4.heap.size = w2.heap.size := by rw [hw4]; simp
        have HO2 : Hid (Own 45 2 VM (w4.alloc (.cells #[.string X.val.1, .slice x lx cx] 45)) w.heap.size u10 acc) := HO.out.old stays_m (hB4.alloc hB4.size _)
        have HBN : Hid ((w4.alloc (.cells #[.string X.val.1, .slice x lx cx] 45)).heap[w2.heap.size]? = some (.cells [Value.string X.val.1, Value.slice x lx cx].toArray 45 (0, 0))) := by
          rw [← hs4]; exact heap_alloc_new w4 _
        have HB4 : Hid (Below wr.heap.size wr w4) := hB4
        have HS4 : Hid (w4.heap.size = w2.heap.size) := hs4
        have HR2 : Hid (BRow w4 b off2 lr2 cr2 (zs.drop (d + X.done))) := by rw [hw4]; exact hR2.below (below_on _ _ _ _) (fun _ => Nat.lt_of_lt_of_le hb hbs)
        have HV4 : Hid (VM (w4.alloc (.cells #[.string X.val.1, .slice x lx cx] 45)) X.val (fun j => [Value.string X.val.1, Value.slice x lx cx].getD j default)) := by
          refine ⟨rfl, x, lx, cx, rfl, View.old stays_s ?_ (below_one w4 _)⟩
          rw [hw4]; exact strs_stay HV.out (two_far _ _ _ _) (by simp) (HF'.out.far (by omega))
        have HF4 : Hid (∀ k, u10.ownBlock = some k → k < wr.heap.size + 1) := fun k hk => by have := (HO.out.lt k hk).2; omega
        clear hR2 hB4 hs4
        rw [hw4] at HO2 HBN HV4
        rw [he]
        go_wp2_with (at_builtin; refine wpList_append_item rfl (.tmp 34) (.tmp 36) 43 rfl stays_m elem_m rfl HO2.out rfl HBN.out rfl ?c1 X.val HV4.out ?c2 ?c3 ?c4 ?c5 ?_)
        case c1 => intro u hu; simp at hu; rcases hu with rfl | rfl <;> rfl
        case c2 => exact fresh_block _ (by omega) HF'.out (by simp) HF4.out
        case c3 => unfold maxLen; omega
        case c4 => omega
        case c5 => simp; omega
        intro v3 w3 ho3 hB3
        rw [← hw4] at hB3
        have HO3 : Hid (Own 45 2 VM w3 w.heap.size v3 (acc ++ [X.val])) := ho3
        have hs4 := HS4.out
        have hB03 : Below w.heap.size w w3 := ((hB.trans (HB4.out.mono hbs)).alloc (by omega) _).trans hB3
        have HR3 : Hid (BRow w3 b off2 lr2 cr2 (zs.drop (d + X.done))) := (HR2.out.old (below_one w4 _)).below hB3 (fun _ => hb)
        clear ho3 hs4
        go_wp2_with fail
        go_roundw
        case rel => exact ⟨k + 1, d + X.done, off2, lr2, cr2, acc ++ [X.val], by omega, by go_num, rfl, HR3, by omega, HO3, by simp [hacc], HG2, hB03⟩
        case measure => simp [intOf]; omega
      · have t : (X.err == 0) = false := by simpa using he
        have HE := goR_stop HG.out hlt (by rw [← HX.out]; exact he)
        go_wp2_with fail
        go_ret3
        exact ⟨.slice none 0 0, none, 0, 0, by rw [HE, ← HX.out]; rfl, by rw [HE]; exact own_nil _ _ _ _ _, by rw [HE, ← HX.out]; exact .inl ⟨he, rfl⟩, hB.trans ((below_two hB2 _ _).mono hB.size)⟩
    · have HE := goR_end HG.out (by omega)
      have hd' := HZ.out
      go_wp2_with fail
      go_ret3
      exact ⟨_, _, _, _, by rw [HE]; rfl, by rw [HE]; exact HO, by rw [HE]; exact .inr ⟨rfl, (show d ≤ zs.length by omega), by omega, b, off, off', rfl, rfl, Nat.lt_of_lt_of_le hb hB.size, HR.out⟩, hB⟩

theorem getM_short (a : Option Addr) (len cap : Nat) (w : World) (hl : len < 2) :
    Calls Try.prog 47 #[.slice a len cap, .func (.func 48) #[] #[]] w fun e w' => e = .returned (.tuple #[.slice none 0 0, .slice none 0 0, .int .i64 10]) ∧ Below w.heap.size w w' := by
  go_enter Try.func47, Try.ntmps47
  go_wp2_with fail
  refine (bget_short a len cap 2 _ (by omega) (by omega) hl _ rfl).mono ?_
  rintro e w1 ⟨rfl, rfl⟩
  go_wp2_with fail
  go_ret3
  exact ⟨rfl, Below.refl _ _⟩

theorem getM_any {w : World} {a : Option Addr} {len cap : Nat} {zs : List Int} (h : IsB w a len cap zs) (hsm : len ≤ 140737488351232) {Y : Res (List (ByteArray × List ByteArray))} (hY : Y = listR (keyR (listR textR)) zs) :
    Calls Try.prog 47 #[.slice a len cap, .func (.func 48) #[] #[]] w fun e w' => ∃ v r lr cr, e = .returned (.tuple #[v, .slice r lr cr, .int .i64 Y.err]) ∧
      Hid (Own 45 2 VM w' w.heap.size v Y.val) ∧ Hid (Behind w' a r lr cr zs Y.done Y.err) ∧ Below w.heap.size w w' := by
  obtain ⟨h1, h2, h3, h4, h5⟩ := h
  by_cases hl : len < 2
  · rw [listR, if_pos (by omega)] at hY
    subst hY
    refine (getM_short a len cap w hl).mono ?_
    rintro e w' ⟨rfl, hB⟩
    exact ⟨_, _, _, _, rfl, own_nil _ _ _ _ _, .inl ⟨(by decide : (10 : Int) ≠ 0), rfl⟩, hB⟩
  · obtain ⟨b, off, rfl, hR⟩ := h5 (by omega)
    exact getM_yes hR (hR.lt (by omega)) hsm (by omega) hY

set_option maxHeartbeats 400000 in
theorem getMultis_any {w : World} {a : Option Addr} {len cap : Nat} {zs : List Int} (h : IsB w a len cap zs) (hsm : len ≤ 140737488351232) {Y : Res (List (ByteArray × List ByteArray))} (hY : Y = listR (keyR (listR textR)) zs) :
    Calls Try.prog 22 #[.slice a len cap] w fun e w' => ∃ v r lr cr, e = .returned (.tuple #[v, .slice r lr cr, .int .i64 Y.err]) ∧
      Hid (Own 45 2 VM w' w.heap.size v Y.val) ∧ Hid (Behind w' a r lr cr zs Y.done Y.err) ∧ Below w.heap.size w w' := by
  have H : Hid _ := h
  have HY : Hid _ := hY
  clear h hY
  go_enter Try.func22, Try.ntmps22
  go_wp2_with fail
  refine (getM_any H.out hsm HY.out).mono ?_
  rintro e w1 ⟨v, r, lr, cr, rfl, HO, HB, hB⟩
  go_wp2_with fail
  go_ret3
  exact ⟨v, r, lr, cr, rfl, HO, HB, hB⟩
end Go.Proofs.Ytohgaeamfobcaaa
