/-
  MapsBack walked: it answers true, and turns nothing that was there.
-/
import Derived.Test.YtohgaeamfobcaaaSame
import Derived.Test.YtohgaeamfobcaaaBackMath
namespace Go.Proofs.Ytohgaeamfobcaaa
open Go.RowKit
set_option linter.unusedVariables false
set_option linter.unusedSimpArgs false

theorem goB_err {α : Type} (f : α → List Int × Int) (xs : List α) : ∀ acc, (goB f xs acc).2 ≠ 0 → (goB f xs acc).1 = [] := by
  induction xs with
  | nil => intro acc h; exact absurd rfl h
  | cons x r ih =>
    intro acc h
    rw [goB] at h ⊢
    split
    · rename_i hx
      rw [if_pos hx] at h
      exact ih _ h
    · rfl

theorem listB_err {α : Type} (f : α → List Int × Int) (xs : List α) (h : (listB f xs).2 ≠ 0) : (listB f xs).1 = [] := by
  unfold listB at h ⊢
  split
  · rename_i hl
    rw [if_pos hl] at h
    exact goB_err f xs _ h
  · rfl

/-- append onto bytes that are owned: what is owned then, where it lies, what was written. -/
theorem append_bytes_run2 {w : World} {base : Nat} {v : Value} {n : Nat} {X : List Int} (hown : OwnB w base v n X) {xa : Option Addr} {len cap : Nat} {zs : List Int} (hB : IsB w xa len cap zs) (hbd : n + len ≤ 140737488355328) (hbase : base ≤ w.heap.size) (ty : TypeId) :
    ∃ v' w', (Builtin.append_ #[23, 23] ty #[v, .slice xa len cap]).run Try.prog w = .ok v' w' ∧ OwnB w' base v' (n + len) (X ++ zs) ∧ w.grownBy w' v.ownBlock ∧ (v'.ownBlock = v.ownBlock ∨ v'.ownBlock = some w.heap.size) := by
  obtain ⟨i0, hi, hz0, hz1, hz2⟩ := info_parts Try.info5
  cases xa with
  | none =>
    obtain ⟨h1, h2, h3, h4, h5⟩ := hB
    obtain ⟨rfl, rfl⟩ := h4 rfl
    obtain rfl : zs = [] := List.eq_nil_of_length_eq_zero h1
    refine ⟨v, w, run_append_owned_none (P := Try.prog) (w := w) base 23 ty 5 i0 1 Try.underlying23 hi v n _ hown, ?_, ⟨rfl, rfl, rfl, Nat.le_refl _, fun _ _ _ => rfl⟩, .inl rfl⟩
    rw [List.append_nil]; exact hown
  | some x =>
    have hl : (zs.map (Value.int .u8)).length = len * 1 := by rw [List.length_map, hB.1, Nat.mul_one]
    obtain ⟨v', w', hr, h2, h3, _, h5⟩ := run_append_own_at (P := Try.prog) w base 23 ty 5 i0 (.int .u8 0) 1 1 Try.underlying23 hi hz0 hz1 hz2 rfl (by decide) v n _ hown x len cap _ hl hB.news (bytes_one zs) (by unfold maxLen; omega) (by omega) hbase
    exact ⟨v', w', hr, OwnB.join h2 rfl, h3, h5⟩

theorem wpList_append_bytes2 {ops : Array Oper} {rest : List Oper} {o : Oper} {a : Act} {w : World} {Q : Exit → Act → World → Prop} (hgd : o.guard = none) (s x : Operand)
    (ho : o.op = .call { callee := .builtin .append, args := #[s, x], argTypes := #[23, 23] })
    {base : Nat} {v : Value} {n : Nat} {X : List Int} (hs : a.eval s = v) (hown : OwnB w base v n X) {xa : Option Addr} {len cap : Nat} {zs : List Int} (hx : a.eval x = .slice xa len cap) (hB : IsB w xa len cap zs) (hbd : n + len ≤ 140737488355328) (hbase : base ≤ w.heap.size)
    (h : ∀ v' w', OwnB w' base v' (n + len) (X ++ zs) → w.grownBy w' v.ownBlock → (v'.ownBlock = v.ownBlock ∨ v'.ownBlock = some w.heap.size) → wpList Try.prog ops Q rest (a.put o.dst v') w') : wpList Try.prog ops Q (o :: rest) a w := by
  refine wpList_plain hgd fun K hK => ?_
  obtain ⟨v', w', hr, h2, h3, h4⟩ := append_bytes_run2 hown hB hbd hbase o.type
  unfold Oper.wp
  simp [execOp, ho, resolve, invoke, builtin, hs, hx, hr, Result.andThen]
  exact hK _ _ (h v' w' h2 h3 h4)

theorem Put.keep {w W : World} {base : Nat} {a : Option Addr} {cp : Nat} {X : List Int} {row : Option Nat} (h : Put w base a cp X) (hb : ∀ k, k < w.heap.size → some k ≠ row → W.heap[k]? = w.heap[k]?) (hs : w.heap.size ≤ W.heap.size) (hrow : ∀ k, row = some k → k < base) : Put W base a cp X := by
  obtain ⟨ho, hI⟩ := h
  refine ⟨⟨ho.1, ?_⟩, bytes_stay hI hb hs (fun k hk e => by have h1 := (World.ownsRow.lt ho k hk).1; have h2 := hrow k e; omega)⟩
  rcases ho.2 with h2 | ⟨g, cap, cur, hv, hg, hh, r⟩
  · exact .inl h2
  · exact .inr ⟨g, cap, cur, hv, hg, by rw [hb g (Array.getElem?_eq_some_iff.1 hh).1 (fun e => by have := hrow g e.symm; omega)]; exact hh, r⟩

/-- What stands behind stays, if one block is written that is not its own. -/
theorem rest_keep {w W : World} {a r : Option Addr} {lr cr : Nat} {Z : List Int} {d : Nat} {row : Option Nat} (h : Behind w a r lr cr Z d 0) (hb : ∀ k, k < w.heap.size → some k ≠ row → W.heap[k]? = w.heap[k]?) (hs : w.heap.size ≤ W.heap.size) (hne : ∀ p, a = some p → row ≠ some p.block) : IsB W r lr cr (Z.drop d) := by
  have hI := (h.part rfl).2.1
  rcases h with ⟨h, _⟩ | ⟨_, h1, _, b, o, off, rfl, rfl, _, hR⟩
  · exact absurd rfl h
  · exact bytes_stay hI hb hs (fun k hk e => by simp [Value.ownBlock] at hk; subst hk; exact hne _ rfl e)

set_option maxRecDepth 100000 in
set_option maxHeartbeats 1000000 in
theorem back_big (a0 : Option Addr) (len0 cap0 : Nat) (a1 : Option Addr) (len1 cap1 : Nat) (a2 : Option Addr) (len2 cap2 : Nat) (w : World) (h0 : len0 ≤ maxLen) (h1 : len1 ≤ maxLen) (h2 : len2 ≤ maxLen) (h : 50 < len0 ∨ 50 < len1 ∨ 3000 < len2) :
    Calls Try.prog 7 #[.slice a0 len0 cap0, .slice a1 len1 cap1, .slice a2 len2 cap2] w fun e w' => e = .returned (.bool true) ∧ Below w.heap.size w w' := by
  unfold maxLen at h0 h1 h2
  by_cases hl0 : 50 < len0
  · go_enter Try.func7, Try.ntmps7
    go_wp2_with fail
    refine (awake_any _).mono ?_
    rintro e w1 ⟨rfl, hB1⟩
    go_wp2
    go_ret
    exact ⟨rfl, hB1⟩
  · have t0 : decide ((50 : Int) < len0) = false := by simp; omega
    by_cases hl1 : 50 < len1
    · go_enter Try.func7, Try.ntmps7
      go_wp2_with fail
      refine (awake_any _).mono ?_
      rintro e w1 ⟨rfl, hB1⟩
      go_wp2
      go_ret
      exact ⟨rfl, hB1⟩
    · have t1 : decide ((50 : Int) < len1) = false := by simp; omega
      have hl2 : 3000 < len2 := by omega
      clear h
      go_enter Try.func7, Try.ntmps7
      go_wp2_with fail
      refine (awake_any _).mono ?_
      rintro e w1 ⟨rfl, hB1⟩
      go_wp2
      go_ret
      exact ⟨rfl, hB1⟩

set_option maxRecDepth 100000 in
set_option maxHeartbeats 40000000 in
theorem back_small (a0 : Option Addr) (len0 cap0 : Nat) (ms : List (ByteArray × List ByteArray)) (a1 : Option Addr) (len1 cap1 : Nat) (ps : List (ByteArray × ByteArray)) (a2 : Option Addr) (len2 cap2 : Nat) (zs : List Int) (w : World)
    (h0 : View 2 VM w a0 len0 cap0 ms) (s0 : ∀ p ∈ ms, p.1.size ≤ maxLen ∧ ∀ s ∈ p.2, s.size ≤ maxLen) (h1 : View 2 VP w a1 len1 cap1 ps) (s1 : ∀ p ∈ ps, p.1.size ≤ maxLen ∧ p.2.size ≤ maxLen) (h2 : IsB w a2 len2 cap2 zs) (l0 : len0 ≤ 50) (l1 : len1 ≤ 50) (l2 : len2 ≤ 3000) :
    Calls Try.prog 7 #[.slice a0 len0 cap0, .slice a1 len1 cap1, .slice a2 len2 cap2] w fun e w' => e = .returned (.bool true) ∧ Below w.heap.size w w' := by
  have t0 : decide ((50 : Int) < len0) = false := by simp; omega
  have t1 : decide ((50 : Int) < len1) = false := by simp; omega
  have t2 : decide ((3000 : Int) < len2) = false := by simp; omega
  have H0 : Hid (View 2 VM w a0 len0 cap0 ms) := h0
  have H1 : Hid (View 2 VP w a1 len1 cap1 ps) := h1
  have H2 : Hid (IsB w a2 len2 cap2 zs) := h2
  have S0 : Hid _ := s0
  have S1 : Hid _ := s1
  have HL0 : Hid (ms.length = len0) := h0.1
  have HL1 : Hid (ps.length = len1) := h1.1
  have HL2 : Hid (zs.length = len2) := h2.1
  clear h0 h1 h2 s0 s1
  go_enter Try.func7, Try.ntmps7
  go_wp2_with fail
  refine (awake_any _).mono ?_
  rintro e w1 ⟨rfl, hB1⟩
  go_wp2_with fail
  go_loopw [8] (fun i wr => ∃ (k : Nat), k ≤ len0 ∧ i = .int .i64 k ∧ wr = w1 ∧ Hid (∀ j, j < k → (ms.getD j default).2.length ≤ 50)) (fun i _ => len0 - (intOf i).toNat)
  case atStart => exact ⟨0, by omega, rfl, rfl, fun j hj => by omega⟩
  case round =>
    obtain ⟨k, hk, rfl, rfl, HK⟩ := hrel
    by_cases hlt : k < len0
    · obtain ⟨b, off, a9, l9, c9, rfl, hc0, hc1, hv⟩ := (H0.out.old stays_m hB1).multi hlt
      have hl9m : l9 ≤ 9223372036854775807 := by have := Nat.le_trans hv.2.1 hv.2.2.1; unfold maxLen at this; exact this
      have HV9 : Hid ((ms.getD k default).2.length = l9) := hv.1
      clear hv hc0
      by_cases hl9 : 50 < l9
      · go_wp2_with fail
        go_ret
        exact ⟨rfl, hB1⟩
      · have t9 : decide ((50 : Int) < l9) = false := by simp; omega
        have HK2 : Hid (∀ j, j < k + 1 → (ms.getD j default).2.length ≤ 50) := by
          intro j hj
          by_cases hjk : j < k
          · exact HK.out j hjk
          · obtain rfl : j = k := by omega
            rw [HV9.out]; omega
        go_wp2_with fail
        go_roundw
        case rel => exact ⟨k + 1, by omega, by go_num, by first | rfl | trivial, HK2⟩
        case measure => simp [intOf]; omega
    · obtain rfl : k = len0 := by omega
      have HK3 : Hid (∀ x ∈ ms, x.2.length ≤ 50) := by
        intro x hx
        obtain ⟨i, hi, rfl⟩ := List.mem_iff_getElem.1 hx
        have := HK.out i (by rw [← HL0.out]; exact hi)
        rwa [List.getD_eq_getElem?_getD, List.getElem?_eq_getElem hi] at this
      have HM : Hid (∀ x ∈ ms, (keyB (listB textB) x).1.length ≤ 3400000) := by
        intro x hx
        have g1 := keyB_len (listB textB) x
        have g2 := listB_len textB 65537 x.2 (fun y _ => textB_len y)
        have g3 := HK3.out x hx
        omega
      obtain ⟨X, hX⟩ : ∃ X, X = listB (keyB (listB textB)) ms := ⟨_, rfl⟩
      obtain ⟨Y, hY⟩ : ∃ Y, Y = listB (keyB textB) ps := ⟨_, rfl⟩
      have HX : Hid _ := hX
      have HY : Hid _ := hY
      have hXl : X.1.length ≤ 200000000 := by
        have g1 := listB_len _ 3400000 ms HM.out
        rw [← hX, HL0.out] at g1
        have g2 : k * 3400000 ≤ 50 * 3400000 := Nat.mul_le_mul_right _ (by omega)
        exact Nat.le_trans g1 (by omega)
      have hYl : Y.1.length ≤ 10000000 := by
        have g1 := listB_len _ 131074 ps (fun x _ => keyB_textB_len x)
        rw [← hY, HL1.out] at g1
        have g2 : len1 * 131074 ≤ 50 * 131074 := Nat.mul_le_mul_right _ (by omega)
        exact Nat.le_trans g1 (by omega)
      clear hX hY hlt hk HK
      go_wp2_with fail
      refine (multis_any (H0.out.old stays_m hB1) S0.out 3400000 HM.out (by omega) HX.out).mono ?_
      rintro e w2 ⟨ax, cx, rfl, HPX, hB2⟩
      have hB02 : Below w.heap.size w w2 := hB1.trans (hB2.mono hB1.size)
      go_wp2_with fail
      refine (pairs_any (H1.out.old stays_p hB02) S1.out HY.out).mono ?_
      rintro e w3 ⟨ay, cy, rfl, HPY, hB3⟩
      have hB03 : Below w.heap.size w w3 := hB02.trans (hB3.mono hB02.size)
      by_cases hx : X.2 = 0
      · by_cases hy : Y.2 = 0
        · have hbs1 := hB1.size
          have hbs2 := hB2.size
          have hbs3 := hB3.size
          have HPX3 : Hid (Put w3 wr.heap.size ax cx X.1) := HPX.out.old hB3
          have HXb : Hid (∀ k, (Value.slice ax X.1.length cx).ownBlock = some k → k < w2.heap.size) := fun k hk => (World.ownsRow.lt HPX.out.1 k hk).2
          have HYb : Hid (∀ k, (Value.slice ay Y.1.length cy).ownBlock = some k → w2.heap.size ≤ k ∧ k < w3.heap.size) := fun k hk => World.ownsRow.lt HPY.out.1 k hk
          have HI3 : Hid (IsB w3 a2 len2 cap2 zs) := H2.out.old hB03
          have HBX : Hid (X.1.length + len2 ≤ 140737488355328) := by
            show _ ≤ _
            omega
          have HBY : Hid (Y.1.length + len2 ≤ 140737488355328) := by
            show _ ≤ _
            omega
          have HRX : Hid (∀ j : Nat, 0 ≤ (X.1 ++ zs)[j]?.getD 0 ∧ (X.1 ++ zs)[j]?.getD 0 ≤ 255) := range_append HPX.out.2.range H2.out.range
          have HRY : Hid (∀ j : Nat, 0 ≤ (Y.1 ++ zs)[j]?.getD 0 ∧ (Y.1 ++ zs)[j]?.getD 0 ≤ 255) := range_append HPY.out.2.range H2.out.range
          have HFX : Hid ((⟨ms, X.1.length, 0⟩ : Res (List (ByteArray × List ByteArray))) = listR (keyR (listR textR)) (X.1 ++ zs)) := by
            have := fits_list (fits_key (fits_list fits_text)) ms (by rw [← HX.out]; exact hx) zs
            rw [← HX.out] at this; exact this.symm
          have HFY : Hid ((⟨ps, Y.1.length, 0⟩ : Res (List (ByteArray × ByteArray))) = listR (keyR textR) (Y.1 ++ zs)) := by
            have := fits_list (fits_key fits_text) ps (by rw [← HY.out]; exact hy) zs
            rw [← HY.out] at this; exact this.symm
          obtain ⟨L4, hL4⟩ : ∃ L, L = X.1 ++ zs := ⟨_, rfl⟩
          obtain ⟨L6, hL6⟩ : ∃ L, L = Y.1 ++ zs := ⟨_, rfl⟩
          rw [← hL4] at HFX HRX
          rw [← hL6] at HFY HRY
          have HL4 : Hid _ := hL4
          have HL6 : Hid _ := hL6
          clear hL4 hL6
          rw [hx, hy]
          go_wp2_with (at_builtin; refine wpList_append_bytes2 rfl (.tmp 86) (.tmp 87) rfl rfl HPX3.out.1 rfl HI3.out HBX.out (by omega) ?_)
          intro v4 w4 ho4 hg4 hat4
          rw [← HL4.out] at ho4
          obtain ⟨a4, c4, rfl, hp4⟩ := OwnB.put ho4 HRX.out
          have hB4 : Below w.heap.size w3 w4 := (Below.refl _ _).grown hg4 (by omega) (fun k hk => by have := (World.ownsRow.lt HPX3.out.1 k hk).1; omega)
          have HPY4 : Hid (Put w4 w2.heap.size ay cy Y.1) := HPY.out.keep hg4.block hg4.size HXb.out
          have HI4 : Hid (IsB w4 a4 L4.length c4 L4) := hp4.2
          have hl4 : L4.length ≤ 140737488351232 := by rw [HL4.out, List.length_append, HL2.out]; omega
          have HA4 : Hid (∀ p, a4 = some p → (Value.slice ay Y.1.length cy).ownBlock ≠ some p.block) := by
            intro p hp e
            have hy2 := HYb.out _ e
            rw [hp] at hat4
            rcases hat4 with h | h
            · have := HXb.out p.block (by rw [← h]; rfl); omega
            · simp [Value.ownBlock] at h; omega
          have hB04 : Below w.heap.size w w4 := hB03.trans hB4
          have hbs4 := hg4.size
          clear ho4 hg4 hat4 hp4 HPX3 hB4
          go_wp2_with fail
          refine (getMultis_any HI4.out hl4 HFX.out).mono ?_
          rintro e w5 ⟨v5, r5, lr5, cr5, rfl, HO5, HB5, hB5⟩
          have hB05 : Below w.heap.size w w5 := hB04.trans (hB5.mono hB04.size)
          have hbs5 := hB5.size
          have HPY5 : Hid (Put w5 w2.heap.size ay cy Y.1) := HPY4.out.old hB5
          have HI5 : Hid (IsB w5 a2 len2 cap2 zs) := H2.out.old hB05
          go_wp2_with (at_builtin; refine wpList_append_bytes2 rfl (.tmp 94) (.tmp 95) rfl rfl HPY5.out.1 rfl HI5.out HBY.out (by omega) ?_)
          intro v6 w6 ho6 hg6 hat6
          rw [← HL6.out] at ho6
          obtain ⟨a6, c6, rfl, hp6⟩ := OwnB.put ho6 HRY.out
          have hB6 : Below w.heap.size w5 w6 := (Below.refl _ _).grown hg6 (by omega) (fun k hk => by have := (World.ownsRow.lt HPY5.out.1 k hk).1; omega)
          have hB06 : Below w.heap.size w w6 := hB05.trans hB6
          have HI6 : Hid (IsB w6 a6 L6.length c6 L6) := hp6.2
          have hl6 : L6.length ≤ 140737488351232 := by rw [HL6.out, List.length_append, HL2.out]; omega
          have HO6 : Hid (Own 45 2 VM w6 w4.heap.size v5 ms) := HO5.out.kept stays_m hg6.block hg6.size (fun k hk => by have := (HYb.out k hk).2; omega)
          have HR6 : Hid (IsB w6 r5 lr5 cr5 zs) := by
            have := rest_keep HB5.out hg6.block hg6.size HA4.out
            rw [HL4.out, List.drop_left] at this; exact this
          clear ho6 hg6 hat6 hp6 HO5 HB5 HPY5 HPY4 hB6
          go_wp2_with fail
          refine (getPairs_any HI6.out hl6 HFY.out).mono ?_
          rintro e w7 ⟨v7, r7, lr7, cr7, rfl, HO7, HB7, hB7⟩
          have hB07 : Below w.heap.size w w7 := hB06.trans (hB7.mono hB06.size)
          obtain ⟨a8, c8, rfl, hv8, _⟩ := (HO6.out.old stays_m hB7).view
          obtain ⟨a9, c9, rfl, hv9, _⟩ := HO7.out.view
          have hcv1 := (HR6.out.old hB7).conv
          have hcv2 := (H2.out.old hB07).conv
          have hp7 := (HB7.out.part rfl).2.1
          rw [HL6.out, List.drop_left] at hp7
          have hcv3 := hp7.conv
          have HV8 : Hid (View 2 VM w7 a8 ms.length c8 ms) := hv8
          have HV9 : Hid (View 2 VP w7 a9 ps.length c9 ps) := hv9
          have HSZ : Hid ((strOfNums zs).size = len2) := by
            show _ = _
            rw [strOfNums_size, HL2.out]
          obtain ⟨T, hT⟩ : ∃ T, T = strOfNums zs := ⟨_, rfl⟩
          rw [← hT] at hcv1 hcv2 hcv3
          have HT : Hid _ := hT
          clear hv8 hv9 hp7 HB7 HO7 HO6 HR6 hT hB1 hB2 hB3 hB5 hB7 hB02 hB03 hB04 hB05 hB06 HPX HPY HXb HYb HI3 HBX HBY HRX HRY HFX HFY HL4 HL6 HI4 HI5 HI6 HA4 hbs1 hbs2 hbs3 hbs4 hbs5 hl4 hl6 hXl hYl HM S0 S1
          go_wp2_with fail
          refine (cmultis_any HV8.out (by rw [HL0.out]; omega) (fun x hx => Nat.le_trans (HK3.out x hx) (by omega))).mono ?_
          rintro e w8 ⟨v10, rfl, HO10, hB8⟩
          have hB08 : Below w.heap.size w w8 := hB07.trans (hB8.mono hB07.size)
          go_wp2_with fail
          refine (cmultis_any (H0.out.old stays_m hB08) (by omega) (fun x hx => Nat.le_trans (HK3.out x hx) (by omega))).mono ?_
          rintro e w9 ⟨v11, rfl, HO11, hB9⟩
          have hB09 : Below w.heap.size w w9 := hB08.trans (hB9.mono hB08.size)
          obtain ⟨IM, hIM⟩ : ∃ I, I = ms.map multiIt := ⟨_, rfl⟩
          rw [← hIM] at HO10 HO11
          obtain ⟨a10, c10, rfl, hv10, _⟩ := (HO10.out.old stays_i hB9).view
          obtain ⟨a11, c11, rfl, hv11, _⟩ := HO11.out.view
          have HV10 : Hid (View 5 VI w9 a10 IM.length c10 IM) := hv10
          have HV11 : Hid (View 5 VI w9 a11 IM.length c11 IM) := hv11
          clear hv10 hv11 HO10 HO11 hIM HV8 hcv1 hcv2 hcv3
          go_wp2_with fail
          refine (same_yes HV10.out HV11.out).mono ?_
          rintro e w10 ⟨rfl, q10, rfl⟩
          have hB010 : Below w.heap.size w (w9.drewN q10) := below_drewN hB09 q10
          have hB7_10 : Below w7.heap.size w7 (w9.drewN q10) := below_drewN (hB8.trans (hB9.mono hB8.size)) q10
          go_wp2_with fail
          refine (cpairs_any (HV9.out.old stays_p hB7_10) (by rw [HL1.out]; omega)).mono ?_
          rintro e w12 ⟨v12, rfl, HO12, hB12⟩
          have hB012 : Below w.heap.size w w12 := hB010.trans (hB12.mono hB010.size)
          go_wp2_with fail
          refine (cpairs_any (H1.out.old stays_p hB012) (by omega)).mono ?_
          rintro e w13 ⟨v13, rfl, HO13, hB13⟩
          have hB013 : Below w.heap.size w w13 := hB012.trans (hB13.mono hB012.size)
          obtain ⟨IP, hIP⟩ : ∃ I, I = ps.map pairIt := ⟨_, rfl⟩
          rw [← hIP] at HO12 HO13
          obtain ⟨a12, c12, rfl, hv12, _⟩ := (HO12.out.old stays_i hB13).view
          obtain ⟨a13, c13, rfl, hv13, _⟩ := HO13.out.view
          have HV12 : Hid (View 5 VI w13 a12 IP.length c12 IP) := hv12
          have HV13 : Hid (View 5 VI w13 a13 IP.length c13 IP) := hv13
          clear hv12 hv13 HO12 HO13 hIP HV9
          go_wp2_with fail
          refine (same_yes HV12.out HV13.out).mono ?_
          rintro e w14 ⟨rfl, q14, rfl⟩
          have hB014 : Below w.heap.size w (w13.drewN q14) := below_drewN hB013 q14
          clear hB08 hB09 hB010 hB7_10 hB012 hB013 hB8 hB9 hB12 hB13 hB07 HV12 HV13 HV10 HV11
          obtain ⟨G, hG⟩ : ∃ G, G = listR textR zs := ⟨_, rfl⟩
          have HG : Hid _ := hG
          clear hG
          go_wp2_with fail
          refine (getTexts_any (H2.out.old hB014) (by omega) HG.out).mono ?_
          rintro e w15 ⟨v15, r15, lr15, cr15, rfl, HO15, HB15, hB15⟩
          have hB015 : Below w.heap.size w w15 := hB014.trans (hB15.mono hB014.size)
          obtain ⟨a15, c15, rfl, hv15, _⟩ := HO15.out.view
          have HV15 : Hid (View 1 VS w15 a15 G.val.length c15 G.val) := hv15
          clear hv15 HO15
          by_cases hg : G.err = 0
          · have hput := puts_list puts_text zs H2.out.range (by rw [← HG.out]; exact hg)
            rw [← HG.out] at hput
            have hsz : ∀ s ∈ G.val, s.size ≤ maxLen := by
              intro s hs
              have h3 := (listB_ok (f := textB) (xs := G.val) (by rw [hput.2])).2.2 s hs
              by_cases hs2 : s.size ≤ 65535
              · unfold maxLen; omega
              · rw [textB, if_neg hs2] at h3; exact absurd h3 (by decide)
            have HSZ2 : Hid _ := hsz
            obtain ⟨Q, hQ⟩ : ∃ Q, Q = zs.take G.done := ⟨_, rfl⟩
            have HPU : Hid ((Q, (0 : Int)) = listB textB G.val) := by
              show _ = _
              rw [hQ]; exact hput.2.symm
            have HQ : Hid _ := hQ
            clear hQ
            have hgd := hput.1
            have HD : Hid (G.done ≤ zs.length) := hgd
            clear hput hsz hgd
            rw [hg]
            go_wp2_with fail
            refine (texts_any HV15.out HSZ2.out HPU.out).mono ?_
            rintro e w16 ⟨a16, c16, rfl, HP16, hB16⟩
            have hB016 : Below w.heap.size w w16 := hB015.trans (hB16.mono hB015.size)
            have hcv4 : (convert 23 9 (.slice a16 Q.length c16)).run Try.prog w16 = .ok (.string (strOfNums Q)) w16 := HP16.out.2.conv
            have hcv5 := ((HB15.out.part hg).2.1.old hB16).conv
            have hcv6 := (H2.out.old hB016).conv
            have HADD : Hid (strOfNums (zs.take G.done) ++ strOfNums (zs.drop G.done) = strOfNums zs) := str_parts zs G.done
            have HS1 : Hid ((strOfNums (zs.take G.done)).size ≤ 3000 ∧ (strOfNums (zs.drop G.done)).size ≤ 3000) := by
              show _ ∧ _
              rw [strOfNums_size, strOfNums_size, List.length_take, List.length_drop, HL2.out]; omega
            rw [HQ.out] at hcv4
            obtain ⟨U, hU⟩ : ∃ U, U = strOfNums (zs.take G.done) := ⟨_, rfl⟩
            obtain ⟨R, hR⟩ : ∃ R, R = strOfNums (zs.drop G.done) := ⟨_, rfl⟩
            rw [← hU, ← HQ.out] at hcv4
            rw [← hR] at hcv5
            rw [← HT.out] at hcv6
            rw [← hU, ← hR, ← HT.out] at HADD
            rw [← hU, ← hR] at HS1
            have hadd := HADD.out
            have hs1 := HS1.out.1
            have hs2 := HS1.out.2
            clear hU hR HADD HS1
            go_wp2_with fail
            go_ret
            exact ⟨by simp, hB016⟩
          · have tg : (G.err == 0) = false := by simpa using hg
            have hgv : G.val = [] := by rw [HG.out] at hg ⊢; exact listR_err _ _ hg
            rw [hgv]
            go_wp2_with fail
            go_ret
            exact ⟨by simp, hB015⟩
        · have ty : (Y.2 == 0) = false := by simpa using hy
          have hy1 : Y.1 = [] := by rw [HY.out] at hy ⊢; exact listB_err _ _ hy
          rw [hx, hy1]
          go_wp2_with fail
          go_ret
          exact ⟨by simp, hB03⟩
      · have tx : (X.2 == 0) = false := by simpa using hx
        have hx1 : X.1 = [] := by rw [HX.out] at hx ⊢; exact listB_err _ _ hx
        rw [hx1]
        go_wp2_with fail
        go_ret
        exact ⟨by simp, hB03⟩

theorem back_walk (a0 : Option Addr) (len0 cap0 : Nat) (ms : List (ByteArray × List ByteArray)) (a1 : Option Addr) (len1 cap1 : Nat) (ps : List (ByteArray × ByteArray)) (a2 : Option Addr) (len2 cap2 : Nat) (zs : List Int) (w : World)
    (h0 : View 2 VM w a0 len0 cap0 ms) (s0 : ∀ p ∈ ms, p.1.size ≤ maxLen ∧ ∀ s ∈ p.2, s.size ≤ maxLen) (h1 : View 2 VP w a1 len1 cap1 ps) (s1 : ∀ p ∈ ps, p.1.size ≤ maxLen ∧ p.2.size ≤ maxLen) (h2 : IsB w a2 len2 cap2 zs) :
    Calls Try.prog 7 #[.slice a0 len0 cap0, .slice a1 len1 cap1, .slice a2 len2 cap2] w fun e w' => e = .returned (.bool true) ∧ Below w.heap.size w w' := by
  by_cases hbig : 50 < len0 ∨ 50 < len1 ∨ 3000 < len2
  · exact back_big a0 len0 cap0 a1 len1 cap1 a2 len2 cap2 w (Nat.le_trans h0.2.1 h0.2.2.1) (Nat.le_trans h1.2.1 h1.2.2.1) (Nat.le_trans h2.2.1 h2.2.2.1) hbig
  · exact back_small a0 len0 cap0 ms a1 len1 cap1 ps a2 len2 cap2 zs w h0 s0 h1 s1 h2 (by omega) (by omega) (by omega)
end Go.Proofs.Ytohgaeamfobcaaa
