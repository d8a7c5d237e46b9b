/-
  The contract of maps.GetEntries.
-/
import Derived.Test.YtkcnmmlakimonaaGetM
namespace Go.Proofs.Ytkcnmmlakimonaa
open Go.RowKit
set_option maxRecDepth 100000
set_option linter.unusedVariables false
set_option linter.unusedSimpArgs false

theorem sNums_strOfNums {zs : List Int} (h : ∀ j : Nat, 0 ≤ zs[j]?.getD 0 ∧ zs[j]?.getD 0 ≤ 255) : sNums (strOfNums zs) = zs := by
  apply List.ext_getElem?
  intro j
  by_cases hj : j < zs.length
  · have hh := h j
    rw [List.getElem?_eq_getElem hj, Option.getD_some] at hh
    simp only [sNums, strOfNums]
    simp [hj]
    omega
  · rw [List.getElem?_eq_none (by rw [sNums_length, strOfNums_size]; omega), List.getElem?_eq_none (by omega)]

theorem getValue_r {w : World} {a : Option Addr} {len cap : Nat} {zs : List Int} (h : IsB w a len cap zs) (hsm : len ≤ 140737488351232) {X : Res (Int × ByteArray)} (hX : X = valueR zs) :
    Calls Try.prog 52 #[.slice a len cap] w fun e w' => ∃ x lx cx r lr cr, e = .returned (.tuple #[.agg #[.int .i64 X.val.1, .slice x lx cx], .slice r lr cr, .int .i64 X.err]) ∧ Hid (IsB w' x lx cx (sNums X.val.2)) ∧ Hid (Fresh w.heap.size w' x) ∧ Hid (Behind w' a r lr cr zs X.done X.err) ∧ Below w.heap.size w w' := by
  subst hX
  refine (getValue_any h hsm).mono ?_
  rintro e w' ⟨r, lr, cr, x, lx, cx, rfl, HI, HF, HB, hB⟩
  refine ⟨x, lx, cx, r, lr, cr, rfl, ?_, HF, HB, hB⟩
  show IsB _ _ _ _ (sNums (strOfNums _))
  rw [sNums_strOfNums HI.out.range]
  exact HI.out

/-- Two variables of a value, made one behind the other, in a later world. -/
theorem two_vars {w W : World} (hB : Below (w.heap.size + 2) ((w.alloc (.cells #[.int .i64 0, .slice none 0 0] 40)).alloc (.cells #[.int .i64 0, .slice none 0 0] 40)) W) :
    W.cell? ⟨w.heap.size, 0, none⟩ = some (.int .i64 0) ∧ W.cell? ⟨w.heap.size, 1, none⟩ = some (.slice none 0 0) ∧ W.cell? ⟨w.heap.size + 1, 0, none⟩ = some (.int .i64 0) ∧ W.cell? ⟨w.heap.size + 1, 1, none⟩ = some (.slice none 0 0) ∧
    W.frozen? ⟨w.heap.size, 0, none⟩ = false ∧ W.frozen? ⟨w.heap.size, 1, none⟩ = false ∧ w.heap.size < W.heap.size ∧ w.heap.size + 1 < W.heap.size ∧ Below w.heap.size w W := by
  have hs := hB.size
  simp at hs
  refine ⟨?_, ?_, ?_, ?_, ?_, ?_, by omega, by omega, ((below_one w _).alloc (by simp) _).trans (hB.mono (by omega))⟩
  · rw [hB.cell (by simp)]; simp [go_sem]
  · rw [hB.cell (by simp)]; simp [go_sem]
  · rw [hB.cell (by simp)]; simp [go_sem]
  · rw [hB.cell (by simp)]; simp [go_sem]
  · rw [hB.frozen (by simp)]; simp [go_sem]
  · rw [hB.frozen (by simp)]; simp [go_sem]

theorem below_var (W : World) (s : Nat) (hs : s < W.heap.size) (o : Obj) (u v : Value) : Below s W (((W.setCell ⟨s, 0, none⟩ u).setCell ⟨s, 1, none⟩ v).alloc o).drew :=
  ((((Below.refl s W).setCell (p := ⟨s, 0, none⟩) (Nat.le_refl _) u).setCell (p := ⟨s, 1, none⟩) (Nat.le_refl _) v).alloc (by simp; omega) o).drew

theorem bytes_var {W : World} {s base : Nat} (hs : s < base) {x : Option Addr} {lx cx : Nat} {zs : List Int} (h : IsB W x lx cx zs) (hF : Fresh base W x) (o : Obj) (u v : Value) : IsB (((W.setCell ⟨s, 0, none⟩ u).setCell ⟨s, 1, none⟩ v).alloc o).drew x lx cx zs :=
  ((bytes_stay h (two_far _ _ _ _) (by simp) (hF.far hs)).old (below_one _ o)).old (Below.refl _ _).drew

set_option maxHeartbeats 1000000 in
theorem getKeyedE {w : World} {a : Option Addr} {len cap : Nat} {zs : List Int} (h : IsB w a len cap zs) (hsm : len ≤ 140737488351232) {Y : Res (ByteArray × Int × ByteArray)} (hY : Y = keyR valueR zs) :
    Calls Try.prog 51 #[.slice a len cap, .func (.func 52) #[] #[]] w fun e w' => ∃ x lx cx r lr cr, e = .returned (.tuple #[.string Y.val.1, .agg #[.int .i64 Y.val.2.1, .slice x lx cx], .slice r lr cr, .int .i64 Y.err]) ∧ Hid (IsB w' x lx cx (sNums Y.val.2.2)) ∧ Hid (Fresh w.heap.size w' x) ∧
      Hid (Behind w' a r lr cr zs Y.done Y.err) ∧ Below w.heap.size w w' := by
  have H : Hid (IsB _ _ _ _ _) := h
  have HY : Hid _ := hY
  have hzl : zs.length = len := h.1
  obtain ⟨X, hX⟩ : ∃ X, X = textR zs := ⟨_, rfl⟩
  obtain ⟨X2, hX2⟩ : ∃ X2, X2 = valueR (zs.drop X.done) := ⟨_, rfl⟩
  have HX : Hid _ := hX
  have HX2 : Hid _ := hX2
  have HZ : Hid _ := hzl
  clear h hY hX hX2 hzl
  go_enter Try.func51, Try.ntmps51
  go_wp2_with fail
  refine (getText_r (H.out.old ((below_one w _).alloc (by simp) _)) hsm HX.out).mono ?_
  rintro e w1 ⟨r1, lr1, cr1, rfl, HB1, hB1⟩
  obtain ⟨c1, c2, c3, c4, f1, f2, s1, s2, hB01⟩ := two_vars (hB1.mono (by simp))
  by_cases he : X.err = 0
  · obtain ⟨hd, hI, hl1⟩ := HB1.out.part he
    have HI : Hid (IsB _ _ _ _ _) := hI
    have HL1 : Hid (lr1 ≤ 140737488351232) := by
      show _ ≤ _
      rw [HZ.out] at hl1; omega
    clear hd hI hl1
    rw [he]
    go_wp2_with fail
    refine (getValue_r HI.out HL1.out HX2.out).mono ?_
    rintro e w2 ⟨x, lx, cx, r2, lr2, cr2, rfl, HV, HF, HB2, hB2⟩
    have s3 := s1
    clear c1 c2 c3 c4 f1 f2 s1 s2
    obtain ⟨c1, c2, c3, c4, f1, f2, s1, s2, hB02⟩ := two_vars ((hB1.mono (by simp)).trans (hB2.mono (by have := hB1.size; simp at this; omega)))
    by_cases he2 : X2.err = 0
    · have HJ : Hid (Behind w2 a r2 lr2 cr2 zs (X.done + X2.done) 0) := HB1.out.join he HB2.out he2
      rw [he2]
      go_wp2_with fail
      go_region
      all_goals (go_wp2_with fail)
      have HE := keyR_both HY.out HX.out he HX2.out he2
      have hs1 := hB01.size
      exact bodyPost_ret (v := .tuple #[.string X.val, .agg #[.int .i64 X2.val.1, .slice x lx cx], .slice r2 lr2 cr2, .int .i64 0]) (by simp [results, Try.results51, go_sem, c1, c2, s1]) rfl
        ⟨x, lx, cx, r2, lr2, cr2, by rw [HE], by rw [HE]; exact bytes_var s3 HV.out HF.out _ _ _, (HF.out.mono hs1).old (by simp), by rw [HE]; exact HJ.out.below (below_var _ _ s1 _ _ _) H.out.lt, hB02.trans (below_var _ _ s1 _ _ _)⟩
    · have t : (X2.err == 0) = false := by simpa using he2
      have HE2 : Hid (X2.err ≠ 0) := he2
      clear he2
      go_wp2_with fail
      go_region
      all_goals (go_wp2_with fail)
      have HE := keyR_part HY.out HX.out he HX2.out HE2.out
      exact bodyPost_ret (v := .tuple #[.string ⟨#[]⟩, .agg #[.int .i64 0, .slice none 0 0], .slice none 0 0, .int .i64 X2.err]) (by simp [results, Try.results51, go_sem, c1, c2, s1]) rfl
        ⟨none, 0, 0, none, 0, 0, by rw [HE]; rfl, by rw [HE]; exact isB_nil _, Fresh.none, by rw [HE]; exact .inl ⟨HE2.out, rfl⟩, hB02.trans (below_var _ _ s1 _ _ _)⟩
  · have t : (X.err == 0) = false := by simpa using he
    have HE1 : Hid (X.err ≠ 0) := he
    clear he
    go_wp2_with fail
    go_region
    all_goals (go_wp2_with fail)
    have HE := keyR_key HY.out HX.out HE1.out
    exact bodyPost_ret (v := .tuple #[.string ⟨#[]⟩, .agg #[.int .i64 0, .slice none 0 0], .slice none 0 0, .int .i64 X.err]) (by simp [results, Try.results51, go_sem, c1, c2, s1]) rfl
      ⟨none, 0, 0, none, 0, 0, by rw [HE]; rfl, by rw [HE]; exact isB_nil _, Fresh.none, by rw [HE]; exact .inl ⟨HE1.out, rfl⟩,
        ((hB01.setCell (p := ⟨w.heap.size, 0, none⟩) (Nat.le_refl _) _).setCell (p := ⟨w.heap.size, 1, none⟩) (Nat.le_refl _) _).drew⟩

theorem three_far (w : World) (s : Nat) (u v x : Value) : ∀ k, k < w.heap.size → some k ≠ some s → (((w.setCell ⟨s, 0, none⟩ u).setCell ⟨s, 1, none⟩ v).setCell ⟨s, 2, none⟩ x).heap[k]? = w.heap[k]? := by
  intro k hk hne
  rw [Below.heap_setCell _ _ _ _ (by simpa using hne), Below.heap_setCell _ _ _ _ (by simpa using hne), Below.heap_setCell _ _ _ _ (by simpa using hne)]

theorem below_three (w : World) (s : Nat) (u v x : Value) : Below s w (((w.setCell ⟨s, 0, none⟩ u).setCell ⟨s, 1, none⟩ v).setCell ⟨s, 2, none⟩ x) :=
  (((Below.refl s w).setCell (p := ⟨s, 0, none⟩) (Nat.le_refl _) u).setCell (p := ⟨s, 1, none⟩) (Nat.le_refl _) v).setCell (p := ⟨s, 2, none⟩) (Nat.le_refl _) x

set_option maxHeartbeats 1000000 in
theorem getItemE {w : World} {a : Option Addr} {len cap : Nat} {zs : List Int} (h : IsB w a len cap zs) (hsm : len ≤ 140737488351232) {Y : Res (ByteArray × Int × ByteArray)} (hY : Y = keyR valueR zs) :
    Calls Try.prog 50 #[.slice a len cap] w fun e w' => ∃ x lx cx r lr cr, e = .returned (.tuple #[.agg #[.string Y.val.1, .int .i64 Y.val.2.1, .slice x lx cx], .slice r lr cr, .int .i64 Y.err]) ∧ Hid (IsB w' x lx cx (sNums Y.val.2.2)) ∧ Hid (Fresh w.heap.size w' x) ∧
      Hid (Behind w' a r lr cr zs Y.done Y.err) ∧ Below w.heap.size w w' := by
  have H : Hid (IsB _ _ _ _ _) := h
  have HY : Hid _ := hY
  clear h hY
  go_enter Try.func50, Try.ntmps50
  go_wp2_with fail
  refine (getKeyedE (H.out.old (below_one _ _)) hsm HY.out).mono ?_
  rintro e w1 ⟨x, lx, cx, r, lr, cr, rfl, HV, HF, HB, hB⟩
  have HF' : Hid (Fresh (w.heap.size + 1) w1 x) := by
    show Fresh _ _ _
    have := HF.out; simpa using this
  clear HF
  obtain ⟨hc, hf⟩ := bcell hB
  have hs : w.heap.size < w1.heap.size := by have := hB.size; simp at this; omega
  go_wp2_with fail
  exact bodyPost_ret (v := .tuple #[.agg #[.string Y.val.1, .int .i64 Y.val.2.1, .slice x lx cx], .slice r lr cr, .int .i64 Y.err]) (by simp [results, Try.results50, go_sem, hc, hs]) rfl
    ⟨x, lx, cx, r, lr, cr, rfl, (bytes_stay HV.out (three_far _ _ _ _ _) (by simp) (HF'.out.far (by omega))).old (below_one _ _), (HF'.out.mono (by omega)).old (by simp), HB.out.below ((below_three _ _ _ _ _).alloc (by simp; omega) _) H.out.lt,
      (((below_one w _).trans (hB.mono (by simp))).trans (below_three _ _ _ _ _)).alloc (by simp; omega) _⟩

theorem fresh_block3 {H base base0 : Nat} {w : World} {v : Value} (s : ByteArray) (n : Int) {x : Option Addr} {l c : Nat} (hb0 : base0 ≤ base) (hF : Fresh base w x) (hH : w.heap.size ≤ H) (hv : ∀ k, v.ownBlock = some k → k < base) :
    ∀ j k, j < 3 → ([Value.string s, Value.int .i64 n, Value.slice x l c].getD j default).ownBlock = some k → k < H ∧ v.ownBlock ≠ some k ∧ base0 ≤ k := by
  intro j k hj hk
  match j, hj with
  | 0, _ => simp [Value.ownBlock] at hk
  | 1, _ => simp [Value.ownBlock] at hk
  | 2, _ =>
    cases x with
    | none => simp [Value.ownBlock] at hk
    | some p =>
      simp [Value.ownBlock] at hk
      have := hF p rfl
      refine ⟨by omega, fun e => ?_, by omega⟩
      have := hv k e
      omega

set_option maxHeartbeats 1000000 in
theorem getE_yes {w : World} {b off len cap : Nat} {zs : List Int} (h : BRow w b off len cap zs) (hb : b < w.heap.size) (hsm : len ≤ 140737488351232) (hl : 2 ≤ len) {Y : Res (List (ByteArray × Int × ByteArray))} (hY : Y = listR (keyR valueR) zs) :
    Calls Try.prog 49 #[.slice (some ⟨b, off, none⟩) len cap, .func (.func 50) #[] #[]] w fun e w' => ∃ v r lr cr, e = .returned (.tuple #[v, .slice r lr cr, .int .i64 Y.err]) ∧
      Hid (Own 42 3 VE w' w.heap.size v Y.val) ∧ Hid (Behind w' (some ⟨b, off, none⟩) r lr cr zs Y.done Y.err) ∧ Below w.heap.size w w' := by
  have hz := h.len_eq
  obtain ⟨N, hN⟩ := Int.eq_ofNat_of_zero_le (numTo_bound zs h.rng 2 (by omega)).1
  have hN2 := (numTo_bound zs h.rng 2 (by omega)).2
  rw [hN] at hN2
  have hN3 : N < 65536 := by have h4 : (256 : Int) ^ 2 = 65536 := by decide
                             omega
  have HL : Hid (Y = goR (keyR valueR) zs N 2 []) := by
    show _ = _
    rw [hY, listR, if_neg (by omega), hN, Int.toNat_natCast]
  have H : Hid (BRow w b off len cap zs) := h
  have HN : Hid (numTo zs 2 = N) := hN
  have HZ : Hid (zs.length = len) := hz
  clear h hN hN2 hz hY
  go_enter Try.func49, Try.ntmps49
  go_wp2_with fail
  refine (bget H.out 2 (by omega) (by omega) hl _ rfl).mono ?_
  rintro e w1 ⟨off1, rfl, hR1, hB1⟩
  rw [HN.out]
  have HR1 : Hid (BRow _ _ _ _ _ _) := hR1
  clear hR1
  go_wp2_with fail
  go_loopw [8, 10, 22] (fun r l i wr => ∃ k d off lr cr acc, k ≤ N ∧ i = .int .u64 k ∧ r = .slice (some ⟨b, off, none⟩) lr cr ∧ Hid (BRow wr b off lr cr (zs.drop d)) ∧ d ≤ len ∧ Hid (Own 42 3 VE wr w.heap.size l acc) ∧ acc.length = k ∧
      Hid (goR (keyR valueR) zs (N - k) d acc = Y) ∧ Below w.heap.size w wr) (fun _ _ i _ => N - (intOf i).toNat)
  case atStart => exact ⟨0, 2, off1, _, _, [], by omega, rfl, rfl, HR1, hl, own_nil _ _ _ _ _, rfl, HL.out.symm, hB1⟩
  case round =>
    obtain ⟨k, d, off', lr, cr, acc, hk, rfl, rfl, HR, hd, HO, hacc, HG, hB⟩ := hrel
    by_cases hlt : k < N
    · have HLR : Hid (lr ≤ 140737488351232) := by
        show _ ≤ _
        rw [HR.out.len_le, List.length_drop, HZ.out]; omega
      obtain ⟨X, hX⟩ : ∃ X, X = keyR valueR (zs.drop d) := ⟨_, rfl⟩
      have HX : Hid _ := hX
      clear hX
      have hbs := hB.size
      go_wp2_with fail
      refine (getItemE (HR.out.isB.old (below_one _ _)) HLR.out HX.out).mono ?_
      rintro e w2 ⟨x, lx, cx, r2, lr2, cr2, rfl, HV, HF, HB2, hB2⟩
      have HF' : Hid (Fresh (wr.heap.size + 1) w2 x) := by
        show Fresh _ _ _
        have := HF.out; simpa using this
      clear HF
      obtain ⟨hc, hf⟩ := bcell hB2
      have hs2 : wr.heap.size < w2.heap.size := by have := hB2.size; simp at this; omega
      by_cases he : X.err = 0
      · obtain ⟨hd2, off2, rfl, hR2⟩ := HB2.out.row he
        rw [List.drop_drop] at hR2
        rw [List.length_drop, HZ.out] at hd2
        have HG2 : Hid (goR (keyR valueR) zs (N - (k + 1)) (d + X.done) (acc ++ [X.val]) = Y) := by
          have := goR_step HG.out hlt (by rw [← HX.out]; exact he)
          rw [← HX.out] at this
          exact this
        obtain ⟨w4, hw4⟩ : ∃ w4, w4 = ((w2.setCell ⟨wr.heap.size, 0, none⟩ (.string X.val.1)).setCell ⟨wr.heap.size, 1, none⟩ (.int .i64 X.val.2.1)).setCell ⟨wr.heap.size, 2, none⟩ (.slice x lx cx) := ⟨_, rfl⟩
        have hB4 : Below wr.heap.size wr w4 := by rw [hw4]; exact ((below_one wr _).trans (hB2.mono (by simp))).trans (below_three _ _ _ _ _)
        have hs4 : w4.heap.size = w2.heap.size := by rw [hw4]; simp
        have HO2 : Hid (Own 42 3 VE (w4.alloc (.cells #[.string X.val.1, .int .i64 X.val.2.1, .slice x lx cx] 42)) w.heap.size u10 acc) := HO.out.old stays_e (hB4.alloc hB4.size _)
        have HBN : Hid ((w4.alloc (.cells #[.string X.val.1, .int .i64 X.val.2.1, .slice x lx cx] 42)).heap[w2.heap.size]? = some (.cells [Value.string X.val.1, Value.int .i64 X.val.2.1, Value.slice x lx cx].toArray 42 (0, 0))) := by
          rw [← hs4]; exact heap_alloc_new w4 _
        have HB4 : Hid (Below wr.heap.size wr w4) := hB4
        have HS4 : Hid (w4.heap.size = w2.heap.size) := hs4
        have HR2 : Hid (BRow w4 b off2 lr2 cr2 (zs.drop (d + X.done))) := by rw [hw4]; exact hR2.below (below_three _ _ _ _ _) (fun _ => Nat.lt_of_lt_of_le hb hbs)
        have HV4 : Hid (VE (w4.alloc (.cells #[.string X.val.1, .int .i64 X.val.2.1, .slice x lx cx] 42)) X.val (fun j => [Value.string X.val.1, Value.int .i64 X.val.2.1, Value.slice x lx cx].getD j default)) := by
          refine ⟨rfl, rfl, x, lx, cx, rfl, IsB.old ?_ (below_one w4 _)⟩
          rw [hw4]; exact bytes_stay HV.out (three_far _ _ _ _ _) (by simp) (HF'.out.far (by omega))
        have HF4 : Hid (∀ k, u10.ownBlock = some k → k < wr.heap.size + 1) := fun k hk => by have := (HO.out.lt k hk).2; omega
        clear hR2 hB4 hs4
        rw [hw4] at HO2 HBN HV4
        rw [he]
        go_wp2_with (at_builtin; refine wpList_append_item rfl (.tmp 34) (.tmp 36) 25 rfl stays_e elem_e rfl HO2.out rfl HBN.out rfl ?c1 X.val HV4.out ?c2 ?c3 ?c4 ?c5 ?_)
        case c1 => intro u hu; simp at hu; rcases hu with rfl | rfl | rfl <;> rfl
        case c2 => exact fresh_block3 _ _ (by omega) HF'.out (by simp) HF4.out
        case c3 => unfold maxLen; omega
        case c4 => omega
        case c5 => simp; omega
        intro v3 w3 ho3 hB3
        rw [← hw4] at hB3
        have HO3 : Hid (Own 42 3 VE w3 w.heap.size v3 (acc ++ [X.val])) := ho3
        have hs4 := HS4.out
        have hB03 : Below w.heap.size w w3 := ((hB.trans (HB4.out.mono hbs)).alloc (by omega) _).trans hB3
        have HR3 : Hid (BRow w3 b off2 lr2 cr2 (zs.drop (d + X.done))) := (HR2.out.old (below_one w4 _)).below hB3 (fun _ => hb)
        clear ho3 hs4
        go_wp2_with fail
        go_roundw
        case rel => exact ⟨k + 1, d + X.done, off2, lr2, cr2, acc ++ [X.val], by omega, by go_num, rfl, HR3, by omega, HO3, by simp [hacc], HG2, hB03⟩
        case measure => simp [intOf]; omega
      · have t : (X.err == 0) = false := by simpa using he
        have HE := goR_stop HG.out hlt (by rw [← HX.out]; exact he)
        go_wp2_with fail
        go_ret3
        exact ⟨.slice none 0 0, none, 0, 0, by rw [HE, ← HX.out]; rfl, by rw [HE]; exact own_nil _ _ _ _ _, by rw [HE, ← HX.out]; exact .inl ⟨he, rfl⟩, hB.trans ((((below_one wr _).trans (hB2.mono (by simp))).trans (below_three _ _ _ _ _)).mono hB.size)⟩
    · have HE := goR_end HG.out (by omega)
      have hd' := HZ.out
      go_wp2_with fail
      go_ret3
      exact ⟨_, _, _, _, by rw [HE]; rfl, by rw [HE]; exact HO, by rw [HE]; exact .inr ⟨rfl, (show d ≤ zs.length by omega), by omega, b, off, off', rfl, rfl, Nat.lt_of_lt_of_le hb hB.size, HR.out⟩, hB⟩

theorem getE_short (a : Option Addr) (len cap : Nat) (w : World) (hl : len < 2) :
    Calls Try.prog 49 #[.slice a len cap, .func (.func 50) #[] #[]] w fun e w' => e = .returned (.tuple #[.slice none 0 0, .slice none 0 0, .int .i64 10]) ∧ Below w.heap.size w w' := by
  go_enter Try.func49, Try.ntmps49
  go_wp2_with fail
  refine (bget_short a len cap 2 _ (by omega) (by omega) hl _ rfl).mono ?_
  rintro e w1 ⟨rfl, rfl⟩
  go_wp2_with fail
  go_ret3
  exact ⟨rfl, Below.refl _ _⟩

theorem getE_any {w : World} {a : Option Addr} {len cap : Nat} {zs : List Int} (h : IsB w a len cap zs) (hsm : len ≤ 140737488351232) {Y : Res (List (ByteArray × Int × ByteArray))} (hY : Y = listR (keyR valueR) zs) :
    Calls Try.prog 49 #[.slice a len cap, .func (.func 50) #[] #[]] w fun e w' => ∃ v r lr cr, e = .returned (.tuple #[v, .slice r lr cr, .int .i64 Y.err]) ∧
      Hid (Own 42 3 VE w' w.heap.size v Y.val) ∧ Hid (Behind w' a r lr cr zs Y.done Y.err) ∧ Below w.heap.size w w' := by
  obtain ⟨h1, h2, h3, h4, h5⟩ := h
  by_cases hl : len < 2
  · rw [listR, if_pos (by omega)] at hY
    subst hY
    refine (getE_short a len cap w hl).mono ?_
    rintro e w' ⟨rfl, hB⟩
    exact ⟨_, _, _, _, rfl, own_nil _ _ _ _ _, .inl ⟨(by decide : (10 : Int) ≠ 0), rfl⟩, hB⟩
  · obtain ⟨b, off, rfl, hR⟩ := h5 (by omega)
    exact getE_yes hR (hR.lt (by omega)) hsm (by omega) hY

set_option maxHeartbeats 400000 in
theorem getEntries_any {w : World} {a : Option Addr} {len cap : Nat} {zs : List Int} (h : IsB w a len cap zs) (hsm : len ≤ 140737488351232) {Y : Res (List (ByteArray × Int × ByteArray))} (hY : Y = listR (keyR valueR) zs) :
    Calls Try.prog 34 #[.slice a len cap] w fun e w' => ∃ v r lr cr, e = .returned (.tuple #[v, .slice r lr cr, .int .i64 Y.err]) ∧
      Hid (Own 42 3 VE w' w.heap.size v Y.val) ∧ Hid (Behind w' a r lr cr zs Y.done Y.err) ∧ Below w.heap.size w w' := by
  have H : Hid _ := h
  have HY : Hid _ := hY
  clear h hY
  go_enter Try.func34, Try.ntmps34
  go_wp2_with fail
  refine (getE_any H.out hsm HY.out).mono ?_
  rintro e w1 ⟨v, r, lr, cr, rfl, HO, HB, hB⟩
  go_wp2_with fail
  go_ret3
  exact ⟨v, r, lr, cr, rfl, HO, HB, hB⟩
end Go.Proofs.Ytkcnmmlakimonaa
