/-
  The contract of the document's own Get of maps of values.
-/
import Derived.Test.YtkcnmmlakimonaaRefG
namespace Go.Proofs.Ytkcnmmlakimonaa
open Go.RowKit
set_option linter.unusedVariables false
set_option linter.unusedSimpArgs false

theorem valueR_done (zs : List Int) (h : (valueR zs).err = 0) : (valueR zs).done ≤ zs.length := by
  unfold valueR at h ⊢
  simp only at h ⊢
  unfold valueA at h ⊢
  split
  · exact Nat.zero_le _
  · split
    · exact Nat.zero_le _
    · split
      · simp only; omega
      · split
        · simp only; omega
        · split
          · exact Nat.zero_le _
          · simp only; omega

/-- An item's five cells in a later world. -/
theorem five_vars {wr W : World} {s : ByteArray} (hB : Below (wr.heap.size + 1) (wr.alloc (.cells #[.string s, .string ⟨#[]⟩, .slice none 0 0, .int .i64 0, .string ⟨#[]⟩] 81)) W) :
    W.cell? ⟨wr.heap.size, 0, none⟩ = some (.string s) ∧ W.cell? ⟨wr.heap.size, 1, none⟩ = some (.string ⟨#[]⟩) ∧ W.cell? ⟨wr.heap.size, 2, none⟩ = some (.slice none 0 0) ∧ W.cell? ⟨wr.heap.size, 3, none⟩ = some (.int .i64 0) ∧ W.cell? ⟨wr.heap.size, 4, none⟩ = some (.string ⟨#[]⟩) ∧
    W.frozen? ⟨wr.heap.size, 3, none⟩ = false ∧ W.frozen? ⟨wr.heap.size, 4, none⟩ = false ∧ wr.heap.size < W.heap.size ∧ Below wr.heap.size wr W := by
  have hs := hB.size
  simp at hs
  refine ⟨?_, ?_, ?_, ?_, ?_, ?_, ?_, by omega, (below_one wr _).trans (hB.mono (by omega))⟩
  · rw [hB.cell (by simp)]; simp [go_sem]
  · rw [hB.cell (by simp)]; simp [go_sem]
  · rw [hB.cell (by simp)]; simp [go_sem]
  · rw [hB.cell (by simp)]; simp [go_sem]
  · rw [hB.cell (by simp)]; simp [go_sem]
  · rw [hB.frozen (by simp)]; simp [go_sem]
  · rw [hB.frozen (by simp)]; simp [go_sem]

set_option maxRecDepth 100000 in
set_option maxHeartbeats 2000000 in
theorem rget3_yes {w : World} {b off len cap : Nat} {zs : List Int} (h : BRow w b off len cap zs) (d : Nat) (hl : d + 2 ≤ len) (p : Int) (hp : p = d) {Y : Res (List It)} (hY : Y = listR item3 (zs.drop d)) :
    Calls Try.prog 20 #[.int .i64 3, .slice (some ⟨b, off, none⟩) len cap, .int .i64 p] w fun e w' => ∃ v, e = .returned (.tuple #[v, .int .i64 (place d Y), .int .i64 Y.err]) ∧ Hid (Own 81 5 VI w' w.heap.size v Y.val) ∧ Below w.heap.size w w' := by
  subst hp
  have hz := h.len_eq
  have hlm : len ≤ 9223372036854775807 := Nat.le_trans h.le h.cap_le
  have hyl : (zs.drop d).length = len - d := by rw [List.length_drop, hz]
  have hyr := range_drop h.rng d
  obtain ⟨N, hN⟩ := Int.eq_ofNat_of_zero_le (numTo_bound (zs.drop d) hyr 2 (by omega)).1
  have hN2 := (numTo_bound (zs.drop d) hyr 2 (by omega)).2
  rw [hN] at hN2
  have hN3 : N < 65536 := by have h4 : (256 : Int) ^ 2 = 65536 := by decide
                             omega
  have HL : Hid (Y = goR item3 (zs.drop d) N 2 []) := by
    show _ = _
    rw [hY, listR, if_neg (by omega), hN, Int.toNat_natCast]
  have H : Hid (BRow w b off len cap zs) := h
  have HN : Hid (numTo (zs.drop d) 2 = N) := hN
  have HZ : Hid ((zs.drop d).length = len - d) := hyl
  clear h hN hN2 hz hY hyl hyr
  go_enter Try.func20, Try.ntmps20
  go_wp2_with fail
  refine (rget_at_yes H.out d 2 (by omega) (by omega) hl _ _ rfl rfl).mono ?_
  rintro e w1 ⟨rfl, rfl⟩
  rw [HN.out]
  go_wp2_with fail
  go_loopw [10, 12, 13] (fun t l i wr => ∃ k dd acc, k ≤ N ∧ i = .int .u64 k ∧ t = .int .i64 ((d + dd : Nat) : Int) ∧ d + dd ≤ len ∧ Hid (Own 81 5 VI wr w1.heap.size l acc) ∧ acc.length = k ∧
      Hid (goR item3 (zs.drop d) (N - k) dd acc = Y) ∧ Below w1.heap.size w1 wr) (fun _ _ i _ => N - (intOf i).toNat)
  case atStart => exact ⟨0, 2, [], by omega, rfl, by simp, hl, own_nil _ _ _ _ _, rfl, HL.out.symm, Below.refl _ _⟩
  case round =>
    obtain ⟨k, dd, acc, hk, rfl, rfl, hd, HO, hacc, HG, hB⟩ := hrel
    by_cases hlt : k < N
    · obtain ⟨X, hX⟩ : ∃ X, X = textR (zs.drop (d + dd)) := ⟨_, rfl⟩
      obtain ⟨X2, hX2⟩ : ∃ X2, X2 = valueR (zs.drop (d + dd + X.done)) := ⟨_, rfl⟩
      obtain ⟨W, hW⟩ : ∃ W, W = keyR valueR (zs.drop (d + dd)) := ⟨_, rfl⟩
      have HX : Hid _ := hX
      have HX2 : Hid (X2 = valueR (zs.drop (d + dd + X.done))) := hX2
      have HX2' : Hid (X2 = valueR ((zs.drop (d + dd)).drop X.done)) := by
        show _ = _
        rw [List.drop_drop]; exact hX2
      have HW : Hid _ := hW
      have HXI : Hid (item3 ((zs.drop d).drop dd) = W.map entryIt) := by
        show _ = _
        rw [item3, List.drop_drop, ← hW]
      have HDN : Hid (X.err = 0 → d + dd + X.done ≤ len) := by
        intro he
        rw [hX] at he ⊢
        have := textR_done _ he
        rw [List.length_drop] at this
        have := HZ.out
        rw [List.length_drop] at this
        omega
      have HDN2 : Hid (X2.err = 0 → d + dd + X.done ≤ len → d + dd + X.done + X2.done ≤ len) := by
        intro he hh
        rw [hX2] at he ⊢
        have := valueR_done _ he
        rw [List.length_drop] at this
        have := HZ.out
        rw [List.length_drop] at this
        omega
      have hbs := hB.size
      clear hX hX2 hW
      go_wp2_with fail
      refine (rgetText_at (H.out.isB.old (hB.alloc hbs _)) (d + dd) hd _ (by simp) HX.out).mono ?_
      rintro e w2 ⟨rfl, rfl⟩
      by_cases he : X.err = 0
      · rw [place_ok he, he]
        have hdn := HDN.out he
        go_wp2_with fail
        refine (rgetValue_at (H.out.isB.old (hB.alloc hbs _)) (d + dd + X.done) hdn _ (by simp) HX2.out).mono ?_
        rintro e w2 ⟨rfl, hB2⟩
        obtain ⟨c0, c1, c2, c3, c4, f3, f4, hs2, hB02⟩ := five_vars (hB2.mono (by simp))
        obtain ⟨w4, hw4⟩ : ∃ w4, w4 = (w2.setCell ⟨wr.heap.size, 3, none⟩ (.int .i64 X2.val.1)).setCell ⟨wr.heap.size, 4, none⟩ (.string X2.val.2) := ⟨_, rfl⟩
        have hB4 : Below wr.heap.size wr w4 := by rw [hw4]; exact (hB02.setCell (p := ⟨wr.heap.size, 3, none⟩) (Nat.le_refl _) _).setCell (p := ⟨wr.heap.size, 4, none⟩) (Nat.le_refl _) _
        have hs4 : w4.heap.size = w2.heap.size := by rw [hw4]; simp
        have HB4 : Hid (Below w1.heap.size w1 w4) := hB.trans (hB4.mono hbs)
        have HS4 : Hid (w4.heap.size = w2.heap.size) := hs4
        by_cases he2 : X2.err = 0
        · rw [place_ok he2, he2]
          have HWW := keyR_both HW.out HX.out he HX2'.out he2
          have HG2 : Hid (goR item3 (zs.drop d) (N - (k + 1)) (dd + (X.done + X2.done)) (acc ++ [entryIt (X.val, X2.val)]) = Y) := by
            have := goR_step HG.out hlt (by rw [HXI.out, HWW]; rfl)
            rw [HXI.out, HWW] at this
            exact this
          have HO2 : Hid (Own 81 5 VI (w4.alloc (.cells (flat5 X.val ⟨#[]⟩ X2.val.1 X2.val.2).toArray 81)) w1.heap.size u12 acc) := HO.out.old stays_i (hB4.alloc hB4.size _)
          have HBN : Hid ((w4.alloc (.cells (flat5 X.val ⟨#[]⟩ X2.val.1 X2.val.2).toArray 81)).heap[w2.heap.size]? = some (.cells (flat5 X.val ⟨#[]⟩ X2.val.1 X2.val.2).toArray 81 (0, 0))) := by
            rw [← hs4]; exact heap_alloc_new w4 _
          have hws : w1.heap.size ≤ w2.heap.size := by have := hB4.size; omega
          rw [hw4] at HO2 HBN
          clear hB4 hs4
          have hdn2 := HDN2.out he2 hdn
          clear HWW
          go_wp2_with (at_builtin; refine wpList_append_item rfl (.tmp 92) (.tmp 94) 31 rfl stays_i elem_i rfl HO2.out rfl HBN.out rfl (flat5_one _ _ _ _) (entryIt (X.val, X2.val)) (flat5_vi _ _ _ _ _) (flat5_block _ _ _ _) ?c3 ?c4 ?c5 ?_)
          case c3 => unfold maxLen; omega
          case c4 => omega
          case c5 => simp; omega
          intro v3 w3 ho3 hB3
          have HO3 : Hid (Own 81 5 VI w3 w1.heap.size v3 (acc ++ [entryIt (X.val, X2.val)])) := ho3
          have hB03 : Below w1.heap.size w1 w3 := (HB4.out.alloc (by have := HS4.out; omega) _).trans (by rw [← hw4] at hB3; exact hB3)
          clear ho3
          go_wp2_with fail
          go_roundw
          case rel => exact ⟨k + 1, dd + (X.done + X2.done), acc ++ [entryIt (X.val, X2.val)], by omega, by go_num, by go_num, by omega, HO3, by simp [hacc], HG2, hB03⟩
          case measure => simp [intOf]; omega
        · rw [place_bad he2]
          have t : (X2.err == 0) = false := by simpa using he2
          have HWW := keyR_part HW.out HX.out he HX2'.out he2
          have HE := goR_stop HG.out hlt (by rw [HXI.out, HWW]; exact he2)
          rw [HXI.out, HWW] at HE
          have HHE : Hid (Y = ⟨[], 0, X2.err⟩) := HE
          have HPL : Hid (place d Y = 0) := by
            show _ = _
            rw [HHE.out]; exact place_bad he2
          clear HE he2 HWW hB4 hs4
          go_wp2_with fail
          go_ret3
          exact ⟨.slice none 0 0, by rw [HPL.out, HHE.out]; rfl, by rw [HHE.out]; exact own_nil _ _ _ _ _, by rw [← hw4]; exact HB4.out⟩
      · rw [place_bad he]
        have t : (X.err == 0) = false := by simpa using he
        have HWW := keyR_key HW.out HX.out he
        have HE := goR_stop HG.out hlt (by rw [HXI.out, HWW]; exact he)
        rw [HXI.out, HWW] at HE
        have HHE : Hid (Y = ⟨[], 0, X.err⟩) := HE
        have HPL : Hid (place d Y = 0) := by
          show _ = _
          rw [HHE.out]; exact place_bad he
        clear HE he HWW
        go_wp2_with fail
        go_ret3
        exact ⟨.slice none 0 0, by rw [HPL.out, HHE.out]; rfl, by rw [HHE.out]; exact own_nil _ _ _ _ _, hB.alloc hbs _⟩
    · have HE := goR_end HG.out (by omega)
      go_wp2_with fail
      go_ret3
      exact ⟨_, by rw [HE]; rfl, by rw [HE]; exact HO, hB⟩

theorem rget3_any {w : World} {a : Option Addr} {len cap : Nat} {zs : List Int} (h : IsB w a len cap zs) (d : Nat) (hd : d ≤ len) (p : Int) (hp : p = d) {Y : Res (List It)} (hY : Y = listR item3 (zs.drop d)) :
    Calls Try.prog 20 #[.int .i64 3, .slice a len cap, .int .i64 p] w fun e w' => ∃ v, e = .returned (.tuple #[v, .int .i64 (place d Y), .int .i64 Y.err]) ∧ Hid (Own 81 5 VI w' w.heap.size v Y.val) ∧ Below w.heap.size w w' := by
  by_cases hl : len < d + 2
  · refine (rget03_short 3 a len cap d w hd (Nat.le_trans h.2.1 h.2.2.1) hl p hp).mono ?_
    rintro e w' ⟨rfl, rfl⟩
    rw [listR, if_pos (by rw [List.length_drop, h.1]; omega)] at hY
    subst hY
    exact ⟨.slice none 0 0, rfl, own_nil _ _ _ _ _, Below.refl _ _⟩
  · obtain ⟨b, off, rfl, hR⟩ := h.2.2.2.2 (by omega)
    exact rget3_yes hR d (by omega) p hp hY
end Go.Proofs.Ytkcnmmlakimonaa
