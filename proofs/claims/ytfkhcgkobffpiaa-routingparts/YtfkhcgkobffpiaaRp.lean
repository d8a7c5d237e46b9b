/-
  The contract of the document's Parts.
-/
import Derived.Test.YtfkhcgkobffpiaaPt
import Derived.Test.YtfkhcgkobffpiaaTk
namespace Go.Proofs.Ytfkhcgkobffpiaa
open Go.RowKit
set_option maxRecDepth 100000
set_option linter.unusedVariables false
set_option linter.unusedSimpArgs false

set_option maxHeartbeats 2000000 in
theorem rparts_row {w : World} {b off len cap : Nat} {zs : List Int} (h : BRow w b off len cap zs) (hb : b < w.heap.size) (hl : len ≤ 1000000) {Y : Int × List (List Int)} (hY : Y = partsA zs) :
    Calls Try.prog 16 #[.slice (some ⟨b, off, none⟩) len cap] w fun e w' => ∃ v, e = .returned (.tuple #[v, .int .i64 Y.1]) ∧ Hid (Own 9 1 VS w' (fun k => w.heap.size ≤ k) v (Y.2.map strOfNums)) ∧ Below w.heap.size w w' := by
  have H : Hid (BRow w b off len cap zs) := h
  have HY : Hid (partsR zs.length zs [] = Y) := by show _ = _; rw [hY]; rfl
  have HZ : Hid (zs.length = len) := h.len_eq
  have hlc : len ≤ cap := h.le
  have hcm : cap ≤ 9223372036854775807 := h.cap_le
  clear h hY
  go_enter Try.func16, Try.ntmps16
  go_wp2_with fail
  go_loopw [4, 5] (fun v i wr => ∃ (f d : Nat) (acc : List (List Int)), d ≤ len ∧ i = .int .i64 d ∧ acc.length ≤ d ∧ Hid (Own 9 1 VS wr (fun k => w.heap.size ≤ k) v (acc.map strOfNums)) ∧ Hid (partsR f (zs.drop d) acc = Y ∧ len - d ≤ f) ∧ Below w.heap.size w wr) (fun _ i _ => len - (intOf i).toNat)
  case atStart => exact ⟨zs.length, 0, [], by omega, rfl, by simp, own_nil _ _ _ _ _, ⟨by simpa using HY.out, by rw [HZ.out]; omega⟩, Below.refl _ _⟩
  case round =>
    obtain ⟨f, d, acc, hd, rfl, ha, HO, HP, hB⟩ := hrel
    have HRr : Hid (BRow wr b off len cap zs) := H.out.old hB
    by_cases hlt : d < len
    · have hll : (zs.drop d).length = len - d := by rw [List.length_drop, HZ.out]
      have HLD : Hid ((zs.drop d).length = len - d) := hll
      clear hll
      by_cases h2 : len < d + 2
      · have HE : Hid (Y = (10, [])) := by
          have := partsR_stop HP.out.1 (by rw [HLD.out]; exact HP.out.2) (by rw [HLD.out]; omega) (by rw [oneP_few (by rw [HLD.out]; omega)]; decide)
          rw [oneP_few (by rw [HLD.out]; omega)] at this
          exact this
        go_wp2_with fail
        refine (rget_at_short _ _ _ d 2 _ (by omega) (by omega) hd (by unfold maxLen; omega) h2 _ _ rfl rfl).mono ?_
        rintro e w1 ⟨rfl, rfl⟩
        go_wp2_with fail
        go_ret2
        exact ⟨_, by rw [HE.out]; rfl, by rw [HE.out]; exact own_nil _ _ _ _ _, hB⟩
      · obtain ⟨n, hn⟩ := Int.eq_ofNat_of_zero_le (numTo_bound (zs.drop d) (range_drop H.out.rng d) 2 (by rw [HLD.out]; omega)).1
        have hn2 := (numTo_bound (zs.drop d) (range_drop H.out.rng d) 2 (by rw [HLD.out]; omega)).2
        rw [hn] at hn2
        have hn3 : n < 65536 := by have h4 : (256 : Int) ^ 2 = 65536 := by decide
                                   omega
        have HN : Hid (numTo (zs.drop d) 2 = n) := hn
        clear hn hn2
        go_wp2_with fail
        refine (rget_at_yes HRr.out d 2 (by omega) (by omega) (by omega) _ _ rfl rfl).mono ?_
        rintro e w1 ⟨rfl, rfl⟩
        rw [HN.out]
        have hw : IntKind.i64.wrap (n : Int) = n := by rw [IntKind.wrap_i64]; omega
        by_cases h3 : len < d + 2 + n + 1
        · have HE : Hid (Y = (10, [])) := by
            have := partsR_stop HP.out.1 (by rw [HLD.out]; exact HP.out.2) (by rw [HLD.out]; omega) (by rw [oneP_less (by rw [HLD.out]; omega) HN.out (by rw [HLD.out]; omega)]; decide)
            rw [oneP_less (by rw [HLD.out]; omega) HN.out (by rw [HLD.out]; omega)] at this
            exact this
          have h3' : (len : Int) ≤ d + 2 + n := by omega
          go_wp2_with fail
          go_ret2
          exact ⟨_, by rw [HE.out]; rfl, by rw [HE.out]; exact own_nil _ _ _ _ _, hB⟩
        · have h3' : decide ((len : Int) ≤ d + 2 + n) = false := by simp; omega
          have h3'' : (d : Int) + 2 + n < len := by omega
          obtain ⟨z, hz⟩ : ∃ z, z = zs.getD (d + 2 + n) 0 := ⟨_, rfl⟩
          have hcz : w1.cell? ⟨b, off + (d + 2 + n), none⟩ = some (.int .u8 z) := by rw [hz]; exact HRr.out.cell (d + 2 + n) (by omega)
          have HZZ : Hid ((zs.drop d).getD (2 + n) 0 = z) := by
            show _ = _
            rw [hz, List.getD_eq_getElem?_getD, List.getD_eq_getElem?_getD, List.getElem?_drop, Nat.add_assoc]
          clear hz
          by_cases h5 : z = 0
          · subst h5
            obtain ⟨S, hS⟩ : ∃ S, S = strOfNums ((zs.drop (d + 2)).take n) := ⟨_, rfl⟩
            have cv : (convert 24 9 (.slice (some ⟨b, off + (d + 2), none⟩) n (cap - (d + 2)))).run Try.prog w1 = .ok (.string S) w1 := by
              rw [hS]; exact HRr.out.piece (d + 2) n (off + (d + 2)) (cap - (d + 2)) (by omega) (fun _ => rfl)
            have HOK : Hid (oneP (zs.drop d) = (0, (zs.drop (d + 2)).take n, 2 + n + 1)) := by
              show _ = _
              rw [oneP_yes HN.out (by rw [HLD.out]; omega) HZZ.out, List.drop_drop]
            obtain ⟨acc', hacc'⟩ : ∃ acc', acc' = acc ++ [(zs.drop (d + 2)).take n] := ⟨_, rfl⟩
            have HN2 : Hid (acc.map strOfNums ++ [S] = acc'.map strOfNums) := by show _ = _; rw [hacc', hS]; simp
            have hal : acc'.length = acc.length + 1 := by rw [hacc']; simp
            have HP2 : Hid (partsR (f - 1) (zs.drop (d + 2 + n + 1)) acc' = Y) := by
              have := partsR_step HP.out.1 (by rw [HLD.out]; exact HP.out.2) (by rw [HLD.out]; omega) (by rw [HOK.out])
              rw [HOK.out, List.drop_drop] at this
              rw [hacc', show d + 2 + n + 1 = d + (2 + n + 1) by omega]
              exact this
            obtain ⟨M, hM⟩ : ∃ M, M = acc.map strOfNums := ⟨_, rfl⟩
            have hml : M.length = acc.length := by rw [hM]; simp
            rw [← hM] at HO HN2
            have hbs := hB.size
            have HO2 : Hid (Own 9 1 VS (w1.alloc (.cells #[.string S] 9)) (fun k => w.heap.size ≤ k) u4 M) := HO.out.old stays_s (below_one w1 _)
            have HBN : Hid ((w1.alloc (.cells #[.string S] 9)).heap[w1.heap.size]? = some (.cells [Value.string S].toArray 9 (0, 0))) := heap_alloc_new w1 _
            have HM : Hid (M.length + 1 ≤ maxLen ∧ (M.length + 1) * 16 ≤ 140737488355328) := by
              show _ ∧ _
              unfold maxLen; omega
            clear hS hacc' hM HO
            go_wp2_with (at_builtin; refine wpList_append_item rfl (.tmp 39) (.tmp 48) 29 rfl stays_s elem_s rfl HO2.out rfl HBN.out rfl ?c1 S rfl ?c2 ?c3 HM.out.1 HM.out.2 ?_)
            case c1 => intro u hu; simp at hu; subst hu; rfl
            case c2 =>
              intro j k hj hk
              obtain rfl : j = 0 := by omega
              simp [Value.ownBlock] at hk
            case c3 => simp; omega
            intro v3 w3 ho3 hK3 hat3
            have HO3 : Hid (Own 9 1 VS w3 (fun k => w.heap.size ≤ k) v3 (acc'.map strOfNums)) := by rw [← HN2.out]; exact ho3
            have hB03 : Below w.heap.size w w3 := (hB.alloc hbs _).trans (hK3.below (by simp; omega) (fun k _ e => (HO2.out.lt k e).1))
            have HF : Hid (len - (d + 2 + n + 1) ≤ f - 1) := by have := HP.out.2; show _ ≤ _; omega
            clear ho3 hK3 hat3 hml
            go_wp2_with fail
            go_roundw
            case rel => exact ⟨f - 1, d + 2 + n + 1, acc', by omega, by go_num, by omega, HO3, ⟨HP2.out, HF.out⟩, hB03⟩
            case measure => simp [intOf]; omega
          · have HE : Hid (Y = (11, [])) := by
              have := partsR_stop HP.out.1 (by rw [HLD.out]; exact HP.out.2) (by rw [HLD.out]; omega) (by rw [oneP_form HN.out (by rw [HLD.out]; omega) (by rw [HZZ.out]; exact h5)]; decide)
              rw [oneP_form HN.out (by rw [HLD.out]; omega) (by rw [HZZ.out]; exact h5)] at this
              exact this
            have hz0 : (z != 0) = true := by simpa using h5
            go_wp2_with fail
            go_ret2
            exact ⟨_, by rw [HE.out]; rfl, by rw [HE.out]; exact own_nil _ _ _ _ _, hB⟩
    · obtain rfl : d = len := by omega
      have HE : Hid (Y = (0, acc)) := partsR_end HP.out.1 (by rw [List.length_drop, HZ.out]; omega)
      go_wp2_with fail
      go_ret2
      exact ⟨_, by rw [HE.out]; rfl, by rw [HE.out]; exact HO, hB⟩

set_option maxHeartbeats 400000 in
theorem rparts_nil (a : Option Addr) (cap : Nat) (w : World) : Calls Try.prog 16 #[.slice a 0 cap] w fun e w' => e = .returned (.tuple #[.slice none 0 0, .int .i64 0]) ∧ w' = w := by
  go_enter Try.func16, Try.ntmps16
  go_wp2_with fail
  go_loopw [4, 5] (fun v i wr => v = .slice none 0 0 ∧ i = .int .i64 0 ∧ wr = w) (fun _ _ _ => 0)
  case atStart => exact ⟨rfl, rfl, rfl⟩
  case round =>
    obtain ⟨rfl, rfl, rfl⟩ := hrel
    go_wp2_with fail
    go_ret2
    exact ⟨rfl, rfl⟩

theorem rparts_any {w : World} {a : Option Addr} {len cap : Nat} {zs : List Int} (h : IsB w a len cap zs) (hl : len ≤ 1000000) {Y : Int × List (List Int)} (hY : Y = partsA zs) :
    Calls Try.prog 16 #[.slice a len cap] w fun e w' => ∃ v, e = .returned (.tuple #[v, .int .i64 Y.1]) ∧ Hid (Own 9 1 VS w' (fun k => w.heap.size ≤ k) v (Y.2.map strOfNums)) ∧ Below w.heap.size w w' := by
  by_cases hp : 0 < len
  · obtain ⟨b, off, rfl, hR⟩ := h.2.2.2.2 hp
    exact rparts_row hR (hR.lt hp) hl hY
  · obtain rfl : len = 0 := by omega
    obtain rfl : zs = [] := List.eq_nil_of_length_eq_zero h.1
    subst hY
    refine (rparts_nil a cap w).mono ?_
    rintro e w' ⟨rfl, rfl⟩
    exact ⟨_, rfl, own_nil _ _ _ _ _, Below.refl _ _⟩
end Go.Proofs.Ytfkhcgkobffpiaa
