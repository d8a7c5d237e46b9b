/-
  The contract of the document's own Get of maps of lists.
-/
import Derived.Test.YtohgaeamfobcaaaRefG3
import Derived.Test.YtohgaeamfobcaaaSame
import Derived.Deep.RegionLaw
namespace Go.Proofs.Ytohgaeamfobcaaa
open Go.RowKit
set_option linter.unusedVariables false
set_option linter.unusedSimpArgs false

theorem goR_done {α : Type} {p : List Int → Res α} (hp : ∀ zs, (p zs).err = 0 → (p zs).done ≤ zs.length) (zs : List Int) : ∀ (n d : Nat) (acc : List α), d ≤ zs.length → (goR p zs n d acc).err = 0 → (goR p zs n d acc).done ≤ zs.length := by
  intro n
  induction n with
  | zero => intro d acc hd _; exact hd
  | succ n ih =>
    intro d acc hd h
    rw [goR] at h ⊢
    by_cases hx : (p (zs.drop d)).err = 0
    · rw [if_pos hx] at h ⊢
      have := hp _ hx
      rw [List.length_drop] at this
      exact ih _ _ (by omega) h
    · rw [if_neg hx] at h
      exact absurd h hx

theorem listR_done (zs : List Int) (h : (listR textR zs).err = 0) : (listR textR zs).done ≤ zs.length := by
  unfold listR at h ⊢
  split
  · exact Nat.zero_le _
  · rename_i hl
    rw [if_neg hl] at h
    exact goR_done textR_done zs _ _ _ (by omega) h

theorem str_one (s : ByteArray) : ∀ u ∈ [Value.string s], u.oneCell' = true := by
  intro u hu
  simp at hu
  subst hu
  rfl
theorem str_block {H base : Nat} {v : Value} (s : ByteArray) : ∀ j k, j < 1 → ([Value.string s].getD j default).ownBlock = some k → k < H ∧ v.ownBlock ≠ some k ∧ base ≤ k := by
  intro j k hj hk
  obtain rfl : j = 0 := by omega
  simp [Value.ownBlock] at hk

theorem goR_len {α : Type} {p : List Int → Res α} (zs : List Int) : ∀ (n d : Nat) (acc : List α), (goR p zs n d acc).val.length ≤ acc.length + n := by
  intro n
  induction n with
  | zero => intro d acc; simp [goR]
  | succ n ih =>
    intro d acc
    rw [goR]
    split
    · have := ih (d + (p (zs.drop d)).done) (acc ++ [(p (zs.drop d)).val])
      simp at this
      omega
    · simp

theorem listR_len' {α : Type} {p : List Int → Res α} (zs : List Int) (hr : ∀ j : Nat, 0 ≤ zs[j]?.getD 0 ∧ zs[j]?.getD 0 ≤ 255) : (listR p zs).val.length ≤ 65536 := by
  unfold listR
  split
  · simp
  · rename_i hl
    have h1 := goR_len (p := p) zs (numTo zs 2).toNat 2 []
    have h2 := (numTo_bound zs hr 2 (by omega)).2
    have h4 : (256 : Int) ^ 2 = 65536 := by decide
    rw [List.length_nil] at h1
    omega

/-- An item, some of whose texts are laid. -/
structure Mid (wr w2 wy : World) (key : ByteArray) (ss : List ByteArray) (a : Option Addr) (c : Nat) : Prop where
  c0 : wy.cell? ⟨wr.heap.size, 0, none⟩ = some (.string key)
  c1 : wy.cell? ⟨wr.heap.size, 1, none⟩ = some (.string ⟨#[]⟩)
  c2 : wy.cell? ⟨wr.heap.size, 2, none⟩ = some (.slice a ss.length c)
  c3 : wy.cell? ⟨wr.heap.size, 3, none⟩ = some (.int .i64 0)
  c4 : wy.cell? ⟨wr.heap.size, 4, none⟩ = some (.string ⟨#[]⟩)
  f2 : wy.frozen? ⟨wr.heap.size, 2, none⟩ = false
  own : Own 9 1 VS wy w2.heap.size (.slice a ss.length c) ss
  far : ∀ k, k < w2.heap.size → some k ≠ some wr.heap.size → wy.heap[k]? = w2.heap[k]?
  size : w2.heap.size ≤ wy.heap.size
  lt : wr.heap.size < w2.heap.size
  bel : Below wr.heap.size wr wy

theorem Mid.start {wr W : World} {s : ByteArray} (hB : Below (wr.heap.size + 1) (wr.alloc (.cells #[.string s, .string ⟨#[]⟩, .slice none 0 0, .int .i64 0, .string ⟨#[]⟩] 70)) W) : Mid wr W W s [] none 0 := by
  obtain ⟨c0, c1, c2, c3, c4, _, _, hs, hb⟩ := five_vars hB
  exact ⟨c0, c1, c2, c3, c4, by rw [hB.frozen (by simp)]; simp [go_sem], own_nil _ _ _ _ _, fun _ _ _ => rfl, Nat.le_refl _, hs, hb⟩

theorem Mid.step {wr w2 wy w3 : World} {key : ByteArray} {ss tt : List ByteArray} {a : Option Addr} {c : Nat} (h : Mid wr w2 wy key ss a c) {s : ByteArray} (htt : ss ++ [s] = tt) {n : Nat} (hn : tt.length = n) {o : Obj} {v3 : Value} (ho : Own 9 1 VS w3 w2.heap.size v3 (ss ++ [s])) (hB : Below w2.heap.size (wy.drew.alloc o) w3) :
    ∃ a3 c3, v3 = .slice a3 n c3 ∧ Hid (Mid wr w2 (w3.setCell ⟨wr.heap.size, 2, none⟩ (.slice a3 n c3)) key tt a3 c3) ∧ w3.cell? ⟨wr.heap.size, 2, none⟩ = some (.slice a ss.length c) ∧ w3.frozen? ⟨wr.heap.size, 2, none⟩ = false ∧ wr.heap.size < w3.heap.size := by
  subst hn
  rw [htt] at ho
  have hb : Below w2.heap.size wy w3 := ((Below.refl _ wy).drew.alloc h.size o).trans hB
  have hcell : ∀ j, w3.cell? ⟨wr.heap.size, j, none⟩ = wy.cell? ⟨wr.heap.size, j, none⟩ := fun j => hb.cell (p := ⟨wr.heap.size, j, none⟩) h.lt
  obtain ⟨a3, c3, rfl, _, _⟩ := ho.view
  have hlt3 : wr.heap.size < w3.heap.size := Nat.lt_of_lt_of_le h.lt (Nat.le_trans h.size hb.size)
  refine ⟨a3, c3, rfl, ⟨?_, ?_, ?_, ?_, ?_, ?_, ?_, ?_, ?_, h.lt, ?_⟩, (hcell 2).trans h.c2, (hb.frozen (p := ⟨wr.heap.size, 2, none⟩) h.lt).trans h.f2, hlt3⟩
  · rw [World.cell?_setCell_other _ _ _ _ (by intro e; cases e)]; exact (hcell 0).trans h.c0
  · rw [World.cell?_setCell_other _ _ _ _ (by intro e; cases e)]; exact (hcell 1).trans h.c1
  · exact World.cell?_setCell_same _ _ _ ((hcell 2).trans h.c2)
  · rw [World.cell?_setCell_other _ _ _ _ (by intro e; cases e)]; exact (hcell 3).trans h.c3
  · rw [World.cell?_setCell_other _ _ _ _ (by intro e; cases e)]; exact (hcell 4).trans h.c4
  · rw [World.frozen?_setCell]; exact (hb.frozen (p := ⟨wr.heap.size, 2, none⟩) h.lt).trans h.f2
  · exact ho.kept stays_s (row := some wr.heap.size) (fun k hk hne => Below.heap_setCell _ _ _ _ (by simpa using hne)) (by simp) (fun k hk => by cases hk; exact h.lt)
  · intro k hk hne
    rw [Below.heap_setCell _ _ _ _ (by simpa using hne), hb.block k hk]
    exact h.far k hk hne
  · simp; exact Nat.le_trans h.size hb.size
  · exact (h.bel.trans (hb.mono (Nat.le_of_lt h.lt))).setCell (p := ⟨wr.heap.size, 2, none⟩) (Nat.le_refl _) _

set_option maxRecDepth 100000 in
set_option maxHeartbeats 2000000 in
theorem rget2_yes {w : World} {b off len cap : Nat} {zs : List Int} (h : BRow w b off len cap zs) (d : Nat) (hl : d + 2 ≤ len) (p : Int) (hp : p = d) {Y : Res (List It)} (hY : Y = listR item2 (zs.drop d)) :
    Calls Try.prog 15 #[.int .i64 2, .slice (some ⟨b, off, none⟩) len cap, .int .i64 p] w fun e w' => ∃ v, e = .returned (.tuple #[v, .int .i64 (place d Y), .int .i64 Y.err]) ∧ Hid (Own 70 5 VI w' w.heap.size v Y.val) ∧ Below w.heap.size w w' := by
  subst hp
  have hz := h.len_eq
  have hlm : len ≤ 9223372036854775807 := Nat.le_trans h.le h.cap_le
  have hyl : (zs.drop d).length = len - d := by rw [List.length_drop, hz]
  have hyr := range_drop h.rng d
  obtain ⟨N, hN⟩ := Int.eq_ofNat_of_zero_le (numTo_bound (zs.drop d) hyr 2 (by omega)).1
  have hN2 := (numTo_bound (zs.drop d) hyr 2 (by omega)).2
  rw [hN] at hN2
  have hN3 : N < 65536 := by have h4 : (256 : Int) ^ 2 = 65536 := by decide
                             omega
  have HL : Hid (Y = goR item2 (zs.drop d) N 2 []) := by
    show _ = _
    rw [hY, listR, if_neg (by omega), hN, Int.toNat_natCast]
  have H : Hid (BRow w b off len cap zs) := h
  have HN : Hid (numTo (zs.drop d) 2 = N) := hN
  have HZ : Hid ((zs.drop d).length = len - d) := hyl
  clear h hN hN2 hz hY hyl hyr
  go_enter Try.func15, Try.ntmps15
  go_wp2_with fail
  refine (rget_at_yes H.out d 2 (by omega) (by omega) hl _ _ rfl rfl).mono ?_
  rintro e w1 ⟨rfl, rfl⟩
  rw [HN.out]
  go_wp2_with fail
  go_loopw [10, 12, 13] (fun t l i wr => ∃ k dd acc, k ≤ N ∧ i = .int .u64 k ∧ t = .int .i64 ((d + dd : Nat) : Int) ∧ d + dd ≤ len ∧ Hid (Own 70 5 VI wr w1.heap.size l acc) ∧ acc.length = k ∧
      Hid (goR item2 (zs.drop d) (N - k) dd acc = Y) ∧ Below w1.heap.size w1 wr) (fun _ _ i _ => N - (intOf i).toNat)
  case atStart => exact ⟨0, 2, [], by omega, rfl, by simp, hl, own_nil _ _ _ _ _, rfl, HL.out.symm, Below.refl _ _⟩
  case round =>
    obtain ⟨wo, hwo⟩ : ∃ wo, wo = wr := ⟨_, rfl⟩
    subst hwo
    obtain ⟨k, dd, acc, hk, rfl, rfl, hd, HO, hacc, HG, hB⟩ := hrel
    by_cases hlt : k < N
    · obtain ⟨X, hX⟩ : ∃ X, X = textR (zs.drop (d + dd)) := ⟨_, rfl⟩
      obtain ⟨X2, hX2⟩ : ∃ X2, X2 = listR textR (zs.drop (d + dd + X.done)) := ⟨_, rfl⟩
      obtain ⟨W, hW⟩ : ∃ W, W = keyR (listR textR) (zs.drop (d + dd)) := ⟨_, rfl⟩
      have HX : Hid _ := hX
      have HX2 : Hid (X2.map (List.map keyIt) = listR item0 (zs.drop (d + dd + X.done))) := by
        rw [hX2]; exact (listR_map keyIt textR _).symm
      have HX2' : Hid (X2 = listR textR ((zs.drop (d + dd)).drop X.done)) := by
        show _ = _
        rw [List.drop_drop]; exact hX2
      have HW : Hid _ := hW
      have HXI : Hid (item2 ((zs.drop d).drop dd) = W.map multiIt) := by
        show _ = _
        rw [item2, List.drop_drop, ← hW]
      have HDN : Hid (X.err = 0 → d + dd + X.done ≤ len) := by
        intro he
        rw [hX] at he ⊢
        have := textR_done _ he
        rw [List.length_drop] at this
        have := HZ.out
        rw [List.length_drop] at this
        omega
      have HDN2 : Hid (X2.err = 0 → d + dd + X.done ≤ len → d + dd + X.done + X2.done ≤ len) := by
        intro he hh
        rw [hX2] at he ⊢
        have := listR_done _ he
        rw [List.length_drop] at this
        have := HZ.out
        rw [List.length_drop] at this
        omega
      have hbs := hB.size
      have HLX : Hid (X2.val.length ≤ 65536) := by
        show _ ≤ _
        rw [hX2]; exact listR_len' _ (range_drop H.out.rng _)
      clear hX hX2 hW
      go_wp2_with fail
      refine (rgetText_at (H.out.isB.old (hB.alloc hbs _)) (d + dd) hd _ (by simp) HX.out).mono ?_
      rintro e w2 ⟨rfl, rfl⟩
      by_cases he : X.err = 0
      · rw [place_ok he, he]
        have hdn := HDN.out he
        go_wp2_with fail
        refine (rget0_any (H.out.isB.old (hB.alloc hbs _)) (d + dd + X.done) hdn _ (by simp) HX2.out).mono ?_
        rintro e w2 ⟨v2, rfl, HOl, hB2⟩
        have HOl' : Hid (Own 70 5 VI w2 (wo.heap.size + 1) v2 (X2.val.map keyIt)) := by
          show Own _ _ _ _ _ _ _
          have := HOl.out
          simpa [Res.map] using this
        obtain ⟨al, cl, hv2, hvl, _⟩ := HOl.out.view
        have hml : (X2.map (List.map keyIt)).val.length = X2.val.length := List.length_map _
        rw [hml] at hv2
        subst hv2
        have hcl := hvl.2.1
        have hclm : cl ≤ 9223372036854775807 := hvl.2.2.1
        rw [hml] at hcl
        have HMID : Hid (Mid wo w2 w2 X.val [] none 0) := Mid.start (hB2.mono (by simp))
        obtain ⟨L, hL⟩ : ∃ L, L = X2.val.length := ⟨_, rfl⟩
        rw [← hL] at HOl' hcl ⊢
        have HLL : Hid (X2.val.length = L) := hL.symm
        clear HOl hvl hml hL
        rw [show (X2.map (List.map keyIt)).err = X2.err from rfl, show place (d + dd + X.done) (X2.map (List.map keyIt)) = place (d + dd + X.done) X2 from rfl]
        generalize hPL : place (d + dd + X.done) X2 = PL
        have HPLX : Hid _ := hPL
        clear hPL
        go_wp2_with fail
        go_loopw [16] (fun i wz => ∃ (m : Nat) (at_ : Option Addr) (ct : Nat), m ≤ L ∧ i = .int .i64 m ∧ Hid (Mid wo w2 wz X.val (X2.val.take m) at_ ct)) (fun i _ => L - (intOf i).toNat)
        case atStart => exact ⟨0, none, 0, by omega, rfl, HMID⟩
        case round =>
          obtain ⟨m, at_, ct, hm, rfl, HM⟩ := hrel
          have htl : (X2.val.take m).length = m := by rw [List.length_take, HLL.out]; omega
          have c2 := HM.out.c2
          rw [htl] at c2
          have f2 := HM.out.f2
          have hsl : wo.heap.size < wr.heap.size := Nat.lt_of_lt_of_le HM.out.lt HM.out.size
          by_cases hlt2 : m < L
          · obtain ⟨al', cl', hv', hvl', _⟩ := (HOl'.out.kept stays_i HM.out.far HM.out.size (fun k hk => by cases hk; omega)).view
            rw [List.length_map, HLL.out] at hv' hvl'
            cases hv'
            obtain ⟨bl, ol, a5, l5, c5, rfl, d0, _⟩ := hvl'.item hlt2
            have hbl : bl < wr.heap.size := hvl'.lt rfl (by omega)
            obtain ⟨s, hs⟩ : ∃ s, s = X2.val.getD m default := ⟨_, rfl⟩
            have hkey : ((X2.val.map keyIt).getD m default).key = s := by
              rw [hs, List.getD_eq_getElem?_getD, List.getD_eq_getElem?_getD, List.getElem?_map, List.getElem?_eq_getElem (by rw [HLL.out]; exact hlt2)]
              rfl
            rw [hkey] at d0
            have HTK : Hid (X2.val.take m ++ [s] = X2.val.take (m + 1)) := by
              show _ = _
              rw [hs, List.take_add_one, List.getD_eq_getElem?_getD, List.getElem?_eq_getElem (by rw [HLL.out]; exact hlt2)]
              rfl
            have HOt : Hid (Own 9 1 VS (wr.drew.alloc (.cells #[.string s] 9)) w2.heap.size (.slice at_ m ct) (X2.val.take m)) := by
              have := HM.out.own.old stays_s ((Below.refl _ wr).drew.alloc (Nat.le_refl _) (.cells #[.string s] 9))
              rw [htl] at this; exact this
            have HBNt : Hid ((wr.drew.alloc (.cells #[.string s] 9)).heap[wr.heap.size]? = some (.cells [Value.string s].toArray 9 (0, 0))) := heap_alloc_new wr.drew _
            have HSZt : Hid (w2.heap.size ≤ (wr.drew.alloc (.cells #[.string s] 9)).heap.size) := by
              show _ ≤ _
              have := HM.out.size
              simp; omega
            have HBD : Hid ((X2.val.take m).length + 1 ≤ maxLen ∧ ((X2.val.take m).length + 1) * 16 ≤ 140737488355328) := by
              rw [htl]
              have := HLX.out
              rw [HLL.out] at this
              show _ ∧ _
              unfold maxLen; omega
            have HTL : Hid ((X2.val.take (m + 1)).length = m + 1) := by
              show _ = _
              rw [List.length_take, HLL.out]; omega
            clear hs hkey hvl' htl
            go_wp2_with fail
            go_region_law (refine step_append_item rfl (.tmp 70) (.tmp 76) 22 rfl stays_s elem_s (by rfl) HOt.out (by rfl) HBNt.out rfl (str_one s) s rfl (str_block s) HBD.out.1 HBD.out.2 HSZt.out ?_; intro v3 w3 ho3 hB3; obtain ⟨a3, c3, rfl, HM3, hcs, hfs, hs3⟩ := HM.out.step HTK.out HTL.out ho3 hB3; clear ho3 hB3)
            all_goals (go_wp2_with fail; go_roundw; (case rel => exact ⟨m + 1, a3, c3, by omega, by go_num, HM3⟩); (case measure => simp [intOf]; omega))
          · obtain rfl : m = L := by omega
            have hTT : X2.val.take m = X2.val := List.take_of_length_le (by rw [HLL.out]; omega)
            rw [hTT] at HM
            have d0 := HM.out.c0
            have d1 := HM.out.c1
            have d3 := HM.out.c3
            have d4 := HM.out.c4
            have HBR : Hid (Below w1.heap.size w1 wr) := hB.trans (HM.out.bel.mono hbs)
            by_cases he2 : X2.err = 0
            · have HWW := keyR_both HW.out HX.out he HX2'.out he2
              have HG2 : Hid (goR item2 (zs.drop d) (N - (k + 1)) (dd + (X.done + X2.done)) (acc ++ [multiIt (X.val, X2.val)]) = Y) := by
                have := goR_step HG.out hlt (by rw [HXI.out, HWW]; rfl)
                rw [HXI.out, HWW] at this
                exact this
              obtain ⟨a6, c6, h6, hv6, hf6⟩ := HM.out.own.view
              cases h6
              rw [HLL.out] at hv6
              have HO2 : Hid (Own 70 5 VI (wr.alloc (.cells (lead5 X.val at_ m ct).toArray 70)) w1.heap.size u12 acc) := HO.out.old stays_i (HM.out.bel.alloc HM.out.bel.size _)
              have HBN : Hid ((wr.alloc (.cells (lead5 X.val at_ m ct).toArray 70)).heap[wr.heap.size]? = some (.cells (lead5 X.val at_ m ct).toArray 70 (0, 0))) := heap_alloc_new wr _
              have HVI : Hid (View 1 VS (wr.alloc (.cells (lead5 X.val at_ m ct).toArray 70)) at_ m ct X2.val) := hv6.old stays_s (below_one wr _)
              have HF6 : Hid (Fresh w2.heap.size wr at_) := hf6
              have HU : Hid (∀ k, u12.ownBlock = some k → k < w2.heap.size) := fun k hk => by have h1 := (HO.out.lt k hk).2; have h2 := HM.out.lt; omega
              have hws : w1.heap.size ≤ w2.heap.size := by have h2 := HM.out.lt; omega
              have hdn2 := HDN2.out he2 hdn
              have HPP : Hid (PL = ((d + dd + X.done + X2.done : Nat) : Int)) := by
                show _ = _
                rw [← HPLX.out, place_ok he2]
              have hws2 := HM.out.size
              clear HWW hv6 hf6
              rw [he2, HPP.out]
              go_wp2_with (at_builtin; refine wpList_append_item rfl (.tmp 92) (.tmp 94) 29 rfl stays_i elem_i rfl HO2.out rfl HBN.out rfl (lead5_one _ _ _ _) (multiIt (X.val, X2.val)) (lead5_vi _ HVI.out) (lead5_block _ hws HF6.out (by simp) HU.out) ?c3 ?c4 ?c5 ?_)
              case c3 => unfold maxLen; omega
              case c4 => omega
              case c5 => simp; omega
              intro v3 w3 ho3 hB3
              have HO3 : Hid (Own 70 5 VI w3 w1.heap.size v3 (acc ++ [multiIt (X.val, X2.val)])) := ho3
              have hB03 : Below w1.heap.size w1 w3 := (HBR.out.alloc (by omega) _).trans hB3
              clear ho3
              go_wp2_with fail
              go_roundw
              case rel => exact ⟨k + 1, dd + (X.done + X2.done), acc ++ [multiIt (X.val, X2.val)], by omega, by go_num, by go_num, by omega, HO3, by simp [hacc], HG2, hB03⟩
              case measure => simp [intOf]; omega
            · have t : (X2.err == 0) = false := by simpa using he2
              have HWW := keyR_part HW.out HX.out he HX2'.out he2
              have HE := goR_stop HG.out hlt (by rw [HXI.out, HWW]; exact he2)
              rw [HXI.out, HWW] at HE
              have HHE : Hid (Y = ⟨[], 0, X2.err⟩) := HE
              have HPL : Hid (place d Y = 0) := by
                show _ = _
                rw [HHE.out]; exact place_bad he2
              clear HE he2 HWW
              go_wp2_with fail
              go_ret3
              exact ⟨.slice none 0 0, by rw [HPL.out, HHE.out]; rfl, by rw [HHE.out]; exact own_nil _ _ _ _ _, HBR.out⟩
      · rw [place_bad he]
        have t : (X.err == 0) = false := by simpa using he
        have HWW := keyR_key HW.out HX.out he
        have HE := goR_stop HG.out hlt (by rw [HXI.out, HWW]; exact he)
        rw [HXI.out, HWW] at HE
        have HHE : Hid (Y = ⟨[], 0, X.err⟩) := HE
        have HPL : Hid (place d Y = 0) := by
          show _ = _
          rw [HHE.out]; exact place_bad he
        clear HE he HWW
        go_wp2_with fail
        go_ret3
        exact ⟨.slice none 0 0, by rw [HPL.out, HHE.out]; rfl, by rw [HHE.out]; exact own_nil _ _ _ _ _, hB.alloc hbs _⟩
    · have HE := goR_end HG.out (by omega)
      go_wp2_with fail
      go_ret3
      exact ⟨_, by rw [HE]; rfl, by rw [HE]; exact HO, hB⟩

theorem rget2_any {w : World} {a : Option Addr} {len cap : Nat} {zs : List Int} (h : IsB w a len cap zs) (d : Nat) (hd : d ≤ len) (p : Int) (hp : p = d) {Y : Res (List It)} (hY : Y = listR item2 (zs.drop d)) :
    Calls Try.prog 15 #[.int .i64 2, .slice a len cap, .int .i64 p] w fun e w' => ∃ v, e = .returned (.tuple #[v, .int .i64 (place d Y), .int .i64 Y.err]) ∧ Hid (Own 70 5 VI w' w.heap.size v Y.val) ∧ Below w.heap.size w w' := by
  by_cases hl : len < d + 2
  · refine (rget03_short 2 a len cap d w hd (Nat.le_trans h.2.1 h.2.2.1) hl p hp).mono ?_
    rintro e w' ⟨rfl, rfl⟩
    rw [listR, if_pos (by rw [List.length_drop, h.1]; omega)] at hY
    subst hY
    exact ⟨.slice none 0 0, rfl, own_nil _ _ _ _ _, Below.refl _ _⟩
  · obtain ⟨b, off, rfl, hR⟩ := h.2.2.2.2 (by omega)
    exact rget2_yes hR d (by omega) p hp hY
end Go.Proofs.Ytohgaeamfobcaaa
