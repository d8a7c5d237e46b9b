/-
  OctetsPuts walked: it answers true, and turns nothing that was there.
-/
import Derived.Test.YthdcnmidfgcpaaaRefPut
import Derived.Test.YthdcnmidfgcpaaaSigns
import Derived.Deep.DeepCutAuto
import Derived.Deep.RegionWith
import Derived.Laws.AppendOwnNone
namespace Go.Proofs.Ythdcnmidfgcpaaa
open Go.RowKit
set_option linter.unusedVariables false

set_option maxHeartbeats 1000000 in
theorem puts_no (x n : Int) (a : Option Addr) (len cap : Nat) (w : World) (h : n < 1 ∨ 8 < n) :
    Calls Try.prog 3 #[.int .u64 x, .int .i64 n, .slice a len cap] w fun e w' => e = .returned (.bool true) ∧ Below w.heap.size w w' := by
  have HN : Hid (n < 1 ∨ 8 < n) := h
  have hcn := conv_nil
  go_enter Try.func3, Try.ntmps3
  go_wp2_with fail
  refine (awake_any _).mono ?_
  rintro e w1 ⟨rfl, hB1⟩
  go_wp2_with fail
  refine (put_no _ _ _ HN.out).mono ?_
  rintro e w2 ⟨rfl, rfl⟩
  go_wp2_with fail
  go_quiet (first | (go_at_call 10; exact Calls.quiet_of_same (rput_no _ _ _ HN.out)) | (go_at_call 11; exact Calls.quiet_of_same (signed_no _ _ _ HN.out)) | (go_at_call 12; exact Calls.quiet_of_same (rsigned_no _ _ _ HN.out)))
  by_cases h1 : n < 1
  · go_wp2_with (go_at_call 13; refine (get_no _ _ _ _ _ HN.out).mono ?_; rintro e w3 ⟨rfl, rfl⟩)
    go_ret
    exact ⟨rfl, below_drewN hB1 _⟩
  · have h1' : decide (n < 1) = false := by simpa using h1
    have h8 : 8 < n := by omega
    go_wp2_with (go_at_call 13; refine (get_no _ _ _ _ _ HN.out).mono ?_; rintro e w3 ⟨rfl, rfl⟩)
    go_ret
    exact ⟨rfl, below_drewN hB1 _⟩

theorem cells_conv (w : World) (g off n cap : Nat) (X : List Int) (hX : X.length = n) (h : ∀ t, t < n → w.cell? ⟨g, off + t, none⟩ = some (.int .u8 (X.getD t 0))) :
    (convert 23 9 (.slice (some ⟨g, off, none⟩) n cap)).run Try.prog w = .ok (.string (strOfNums X)) w :=
  run_convert_bytes_arg (P := Try.prog) w 23 5 Try.underlying23 Try.underlying5 g off n cap X hX h 9 Try.underlying9

/-- The document's Put, its text told, and what was there still there. -/
theorem rput_conv (x : Int) (n : Nat) (W2 W : World) (h1 : 1 ≤ n) (h2 : n ≤ 8) (hx : 0 ≤ x) (hx2 : x < 18446744073709551616) (hB : Below W2.heap.size W2 W) :
    Calls Try.prog 10 #[.int .u64 x, .int .i64 n] W fun e w' => ∃ g cp, e = .returned (.slice (some ⟨g, 0, none⟩) n cp) ∧ (convert 23 9 (.slice (some ⟨g, 0, none⟩) n cp)).run Try.prog w' = .ok (.string (strOfNums (putL x n))) w' ∧ Below W2.heap.size W2 w' := by
  refine (rput_yes x n W h1 h2 hx hx2).mono ?_
  rintro e w' ⟨v, rfl, hown, hB'⟩
  obtain ⟨g, cap, rfl, hnc, hcm, _, _, hcell⟩ := own_full hown (by omega)
  exact ⟨g, cap, rfl, cells_conv w' g 0 n cap _ (putL_length x n) (fun t ht => by rw [Nat.zero_add]; exact hcell t ht), hB.trans (hB'.mono hB.size)⟩

theorem IsRow.conv {w W : World} {a : Option Addr} {len cap : Nat} {zs : List Int} (h : IsRow .u8 w a len cap zs) (hB : Below w.heap.size w W) :
    (convert 23 9 (.slice a len cap)).run Try.prog W = .ok (.string (strOfNums (zs.take len))) W := by
  have hle := h.le
  by_cases hc : cap = 0
  · obtain rfl : len = 0 := by omega
    exact conv_void a cap W
  · obtain ⟨b, off, rfl, hlc, hm, hz, hb, hcell, hwf⟩ := h.at (by omega)
    refine cells_conv W b off len cap _ (by simp; omega) (fun t ht => ?_)
    rw [hB.cell hb, hcell t (by omega), List.getD_eq_getElem?_getD, List.getD_eq_getElem?_getD, List.getElem?_take_of_lt ht]

theorem IsRow.news {w W : World} {x : Addr} {len cap : Nat} {zs : List Int} (h : IsRow .u8 w (some x) len cap zs) (hB : Below w.heap.size w W) :
    ∀ j u, ((zs.take len).map (Value.int .u8))[j]? = some u → W.cell? (x.add j) = some u := by
  rcases h with ⟨h, _, _, _⟩ | ⟨y, h, hl, hm, hz, hcell, hwz⟩
  · cases h
  · cases h
    intro j u hj
    have hjl : j < len ∧ j < zs.length := by
      have := (List.getElem?_eq_some_iff.1 hj).1
      simp at this; omega
    have hc := hcell j hjl.2
    have hb := block_lt_of_cell hc
    rw [hB.cell hb, hc, ← hj, List.getElem?_map, List.getElem?_take_of_lt hjl.1, List.getD_eq_getElem?_getD, List.getElem?_eq_getElem hjl.2]
    rfl

theorem IsRow.taken {w : World} {a : Option Addr} {len cap : Nat} {zs : List Int} (h : IsRow .u8 w a len cap zs) : (zs.take len).length = len ∧ ∀ j : Nat, 0 ≤ (zs.take len)[j]?.getD 0 ∧ (zs.take len)[j]?.getD 0 ≤ 255 := by
  rcases h with ⟨_, rfl, _, rfl⟩ | ⟨y, h, hl, hm, hz, hcell, hwz⟩
  · simp
  · refine ⟨by simp; omega, range_of_wf (fun n hn => hwz n (List.mem_of_mem_take hn))⟩

theorem range_append {A B : List Int} (hA : ∀ j : Nat, 0 ≤ A[j]?.getD 0 ∧ A[j]?.getD 0 ≤ 255) (hB : ∀ j : Nat, 0 ≤ B[j]?.getD 0 ∧ B[j]?.getD 0 ≤ 255) :
    ∀ j : Nat, 0 ≤ (A ++ B)[j]?.getD 0 ∧ (A ++ B)[j]?.getD 0 ≤ 255 := by
  intro j
  by_cases h : j < A.length
  · rw [List.getElem?_append_left h]; exact hA j
  · rw [List.getElem?_append_right (by omega)]; exact hB _

/-- Behind both appends: what was put, and what is behind it, is got. -/
theorem get_joined (x : Int) (n len : Nat) (Y : List Int) (v : Value) (base : Nat) (w : World) (h1 : 1 ≤ n) (h2 : n ≤ 8) (hY : Y.length = len) (hr : ∀ j : Nat, 0 ≤ Y[j]?.getD 0 ∧ Y[j]?.getD 0 ≤ 255)
    (hown : w.ownsRow base 5 1 v (n + len) ((putL x n ++ Y).map (Value.int .u8))) :
    Calls Try.prog 13 #[v, .int .i64 n] w fun e w' => ∃ r cap q, e = .returned (.tuple #[.int .u64 (x % 2 ^ (8 * n)), .slice r len cap, .int .i64 0]) ∧ w' = w.drewN q ∧
      (convert 23 9 (.slice r len cap)).run Try.prog (w.drewN q) = .ok (.string (strOfNums Y)) (w.drewN q) := by
  obtain ⟨g, cap, rfl, hnc, hcm, _, _, hcell⟩ := own_full hown (by omega)
  refine (get_yes g 0 (n + len) cap n (putL x n ++ Y) w h1 h2 (by omega) hnc hcm (fun i hi => by rw [Nat.zero_add]; exact hcell i hi) (by simp [putL_length]; omega) (range_append (putL_range x n) hr)).mono ?_
  rintro e w' ⟨off', q, ho, rfl, rfl⟩
  refine ⟨_, cap - n, q, by rw [numTo_putL x n Y h1 h2, Nat.add_sub_cancel_left], rfl, ?_⟩
  refine cells_conv _ g off' len _ Y hY (fun t ht => ?_)
  have hc := hcell (n + t) (by omega)
  rw [ho (by omega), Nat.zero_add]
  rw [List.getD_eq_getElem?_getD, List.getElem?_append_right (by rw [putL_length]; omega), putL_length, Nat.add_sub_cancel_left, ← List.getD_eq_getElem?_getD] at hc
  simpa using hc

theorem rget_put (x : Int) (n g : Nat) (w : World) (h1 : 1 ≤ n) (h2 : n ≤ 8) (hcell : ∀ t, t < n → w.cell? ⟨g, t, none⟩ = some (.int .u8 ((putL x n).getD t 0))) :
    Calls Try.prog 14 #[.slice (some ⟨g, 0, none⟩) n n, .int .i64 0, .int .i64 n] w fun e w' => e = .returned (.tuple #[.int .u64 (x % 2 ^ (8 * n)), .int .i64 n, .int .i64 0]) ∧ w' = w := by
  have h := rget_yes g 0 n n n (putL x n) w h1 h2 (Nat.le_refl _) (Nat.le_refl _) (by unfold maxLen; omega) (fun i hi => by rw [Nat.zero_add]; exact hcell i hi) (by rw [putL_length]; omega) (putL_range x n)
  have e := numTo_putL x n [] h1 h2
  rw [List.append_nil] at e
  rw [e] at h
  exact h

set_option maxHeartbeats 2000000 in
theorem puts_yes (x : Int) (n : Nat) (a : Option Addr) (len cap : Nat) (zs : List Int) (w : World) (h1 : 1 ≤ n) (h2 : n ≤ 8) (hx : 0 ≤ x) (hx2 : x < 18446744073709551616) (hrow : IsRow .u8 w a len cap zs) (hreach : cap ≤ 140737488351232) :
    Calls Try.prog 3 #[.int .u64 x, .int .i64 n, .slice a len cap] w fun e w' => e = .returned (.bool true) ∧ Below w.heap.size w w' := by
  have h1d : decide ((n : Int) < 1) = false := by simp; omega
  have h8d : decide ((8 : Int) < n) = false := by simp; omega
  obtain ⟨i0, hi, hz0, hz1, hz2⟩ := info_parts Try.info5
  have HI : Hid (Try.prog.info? 5 = some i0 ∧ i0.zero = some (.int .u8 0) ∧ i0.size = 1 ∧ i0.bytes = 1) := ⟨hi, hz0, hz1, hz2⟩
  clear hi hz0 hz1 hz2
  have HRow : Hid (IsRow .u8 w a len cap zs) := hrow
  have hlc := hrow.le.1
  clear hrow
  go_enter Try.func3, Try.ntmps3
  go_wp2_with fail
  refine (awake_any _).mono ?_
  rintro e w1 ⟨rfl, hB1⟩
  go_wp2_with fail
  refine (put_yes x n _ h1 h2 hx).mono ?_
  rintro e w2 ⟨rfl, hw2⟩
  have hcell2 : ∀ t, t < n → w2.cell? ⟨w1.heap.size, t, none⟩ = some (.int .u8 ((putL x n).getD t 0)) := by
    intro t ht; rw [hw2, World.cell?_alloc_at _ _ _ _ rfl]; exact putCells_get x n t ht
  have hB2 : Below w.heap.size w w2 := by rw [hw2]; exact hB1.alloc hB1.size _
  have hg : w1.heap.size < w2.heap.size := by rw [hw2]; simp
  have HC2 : Hid (∀ W, Below w2.heap.size w2 W → ∀ t, t < n → W.cell? ⟨w1.heap.size, t, none⟩ = some (.int .u8 ((putL x n).getD t 0))) := fun W hB t ht => (hB.cell hg).trans (hcell2 t ht)
  have HCV : Hid (∀ W, Below w2.heap.size w2 W → (convert 23 9 (.slice (some ⟨w1.heap.size, 0, none⟩) n n)).run Try.prog W = .ok (.string (strOfNums (putL x n))) W) := fun W hB =>
    cells_conv W _ 0 n n _ (putL_length x n) (fun t ht => by rw [Nat.zero_add]; exact (hB.cell hg).trans (hcell2 t ht))
  clear hw2 hcell2
  have hcd := HCV.out w2.drew (Below.refl _ _).drew
  go_upto_region 5 with fail
  go_cut [40] (fun s wc => s = .bool false ∧ Below w2.heap.size w2 wc)
  case first =>
    go_region_with (first
      | (go_at_call 10; refine (rput_conv x n w2 _ h1 h2 hx hx2 ?_).mono ?_; (exact (Below.refl _ _).drew); rintro e w3 ⟨g3, cp3, rfl, hcv3, hB3⟩; have hcb3 := HCV.out w3 hB3)
      | (go_at_call 11; refine (signed_yes x n _ h1 h2).mono ?_; rintro e w4 ⟨rfl, rfl⟩)
      | (go_at_call 12; refine (rsigned_yes x n _ h1 h2 hx hx2).mono ?_; rintro e w5 ⟨rfl, hB5⟩))
    all_goals (go_wp2_with fail; go_meet; exact ⟨rfl, hB3.trans (hB5.mono hB3.size)⟩)
  case rest =>
    obtain ⟨rfl, hBc⟩ := hcut
    have HN1 : Hid _ := bytes_one (putL x n)
    have hnl : ((putL x n).map (Value.int .u8)).length = n * 1 := by simp [putL_length]
    have HNL : Hid _ := hnl
    have HNW : Hid (∀ j u, ((putL x n).map (Value.int .u8))[j]? = some u → wc.cell? ((⟨w1.heap.size, 0, none⟩ : Addr).add j) = some u) := by
      intro j u hj
      have hjn : j < n := by have := (List.getElem?_eq_some_iff.1 hj).1; simpa [putL_length] using this
      have hplain : (⟨w1.heap.size, 0, none⟩ : Addr).add j = ⟨w1.heap.size, j, none⟩ := by unfold Addr.add; split <;> simp_all
      rw [hplain, HC2.out wc hBc j hjn, ← hj, List.getElem?_map, List.getD_eq_getElem?_getD, List.getElem?_eq_getElem (by rw [putL_length]; exact hjn)]
      rfl
    have HOW : Hid _ := World.ownsRow_nil wc wc.heap.size 5 1
    clear hnl hcd
    go_wp2_with (at_builtin; refine wpList_append_own _ rfl (.tmp 56) (.tmp 57) 23 rfl wc.heap.size 5 i0 (.int .u8 0) 1 1 Try.underlying23 HI.out.1 HI.out.2.1 HI.out.2.2.1 HI.out.2.2.2 rfl (by decide) _ _ _ rfl HOW.out ⟨w1.heap.size, 0, none⟩ n n _ rfl HNL.out HNW.out HN1.out ?c1 ?c2 ?c3 ?_)
    case c1 => unfold maxLen; omega
    case c2 => omega
    intro v1 w6 hown1 hgr1 _
    have hB6 : Below w2.heap.size w2 w6 := hBc.grown hgr1 hBc.size (fun k hk => by cases hk)
    have hBw6 : Below w.heap.size w w6 := hB2.trans (hB6.mono hB2.size)
    have hs6 : wc.heap.size ≤ w6.heap.size := hgr1.size
    have HT : Hid _ := HRow.out.taken
    have HO1 : Hid (w6.ownsRow wc.heap.size 5 1 v1 n ((putL x n).map (Value.int .u8))) := hown1
    clear hown1 hgr1 HOW HNW HNL HN1
    cases a with
    | none =>
      have hl0 : len = 0 ∧ cap = 0 := by
        rcases HRow.out with ⟨_, h, h', _⟩ | ⟨x, h, _⟩
        · exact ⟨h, h'⟩
        · cases h
      obtain ⟨rfl, rfl⟩ := hl0
      have HG : Hid _ := get_joined x n 0 [] v1 wc.heap.size w6 h1 h2 rfl (by intro j; simp) (by rw [List.append_nil]; exact HO1.out)
      go_wp2_with (at_builtin; refine wpList_append_own_none rfl (.tmp 59) (.tmp 60) 23 rfl wc.heap.size 5 i0 1 Try.underlying23 HI.out.1 _ _ _ rfl HO1.out rfl ?_)
      refine Calls.mono HG.out ?_
      rintro e w8 ⟨r, cp, q, rfl, rfl, hcr⟩
      have HB8 : Hid (∀ t, t < n → (w6.drewN q).cell? ⟨w1.heap.size, t, none⟩ = some (.int .u8 ((putL x n).getD t 0))) := HC2.out _ (below_drewN hB6 q)
      have hcm := HRow.out.conv (below_drewN hBw6 q)
      rw [List.take_zero] at hcm
      generalize strOfNums [] = T at *
      go_wp2_with fail
      refine (rget_put x n _ _ h1 h2 HB8.out).mono ?_
      rintro e w9 ⟨rfl, rfl⟩
      go_wp2
      go_ret
      exact ⟨by simp, below_drewN hBw6 _⟩
    | some y =>
      have HNW : Hid _ := HRow.out.news hBw6
      have hnl : ((zs.take len).map (Value.int .u8)).length = len * 1 := by rw [List.length_map, HT.out.1, Nat.mul_one]
      have HNL : Hid _ := hnl
      have HN1 : Hid _ := bytes_one (zs.take len)
      clear hnl
      go_wp2_with (at_builtin; refine wpList_append_own _ rfl (.tmp 59) (.tmp 60) 23 rfl wc.heap.size 5 i0 (.int .u8 0) 1 1 Try.underlying23 HI.out.1 HI.out.2.1 HI.out.2.2.1 HI.out.2.2.2 rfl (by decide) _ _ _ rfl HO1.out y len cap _ rfl HNL.out HNW.out HN1.out ?c1b ?c2b ?c3b ?_)
      case c1b => unfold maxLen; omega
      case c2b => omega
      case c3b => exact hs6
      intro v2 w7 hown2 hgr2 _
      have hbk : ∀ k, v1.ownBlock = some k → w2.heap.size ≤ k := fun k hk => Nat.le_trans hBc.size (HO1.out.lt k hk).1
      have hB7 : Below w2.heap.size w2 w7 := hB6.grown hgr2 hB6.size hbk
      have hBw7 : Below w.heap.size w w7 := hB2.trans (hB7.mono hB2.size)
      rw [← List.map_take, ← List.map_append] at hown2
      have HG : Hid _ := get_joined x n len (zs.take len) v2 wc.heap.size w7 h1 h2 HT.out.1 HT.out.2 hown2
      clear hown2 hgr2 HNW HNL HN1 hbk
      go_wp2_with fail
      refine Calls.mono HG.out ?_
      rintro e w8 ⟨r, cp, q, rfl, rfl, hcr⟩
      have HB8 : Hid (∀ t, t < n → (w7.drewN q).cell? ⟨w1.heap.size, t, none⟩ = some (.int .u8 ((putL x n).getD t 0))) := HC2.out _ (below_drewN hB7 q)
      have hcm := HRow.out.conv (below_drewN hBw7 q)
      generalize strOfNums (zs.take len) = T at *
      go_wp2_with fail
      refine (rget_put x n _ _ h1 h2 HB8.out).mono ?_
      rintro e w9 ⟨rfl, rfl⟩
      go_wp2
      go_ret
      exact ⟨by simp, below_drewN hBw7 _⟩

theorem puts_walk (x n : Int) (a : Option Addr) (len cap : Nat) (zs : List Int) (w : World) (wx : (Lit.int .u64 x).wf = true) (h : IsRow .u8 w a len cap zs) (hreach : cap * 1 ≤ 140737488351232) :
    Calls Try.prog 3 #[.int .u64 x, .int .i64 n, .slice a len cap] w fun e w' => e = .returned (.bool true) ∧ Below w.heap.size w w' := by
  have hx := bounds_u64 wx
  by_cases hn : n < 1 ∨ 8 < n
  · exact puts_no x n a len cap w hn
  · obtain ⟨m, rfl⟩ := Int.eq_ofNat_of_zero_le (show 0 ≤ n by omega)
    exact puts_yes x m a len cap zs w (by omega) (by omega) hx.1 (by omega) h (by omega)
end Go.Proofs.Ythdcnmidfgcpaaa
