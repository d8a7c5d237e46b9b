/-
  bytes.Clone; the first column of a name; Cell.
-/
import Derived.Test.YtnapeecmlkkolaaDoorTv10
namespace Go.Proofs.YtnapeecmlkkolaaDoor
open Go.RowKit
set_option maxRecDepth 100000
set_option linter.unusedVariables false
set_option linter.unusedSimpArgs false

def nmB (a b : ByteArray) : Bool := a.toList == b.toList

set_option maxHeartbeats 400000 in
theorem clone_any {w : World} {x : Option Addr} {len cap : Nat} {zs : List Int} (h : IsB w x len cap zs) (hl : len ≤ 140737488355328) :
    Calls Tryd.prog 42 #[.slice x len cap] w fun e w' => ∃ a cp, e = .returned (.slice a len cp) ∧ Hid (IsBF (fun k => w.heap.size ≤ k) w' a len cp zs) ∧ Hid (Below w.heap.size w w') := by
  have HLN : Hid (zs.length = len) := h.1
  have HRG : Hid (∀ j : Nat, 0 ≤ zs[j]?.getD 0 ∧ zs[j]?.getD 0 ≤ 255) := h.range
  cases x with
  | none =>
    obtain ⟨h1, h2, h3, h4, h5⟩ := h
    obtain ⟨rfl, rfl⟩ := h4 rfl
    obtain rfl : zs = [] := List.eq_nil_of_length_eq_zero h1
    have q : ∀ (w : World) (a : Option Addr) (n c n' c' : Nat), (binOp .eql 22 (.slice a n c) (.slice none n' c')).run Tryd.prog w = .ok (.bool a.isNone) w := fun w a n c n' c' => Lib.run_eql_slice_nil w _ _ a n c n' c' Tryd.underlying22
    clear h1 h2 h3 h4 h5
    go_enter Tryd.func42, Tryd.ntmps42
    go_wp2_with fail
    go_ret
    exact ⟨none, 0, rfl, isBF_nil _ _, Below.refl _ _⟩
  | some x =>
    have H : Hid (IsB (w.alloc (.cells #[] 5)) (some x) len cap zs) := h.old (below_one _ _)
    have HO : Hid (OwnB (w.alloc (.cells #[] 5)) w.heap.size (.slice (some ⟨w.heap.size, 0, none⟩) 0 0) 0 []) := ⟨rfl, .inr ⟨w.heap.size, 0, #[], rfl, Nat.le_refl _, heap_alloc_new w _, Nat.le_refl _, by unfold maxLen; omega, rfl, rfl⟩⟩
    clear h
    have q : ∀ (w : World) (a : Option Addr) (n c n' c' : Nat), (binOp .eql 22 (.slice a n c) (.slice none n' c')).run Tryd.prog w = .ok (.bool a.isNone) w := fun w a n c n' c' => Lib.run_eql_slice_nil w _ _ a n c n' c' Tryd.underlying22
    go_enter Tryd.func42, Tryd.ntmps42
    go_wp2_with (at_builtin; refine wpList_append_bytes rfl (.tmp 5) (.tmp 6) rfl rfl HO.out rfl H.out (by omega) (by simp) ?_)
    rintro u w1 ho hB
    have HO1 : Hid (OwnB w1 w.heap.size u len zs) := ho
    clear ho
    go_wp2_with fail
    go_ret
    have hx := HO1.out
    have hl2 := hx.len
    obtain ⟨a, cp, rfl, hI⟩ := isB_own hx HRG.out
    refine ⟨a, cp, rfl, ⟨hI, fun q hq _ => ?_⟩, (below_one _ _).trans hB⟩
    have := World.ownsRow.lt hx q.block (by subst hq; rcases hx.2 with ⟨e, _⟩ | ⟨g, cap', cur, e, _⟩ <;> cases e <;> rfl)
    exact this

def idxC (nm : ByteArray) : List Col → Nat → Int
  | [], _ => -1
  | c :: r, k => if nmB c.2.2.1 nm = true then k else idxC nm r (k + 1)

theorem idxC_bounds (nm : ByteArray) : ∀ (l : List Col) (k : Nat), -1 ≤ idxC nm l k ∧ idxC nm l k < (k + l.length : Nat)
  | [], k => ⟨by unfold idxC; omega, by unfold idxC; omega⟩
  | c :: r, k => by
    unfold idxC
    have := idxC_bounds nm r (k + 1)
    rw [List.length_cons]
    split <;> omega

set_option maxHeartbeats 400000 in
theorem nameIs_any {w : World} {s t nm : ByteArray} {i : Int} {sp nn : ByteArray} {na : Option Addr} {nl nc : Nat} {ka : Option Addr} {kl kc : Nat} {b : Nat} {name : ByteArray} (hb : w.cell? ⟨b, 0, none⟩ = some (.string name)) (hlt : b < w.heap.size) {d : Bool} (hd : d = nmB nm name) :
    Calls Tryd.prog 41 #[.agg #[.string s, .string t, .string nm, .int .u16 i, .string sp, .string nn, .slice na nl nc, .slice ka kl kc], .pointer (some ⟨b, 0, none⟩)] w fun e w' => e = .returned (.bool d) ∧ Below w.heap.size w w' := by
  have HD : Hid (d = nmB nm name) := hd
  have hc : (w.alloc (.cells #[.string s, .string t, .string nm, .int .u16 i, .string sp, .string nn, .slice na nl nc, .slice ka kl kc] 64)).cell? ⟨b, 0, none⟩ = some (.string name) := by
    rw [(below_one w _).cell (p := ⟨b, 0, none⟩) hlt]; exact hb
  clear hd
  go_enter Tryd.func41, Tryd.ntmps41
  go_wp2_with fail
  go_ret
  exact ⟨by rw [HD.out]; rfl, below_one _ _⟩

set_option maxHeartbeats 1000000 in
theorem idx_any {m : Nat} {F : Nat → Prop} {w : World} {a : Option Addr} {len cap : Nat} {xs : List Col} (h : Sees 8 F (VCol (m + 1) F w) w a len cap xs) {b : Nat} {name : ByteArray} (hb : w.cell? ⟨b, 0, none⟩ = some (.string name)) (hlt : b < w.heap.size) {R : Int} (hR : R = idxC name xs 0) :
    Calls Tryd.prog 40 #[.slice a len cap, .func (.func 41) #[] #[.pointer (some ⟨b, 0, none⟩)]] w fun e w' => e = .returned (.int .i64 R) ∧ Hid (Below w.heap.size w w') := by
  have H : Hid (Sees 8 F (VCol (m + 1) F w) w a len cap xs) := h
  have HB : Hid (w.cell? ⟨b, 0, none⟩ = some (.string name)) := hb
  have HR0 : Hid (idxC name (xs.drop 0) 0 = R) := by show _ = _; rw [List.drop_zero]; exact hR.symm
  have hml := h.max
  unfold maxLen at hml
  have HLN : Hid (xs.length = len) := h.1
  clear h hb hR
  go_enter Tryd.func40, Tryd.ntmps40
  go_wp2_with fail
  go_loopw [8] (fun i wr => ∃ k : Nat, k ≤ len ∧ i = .int .i64 k ∧ Hid (idxC name (xs.drop k) k = R) ∧ Hid (Below w.heap.size w wr)) (fun i _ => len - (intOf i).toNat)
  case atStart => exact ⟨0, by omega, rfl, HR0, Below.refl _ _⟩
  case round =>
    obtain ⟨k, hk, rfl, HI, HBk⟩ := hrel
    by_cases hlt2 : k < len
    · obtain ⟨s, t, nm, X, b8, off, na, nl, nc, ka, kl, kc, hx, rfl, hbs, hF, ⟨c0, c1, c2, c3, c4, c5, c6, c7⟩, hsz, hty⟩ := (H.out.kept (stays_col (m + 1)) (F' := F) (fun k hk _ => HBk.out.block k hk) HBk.out.size (fun _ _ hf => hf)).col hlt2
      obtain ⟨d, hd⟩ : ∃ d, d = nmB nm name := ⟨_, rfl⟩
      have HD : Hid (d = nmB nm name) := hd
      have HX : Hid (xs.drop k = (s, t, nm, X) :: xs.drop (k + 1)) := drop_cons hx
      have hbl : b < wr.heap.size := Nat.lt_of_lt_of_le hlt HBk.out.size
      have HBc : Hid (wr.cell? ⟨b, 0, none⟩ = some (.string name)) := by show _ = _; rw [HBk.out.cell (p := ⟨b, 0, none⟩) hlt]; exact HB.out
      clear hd hx hsz hty hF
      go_wp2_with fail
      refine (nameIs_any HBc.out hbl HD.out).mono ?_
      rintro e w2 ⟨rfl, hB2⟩
      have HB2 : Hid (Below w.heap.size w w2) := HBk.out.trans (hB2.mono HBk.out.size)
      clear hB2
      cases d with
      | true =>
        have HE : Hid (R = k) := by
          show _ = _
          rw [← HI.out, HX.out]
          unfold idxC
          rw [if_pos (by rw [← HD.out])]
        go_wp2_with fail
        go_ret
        exact ⟨by rw [HE.out]; rfl, HB2⟩
      | false =>
        have HE : Hid (idxC name (xs.drop (k + 1)) (k + 1) = R) := by
          show _ = _
          rw [← HI.out, HX.out]
          conv => rhs; unfold idxC
          rw [if_neg (by rw [← HD.out]; decide)]
        go_wp2_with fail
        go_roundw
        case rel => exact ⟨k + 1, by omega, by go_num, HE, HB2⟩
        case measure => simp [intOf]; omega
    · have HE : Hid (R = -1) := by
        show _ = _
        rw [← HI.out, List.drop_eq_nil_of_le (by rw [HLN.out]; omega)]
        rfl
      go_wp2_with fail
      go_ret
      exact ⟨by rw [HE.out]; rfl, HBk⟩

/-- The value of a row at a column's name. -/
def cellX (T : Tb) (row : Int) (nm : ByteArray) : Option Vl :=
  if row < 0 then none else match T.2.2.2.2[row.toNat]? with
    | none => none
    | some r => if idxC nm T.2.1 0 < 0 then none else r[(idxC nm T.2.1 0).toNat]?

theorem cellX_neg {T : Tb} {row : Int} {nm : ByteArray} (h : row < 0) : cellX T row nm = none := by unfold cellX; rw [if_pos h]
theorem cellX_far {T : Tb} {row : Int} {nm : ByteArray} (h0 : ¬ row < 0) (h : T.2.2.2.2.length ≤ row.toNat) : cellX T row nm = none := by
  unfold cellX; rw [if_neg h0, List.getElem?_eq_none h]
theorem cellX_none {T : Tb} {row : Int} {nm : ByteArray} {r : List Vl} (h0 : ¬ row < 0) (hr : T.2.2.2.2[row.toNat]? = some r) (h : idxC nm T.2.1 0 < 0) : cellX T row nm = none := by
  unfold cellX; rw [if_neg h0, hr]; exact if_pos h
theorem cellX_some {T : Tb} {row : Int} {nm : ByteArray} {r : List Vl} (h0 : ¬ row < 0) (hr : T.2.2.2.2[row.toNat]? = some r) (h : ¬ idxC nm T.2.1 0 < 0) : cellX T row nm = r[(idxC nm T.2.1 0).toNat]? := by
  unfold cellX; rw [if_neg h0, hr]; exact if_neg h

/-- What Cell answers. -/
def CellR (w : World) (T : Tb) (row : Int) (nm : ByteArray) (e : Ending) (w' : World) : Prop := ∃ (V : Vl) (x : Option Addr) (lx cx : Nat) (there : Bool), e = .returned (.tuple #[.agg #[.int .i64 V.1, .slice x lx cx], .bool there]) ∧ IsB w' x lx cx (sNums V.2) ∧ Hid (cellX T row nm = if there = true then some V else none) ∧ Hid (Below w.heap.size w w') ∧ (there = false → V = v0)

set_option maxHeartbeats 4000000 in
theorem cell_any {m : Nat} {F : Nat → Prop} {w : World} {T : Tb} {ca : Option Addr} {cl cc : Nat} {x : Option Addr} {lx cx : Nat} {ra : Option Addr} {rl rc : Nat} (h : TbV (m + 1) F w T ca cl cc x lx cx ra rl rc) {row : Int} (hr1 : -9223372036854775808 ≤ row ∧ row ≤ 9223372036854775807) {nm : ByteArray} (hsm : ∀ r ∈ T.2.2.2.2, ∀ V ∈ r, V.2.size ≤ 140737488355328) :
    Calls Tryd.prog 19 #[.agg #[.int .i64 T.1, .slice ca cl cc, .bool T.2.2.1, .int .i64 T.2.2.2.1.1, .slice x lx cx, .slice ra rl rc], .int .i64 row, .string nm] w fun e w' => CellR w T row nm e w' := by
  obtain ⟨q, hq⟩ : ∃ q, q = w.heap.size := ⟨_, rfl⟩
  have HQE : Hid (w.heap.size = q) := hq.symm
  obtain ⟨wa, hwa⟩ : ∃ wa, wa = (w.alloc (.cells #[.int .i64 T.1, .slice ca cl cc, .bool T.2.2.1, .int .i64 T.2.2.2.1.1, .slice x lx cx, .slice ra rl rc] 29)).alloc (.cells #[.string nm] 9) := ⟨_, rfl⟩
  obtain ⟨w0, hw0⟩ : ∃ w0, w0 = wa.alloc (.cells #[.int .i64 0, .slice none 0 0] 26) := ⟨_, rfl⟩
  have HW0 : Hid (((w.alloc (.cells #[.int .i64 T.1, .slice ca cl cc, .bool T.2.2.1, .int .i64 T.2.2.2.1.1, .slice x lx cx, .slice ra rl rc] 29)).alloc (.cells #[.string nm] 9)).alloc (.cells #[.int .i64 0, .slice none 0 0] 26) = w0) := by rw [hw0, hwa]; rfl
  have hsa : wa.heap.size = q + 2 := by rw [hwa, hq]; simp
  have hBa : Below w.heap.size w wa := by rw [hwa]; exact (below_one _ _).alloc (by simp) _
  have hBa0 : Below wa.heap.size wa w0 := by rw [hw0]; exact below_one _ _
  have hB0 : Below w.heap.size w w0 := hBa.trans (hBa0.mono (by omega))
  have hta : wa.heap[q]? = some (.cells #[.int .i64 T.1, .slice ca cl cc, .bool T.2.2.1, .int .i64 T.2.2.2.1.1, .slice x lx cx, .slice ra rl rc] 29 (0, 0)) := by
    rw [hwa, hq]
    exact ((below_one (w.alloc (.cells #[.int .i64 T.1, .slice ca cl cc, .bool T.2.2.1, .int .i64 T.2.2.2.1.1, .slice x lx cx, .slice ra rl rc] 29)) _).block w.heap.size (by simp)).trans (heap_alloc_new w _)
  have hna : wa.heap[q + 1]? = some (.cells #[.string nm] 9 (0, 0)) := by
    rw [hwa, hq]
    have := heap_alloc_new (w.alloc (.cells #[.int .i64 T.1, .slice ca cl cc, .bool T.2.2.1, .int .i64 T.2.2.2.1.1, .slice x lx cx, .slice ra rl rc] 29)) (.cells #[.string nm] 9)
    simpa using this
  have ht0 := (hBa0.block q (by omega)).trans hta
  have hn0 := (hBa0.block (q + 1) (by omega)).trans hna
  have hz0 : w0.heap[q + 2]? = some (.cells #[.int .i64 0, .slice none 0 0] 26 (0, 0)) := by rw [hw0, ← hsa]; exact heap_alloc_new wa _
  have HV0 : Hid (TbV (m + 1) F w0 T ca cl cc x lx cx ra rl rc) := h.old hB0
  have HT0 : Hid (w0.heap[q]? = some (.cells #[.int .i64 T.1, .slice ca cl cc, .bool T.2.2.1, .int .i64 T.2.2.2.1.1, .slice x lx cx, .slice ra rl rc] 29 (0, 0))) := ht0
  have HZ0 : Hid (w0.heap[q + 2]? = some (.cells #[.int .i64 0, .slice none 0 0] 26 (0, 0))) := hz0
  have HN0 : Hid (w0.cell? ⟨q + 1, 0, none⟩ = some (.string nm)) := blk_cell hn0 0
  have HB0 : Hid (Below w.heap.size w w0) := hB0
  have HSM : Hid (∀ r ∈ T.2.2.2.2, ∀ V ∈ r, V.2.size ≤ 140737488355328) := hsm
  have HRL : Hid (T.2.2.2.2.length = rl) := h.2.2.1
  have hmx := h.2.2.max
  have hmc := h.1.max
  unfold maxLen at hmx hmc
  obtain ⟨⟨a0, a1, a2, a3, a4, a5⟩, af0, af1, af2, af3, af4, af5⟩ := blk6 ht0
  obtain ⟨b0, b1, bf0, bf1⟩ := two_cells hz0
  have hlt := block_lt ht0
  have hlz := block_lt hz0
  have hln : q + 1 < w0.heap.size := by omega
  clear hw0 hwa hsa hBa hBa0 hB0 hta hna ht0 hn0 hz0 hq h hsm
  by_cases hneg : row < 0
  · have HNG : Hid (row < 0) := hneg
    go_enter Tryd.func19, Tryd.ntmps19
    go_upto_region 1 with fail
    (try rw [HQE.out])
    rw [HW0.out]
    clear HW0
    go_wp2_with fail
    have hKC : Kept (fun k => k = q + 2) w0 ((w0.setCell ⟨q + 2, 0, none⟩ (.int .i64 0)).setCell ⟨q + 2, 1, none⟩ (.slice none 0 0)) := ((Kept.refl (fun k => k = q + 2) w0).setCell (p := ⟨q + 2, 0, none⟩) (fun _ => rfl) _).setCell (p := ⟨q + 2, 1, none⟩) (fun _ => rfl) _
    have hzC : ((w0.setCell ⟨q + 2, 0, none⟩ (.int .i64 0)).setCell ⟨q + 2, 1, none⟩ (.slice none 0 0)).heap[q + 2]? = some (.cells #[.int .i64 0, .slice none 0 0] 26 (0, 0)) := blk_set ((blk_set (HZ0.out) 0 (.int .i64 0))) 1 (.slice none 0 0)
    generalize (w0.setCell ⟨q + 2, 0, none⟩ (.int .i64 0)).setCell ⟨q + 2, 1, none⟩ (.slice none 0 0) = wC at hKC hzC ⊢
    obtain ⟨z0, z1, _, _⟩ := two_cells hzC
    refine bodyPost_ret (v := .tuple #[.agg #[.int .i64 0, .slice none 0 0], .bool false]) (by simp [results, Tryd.results19, go_sem, z0, z1]) rfl ?_
    exact ⟨v0, none, 0, 0, false, rfl, isB_nil _, by show _ = _; rw [cellX_neg HNG.out]; rfl, (HB0.out.trans (hKC.below (B := q + 2) (by omega) (fun k hk e => by omega) |>.mono (by have := HQE.out; omega))), fun _ => rfl⟩
  · obtain ⟨k, rfl⟩ : ∃ k : Nat, row = k := ⟨row.toNat, by omega⟩
    by_cases hfar : rl ≤ k
    · go_enter Tryd.func19, Tryd.ntmps19
      go_upto_region 1 with fail
      (try rw [HQE.out])
      rw [HW0.out]
      clear HW0
      go_wp2_with fail
      have hKC : Kept (fun k => k = q + 2) w0 ((w0.setCell ⟨q + 2, 0, none⟩ (.int .i64 0)).setCell ⟨q + 2, 1, none⟩ (.slice none 0 0)) := ((Kept.refl (fun k => k = q + 2) w0).setCell (p := ⟨q + 2, 0, none⟩) (fun _ => rfl) _).setCell (p := ⟨q + 2, 1, none⟩) (fun _ => rfl) _
      have hzC : ((w0.setCell ⟨q + 2, 0, none⟩ (.int .i64 0)).setCell ⟨q + 2, 1, none⟩ (.slice none 0 0)).heap[q + 2]? = some (.cells #[.int .i64 0, .slice none 0 0] 26 (0, 0)) := blk_set ((blk_set (HZ0.out) 0 (.int .i64 0))) 1 (.slice none 0 0)
      generalize (w0.setCell ⟨q + 2, 0, none⟩ (.int .i64 0)).setCell ⟨q + 2, 1, none⟩ (.slice none 0 0) = wC at hKC hzC ⊢
      obtain ⟨z0, z1, _, _⟩ := two_cells hzC
      refine bodyPost_ret (v := .tuple #[.agg #[.int .i64 0, .slice none 0 0], .bool false]) (by simp [results, Tryd.results19, go_sem, z0, z1]) rfl ?_
      exact ⟨v0, none, 0, 0, false, rfl, isB_nil _, by show _ = _; rw [cellX_far (by omega) (by rw [HRL.out, Int.toNat_natCast]; exact hfar)]; rfl, (HB0.out.trans (hKC.below (B := q + 2) (by omega) (fun k hk e => by omega) |>.mono (by have := HQE.out; omega))), fun _ => rfl⟩
    · have hkr : k < rl := by omega
      obtain ⟨r, br, ofr, y, ly, cy, hrk, rfl, hbr, _, crow, hrow⟩ := HV0.out.2.2.row hkr
      have HRK : Hid (T.2.2.2.2[k]? = some r) := hrk
      have HROW : Hid (Sees 2 F (VVal F w0) w0 y ly cy r) := hrow
      have HCR : Hid (w0.cell? ⟨br, ofr + k, none⟩ = some (.slice y ly cy)) := crow
      have hmy := hrow.max
      unfold maxLen at hmy
      obtain ⟨R, hR⟩ : ∃ R, R = idxC nm T.2.1 0 := ⟨_, rfl⟩
      have HR : Hid (R = idxC nm T.2.1 0) := hR
      have hRb := idxC_bounds nm T.2.1 0
      have hcl : T.2.1.length = cl := HV0.out.1.1
      rw [← hR, hcl] at hRb
      clear hrk hrow crow hR hcl
      go_enter Tryd.func19, Tryd.ntmps19
      go_upto_region 1 with fail
      (try rw [HQE.out])
      rw [HW0.out]
      clear HW0
      go_wp2_with fail
      refine (idx_any HV0.out.1 HN0.out hln HR.out).mono ?_
      rintro e w1 ⟨rfl, HB1⟩
      have ht1 := (HB1.out.block q hlt).trans HT0.out
      have hz1 := (HB1.out.block (q + 2) hlz).trans HZ0.out
      have HZ1 : Hid (w1.heap[q + 2]? = some (.cells #[.int .i64 0, .slice none 0 0] 26 (0, 0))) := hz1
      obtain ⟨⟨a0, a1, a2, a3, a4, a5⟩, af0, af1, af2, af3, af4, af5⟩ := blk6 ht1
      obtain ⟨b0, b1, bf0, bf1⟩ := two_cells hz1
      have hlt1 := block_lt ht1
      have hlz1 := block_lt hz1
      have hs1 := HB1.out.size
      have crow : w1.cell? ⟨br, ofr + k, none⟩ = some (.slice y ly cy) := (HB1.out.cell (p := ⟨br, ofr + k, none⟩) hbr).trans HCR.out
      have hbr1 : br < w1.heap.size := by omega
      have HROW1 : Hid (Sees 2 F (VVal F w1) w1 y ly cy r) := HROW.out.kept stays_val (fun z hz _ => HB1.out.block z hz) HB1.out.size (fun _ _ hf => hf)
      have HBw1 : Hid (Below w.heap.size w w1) := HB0.out.trans (HB1.out.mono HB0.out.size)
      clear ht1 hz1
      by_cases hRn : R < 0
      · have HRN : Hid (R < 0) := hRn
        go_wp2_with fail
        have hKC : Kept (fun k => k = q + 2) w1 ((w1.setCell ⟨q + 2, 0, none⟩ (.int .i64 0)).setCell ⟨q + 2, 1, none⟩ (.slice none 0 0)) := ((Kept.refl (fun k => k = q + 2) w1).setCell (p := ⟨q + 2, 0, none⟩) (fun _ => rfl) _).setCell (p := ⟨q + 2, 1, none⟩) (fun _ => rfl) _
        have hzC : ((w1.setCell ⟨q + 2, 0, none⟩ (.int .i64 0)).setCell ⟨q + 2, 1, none⟩ (.slice none 0 0)).heap[q + 2]? = some (.cells #[.int .i64 0, .slice none 0 0] 26 (0, 0)) := blk_set ((blk_set (HZ1.out) 0 (.int .i64 0))) 1 (.slice none 0 0)
        generalize (w1.setCell ⟨q + 2, 0, none⟩ (.int .i64 0)).setCell ⟨q + 2, 1, none⟩ (.slice none 0 0) = wC at hKC hzC ⊢
        obtain ⟨z0, z1, _, _⟩ := two_cells hzC
        refine bodyPost_ret (v := .tuple #[.agg #[.int .i64 0, .slice none 0 0], .bool false]) (by simp [results, Tryd.results19, go_sem, z0, z1]) rfl ?_
        exact ⟨v0, none, 0, 0, false, rfl, isB_nil _, by show _ = _; rw [cellX_none (r := r) (by omega) (by rw [Int.toNat_natCast]; exact HRK.out) (by rw [← HR.out]; exact HRN.out)]; rfl, (HBw1.out.trans (hKC.below (B := q + 2) (by omega) (fun k hk e => by omega) |>.mono (by have := HQE.out; omega))), fun _ => rfl⟩
      · obtain ⟨i, rfl⟩ : ∃ i : Nat, R = i := ⟨R.toNat, by omega⟩
        by_cases hil : ly ≤ i
        · go_wp2_with fail
          have hKC : Kept (fun k => k = q + 2) w1 ((w1.setCell ⟨q + 2, 0, none⟩ (.int .i64 0)).setCell ⟨q + 2, 1, none⟩ (.slice none 0 0)) := ((Kept.refl (fun k => k = q + 2) w1).setCell (p := ⟨q + 2, 0, none⟩) (fun _ => rfl) _).setCell (p := ⟨q + 2, 1, none⟩) (fun _ => rfl) _
          have hzC : ((w1.setCell ⟨q + 2, 0, none⟩ (.int .i64 0)).setCell ⟨q + 2, 1, none⟩ (.slice none 0 0)).heap[q + 2]? = some (.cells #[.int .i64 0, .slice none 0 0] 26 (0, 0)) := blk_set ((blk_set (HZ1.out) 0 (.int .i64 0))) 1 (.slice none 0 0)
          generalize (w1.setCell ⟨q + 2, 0, none⟩ (.int .i64 0)).setCell ⟨q + 2, 1, none⟩ (.slice none 0 0) = wC at hKC hzC ⊢
          obtain ⟨z0, z1, _, _⟩ := two_cells hzC
          refine bodyPost_ret (v := .tuple #[.agg #[.int .i64 0, .slice none 0 0], .bool false]) (by simp [results, Tryd.results19, go_sem, z0, z1]) rfl ?_
          exact ⟨v0, none, 0, 0, false, rfl, isB_nil _, by show _ = _; rw [cellX_some (r := r) (by omega) (by rw [Int.toNat_natCast]; exact HRK.out) (by rw [← HR.out]; omega), ← HR.out, Int.toNat_natCast, List.getElem?_eq_none (by rw [HROW1.out.1]; exact hil)]; rfl, (HBw1.out.trans (hKC.below (B := q + 2) (by omega) (fun k hk e => by omega) |>.mono (by have := HQE.out; omega))), fun _ => rfl⟩
        · have hi : i < ly := by omega
          obtain ⟨V, bv, ofv, vx, vl, vc, hvi, rfl, hbv, _, d0, d1, hIV⟩ := HROW1.out.val hi
          have HVI : Hid (r[i]? = some V) := hvi
          have HIV : Hid (IsB w1 vx vl vc (sNums V.2)) := hIV.1
          have hvs : vl ≤ 140737488355328 := by
            have e : vl = V.2.size := by rw [← hIV.1.1, sNums_length]
            rw [e]
            exact HSM.out r (List.mem_of_getElem? HRK.out) V (List.mem_of_getElem? hvi)
          obtain ⟨w2, hw2⟩ : ∃ w2, w2 = w1.alloc (.cells #[.int .i64 V.1, .slice vx vl vc] 26) := ⟨_, rfl⟩
          have HW2 : Hid (w1.alloc (.cells #[.int .i64 V.1, .slice vx vl vc] 26) = w2) := hw2.symm
          have hB2 : Below w1.heap.size w1 w2 := by rw [hw2]; exact below_one _ _
          obtain ⟨g, hg⟩ : ∃ g, g = w1.heap.size := ⟨_, rfl⟩
          have HG : Hid (w1.heap.size = g) := hg.symm
          have hg2 : w2.heap[g]? = some (.cells #[.int .i64 V.1, .slice vx vl vc] 26 (0, 0)) := by rw [hw2, hg]; exact heap_alloc_new w1 _
          have HG2 : Hid (w2.heap[g]? = some (.cells #[.int .i64 V.1, .slice vx vl vc] 26 (0, 0))) := hg2
          have HIV2 : Hid (IsB w2 vx vl vc (sNums V.2)) := HIV.out.old hB2
          have hz2 := (hB2.block (q + 2) hlz1).trans HZ1.out
          have HZ2 : Hid (w2.heap[q + 2]? = some (.cells #[.int .i64 0, .slice none 0 0] 26 (0, 0))) := hz2
          have HBw2 : Hid (Below w.heap.size w w2) := HBw1.out.trans (hB2.mono HBw1.out.size)
          obtain ⟨e0, e1, ef0, ef1⟩ := two_cells hg2
          have hlg := block_lt hg2
          have hgq : q + 2 < g := by omega
          clear hvi hIV hw2 hB2 hg hg2 hz2
          go_upto_region 7 with fail
          rw [HW2.out]
          (try rw [HG.out])
          clear HW2
          go_wp2_with fail
          refine (clone_any HIV2.out hvs).mono ?_
          rintro e w3 ⟨na, nc, rfl, HC3, HB3⟩
          have hg3 := (HB3.out.block g hlg).trans HG2.out
          have hz3 := (HB3.out.block (q + 2) (by have := block_lt HZ2.out; omega)).trans HZ2.out
          have HZ3 : Hid (w3.heap[q + 2]? = some (.cells #[.int .i64 0, .slice none 0 0] 26 (0, 0))) := hz3
          have HG3 : Hid (w3.heap[g]? = some (.cells #[.int .i64 V.1, .slice vx vl vc] 26 (0, 0))) := hg3
          obtain ⟨e0, e1, ef0, ef1⟩ := two_cells hg3
          obtain ⟨b0, b1, bf0, bf1⟩ := two_cells hz3
          have hlg3 := block_lt hg3
          have hlz3 := block_lt hz3
          have hs23 := HB3.out.size
          clear hg3 hz3
          go_wp2_with fail
          obtain ⟨nl, hnl⟩ : ∃ nl, nl = vl := ⟨_, rfl⟩
          rw [← hnl] at HC3 ⊢
          have hKA : Kept (fun z => z = g) w3 (w3.setCell ⟨g, 1, none⟩ (.slice na nl nc)) := one_kept w3 g 1 _
          generalize w3.setCell ⟨g, 1, none⟩ (.slice na nl nc) = w4 at hKA ⊢
          have hz4 := (hKA.block (q + 2) hlz3 (by omega)).trans HZ3.out
          have hC4 := HC3.out.apart hKA (fun z _ hz e => by omega)
          have hKC : Kept (fun z => z = q + 2) w4 ((w4.setCell ⟨q + 2, 0, none⟩ (.int .i64 V.1)).setCell ⟨q + 2, 1, none⟩ (.slice na nl nc)) := ((Kept.refl (fun z => z = q + 2) w4).setCell (p := ⟨q + 2, 0, none⟩) (fun _ => rfl) _).setCell (p := ⟨q + 2, 1, none⟩) (fun _ => rfl) _
          have hzC : ((w4.setCell ⟨q + 2, 0, none⟩ (.int .i64 V.1)).setCell ⟨q + 2, 1, none⟩ (.slice na nl nc)).heap[q + 2]? = some (.cells #[.int .i64 V.1, .slice na nl nc] 26 (0, 0)) := blk_set ((blk_set (hz4) 0 (.int .i64 V.1))) 1 (.slice na nl nc)
          generalize (w4.setCell ⟨q + 2, 0, none⟩ (.int .i64 V.1)).setCell ⟨q + 2, 1, none⟩ (.slice na nl nc) = wC at hKC hzC ⊢
          obtain ⟨z0, z1, _, _⟩ := two_cells hzC
          refine bodyPost_ret (v := .tuple #[.agg #[.int .i64 V.1, .slice na nl nc], .bool true]) (by simp [results, Tryd.results19, go_sem, z0, z1]) rfl ?_
          refine ⟨V, na, nl, nc, true, rfl, (hC4.apart hKC (fun z _ hz e => by omega)).1, ?_, ?_, fun h => by cases h⟩
          · show _ = _
            rw [cellX_some (r := r) (by omega) (by rw [Int.toNat_natCast]; exact HRK.out) (by rw [← HR.out]; omega), ← HR.out, Int.toNat_natCast, HVI.out]
            rfl
          · have hK2 : Kept (fun z => z = q + 2 ∨ z = g) w wC := ((((kept_of HBw2.out).new HB3.out).trans hKA (fun i hi e => .inr e)).trans hKC (fun i hi e => .inl e))
            exact hK2.below (Nat.le_refl _) (fun z hz e => by have := HQE.out; rcases e with e | e <;> omega)

end Go.Proofs.YtnapeecmlkkolaaDoor
