/-
  What may be put: isUnset, flagsOf, mayTe.
-/
import Derived.Test.YtnapeecmlkkolaaDoorW12
namespace Go.Proofs.YtnapeecmlkkolaaDoor
open Go.RowKit
set_option maxRecDepth 100000
set_option linter.unusedVariables false
set_option linter.unusedSimpArgs false

def idxV : List Vl → Nat → Int
  | [], _ => -1
  | x :: r, k => if x.1 = 1 then k else idxV r (k + 1)
def unB (r : List Vl) : Bool := r.any (fun x => x.1 == 1)
theorem idxV_un : ∀ (r : List Vl) (k : Nat), unB r = decide (0 ≤ idxV r k)
  | [], k => by simp [unB, idxV]
  | x :: r, k => by
    have ih := idxV_un r (k + 1)
    unfold idxV
    by_cases h : x.1 = 1
    · rw [if_pos h]; simp [unB, h]
    · rw [if_neg h, ← ih]; simp [unB, h]
theorem idxV_hi : ∀ (r : List Vl) (k : Nat), -1 ≤ idxV r k ∧ idxV r k < (k + r.length : Nat)
  | [], k => ⟨by unfold idxV; omega, by unfold idxV; omega⟩
  | x :: r, k => by
    unfold idxV
    have := idxV_hi r (k + 1)
    rw [List.length_cons]
    split <;> omega

set_option maxHeartbeats 1000000 in
theorem idxv_any {F : Nat → Prop} {w : World} {a : Option Addr} {len cap : Nat} {xs : List Vl} (h : Sees 2 F (VVal F w) w a len cap xs) {R : Int} (hR : R = idxV xs 0) :
    Calls Tryd.prog 79 #[.slice a len cap, .func (.func 49) #[] #[]] w fun e w' => e = .returned (.int .i64 R) ∧ Hid (Below w.heap.size w w') := by
  have H : Hid (Sees 2 F (VVal F w) w a len cap xs) := h
  have HR0 : Hid (idxV (xs.drop 0) 0 = R) := by show _ = _; rw [List.drop_zero]; exact hR.symm
  have hml := h.max
  unfold maxLen at hml
  have HLN : Hid (xs.length = len) := h.1
  clear h hR
  go_enter Tryd.func79, Tryd.ntmps79
  go_wp2_with fail
  go_loopw [8] (fun i wr => ∃ k : Nat, k ≤ len ∧ i = .int .i64 k ∧ Hid (idxV (xs.drop k) k = R) ∧ Hid (Below w.heap.size w wr)) (fun i _ => len - (intOf i).toNat)
  case atStart => exact ⟨0, by omega, rfl, HR0, Below.refl _ _⟩
  case round =>
    obtain ⟨k, hk, rfl, HI, HBk⟩ := hrel
    by_cases hlt2 : k < len
    · obtain ⟨V, b8, off, x, lx, cx, hx, rfl, hbs, hF, c0, c1, hiv⟩ := (H.out.kept stays_val (F' := F) (fun k hk _ => HBk.out.block k hk) HBk.out.size (fun _ _ hf => hf)).val hlt2
      obtain ⟨d, hd⟩ : ∃ d, d = (V.1 == 1) := ⟨_, rfl⟩
      have HD : Hid (d = (V.1 == 1)) := hd
      have HX : Hid (xs.drop k = V :: xs.drop (k + 1)) := drop_cons hx
      clear hd hx hiv hF
      go_wp2_with fail
      refine (isUnset_any HD.out).mono ?_
      rintro e w2 ⟨rfl, hB2⟩
      have HB2 : Hid (Below w.heap.size w w2) := HBk.out.trans (hB2.mono HBk.out.size)
      clear hB2
      cases d with
      | true =>
        have HE : Hid (R = k) := by
          show _ = _
          rw [← HI.out, HX.out]
          unfold idxV
          rw [if_pos (by have := HD.out; simpa using this.symm)]
        go_wp2_with fail
        go_ret
        exact ⟨by rw [HE.out]; rfl, HB2⟩
      | false =>
        have HE : Hid (idxV (xs.drop (k + 1)) (k + 1) = R) := by
          show _ = _
          rw [← HI.out, HX.out]
          conv => rhs; unfold idxV
          rw [if_neg (by have := HD.out; simpa using this.symm)]
        go_wp2_with fail
        go_roundw
        case rel => exact ⟨k + 1, by omega, by go_num, HE, HB2⟩
        case measure => simp [intOf]; omega
    · have HE : Hid (R = -1) := by
        show _ = _
        rw [← HI.out, List.drop_eq_nil_of_le (by rw [HLN.out]; omega)]
        rfl
      go_wp2_with fail
      go_ret
      exact ⟨by rw [HE.out]; rfl, HBk⟩

set_option maxHeartbeats 400000 in
theorem contains_any {F : Nat → Prop} {w : World} {a : Option Addr} {len cap : Nat} {xs : List Vl} (h : Sees 2 F (VVal F w) w a len cap xs) {d : Bool} (hd : d = unB xs) :
    Calls Tryd.prog 59 #[.slice a len cap, .func (.func 49) #[] #[]] w fun e w' => e = .returned (.bool d) ∧ Hid (Below w.heap.size w w') := by
  have H : Hid (Sees 2 F (VVal F w) w a len cap xs) := h
  obtain ⟨R, hR⟩ : ∃ R, R = idxV xs 0 := ⟨_, rfl⟩
  have HR : Hid (R = idxV xs 0) := hR
  have hb := idxV_hi xs 0
  rw [← hR] at hb
  have HD : Hid (d = decide (0 ≤ R)) := by show _ = _; rw [hd, hR]; exact idxV_un xs 0
  clear h hd hR
  go_enter Tryd.func59, Tryd.ntmps59
  go_wp2_with fail
  refine (idxv_any H.out HR.out).mono ?_
  rintro e w2 ⟨rfl, HB⟩
  go_wp2_with fail
  go_ret
  exact ⟨by rw [HD.out]; rfl, HB⟩

def flagsN (gl : Bool) (cl : Nat) (m : Bool) (n : Int) : Int := (if gl = true ∧ 0 < cl then 1 else 0) + (if m = true then 2 else 0) + (if cl = 0 ∧ n ≠ 0 then 4 else 0)

set_option maxHeartbeats 1000000 in
theorem flagsOf_any {w : World} {n : Int} {ca : Option Addr} {cl cc : Nat} {m : Bool} {k : Int} {x : Option Addr} {lx cx : Nat} {ra : Option Addr} {rl rc : Nat} (gl : Bool) {f : Int} (hf : f = flagsN gl cl m n) :
    Calls Tryd.prog 33 #[.agg #[.int .i64 n, .slice ca cl cc, .bool m, .int .i64 k, .slice x lx cx, .slice ra rl rc], .bool gl] w fun e w' => e = .returned (.int .i64 f) ∧ Hid (Below w.heap.size w w') := by
  have HF : Hid (f = flagsN gl cl m n) := hf
  clear hf
  by_cases hc : cl = 0
  · subst hc
    by_cases hn : n = 0
    · subst hn
      cases gl <;> cases m <;>
      · go_enter Tryd.func33, Tryd.ntmps33
        go_wp2_with fail
        go_ret
        exact ⟨by rw [HF.out]; rfl, below_one _ _⟩
    · have t : (n != 0) = true := by simpa using hn
      have HN : Hid (n ≠ 0) := hn
      clear hn
      cases gl <;> cases m <;>
      · go_enter Tryd.func33, Tryd.ntmps33
        go_wp2_with fail
        go_ret
        exact ⟨by rw [HF.out]; simp [flagsN, HN.out]; rfl, below_one _ _⟩
  · have t : ((cl : Int) == 0) = false := by simp; omega
    have t2 : (0 : Int) < cl := by omega
    have HC : Hid (0 < cl) := by show 0 < cl; omega
    clear hc
    cases gl <;> cases m <;>
    · go_enter Tryd.func33, Tryd.ntmps33
      go_wp2_with fail
      go_ret
      refine ⟨?_, below_one _ _⟩
      have h0 := HC.out
      rw [HF.out]
      simp [flagsN, h0, show ¬ cl = 0 by omega]
      first | done | rfl

def rowOk (n : Int) (r : List Vl) : Bool := decide ((r.length : Int) = n) && !unB r
def mayT (T : Tb) : Bool := (decide (0 ≤ T.1) && decide (T.1 ≤ 4096) && decide (T.2.2.2.2.length ≤ 4096)) && ((decide (T.2.1.length = 0) || decide ((T.2.1.length : Int) = T.1)) && T.2.2.2.2.all (rowOk T.1))

set_option maxHeartbeats 2000000 in
theorem mayTe_any {n : Nat} {F : Nat → Prop} {w : World} {T : Tb} {ca : Option Addr} {cl cc : Nat} {x : Option Addr} {lx cx : Nat} {ra : Option Addr} {rl rc : Nat} (h : TbV n F w T ca cl cc x lx cx ra rl rc) (hi : -9223372036854775808 ≤ T.1 ∧ T.1 ≤ 9223372036854775807) {d : Bool} (hd : d = mayT T) :
    Calls Tryd.prog 30 #[.agg #[.int .i64 T.1, .slice ca cl cc, .bool T.2.2.1, .int .i64 T.2.2.2.1.1, .slice x lx cx, .slice ra rl rc]] w fun e w' => e = .returned (.bool d) ∧ Hid (Below w.heap.size w w') := by
  have H : Hid (TbV n F w T ca cl cc x lx cx ra rl rc) := h
  have HD : Hid (d = mayT T) := hd
  have HRL : Hid (T.2.2.2.2.length = rl) := h.2.2.1
  have HCL : Hid (T.2.1.length = cl) := h.1.1
  have hmx := h.2.2.max
  have hmc := h.1.max
  unfold maxLen at hmx hmc
  obtain ⟨cnt, hcnt⟩ : ∃ cnt, cnt = T.1 := ⟨_, rfl⟩
  have HCN : Hid (cnt = T.1) := hcnt
  rw [← hcnt] at hi ⊢
  clear h hd hcnt
  by_cases h1 : cnt < 0
  · have HE : Hid (d = false) := by show _ = _; rw [HD.out, mayT, ← HCN.out, decide_eq_false (show ¬ 0 ≤ cnt by omega)]; simp
    go_enter Tryd.func30, Tryd.ntmps30
    go_wp2_with fail
    go_ret
    exact ⟨by rw [HE.out]; rfl, below_one _ _⟩
  by_cases h2 : 4096 < cnt
  · have HE : Hid (d = false) := by show _ = _; rw [HD.out, mayT, ← HCN.out, decide_eq_false (show ¬ cnt ≤ 4096 by omega)]; simp
    go_enter Tryd.func30, Tryd.ntmps30
    go_wp2_with fail
    go_ret
    exact ⟨by rw [HE.out]; rfl, below_one _ _⟩
  by_cases h3 : (4096 : Int) < rl
  · have HE : Hid (d = false) := by show _ = _; rw [HD.out, mayT, decide_eq_false (show ¬ T.2.2.2.2.length ≤ 4096 by rw [HRL.out]; omega)]; simp
    go_enter Tryd.func30, Tryd.ntmps30
    go_wp2_with fail
    go_ret
    exact ⟨by rw [HE.out]; rfl, below_one _ _⟩
  obtain ⟨c1, hc1⟩ : ∃ c1 : Bool, c1 = (decide (cl = 0) || decide ((cl : Int) = cnt)) := ⟨_, rfl⟩
  have HDD : Hid (d = (c1 && (T.2.2.2.2.drop 0).all (rowOk cnt))) := by
    show _ = _
    rw [HD.out, mayT, ← HCN.out, HCL.out, hc1, List.drop_zero, decide_eq_true (show 0 ≤ cnt by omega), decide_eq_true (show cnt ≤ 4096 by omega), decide_eq_true (show T.2.2.2.2.length ≤ 4096 by rw [HRL.out]; omega)]
    rfl
  cases c1 with
  | false =>
    have hne : ¬ cl = 0 ∧ ¬ (cl : Int) = cnt := by simpa using hc1.symm
    have t1 : ((cl : Int) != 0) = true := by simp; omega
    have t2 : ((cl : Int) != cnt) = true := by simp; omega
    have HE : Hid (d = false) := by show _ = _; rw [HDD.out]; rfl
    clear hc1 hne HDD
    go_enter Tryd.func30, Tryd.ntmps30
    go_wp2_with fail
    go_ret
    exact ⟨by rw [HE.out]; rfl, below_one _ _⟩
  | true =>
    have hor : cl = 0 ∨ (cl : Int) = cnt := by simpa using hc1.symm
    have HGO : Hid ((T.2.2.2.2.drop 0).all (rowOk cnt) = d) := by show _ = _; rw [HDD.out]; rfl
    clear hc1 HDD
    obtain ⟨w0, hw0⟩ : ∃ w0, w0 = w.alloc (.cells #[.int .i64 cnt, .slice ca cl cc, .bool T.2.2.1, .int .i64 T.2.2.2.1.1, .slice x lx cx, .slice ra rl rc] 29) := ⟨_, rfl⟩
    have HW0 : Hid (w.alloc (.cells #[.int .i64 cnt, .slice ca cl cc, .bool T.2.2.1, .int .i64 T.2.2.2.1.1, .slice x lx cx, .slice ra rl rc] 29) = w0) := hw0.symm
    have hB0 : Below w.heap.size w w0 := by rw [hw0]; exact below_one _ _
    have HB0 : Hid (Below w.heap.size w w0) := hB0
    obtain ⟨q, hq⟩ : ∃ q, q = w.heap.size := ⟨_, rfl⟩
    have HQE : Hid (w.heap.size = q) := hq.symm
    have HT0 : Hid (w0.heap[q]? = some (.cells #[.int .i64 cnt, .slice ca cl cc, .bool T.2.2.1, .int .i64 T.2.2.2.1.1, .slice x lx cx, .slice ra rl rc] 29 (0, 0))) := by rw [hw0, hq]; exact heap_alloc_new w _
    have HRW : Hid (Sees 1 F (VRowS F w0) w0 ra rl rc T.2.2.2.2) := (H.out.old hB0).2.2
    obtain ⟨⟨a0, a1, a2, a3, a4, a5⟩, _⟩ := blk6 HT0.out
    have hlt0 := block_lt HT0.out
    clear hw0 hB0 hq
    have key : ∀ (hh : (cl = 0 ∧ ((cl : Int) != 0) = false) ∨ (((cl : Int) != 0) = true ∧ ((cl : Int) != cnt) = false)), Calls Tryd.prog 30 #[.agg #[.int .i64 cnt, .slice ca cl cc, .bool T.2.2.1, .int .i64 T.2.2.2.1.1, .slice x lx cx, .slice ra rl rc]] w fun e w' => e = .returned (.bool d) ∧ Hid (Below w.heap.size w w') := by
      intro hh
      rcases hh with ⟨rfl, t0⟩ | ⟨t0, t1⟩
      all_goals
        go_enter Tryd.func30, Tryd.ntmps30
        go_upto_region 1 with fail
        (try rw [HQE.out])
        rw [HW0.out]
        clear HW0
        go_wp2_with fail
        go_loopw [34] (fun i wr => ∃ k : Nat, k ≤ rl ∧ i = .int .i64 k ∧ Hid ((T.2.2.2.2.drop k).all (rowOk cnt) = d) ∧ Hid (Below w0.heap.size w0 wr)) (fun i _ => rl - (intOf i).toNat)
        case atStart => exact ⟨0, by omega, rfl, HGO, Below.refl _ _⟩
        case round =>
          obtain ⟨k, hk, rfl, HI, HBk⟩ := hrel
          have htk := (HBk.out.block q hlt0).trans HT0.out
          obtain ⟨⟨a0, a1, a2, a3, a4, a5⟩, _⟩ := blk6 htk
          have hltk := block_lt htk
          clear htk
          by_cases hlt2 : k < rl
          · obtain ⟨r, b8, off, y, ly, cy, hx, rfl, hbs, hF, c0, hrow⟩ := (HRW.out.kept stays_rowS (F' := F) (fun k hk _ => HBk.out.block k hk) HBk.out.size (fun _ _ hf => hf)).row hlt2
            have HX : Hid (T.2.2.2.2.drop k = r :: T.2.2.2.2.drop (k + 1)) := drop_cons hx
            have HROW : Hid (Sees 2 F (VVal F wr) wr y ly cy r) := hrow
            have HLY : Hid (r.length = ly) := hrow.1
            have hmy := hrow.max
            unfold maxLen at hmy
            clear hx hrow hF
            by_cases hlen : (ly : Int) = cnt
            · have tl : ((ly : Int) != cnt) = false := by simpa using hlen
              obtain ⟨u, hu⟩ : ∃ u, u = unB r := ⟨_, rfl⟩
              have HU : Hid (u = unB r) := hu
              have HRO : Hid (rowOk cnt r = !u) := by show _ = _; rw [rowOk, HLY.out, decide_eq_true hlen, ← hu]; rfl
              clear hu
              go_wp2_with fail
              refine (contains_any HROW.out HU.out).mono ?_
              rintro e w2 ⟨rfl, HB2⟩
              have HB3 : Hid (Below w0.heap.size w0 w2) := HBk.out.trans (HB2.out.mono HBk.out.size)
              cases u with
              | true =>
                have HE : Hid (d = false) := by show _ = _; rw [← HI.out, HX.out, List.all_cons, HRO.out]; rfl
                go_wp2_with fail
                go_ret
                exact ⟨by rw [HE.out]; rfl, HB0.out.trans (HB3.out.mono HB0.out.size)⟩
              | false =>
                have HE : Hid ((T.2.2.2.2.drop (k + 1)).all (rowOk cnt) = d) := by show _ = _; rw [← HI.out, HX.out, List.all_cons, HRO.out]; rfl
                go_wp2_with fail
                go_roundw
                case rel => exact ⟨k + 1, by omega, by go_num, HE, HB3⟩
                case measure => simp [intOf]; omega
            · have tl : ((ly : Int) != cnt) = true := by simpa using hlen
              have HE : Hid (d = false) := by show _ = _; rw [← HI.out, HX.out, List.all_cons, rowOk, HLY.out, decide_eq_false hlen]; rfl
              go_wp2_with fail
              go_ret
              exact ⟨by rw [HE.out]; rfl, HB0.out.trans (HBk.out.mono HB0.out.size)⟩
          · have HE : Hid (d = true) := by
              show _ = _
              rw [← HI.out, List.drop_eq_nil_of_le (by rw [HRL.out]; omega)]
              rfl
            go_wp2_with fail
            go_ret
            exact ⟨by rw [HE.out]; rfl, HB0.out.trans (HBk.out.mono HB0.out.size)⟩
    by_cases hc0 : cl = 0
    · exact key (.inl ⟨hc0, by rw [hc0]; rfl⟩)
    · exact key (.inr ⟨by simp; omega, by simp; omega⟩)

end Go.Proofs.YtnapeecmlkkolaaDoor
