/-
  The reader's method values.
-/
import Derived.Test.YtcecdklgiocbaaaOwnG
namespace Go.Proofs.Ytcecdklgiocbaaa
open Go.RowKit
set_option maxRecDepth 100000
set_option linter.unusedVariables false
set_option linter.unusedSimpArgs false

theorem num2 {S : BE} (hr : Rng S.1) {x : Int} (hx : x = numX 2 S) : ∃ n : Nat, x = n ∧ n < 65536 := by
  have h := num_rng hr (by omega) hx
  have h4 : (256 : Int) ^ 2 = 65536 := by decide
  obtain ⟨n, hn⟩ := Int.eq_ofNat_of_zero_le h.1
  exact ⟨n, hn, by omega⟩

/-- The block of a new value, as an item. -/
theorem gv_new {w : World} {F : Nat → Prop} {V : Vl} {x : Option Addr} {lx cx : Nat} (hI : IsB w x lx cx (sNums V.2)) (hF : ∀ q, x = some q → F q.block ∧ q.block < w.heap.size) : GV F w V (fun j => ([Value.int .i64 V.1, Value.slice x lx cx] : List Value).getD j default) :=
  ⟨rfl, x, lx, cx, rfl, hI, fun q hq _ => hF q hq⟩

set_option maxHeartbeats 2000000 in
theorem rvalues0 {w : World} {p : Nat} {S : BE} (h : Rd w p S) :
    Calls Try.prog 81 #[.pointer (some ⟨p, 0, none⟩), .bool false] w fun e w' => ∃ v L, e = .returned (.tuple #[v, .slice none 0 0]) ∧ Hid (Rd w' p (stepR (listR valueR) S)) ∧ Hid (OwnG 28 2 GV w' (fun k => w.heap.size ≤ k) v L) ∧ Hid ((stepR (listR valueR) S).2 = 0 → L = (listR valueR S.1).val) ∧ Hid (Kept (fun k => k = p) w w') := by
  have H : Hid (Rd w p S) := h
  have hpw := h.lt
  clear h
  go_enter Try.func81, Try.ntmps81
  go_wp2_with fail
  refine (rnumber H.out 2 (by omega) (by omega) _ rfl).mono ?_
  rintro e w1 ⟨x, rfl, HR1, _, HT, HK1⟩
  obtain ⟨n, rfl, hn⟩ := num2 H.out.rng HT.out
  obtain ⟨Y, hY⟩ : ∃ Y, Y = loopR valueR n (stepR (numR 2) S) [] := ⟨_, rfl⟩
  have hLL := loop_list valueR S H.out.nrm n HT.out
  rw [Int.toNat_natCast, ← hY] at hLL
  have HY : Hid (loopR valueR n (stepR (numR 2) S) [] = Y) := hY.symm
  have HLL : Hid (Y.1 = stepR (listR valueR) S ∧ ((stepR (listR valueR) S).2 = 0 → Y.2 = (listR valueR S.1).val)) := hLL
  clear hY hLL
  go_wp2_with fail
  go_loopw [6, 7, 10] (fun v nm i wr => ∃ (k : Nat) (S' : BE) (acc : List Vl), k ≤ n ∧ i = .int .u64 k ∧ nm = .slice none 0 0 ∧ Hid (Rd wr p S') ∧ Hid (OwnG 28 2 GV wr (fun k => w.heap.size ≤ k) v acc) ∧ acc.length = k ∧ Hid (loopR valueR (n - k) S' acc = Y) ∧ Hid (Kept (fun k => k = p) w wr)) (fun _ _ i _ => n - (intOf i).toNat)
  case atStart => exact ⟨0, _, [], by omega, rfl, rfl, HR1, ownG_nil _ _ _ _ _, rfl, HY.out, HK1⟩
  case round =>
    obtain ⟨k, S2, acc, hk, rfl, rfl, HR2, HO2, hacc, HG, HK2⟩ := hrel
    by_cases hlt : k < n
    · go_wp2_with fail
      refine (read_value HR2.out).mono ?_
      rintro e w3 ⟨V, xa, xl, xc, rfl, HR3, HI3, hF3, HV3, HK3⟩
      have hsz : w.heap.size ≤ wr.heap.size := HK2.out.size
      have hsz3 : wr.heap.size ≤ w3.heap.size := HK3.out.size
      have HO3 : Hid (OwnG 28 2 GV (w3.alloc (.cells #[.int .i64 V.1, .slice xa xl xc] 28)) (fun k => w.heap.size ≤ k) u6 acc) :=
        (HO2.out.kept stays_gv (fun k hk hf => HK3.out.block k hk (fun e => by omega)) hsz3 (fun _ _ hf => hf)).old stays_gv (below_one _ _)
      have HBN : Hid ((w3.alloc (.cells #[.int .i64 V.1, .slice xa xl xc] 28)).heap[w3.heap.size]? = some (.cells [Value.int .i64 V.1, Value.slice xa xl xc].toArray 28 (0, 0))) := heap_alloc_new w3 _
      have HXN : Hid (GV (fun k => k < (w3.alloc (.cells #[.int .i64 V.1, .slice xa xl xc] 28)).heap.size ∧ u6.ownBlock ≠ some k ∧ w.heap.size ≤ k) (w3.alloc (.cells #[.int .i64 V.1, .slice xa xl xc] 28)) V (fun j => ([Value.int .i64 V.1, Value.slice xa xl xc] : List Value).getD j default)) :=
        gv_new (HI3.out.old (below_one _ _)) (fun q hq => by
          have h1 := hF3 q hq
          refine ⟨⟨by simp; omega, fun e => ?_, by omega⟩, by simp; omega⟩
          have := (HO2.out.lt _ e).2
          omega)
      have HFN : Hid ((fun k => w.heap.size ≤ k) (w3.alloc (.cells #[.int .i64 V.1, .slice xa xl xc] 28)).heap.size) := by show _ ≤ _; simp; omega
      have HR3A : Hid (Rd (w3.alloc (.cells #[.int .i64 V.1, .slice xa xl xc] 28)) p (stepR valueR S2)) := HR3.out.new (below_one _ _)
      go_wp2_with (at_builtin; refine wpList_appendG rfl (.tmp 18) (.tmp 21) 25 rfl stays_gv elem_v rfl HO3.out rfl HBN.out rfl ?c1 V HXN.out HFN.out ?c2 ?c3 ?_)
      case c1 => intro u hu; simp at hu; rcases hu with rfl | rfl <;> rfl
      case c2 => unfold maxLen; omega
      case c3 => omega
      intro v4 w4 ho4 hK4 hv4
      have HO4 : Hid (OwnG 28 2 GV w4 (fun k => w.heap.size ≤ k) v4 (acc ++ [V])) := ho4
      have hR4 : Rd w4 p (stepR valueR S2) := HR3A.out.kept hK4 (fun j hj e => by have := (HO2.out.lt _ e).1; omega)
      have HR4 : Hid (Rd w4 p (stepR valueR S2)) := hR4
      have HK4 : Hid (Kept (fun k => k = p) w w4) := ((HK2.out.trans HK3.out (fun i hi e => e)).trans (kept_of (S := fun _ => False) (below_one w3 (.cells #[.int .i64 V.1, .slice xa xl xc] 28))) (fun _ _ e => e.elim)).trans hK4 (fun i hi e => by have := (HO2.out.lt _ e).1; omega)
      obtain ⟨r, lr, cr, hb, _⟩ := hR4.blk
      obtain ⟨z0, z1, _, _⟩ := two_cells hb
      have hplt := block_lt hb
      clear ho4 hK4 hv4 hR4 hb
      by_cases he : (stepR valueR S2).2 = 0
      · have HST : Hid (loopR valueR (n - (k + 1)) (stepR valueR S2) (acc ++ [V]) = Y) := by
          rw [HV3.out he]
          exact loop_step HG.out hlt he
        rw [he] at z1
        clear he
        go_wp2_with fail
        go_roundw
        case rel => exact ⟨k + 1, _, acc ++ [V], by omega, by go_num, rfl, HR4, HO4, by simp [hacc], HST, HK4⟩
        case measure => simp [intOf]; omega
      · have t : ((stepR valueR S2).2 == 0) = false := by simpa using he
        have HE : Hid (Y = (stepR valueR S2, [])) := loop_stop HG.out hlt he
        clear he
        go_wp2_with fail
        go_ret2
        refine ⟨_, [], rfl, ?_, ownG_nil _ _ _ _ _, fun h => ?_, HK4⟩
        · rw [← HLL.out.1, HE.out]; exact HR4
        · rw [← HLL.out.2 h, HE.out]
    · have HE : Hid (Y = (S2, acc)) := loop_end HG.out (by omega)
      go_wp2_with fail
      go_ret2
      refine ⟨_, acc, rfl, ?_, HO2, fun h => ?_, HK2⟩
      · rw [← HLL.out.1, HE.out]; exact HR2
      · rw [← HLL.out.2 h, HE.out]
end Go.Proofs.Ytcecdklgiocbaaa
