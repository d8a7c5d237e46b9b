/-
  The reader's method values, with names.
-/
import Derived.Test.YtcecdklgiocbaaaRd4
namespace Go.Proofs.Ytcecdklgiocbaaa
open Go.RowKit
set_option maxRecDepth 100000
set_option linter.unusedVariables false
set_option linter.unusedSimpArgs false

set_option maxHeartbeats 4000000 in
theorem rvaluesN {w : World} {p : Nat} {S : BE} (h : Rd w p S) :
    Calls Try.prog 81 #[.pointer (some ⟨p, 0, none⟩), .bool true] w fun e w' => ∃ v nm L, e = .returned (.tuple #[v, nm]) ∧ Hid (Rd w' p (stepR (listR (keyR valueR)) S)) ∧ Hid (OwnG 28 2 GV w' (fun k => w.heap.size ≤ k) v (L.map (·.2)) ∧ OwnG 9 1 GS w' (fun k => w.heap.size ≤ k) nm (L.map (·.1))) ∧ Hid ((stepR (listR (keyR valueR)) S).2 = 0 → L = (listR (keyR valueR) S.1).val) ∧ Hid (Kept (fun k => k = p) w w') := by
  have H : Hid (Rd w p S) := h
  have hpw := h.lt
  clear h
  go_enter Try.func81, Try.ntmps81
  go_wp2_with fail
  refine (rnumber H.out 2 (by omega) (by omega) _ rfl).mono ?_
  rintro e w1 ⟨x, rfl, HR1, _, HT, HK1⟩
  obtain ⟨n, rfl, hn⟩ := num2 H.out.rng HT.out
  obtain ⟨Y, hY⟩ : ∃ Y, Y = loopR (keyR valueR) n (stepR (numR 2) S) [] := ⟨_, rfl⟩
  have hLL := loop_list (keyR valueR) S H.out.nrm n HT.out
  rw [Int.toNat_natCast, ← hY] at hLL
  have HY : Hid (loopR (keyR valueR) n (stepR (numR 2) S) [] = Y) := hY.symm
  have HLL : Hid (Y.1 = stepR (listR (keyR valueR)) S ∧ ((stepR (listR (keyR valueR)) S).2 = 0 → Y.2 = (listR (keyR valueR) S.1).val)) := hLL
  clear hY hLL
  go_wp2_with fail
  go_loopw [6, 7, 10] (fun v nm i wr => ∃ (k : Nat) (S' : BE) (acc : List (ByteArray × Vl)) (va : List Vl) (na : List ByteArray), k ≤ n ∧ i = .int .u64 k ∧ Hid (Rd wr p S') ∧ Hid (OwnG 28 2 GV wr (fun k => w.heap.size ≤ k ∧ nm.ownBlock ≠ some k) v va) ∧ Hid (OwnG 9 1 GS wr (fun k => w.heap.size ≤ k) nm na) ∧ va.length = k ∧ na.length = k ∧ Hid (va = acc.map (·.2) ∧ na = acc.map (·.1)) ∧ Hid (loopR (keyR valueR) (n - k) S' acc = Y) ∧ Hid (Kept (fun k => k = p) w wr)) (fun _ _ i _ => n - (intOf i).toNat)
  case atStart => exact ⟨0, _, [], [], [], by omega, rfl, HR1, ownG_nil _ _ _ _ _, ownG_nil _ _ _ _ _, rfl, rfl, ⟨rfl, rfl⟩, HY.out, HK1⟩
  case round =>
    obtain ⟨k, S2, acc, va, na, hk, rfl, HR2, HO2, HN2, hva, hna, HAC, HG, HK2⟩ := hrel
    by_cases hlt : k < n
    · go_wp2_with fail
      refine (read_text HR2.out).mono ?_
      rintro e w3 ⟨t, rfl, HR3, HV3, HK3⟩
      have hsz : w.heap.size ≤ wr.heap.size := HK2.out.size
      have hsz3 : wr.heap.size ≤ w3.heap.size := HK3.out.size
      have HN3 : Hid (OwnG 9 1 GS (w3.alloc (.cells #[.string t] 9)) (fun k => w.heap.size ≤ k) u7 na) :=
        (HN2.out.kept stays_gs (fun k hk hf => HK3.out.block k hk (fun e => by omega)) hsz3 (fun _ _ hf => hf)).old stays_gs (below_one _ _)
      have HO3 : Hid (OwnG 28 2 GV (w3.alloc (.cells #[.string t] 9)) (fun k => w.heap.size ≤ k ∧ u7.ownBlock ≠ some k) u6 va) :=
        (HO2.out.kept stays_gv (fun k hk hf => HK3.out.block k hk (fun e => by omega)) hsz3 (fun _ _ hf => hf)).old stays_gv (below_one _ _)
      have HBN : Hid ((w3.alloc (.cells #[.string t] 9)).heap[w3.heap.size]? = some (.cells [Value.string t].toArray 9 (0, 0))) := heap_alloc_new w3 _
      have HXN : Hid (GS (fun k => k < (w3.alloc (.cells #[.string t] 9)).heap.size ∧ u7.ownBlock ≠ some k ∧ w.heap.size ≤ k) (w3.alloc (.cells #[.string t] 9)) t (fun j => ([Value.string t] : List Value).getD j default)) := rfl
      have HFN : Hid ((fun k => w.heap.size ≤ k) (w3.alloc (.cells #[.string t] 9)).heap.size) := by show _ ≤ _; simp; omega
      have HR3A : Hid (Rd (w3.alloc (.cells #[.string t] 9)) p (stepR textR S2)) := HR3.out.new (below_one _ _)
      go_wp2_with (at_builtin; refine wpList_appendG rfl (.tmp 13) (.tmp 16) 26 rfl stays_gs elem_s rfl HN3.out rfl HBN.out rfl ?c1 t HXN.out HFN.out ?c2 ?c3 ?_)
      case c1 => intro u hu; simp at hu; subst hu; rfl
      case c2 => unfold maxLen; omega
      case c3 => omega
      intro n4 w4 hn4 hK4 hv4
      have HN4 : Hid (OwnG 9 1 GS w4 (fun k => w.heap.size ≤ k) n4 (na ++ [t])) := hn4
      have HR4 : Hid (Rd w4 p (stepR textR S2)) := HR3A.out.kept hK4 (fun j hj e => by have := (HN2.out.lt _ e).1; omega)
      have hsz4 : (w3.alloc (.cells #[.string t] 9)).heap.size ≤ w4.heap.size := hK4.size
      simp only [World.size_alloc] at hsz4
      have HO4 : Hid (OwnG 28 2 GV w4 (fun k => w.heap.size ≤ k ∧ n4.ownBlock ≠ some k) u6 va) := by
        refine HO3.out.kept stays_gv (fun k hk hf => hK4.block k hk (fun e => hf.2 e)) hK4.size (fun k hk hf => ⟨hf.1, ?_⟩)
        rcases hv4 with e | e
        · rw [e]; exact hf.2
        · rw [e]; intro e2; rw [Option.some.injEq] at e2; simp only [World.size_alloc] at hk; omega
      have HK4 : Hid (Kept (fun k => k = p) w w4) := ((HK2.out.trans HK3.out (fun i hi e => e)).trans (kept_of (S := fun _ => False) (below_one w3 (.cells #[.string t] 9))) (fun _ _ e => e.elim)).trans hK4 (fun i hi e => by have := (HN2.out.lt _ e).1; omega)
      clear hn4 hK4 hv4
      go_wp2_with fail
      refine (read_value HR4.out).mono ?_
      rintro e w5 ⟨V, xa, xl, xc, rfl, HR5, HI5, hF5, HV5, HK5⟩
      have hsz5 : w4.heap.size ≤ w5.heap.size := HK5.out.size
      have HO5 : Hid (OwnG 28 2 GV (w5.alloc (.cells #[.int .i64 V.1, .slice xa xl xc] 28)) (fun k => w.heap.size ≤ k ∧ n4.ownBlock ≠ some k) u6 va) :=
        (HO4.out.kept stays_gv (fun k hk hf => HK5.out.block k hk (fun e => by omega)) hsz5 (fun _ _ hf => hf)).old stays_gv (below_one _ _)
      have HN5 : Hid (OwnG 9 1 GS (w5.alloc (.cells #[.int .i64 V.1, .slice xa xl xc] 28)) (fun k => w.heap.size ≤ k) n4 (na ++ [t])) :=
        (HN4.out.kept stays_gs (fun k hk hf => HK5.out.block k hk (fun e => by omega)) hsz5 (fun _ _ hf => hf)).old stays_gs (below_one _ _)
      have HBN5 : Hid ((w5.alloc (.cells #[.int .i64 V.1, .slice xa xl xc] 28)).heap[w5.heap.size]? = some (.cells [Value.int .i64 V.1, Value.slice xa xl xc].toArray 28 (0, 0))) := heap_alloc_new w5 _
      have HXN5 : Hid (GV (fun k => k < (w5.alloc (.cells #[.int .i64 V.1, .slice xa xl xc] 28)).heap.size ∧ u6.ownBlock ≠ some k ∧ w.heap.size ≤ k ∧ n4.ownBlock ≠ some k) (w5.alloc (.cells #[.int .i64 V.1, .slice xa xl xc] 28)) V (fun j => ([Value.int .i64 V.1, Value.slice xa xl xc] : List Value).getD j default)) :=
        gv_new (HI5.out.old (below_one _ _)) (fun q hq => by
          have h1 := hF5 q hq
          refine ⟨⟨by simp; omega, fun e => ?_, by omega, fun e => ?_⟩, by simp; omega⟩
          · have := (HO4.out.lt _ e).2
            omega
          · have := (HN4.out.lt _ e).2
            omega)
      have HFN5 : Hid ((fun k => w.heap.size ≤ k ∧ n4.ownBlock ≠ some k) (w5.alloc (.cells #[.int .i64 V.1, .slice xa xl xc] 28)).heap.size) := by
        refine ⟨by simp; omega, fun e => ?_⟩
        have := (HN5.out.lt _ e).2
        omega
      have HR5A : Hid (Rd (w5.alloc (.cells #[.int .i64 V.1, .slice xa xl xc] 28)) p (stepR valueR (stepR textR S2))) := HR5.out.new (below_one _ _)
      go_wp2_with (at_builtin; refine wpList_appendG rfl (.tmp 18) (.tmp 21) 25 rfl stays_gv elem_v rfl HO5.out rfl HBN5.out rfl ?c1 V HXN5.out HFN5.out ?c2 ?c3 ?_)
      case c1 => intro u hu; simp at hu; rcases hu with rfl | rfl <;> rfl
      case c2 => unfold maxLen; omega
      case c3 => omega
      intro v6 w6 ho6 hK6 hv6
      have HO6 : Hid (OwnG 28 2 GV w6 (fun k => w.heap.size ≤ k ∧ n4.ownBlock ≠ some k) v6 (va ++ [V])) := ho6
      have HN6 : Hid (OwnG 9 1 GS w6 (fun k => w.heap.size ≤ k) n4 (na ++ [t])) :=
        HN5.out.row.kept stays_gs (fun k hk hf => hK6.block k hk (fun e => (HO5.out.lt _ e).1.2 hf)) hK6.size (fun k hk hf => (HN5.out.lt _ hf).1)
      have hR6 : Rd w6 p (stepR valueR (stepR textR S2)) := HR5A.out.kept hK6 (fun j hj e => by have := (HO4.out.lt _ e).1.1; omega)
      rw [← step_key] at hR6
      have HR6 : Hid (Rd w6 p (stepR (keyR valueR) S2)) := hR6
      have HK6 : Hid (Kept (fun k => k = p) w w6) := ((HK4.out.trans HK5.out (fun i hi e => e)).trans (kept_of (S := fun _ => False) (below_one w5 (.cells #[.int .i64 V.1, .slice xa xl xc] 28))) (fun _ _ e => e.elim)).trans hK6 (fun i hi e => by have := (HO4.out.lt _ e).1.1; omega)
      obtain ⟨r, lr, cr, hb, _⟩ := hR6.blk
      obtain ⟨z0, z1, _, _⟩ := two_cells hb
      have hplt := block_lt hb
      clear ho6 hK6 hv6 hR6 hb
      by_cases he : (stepR (keyR valueR) S2).2 = 0
      · have HST : Hid (loopR (keyR valueR) (n - (k + 1)) (stepR (keyR valueR) S2) (acc ++ [(t, V)]) = Y) := by
          have h1 := he
          rw [step_key] at h1
          have h2 : (t, V) = (keyR valueR S2.1).val := by rw [key_val _ _ he, ← HV3.out (step_ok h1).1, ← HV5.out h1]
          rw [h2]
          exact loop_step HG.out hlt he
        have HAC2 : Hid (va ++ [V] = (acc ++ [(t, V)]).map (·.2) ∧ na ++ [t] = (acc ++ [(t, V)]).map (·.1)) := by
          refine ⟨?_, ?_⟩
          · rw [List.map_append, ← HAC.out.1]; rfl
          · rw [List.map_append, ← HAC.out.2]; rfl
        rw [he] at z1
        clear he
        go_wp2_with fail
        go_roundw
        case rel => exact ⟨k + 1, _, acc ++ [(t, V)], va ++ [V], na ++ [t], by omega, by go_num, HR6, HO6, HN6, by simp [hva], by simp [hna], HAC2, HST, HK6⟩
        case measure => simp [intOf]; omega
      · have t : ((stepR (keyR valueR) S2).2 == 0) = false := by simpa using he
        have HE : Hid (Y = (stepR (keyR valueR) S2, [])) := loop_stop HG.out hlt he
        clear he
        go_wp2_with fail
        go_ret2
        refine ⟨_, _, [], rfl, ?_, ⟨ownG_nil _ _ _ _ _, ownG_nil _ _ _ _ _⟩, fun h => ?_, HK6⟩
        · rw [← HLL.out.1, HE.out]; exact HR6
        · rw [← HLL.out.2 h, HE.out]
    · have HE : Hid (Y = (S2, acc)) := loop_end HG.out (by omega)
      go_wp2_with fail
      go_ret2
      refine ⟨_, _, acc, rfl, ?_, ?_, fun h => ?_, HK2⟩
      · rw [← HLL.out.1, HE.out]; exact HR2
      · rw [← HAC.out.1, ← HAC.out.2]
        exact ⟨HO2.out.kept stays_gv (fun _ _ _ => rfl) (Nat.le_refl _) (fun _ _ hf => hf.1), HN2.out⟩
      · rw [← HLL.out.2 h, HE.out]
end Go.Proofs.Ytcecdklgiocbaaa
